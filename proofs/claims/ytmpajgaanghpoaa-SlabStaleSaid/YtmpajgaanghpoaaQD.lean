/-
 The program's Add: contract.
-/
import Derived.Test.YtmpajgaanghpoaaQH
namespace Go.Proofs.Ytmpajgaanghpoaa
attribute [local irreducible] wpList wpQuiet
open Go.RowKit
set_option maxRecDepth 100000
set_option linter.unusedSimpArgs false
set_option linter.unusedVariables false

theorem ButS.but {B q : Nat} {S : Nat → Prop} {w w1 w2 : World} (h : ButS B S w w1) (hb : But q w1 w2) (hq : w.heap.size ≤ q) (hB : B ≤ q) : ButS B S w w2 :=
 ⟨h.1.trans (hb.1.mono hB), fun k hk hn => (hb.2 k (Nat.lt_of_lt_of_le hk h.1.size) (by omega)).trans (h.2 k hk hn)⟩
theorem siz_add {m : Sm} {u : Nat} (h : Wm m u) (e : En) (hO : addO m = true) : sizL (addS m e).P = sizL m.P + e.raw.length := by
 rcases add_cases m with h0 | ⟨h0, ⟨F, i, hF⟩ | hF⟩
 ·rw [(add_full e h0).2.2] at hO; cases hO
 ·rw [(add_free e h0 hF).1]
  have hi := h.fr i (by rw [hF]; simp)
  have hc := siz_set m.P i ⟨true, (m.P.getD i zPn).us + 1, e⟩ hi.1
  rw [hi.2] at hc
  simpa only [pb, Bool.false_eq_true, if_false, if_true, Nat.add_zero] using hc
 ·rw [(add_new e h0 hF).1]
  show sizL (m.P ++ _) = _
  rw [siz_app]; simp [sizL]
theorem cnt_512 {m : Sm} {u : Nat} (h : Wm m u) : cntL m.P ≤ 512 := Nat.le_trans h.len h.mo
theorem siz_max {m : Sm} {u : Nat} (h : Wm m u) : sizL m.P ≤ 40000000 := by
 have h1 := siz_le m.P 60000 fun p hp => by
  obtain ⟨i, hi, rfl⟩ := List.mem_iff_getElem.1 hp
  have := h.raw i hi
  rwa [getD_lt _ _ _ hi] at this
 have h2 := h.pl
 have := Nat.mul_le_mul_right 60000 h2
 omega
/-- While an entry is added: the store as it is now, the entry's box, the result's box. -/
structure AdS (B g g3 g4 : Nat) (a0 : Option Addr) (T0 : List Sn) (w : World) (e : En) (d : Ad) (a : Option Addr) (c : Nat) (T : List Sn) (mo fr ln bt : Int) (V : World) : Prop where
 gm : Gm B g a0 T0 w a c T mo fr ln bt V
 b3 : Bx V g3 (enA e d) 44
 b4 : Bx V g4 #[.int .i64 0, .int .i64 0] 33
 en : EnI V e d
 n3 : ¬ Sp g a T g3
 n4 : ¬ Sp g a T g4
 ne : ∀ k, EB e d k → ¬ Sp g a T k
section
variable {B g g3 g4 : Nat} {a0 : Option Addr} {T0 : List Sn} {w : World} {e : En} {d : Ad} {a a1 : Option Addr} {c c1 : Nat} {T T1 : List Sn} {mo fr ln bt mo1 fr1 ln1 bt1 : Int} {V V1 : World}
theorem AdS.step (h : AdS B g g3 g4 a0 T0 w e d a c T mo fr ln bt V) (k : Gm B g a T V a1 c1 T1 mo1 fr1 ln1 bt1 V1) : AdS B g g3 g4 a0 T0 w e d a1 c1 T1 mo1 fr1 ln1 bt1 V1 :=
 have key : ∀ q, q < V.heap.size → ¬ Sp g a T q → ¬ Sp g a1 T1 q := fun q hq hn h2 => (k.sub q h2).elim hn (by omega)
 ⟨h.gm.trans k, h.b3.buts k.but h.n3, h.b4.buts k.but h.n4, h.en.buts k.but h.ne, key _ h.b3.lt h.n3, key _ h.b4.lt h.n4, fun q hq => key q (h.en.lt q hq) (h.ne q hq)⟩
theorem AdS.below (h : AdS B g g3 g4 a0 T0 w e d a c T mo fr ln bt V) (hw : B ≤ w.heap.size) (hb : Below V.heap.size V V1) : AdS B g g3 g4 a0 T0 w e d a c T mo fr ln bt V1 := h.step (Gm.below h.gm.mem hb (h.gm.but.1.size |> Nat.le_trans hw))
end
theorem en_full_store (e e2 : En) (d d2 : Ad) (f : Bool) (us nx : Int) : (sll ⟨e, d, f, us, nx⟩).take 0 ++ enl e2 d2 ++ (sll ⟨e, d, f, us, nx⟩).drop (0 + (enl e2 d2).length) = sll ⟨e2, d2, f, us, nx⟩ := by kernel_rfl
theorem fl_full_store (e : En) (d : Ad) (f b : Bool) (us nx : Int) : (sll ⟨e, d, f, us, nx⟩).take 41 ++ [.bool b] ++ (sll ⟨e, d, f, us, nx⟩).drop (41 + [Value.bool b].length) = sll ⟨e, d, b, us, nx⟩ := by kernel_rfl
set_option maxRecDepth 100000 in
set_option maxHeartbeats 8000000 in
theorem add_no {w : World} {g : Nat} {mo fr ln bt : Int} {a : Option Addr} {n c : Nat} {e : En} {d : Ad} (hX : Bx w g (hdp mo fr ln bt a n c) 71) (hl : ln = mo) : Calls Try.prog 23 #[.pointer (some ⟨g, 0, none⟩), .agg (enA e d)] w fun r w' => r = .returned (.tuple #[.agg #[.int .i64 0, .int .i64 0], .bool false]) ∧ Below w.heap.size w w' := by
 go_enter Try.func23, Try.ntmps23
 go_upto_region 1 with fail
 change Code.wp _ _ _ _ ((w.alloc (.cells (enA e d) 44)).alloc (.cells #[.int .i64 0, .int .i64 0] 33))
 have hb0 : Below w.heap.size w ((w.alloc (.cells (enA e d) 44)).alloc (.cells #[.int .i64 0, .int .i64 0] 33)) := ((Below.refl _ w).alloc (Nat.le_refl _) _).alloc (by simp) _
 have hX3 : Bx ((w.alloc (.cells (enA e d) 44)).alloc (.cells #[.int .i64 0, .int .i64 0] 33)) w.heap.size (enA e d) 44 := Bx.below (heap_alloc_last w _) (by simp) ((Below.refl _ _).alloc (Nat.le_refl _) _)
 have hX4 : Bx ((w.alloc (.cells (enA e d) 44)).alloc (.cells #[.int .i64 0, .int .i64 0] 33)) (w.heap.size + 1) #[.int .i64 0, .int .i64 0] 33 := by
  have := heap_alloc_last (w.alloc (.cells (enA e d) 44)) (.cells #[.int .i64 0, .int .i64 0] 33)
  rwa [show (w.alloc (.cells (enA e d) 44)).heap.size = w.heap.size + 1 by simp] at this
 generalize (w.alloc (.cells (enA e d) 44)).alloc (.cells #[.int .i64 0, .int .i64 0] 33) = W at *
 obtain ⟨g3, hg3⟩ : ∃ g, w.heap.size = g := ⟨_, rfl⟩
 obtain ⟨g4, hg4⟩ : ∃ g, g3 + 1 = g := ⟨_, rfl⟩
 rw [show w.heap.size + 1 = g4 by omega] at hX4
 have HG : Hid (w.heap.size ≤ g3 ∧ w.heap.size ≤ g4) := Lib.hid ⟨by omega, by omega⟩
 rw [hg3] at hX3
 simp only [hg3]
 simp only [hg4]
 have hXW := hX.below hX.lt hb0
 have HB := Lib.hid hb0
 clear hb0 hg3 hg4 hX hX3
 go_upto_region 1 with fail
 refine wp_region_class (C := fun U => Below W.heap.size W U) (by kernel_rfl) (by kernel_rfl) ((Below.refl _ W).drew) ?_
 refine gy (.pointer (some ⟨g, 0, none⟩)) <| gy (.bool false) <| gy (.bool false) <| gy (.pointer (some ⟨g, 0, none⟩)) <| gy (.pointer (some ⟨g, 0, none⟩)) <| gy (.pointer (some ⟨g, 3, none⟩)) <|
   gyl rfl ⟨g, 3, none⟩ (.int .i64 ln) (fun U hU => (hXW.below hXW.lt hU).load (i := 3) rfl (by kernel_rfl)) <| gy (.pointer (some ⟨g, 0, none⟩)) <| gy (.pointer (some ⟨g, 0, none⟩)) <| gy (.pointer (some ⟨g, 0, none⟩)) <|
   gyl rfl ⟨g, 0, none⟩ (.int .i64 mo) (fun U hU => (hXW.below hXW.lt hU).load (i := 0) rfl (by kernel_rfl)) <| gyv (.bool true) (fun U hU => eql_n rfl (ln) (mo) (decide_eq_true (hl)) (by kernel_rfl) (by kernel_rfl) U) <| gy (.bool true) ?_
 simp only [pu]
 apply wpQuiet_nil
 intro V hV
 have hX4V := hX4.below hX4.lt hV
 obtain ⟨V2, hst, hY, hbt⟩ := st_all (cs' := #[.int .i64 0, .int .i64 0]) (ty := 33) hX4V rfl (by simp [Value.oneCell']) (by kernel_rfl)
 have HE := Lib.hid ((HB.out.trans (hV.mono HB.out.size)).trans (hbt.1.mono HG.out.2))
 clear hV hbt hX4 hX4V hXW
 go_upto_region 2 with fail
 refine wl <| gz1 (.agg #[.int .i64 0, .int .i64 0]) <| gzs rfl (hst) <| gz1 (.bool false) <| wn ?_
 simp only [pu]
 go_wp2_with fail
 exact bodyPost_ret (results_c rfl (by kernel_rfl) (load_hn (x := (0, 0)) (bx_range (cs := hnl (0, 0)) hY)) (by kernel_rfl)) rfl ⟨rfl, HE.out⟩
set_option maxRecDepth 100000 in
set_option maxHeartbeats 8000000 in
theorem add_yes {w : World} {B g : Nat} {mo fr ln bt : Int} {a : Option Addr} {c : Nat} {T : List Sn} {e : En} {d : Ad} {m : Sm} {u : Nat} (h : Mp w g a c T mo fr ln bt) (hl : Lk m T fr) (hm : Wm m u) (hc : cntL m.P < m.mo) (hne : ln ≠ mo) (hln : 0 ≤ ln ∧ ln ≤ 512) (hbt : 0 ≤ bt ∧ bt ≤ 40000000) (he : EnI w e d) (hE : EnB e) (ho : ∀ k, EB e d k → ¬ Sp g a T k) (hB : ∀ k, Sp g a T k → B ≤ k) (hw : B ≤ w.heap.size) : Calls Try.prog 23 #[.pointer (some ⟨g, 0, none⟩), .agg (enA e d)] w fun r w' => ∃ (T1 : List Sn) (fr1 : Int) (a1 : Option Addr) (c1 : Nat), r = .returned (.tuple #[.agg #[.int .i64 (addH m).1, .int .i64 (addH m).2], .bool true]) ∧ Lk (addS m e) T1 fr1 ∧ Gm B g a T w a1 c1 T1 mo fr1 (ln + 1) (bt + e.raw.length) w' := by
 go_enter Try.func23, Try.ntmps23
 go_upto_region 1 with fail
 change Code.wp _ _ _ _ ((w.alloc (.cells (enA e d) 44)).alloc (.cells #[.int .i64 0, .int .i64 0] 33))
 have hb0 : Below w.heap.size w ((w.alloc (.cells (enA e d) 44)).alloc (.cells #[.int .i64 0, .int .i64 0] 33)) := ((Below.refl _ w).alloc (Nat.le_refl _) _).alloc (by simp) _
 have hX3 : Bx ((w.alloc (.cells (enA e d) 44)).alloc (.cells #[.int .i64 0, .int .i64 0] 33)) w.heap.size (enA e d) 44 := Bx.below (heap_alloc_last w _) (by simp) ((Below.refl _ _).alloc (Nat.le_refl _) _)
 have hX4 : Bx ((w.alloc (.cells (enA e d) 44)).alloc (.cells #[.int .i64 0, .int .i64 0] 33)) (w.heap.size + 1) #[.int .i64 0, .int .i64 0] 33 := by
  have := heap_alloc_last (w.alloc (.cells (enA e d) 44)) (.cells #[.int .i64 0, .int .i64 0] 33)
  rwa [show (w.alloc (.cells (enA e d) 44)).heap.size = w.heap.size + 1 by simp] at this
 generalize (w.alloc (.cells (enA e d) 44)).alloc (.cells #[.int .i64 0, .int .i64 0] 33) = W at *
 obtain ⟨g3, hg3⟩ : ∃ g, w.heap.size = g := ⟨_, rfl⟩
 obtain ⟨g4, hg4⟩ : ∃ g, g3 + 1 = g := ⟨_, rfl⟩
 rw [show w.heap.size + 1 = g4 by omega] at hX4
 have HG : Hid (w.heap.size ≤ g3 ∧ w.heap.size ≤ g4) := Lib.hid ⟨by omega, by omega⟩
 rw [hg3] at hX3
 simp only [hg3]
 simp only [hg4]
 have hg0 := h.bx.lt
 have hn3 : ¬ Sp g a T g3 := fun q => by have := h.inn _ q; have := HG.out; omega
 have hn4 : ¬ Sp g a T g4 := fun q => by have := h.inn _ q; have := HG.out; omega
 have hA0 : AdS B g g3 g4 a T w e d a c T mo fr ln bt W := ⟨Gm.below h hb0 hw, hX3, hX4, he.below hb0, hn3, hn4, ho⟩
 have hXW := hA0.gm.mem.bx
 have HW := Lib.hid hw
 have HBB := Lib.hid hB
 have HLK := Lib.hid hl
 have HWM := Lib.hid hm
 have HCC := Lib.hid hc
 have HEB := Lib.hid hE
 have HNB : Hid (0 ≤ ln ∧ ln ≤ 512 ∧ 0 ≤ bt ∧ bt ≤ 40000000 ∧ e.raw.length ≤ 60000) := Lib.hid ⟨hln.1, hln.2, hbt.1, hbt.2, hE.1⟩
 have HA0 := Lib.hid hA0
 obtain ⟨n, hn⟩ : ∃ n, T.length = n := ⟨_, rfl⟩
 rw [hn] at hXW
 clear hb0 hg3 hg4 hX3 hX4 h hl hm hc he hE ho hB hw hn3 hn4 hA0 hn hln hbt hg0
 go_upto_region 1 with fail
 refine wp_region_class (C := fun U => Below W.heap.size W U) (by kernel_rfl) (by kernel_rfl) ((Below.refl _ W).drew) ?_
 refine gy (.pointer (some ⟨g, 0, none⟩)) <| gy (.bool false) <| gy (.bool false) <| gy (.pointer (some ⟨g, 0, none⟩)) <| gy (.pointer (some ⟨g, 0, none⟩)) <| gy (.pointer (some ⟨g, 3, none⟩)) <|
   gyl rfl ⟨g, 3, none⟩ (.int .i64 ln) (fun U hU => (hXW.below hXW.lt hU).load (i := 3) rfl (by kernel_rfl)) <| gy (.pointer (some ⟨g, 0, none⟩)) <| gy (.pointer (some ⟨g, 0, none⟩)) <| gy (.pointer (some ⟨g, 0, none⟩)) <|
   gyl rfl ⟨g, 0, none⟩ (.int .i64 mo) (fun U hU => (hXW.below hXW.lt hU).load (i := 0) rfl (by kernel_rfl)) <| gyv (.bool false) (fun U hU => eql_n rfl (ln) (mo) (decide_eq_false (hne)) (by kernel_rfl) (by kernel_rfl) U) <| gy (.bool false) ?_
 simp only [pu]
 apply wpQuiet_nil
 intro V hV
 have hA1 := HA0.out.below HW.out hV
 have CT := q_take hA1.gm.mem HLK.out HWM.out HCC.out HBB.out (Nat.le_trans HW.out hA1.gm.but.1.size) e
 have HA1 := Lib.hid hA1
 clear hXW hV HA0 hA1 hne
 go_upto_region 3 with fail
 refine wl <| gz1 (.pointer (some ⟨g, 0, none⟩)) <|
  gze (fun v w' => ∃ (i : Nat) (T1 : List Sn) (fr1 : Int) (a1 : Option Addr) (c1 : Nat), v = .int .i64 i ∧ TkO m e T1 fr1 i ∧ Gm B g a T V a1 c1 T1 mo fr1 ln bt w') (CT.mono fun r w' q => by obtain ⟨i, T1, fr1, a1, c1, q1, q2⟩ := q; exact ⟨_, q1, i, T1, fr1, a1, c1, rfl, q2⟩) (fun vv V2 hq => ?_)
 obtain ⟨i, T1, fr1, a1, c1, rfl, hTk, hGm⟩ := hq
 simp only [pu]
 refine gz1 (.int .i64 i) <| wn ?_
 simp only [pu]
 have hA2 := HA1.out.step hGm
 have hil := hTk.il
 obtain ⟨b, hab, hrg⟩ := hA2.gm.mem.rg hil
 have HTK := Lib.hid hTk
 obtain ⟨s9, hs9⟩ : ∃ s, T1.getD i zSn = s := ⟨_, rfl⟩
 have HS9 := Lib.hid hs9
 rw [hs9] at hrg
 obtain ⟨n1, hn1⟩ : ∃ n, T1.length = n := ⟨_, rfl⟩
 have HN1 := Lib.hid hn1
 have hX2 := hA2.gm.mem.bx
 rw [hn1, hab] at hX2
 have hin : i < n1 := by omega
 have HA2 := Lib.hid hA2
 have HAB := Lib.hid hab
 clear hGm CT HA1 hTk hs9 hn1 hA2 hil hab
 go_upto_region 4 with fail
 refine wl <| gz3 (.pointer (some ⟨g, 0, none⟩)) (.pointer (some ⟨g, 0, none⟩)) (.pointer (some ⟨g, 1, none⟩)) <| gzl rfl ⟨g, 1, none⟩ (.slice (some ⟨b, 0, none⟩) n1 c1) (hX2.load (i := 1) rfl (by kernel_rfl)) <| gz1 (.int .i64 i) <|
  gzv (.pointer (some ⟨b, 0 + i * 44, none⟩)) (idx_sl b 0 n1 c1 i hin _ _ _ rfl (by kernel_rfl) (by kernel_rfl)) <| gz1 (.pointer (some ⟨b, 0 + i * 44, none⟩)) <| wn ?_
 simp only [pu]
 have CA := q_apart e d V2 HA2.out.en HEB.out
 have hB2 := Gm.base HA2.out.gm HBB.out HW.out
 have hw2 := Nat.le_trans HW.out HA2.out.gm.but.1.size
 go_upto_region 5 with fail
 refine wl <| gz2 (.pointer (some ⟨b, 0 + i * 44, none⟩)) (.pointer (some ⟨b, 0 + i * 44, none⟩)) <| gzl rfl ⟨g3, 0, none⟩ (.agg (enA e d)) (load_en (bx_range HA2.out.b3)) <|
  gze (fun v w' => ∃ d', v = .agg (enA e d') ∧ EnW w' V2.heap.size e d' ∧ Below V2.heap.size V2 w') (CA.mono fun r w' q => by obtain ⟨d', q1, q2⟩ := q; exact ⟨_, q1, d', rfl, q2⟩) (fun vv V3 hq => ?_)
 obtain ⟨d2, rfl, hEW, hb3⟩ := hq
 have hM3 := HA2.out.gm.mem.below hb3
 have hil : i < T1.length := HTK.out.il
 have hst3 := st_slA hM3 HAB.out hil (o := 0) (ty := 44) (enA e d2) (by show 0 + 41 ≤ 44; decide) (by kernel_rfl) (enA_one e d2) (q := 0 + i * 44) (by omega)
 have hG3 := Gm.el HA2.out.gm.mem hB2 hw2 hb3 HAB.out hil (o := 0) (y := ⟨e, d2, s9.full, s9.us, s9.nx⟩) (vs := enl e d2) (by show 0 + 41 ≤ 44; decide) (by rw [HS9.out]; exact en_full_store _ _ _ _ _ _ _) hEW.i (fun k hk => .inr (hEW.ge k hk))
 have hA3 := HA2.out.step hG3
 have hil3 : i < (T1.set i ⟨e, d2, s9.full, s9.us, s9.nx⟩).length := by rw [List.length_set]; exact hil
 have hst4 := st_sl1 hA3.gm.mem HAB.out hil3 (o := 41) (ty := 4) (.bool true) (by decide) (by kernel_rfl) rfl (q := 0 + i * 44 + 41) (by omega)
 have hG4 := Gm.el hA3.gm.mem (Gm.base hA3.gm HBB.out HW.out) (Nat.le_trans HW.out hA3.gm.but.1.size) (Below.refl _ _) HAB.out hil3 (o := 41) (y := ⟨e, d2, true, s9.us, s9.nx⟩) (vs := [.bool true]) (by show 41 + 1 ≤ 44; decide) (by rw [getD_set_eq _ _ _ _ hil]; exact fl_full_store _ _ _ _ _ _) (by have := hA3.gm.mem.en i hil3; rw [getD_set_eq _ _ _ _ hil] at this; exact this) (fun k hk => .inl (by rw [getD_set_eq _ _ _ _ hil]; exact hk))
 rw [List.set_set] at hG4
 have hA4 := hA3.step hG4
 change (Instr.storeAt 44 _ _).run _ _ = .ok () (V3.setCells b (i * 44 + 0) (enl e d2)) at hst3
 generalize V3.setCells b (i * 44 + 0) (enl e d2) = V4 at *
 generalize V4.setCells b (i * 44 + 41) [.bool true] = V5 at *
 clear hG3 hG4 hA3 hEW hb3 hM3 CA
 simp only [pu]
 refine gz2 (.pointer (some ⟨b, 0 + i * 44, none⟩)) (.pointer (some ⟨b, 0 + i * 44, none⟩)) <| gzs rfl (hst3) <| gz2 (.pointer (some ⟨b, 0 + i * 44, none⟩)) (.pointer (some ⟨b, 0 + i * 44 + 41, none⟩)) <| gzs rfl (hst4) <| wn ?_
 simp only [pu]
 clear hst3 hst4 hrg hX2
 have HA4 := Lib.hid hA4
 have hX5 := hA4.gm.mem.bx
 have hn5 : (T1.set i ⟨e, d2, true, s9.us, s9.nx⟩).length = n1 := by rw [List.length_set]; exact HN1.out
 rw [hn5, HAB.out] at hX5
 have HN5 := Lib.hid hn5
 obtain ⟨V6, hst6, hG6⟩ := Gm.num hA4.gm.mem (Gm.base hA4.gm HBB.out HW.out) 3 (ln + 1) fr1 (ln + 1) bt (by decide) rfl
 have hA6 := hA4.step hG6
 have HA6 := Lib.hid hA6
 have hX6 := hA6.gm.mem.bx
 rw [hn5, HAB.out] at hX6
 clear hG6 HA4 hA4 hn5 HA2 hB2 hw2
 go_upto_region 6 with fail
 refine wl <| gz3 (.pointer (some ⟨g, 0, none⟩)) (.pointer (some ⟨g, 0, none⟩)) (.pointer (some ⟨g, 3, none⟩)) <| gzl rfl ⟨g, 3, none⟩ (.int .i64 ln) (hX5.load (i := 3) rfl (by kernel_rfl)) <|
  gzw (.int .i64 (ln + 1)) (add_i rfl ln 1 (by have := HNB.out; omega)) <| gz2 (.pointer (some ⟨g, 0, none⟩)) (.pointer (some ⟨g, 3, none⟩)) <| gzs rfl (hst6) <| wn ?_
 simp only [pu]
 clear hst6 hX5
 have hX3 := hA6.b3
 clear hA6
 go_upto_region 7 with fail
 refine wp_region_class_tail (C := fun U => Below V6.heap.size V6 U) 10 (by kernel_rfl) (by kernel_rfl) ((Below.refl _ V6).drew) ?_
 simp only [List.take_succ_cons, List.take_zero, List.drop_succ_cons, List.drop_zero]
 refine gy (.pointer (some ⟨g, 0, none⟩)) <| gy (.pointer (some ⟨g, 0, none⟩)) <| gy (.pointer (some ⟨g, 4, none⟩)) <| gyl rfl ⟨g, 4, none⟩ (.int .i64 bt) (fun U hU => (hX6.below hX6.lt hU).load (i := 4) rfl (by kernel_rfl)) <| gy (.pointer (some ⟨g3, 32, none⟩)) <|
   gyl rfl ⟨g3, 32, none⟩ (.slice d.ra e.raw.length d.rc) (fun U hU => rg_cell (bx_range (hX3.below hX3.lt hU)) (j := 32) rfl (by kernel_rfl)) <| gy (.int .i64 e.raw.length) <|
   gyv (.int .i64 (bt + e.raw.length)) (fun U hU => add_i rfl bt e.raw.length (by have := HNB.out; omega) (by kernel_rfl) (by kernel_rfl) U) <| gy (.pointer (some ⟨g, 0, none⟩)) <| gy (.pointer (some ⟨g, 4, none⟩)) ?_
 simp only [pu]
 apply wpQuiet_nil
 intro V7 hV7
 have hA7 := HA6.out.below HW.out hV7
 obtain ⟨V8, hst8, hG8⟩ := Gm.num hA7.gm.mem (Gm.base hA7.gm HBB.out HW.out) 4 (bt + e.raw.length) fr1 (ln + 1) (bt + e.raw.length) (by decide) rfl
 have hA8 := hA7.step hG8
 refine gzs rfl hst8 <| wn ?_
 have hil8 : i < (T1.set i ⟨e, d2, true, s9.us, s9.nx⟩).length := by rw [HN5.out]; exact hin
 obtain ⟨b8, hab8, hrg8⟩ := hA8.gm.mem.rg hil8
 rw [HAB.out] at hab8
 simp only [Option.some.injEq, Addr.mk.injEq, and_true] at hab8
 subst hab8
 rw [getD_set_eq _ _ _ _ HTK.out.il] at hrg8
 obtain ⟨V9, hst9, hY9, hbt9⟩ := st_all (cs' := #[.int .i64 i, .int .i64 s9.us]) (ty := 33) hA8.b4 rfl (by simp [Value.oneCell']) (by kernel_rfl)
 have HRA : Hid (addH m = ((i : Int), s9.us)) := Lib.hid (by rw [← HS9.out]; exact HTK.out.hd)
 have HLQ : Hid (Lk (addS m e) (T1.set i ⟨e, d2, true, s9.us, s9.nx⟩) fr1) := Lib.hid (by have := HTK.out.lk d2; rw [HS9.out] at this; exact this)
 have HE : Hid (Gm B g a T w a1 c1 (T1.set i ⟨e, d2, true, s9.us, s9.nx⟩) mo fr1 (ln + 1) (bt + e.raw.length) V9) := Lib.hid ⟨hA8.gm.mem.same fun k hk => hbt9.2 k (hA8.gm.mem.inn k hk) fun e2 => hA8.n4 (e2 ▸ hk), hA8.gm.sub, hA8.gm.but.but hbt9 HG.out.2 (Nat.le_trans HW.out HG.out.2)⟩
 clear hA7 hG8 hA8 hst8 hV7 HA6 hX6 hX3 hbt9
 go_upto_region 8 with fail
 refine wl <| gz4 (.int .i64 i) (.pointer (some ⟨b, 0 + i * 44, none⟩)) (.pointer (some ⟨b, 0 + i * 44, none⟩)) (.pointer (some ⟨b, 0 + i * 44 + 42, none⟩)) <| gzl rfl ⟨b, 0 + i * 44 + 42, none⟩ (.int .i64 s9.us) (rg_cell hrg8 (j := 42) rfl (by kernel_rfl)) <|
  gz1 (.agg #[.int .i64 i, .int .i64 s9.us]) <| gzs rfl (hst9) <| gz1 (.bool true) <| wn ?_
 simp only [pu]
 go_wp2_with fail
 exact bodyPost_ret (results_c rfl (by kernel_rfl) (load_hn (x := ((i : Int), s9.us)) (bx_range (cs := hnl ((i : Int), s9.us)) hY9)) (by kernel_rfl)) rfl ⟨_, _, _, _, by rw [HRA.out], HLQ.out, HE.out⟩
theorem q_add {w : World} {B g : Nat} {S : Nat → Prop} {m : Sm} {u : Nat} {e : En} {d : Ad} (h : RepS w g S m) (hm : Wm m u) (he : EnI w e d) (hE : EnB e) (ho : ∀ k, EB e d k → ¬ S k) (hB : ∀ k, S k → B ≤ k) (hw : B ≤ w.heap.size) : Calls Try.prog 23 #[.pointer (some ⟨g, 0, none⟩), .agg (enA e d)] w fun r w' => r = .returned (.tuple #[.agg #[.int .i64 (addH m).1, .int .i64 (addH m).2], .bool (addO m)]) ∧ UpdS g B S (addS m e) w w' := by
 obtain ⟨a, c, T, fr, hM, hl, rfl⟩ := h
 by_cases hc : cntL m.P < m.mo
 ·have hO : addO m = true := decide_eq_true hc
  have h1 := cnt_512 hm
  have h2 := siz_max hm
  refine (add_yes hM hl hm hc (by omega) (by omega) (by omega) he hE ho hB hw).mono fun r w' q => ?_
  obtain ⟨T1, fr1, a1, c1, q1, q2, q3⟩ := q
  rw [hO]
  have h3 := cnt_add hm e
  rw [hO, if_pos rfl] at h3
  have h4 := siz_add hm e hO
  refine ⟨q1, Sp g a1 T1, ⟨a1, c1, T1, fr1, ?_, q2, rfl⟩, q3.sub, q3.but⟩
  rw [h3.2, h3.1, h4]
  exact q3.mem
 ·obtain ⟨e1, e2, e3⟩ := add_full e (show m.mo ≤ cntL m.P by omega)
  have h3 := hm.len
  rw [e1, e2, e3]
  exact (add_no hM.bx (by omega)).mono fun r w' q => ⟨q.1, _, ⟨a, c, T, fr, hM.below q.2, hl, rfl⟩, fun k hk => .inl hk, ButS.of_below q.2 hw⟩
end Go.Proofs.Ytmpajgaanghpoaa
