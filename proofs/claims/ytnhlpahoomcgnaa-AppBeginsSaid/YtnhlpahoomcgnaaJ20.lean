/-
  Texts QL LW QG QI joined.
-/
import Derived.Test.YtnhlpahoomcgnaaJ18
import Derived.Test.YtnhlpahoomcgnaaJ17
import Derived.Test.YtnhlpahoomcgnaaJ19
import Derived.Test.YtnhlpahoomcgnaaJ1
set_option maxRecDepth 100000
set_option maxHeartbeats 8000000
set_option linter.unusedSimpArgs false
set_option linter.unusedVariables false
namespace Go.Proofs.Ytnhlpahoomcgnaa.Lg
attribute [local irreducible] wpList wpQuiet
open Mo (Zd Zm YL YU)
open Go.RowKit
theorem zA : ∃ (L : List Int) (A B C F : Ya) (q1 q2 : XZ), L = form kU ∧ Xo kA 0 = (A, 0) ∧ JW A L = B ∧ GK A L = q1 ∧ GK B L = q2 ∧ XM B [L] = (C, [q1], 0) ∧ XM C [] = (Uw, [], 9) ∧ Ox C = (F, 0) ∧ GI B = A ∧ JV B [L] = true ∧ F.c.1.length = 2 ∧ q1.code = 0 ∧ q2.code = 14 ∧ WL A ∧ WL B ∧ WL C ∧ ∀ y, y ∈ L → W8 y :=
 ⟨form kU, D1, D2, D3, D4, r1, r2, rfl, lI, uK, aY, aX, uJ, sG, lH, lG, lF, rfl, rfl, rfl, lD, lC, aW, sF⟩
theorem sD {A : Ya} (hA : Xo kA 0 = (A, 0)) {la : Option Addr} {w : World} (h1 : Cs w la (acc kA)) : Calls Try.prog 10 #[.slice la 1 1, Z7 0] w (MH w (A, 0)) := hA ▸ EL kA la 1 0 w h1 (by decide) su.w su.z X0
theorem EI (a : Option Addr) (w : World) (h : Cs w a (SE kU.tr)) : Calls Try.prog 15 #[.agg (Zu kU a 1)] w fun e w' => ∃ v, e = .returned v ∧ ∃ u, v = .tuple #[u, Z8 0] ∧ Own w' w.heap.size u (form kU) ∧ Below w.heap.size w w' :=
 (JU kU a 1 w h rZ.b).mono fun e w' ⟨u, q1, q2, q3⟩ => by
  rw [lu] at q1 q2
  exact ⟨_, q1, u, rfl, q2, q3⟩
def lq (V : World) (b : Option Addr) (d : Nat) (L : List Int) : Prop := Sl V b d L ∧ L.length ≤ d ∧ ∀ y, y ∈ L → W8 y
theorem lq.below {V V2 : World} {b : Option Addr} {d : Nat} {L : List Int} (h : lq V b d L) (hb : Below V.heap.size V V2) : lq V2 b d L := ⟨ZH h.1 hb, h.2⟩
theorem IL {V : World} {b : Option Addr} {d : Nat} {L : List Int} (h : lq V b d L) : ∃ V2, V.alloc (.cells #[.slice b L.length d] 50) = V2 ∧ Below V.heap.size V V2 ∧ MG V2 (some ⟨V.heap.size, 0, none⟩) [(b, d, L)] := by
 have hb : Below V.heap.size V (V.alloc (.cells #[.slice b L.length d] 50)) := (Below.refl _ V).alloc (Nat.le_refl _) _
 have he : ∀ e : Bs, e ∈ [(b, d, L)] → e = (b, d, L) := fun e he => by simpa using he
 exact ⟨_, rfl, hb, Cs.block (t := 50) (fr := (0, 0)) (heap_alloc_last V _), fun e q => by rw [he e q]; exact ZH h.1 hb, fun e q => by rw [he e q]; exact h.2.1, fun e q => by rw [he e q]; exact h.2.2⟩
theorem MG.nil (V : World) : MG V none [] := ⟨Cs.nil _ _, (fun e he => by cases he), (fun e he => by cases he), fun e he => by cases he⟩
def dH (V : World) (D : Ya) (x : Value) : Prop := ∃ m0 m1 m2, x = .agg (ZL D m0 m1 m2) ∧ WA V D m0 m1 m2
theorem dH.below {V V2 : World} {D : Ya} {x : Value} (h : dH V D x) (hb : Below V.heap.size V V2) : dH V2 D x := by
 obtain ⟨m0, m1, m2, h1, h2⟩ := h
 exact ⟨m0, m1, m2, h1, h2.below hb⟩
def Xrw (V : World) (b : Option Addr) (d : Nat) (L : List Int) (x : Value) : Prop := ∃ q, x = .slice (some ⟨q, 0, none⟩) 1 1 ∧ MG V (some ⟨q, 0, none⟩) [(b, d, L)]
structure KK (W : World) (b : Option Addr) (d : Nat) (L : List Int) (A : Ya) (b19 b48 : Bool) (x68 x97 : Value) (V : World) : Prop where
 bel : Below W.heap.size W V
 rw : b19 = true → Xrw V b d L x68
 rs : b48 = true → dH V A x97
theorem KK.go {W V V2 : World} {b : Option Addr} {d : Nat} {L : List Int} {A : Ya} {b19 b48 : Bool} {x68 x97 : Value} (h : KK W b d L A b19 b48 x68 x97 V) (hb : Below V.heap.size V V2) : KK W b d L A b19 b48 x68 x97 V2 :=
 ⟨h.bel.trans (hb.mono h.bel.size), fun e => by
  obtain ⟨q, h1, h2⟩ := h.rw e
  exact ⟨q, h1, h2.below hb⟩, fun e => (h.rs e).below hb⟩
theorem EH : (Try.prog.info? 50).map (fun i => (i.zero, i.size, i.bytes)) = some (some (.slice none 0 0), 1, 24) := by kernel_rfl
theorem MF (a : Option Addr) (n c : Nat) (V : World) : (Instr.buildSlice 41 1 #[(0, .slice a n c)]).run Try.prog V = .ok (.slice (some ⟨V.heap.size, 0, none⟩) 1 1) (V.alloc (.cells #[.slice a n c] 50)) := by
 obtain ⟨i0, hi, hz0, hz1, hz2⟩ := info_parts EH
 refine run_buildSlice V 41 50 1 _ #[.slice a n c] i0 _ Try.underlying41 hi hz0 (by rw [hz1]; omega) (by rw [hz1]; omega) ?_
 rw [hz1]
 kernel_rfl
theorem QH (w : World) : Calls Try.prog 7 #[] w fun e w' => e = .returned Z4 ∧ Below w.heap.size w w' := by
 obtain ⟨L, A, B, C, F, q1, q2, hLL, f1, f2, f3, f4, f5, f6, f7, f8, f9, f10, f11, f12, hA, hB, hC, h8⟩ := zA
 have HFA := Z9 (And.intro f1 f2)
 have HF3 := Z9 f3
 have HF4 := Z9 f4
 have HF5 := Z9 f5
 have HF6 := Z9 f6
 have HF7 := Z9 f7
 have HF8 := Z9 f8
 have HF9 := Z9 f9
 have zK := Z9 f10
 have Xf := Z9 f11
 have Wq := Z9 f12
 have aV := Z9 hA
 have dG := Z9 hB
 have HWC := Z9 hC
 have H8 := Z9 h8
 have HLL := Z9 hLL
 clear hLL f1 f2 f3 f4 f5 f6 f7 f8 f9 f10 f11 f12 hA hB hC h8
 go_enter Try.func7, Try.ntmps7
 go_upto_region 1 with fail
 have hb1 : Below w.heap.size w (w.alloc (.cells (ZA (Xn, 1000, 0)) 49)) := (Below.refl _ w).alloc (Nat.le_refl _) _
 have hc1 : Cs (w.alloc (.cells (ZA (Xn, 1000, 0)) 49)) (some ⟨w.heap.size, 0, none⟩) (acc kA) := Cs.block (t := 49) (fr := (0, 0)) (heap_alloc_last w _)
 have hbt := Wp (Xn, 1000, 0) w
 obtain ⟨W1, hW1⟩ := ZR (w.alloc (.cells (ZA (Xn, 1000, 0)) 49))
 rw [hW1] at hb1 hc1 hbt
 have CI := sD HFA.out.1 hc1
 obtain ⟨g0, hg0⟩ := ZR w.heap.size
 rw [hg0] at hbt CI
 refine wl <| ZV (.agg (ZA (Xn, 1000, 0))) ?_
 simp only [pu]
 refine Zh (by kernel_rfl) (some 16) rfl 22 1 #[(0, .tmp 15)] rfl #[(0, .agg (ZA (Xn, 1000, 0)))] (by kernel_rfl) (.slice (some ⟨g0, 0, none⟩) 1 1) _ hbt ?_
 simp only [pu]
 refine Yl (fun v w' => ∃ m0 m1 m2, v = .tuple #[.agg (ZL A m0 m1 m2), Z8 0] ∧ WA w' A m0 m1 m2 ∧ Below W1.heap.size W1 w') (CI.mono fun e w' q => by obtain ⟨m0, m1, m2, h1, h2, h3⟩ := q; exact ⟨_, h1, m0, m1, m2, rfl, h2, h3⟩) (fun vv W2 hq => ?_)
 obtain ⟨a0, a1, a2, rfl, hi2, hb2⟩ := hq
 obtain ⟨W3, hst3, hb3, JR⟩ := VQ W2 A a0 a1 a2
 simp only [pu]
 refine YT (.tuple #[.agg (ZL A a0 a1 a2), Z8 0]) (.agg (ZL A a0 a1 a2)) (Z8 0) ?_
 simp only [pu]
 refine Zz rfl (some 1) rfl (Z5 W2.heap.size 0) (W2.alloc (.cells (#[.slice none 0 0, Z7 0, .slice none 0 0, Z7 0, .slice none 0 0, Z7 0, ZY, Z7 0]) 35)) (by kernel_rfl) ?_
 simp only [pu]
 refine Zt rfl (hst3) <| ZV (Z8 0) <| wn ?_
 simp only [pu]
 obtain ⟨g1, hg1⟩ := ZR W2.heap.size
 rw [hg1] at JR ⊢
 have lg := hb1.trans ((hb2.trans (hb3.mono hb2.size)).mono hb1.size)
 have HB3 := Z9 lg
 have kY := Z9 (hi2.below hb3)
 have uI := Z9 JR
 clear hb1 hc1 hbt hW1 CI hg0 hi2 hb2 hst3 hb3 JR hg1 lg
 have hb3 : Below W3.heap.size W3 (W3.alloc (.cells (Yv (Wn, 5)) 54)) := (Below.refl _ W3).alloc (Nat.le_refl _) _
 have hc3 : Cs (W3.alloc (.cells (Yv (Wn, 5)) 54)) (some ⟨W3.heap.size, 0, none⟩) (SE kU.tr) := Cs.block (t := 54) (fr := (0, 0)) (heap_alloc_last W3 _)
 have hbt := MC (Wn, 5) W3
 obtain ⟨V3, XE⟩ := ZR (W3.alloc (.cells (Yv (Wn, 5)) 54))
 rw [XE] at hb3 hc3 hbt
 have CE := EI _ V3 hc3
 obtain ⟨g22, kX⟩ := ZR W3.heap.size
 rw [kX] at hbt CE
 go_upto_region 2 with fail
 refine wl <| ZV (.agg (Yv (Wn, 5))) ?_
 simp only [pu]
 refine Zh (by kernel_rfl) (some 22) rfl 55 1 #[(0, .tmp 21)] rfl #[(0, .agg (Yv (Wn, 5)))] (by kernel_rfl) (.slice (some ⟨g22, 0, none⟩) 1 1) _ hbt ?_
 simp only [pu]
 refine ZV (.agg (Zu kU (some ⟨g22, 0, none⟩) 1)) <| Yl (fun v w' => ∃ u, v = .tuple #[u, Z8 0] ∧ Own w' V3.heap.size u (form kU) ∧ Below V3.heap.size V3 w') CE (fun v4 V4 hq => ?_)
 obtain ⟨u3, rfl, hO3, hb4⟩ := hq
 obtain ⟨br, dr, rfl, hs3, hd3⟩ := hO3.sl
 rw [← HLL.out] at hs3 hd3 ⊢
 simp only [pu]
 refine Sz (.tuple #[.slice br L.length dr, Z8 0]) (.slice br L.length dr) (Z8 0) (.slice br L.length dr) (Z8 0) <| wn ?_
 simp only [pu]
 have Ov := hb3.trans (hb4.mono hb3.size)
 have HB4 := Z9 (HB3.out.trans (Ov.mono HB3.out.size))
 have HR4 : Hid (lq V4 br dr L) := Z9 ⟨hs3, hd3, H8.out⟩
 have rY := Z9 (kY.out.below Ov)
 have zy := Z9 (uI.out.below uI.out.lt Ov)
 have CA := EG A a0 a1 a2 L br dr V4 rY.out aV.out HR4.out.1 HR4.out.2.1 HR4.out.2.2
 rw [HFA.out.2] at CA
 clear hb3 hc3 hbt XE CE kX hO3 hb4 hs3 hd3 Ov HB3 kY uI
 go_upto_region 3 with fail
 refine wl <| ZI rfl ⟨g1, 0, none⟩ (.agg (ZL A a0 a1 a2)) (Xx zy.out) <| ZV (.slice br L.length dr) <| Yl (rX V4 B) CA (fun vv V5 hq => ?_)
 obtain ⟨c0, c1, c2, rfl, hi5, hb5⟩ := hq
 obtain ⟨V6, Xm, hb6, PW⟩ := VQ V5 B c0 c1 c2
 simp only [pu]
 refine Zz rfl (some 5) rfl (Z5 V5.heap.size 0) (V5.alloc (.cells (#[.slice none 0 0, Z7 0, .slice none 0 0, Z7 0, .slice none 0 0, Z7 0, ZY, Z7 0]) 35)) (by kernel_rfl) ?_
 simp only [pu]
 refine Zt rfl (Xm) <| wn ?_
 obtain ⟨g5, hg5⟩ := ZR V5.heap.size
 rw [hg5] at PW ⊢
 have Vs := hb5.trans (hb6.mono hb5.size)
 have Xp := Z9 (HB4.out.trans (Vs.mono HB4.out.size))
 have MB := Z9 (HR4.out.below Vs)
 have kW := Z9 (rY.out.below Vs)
 have rW := Z9 (zy.out.below zy.out.lt Vs)
 have rU := Z9 (hi5.below hb6)
 have zx := Z9 PW
 clear CA hi5 hb5 Xm hb6 PW Vs hg5 HB4 HR4 rY zy
 obtain ⟨V7, hV7, hb7, aU⟩ := IL MB.out
 have hbu := MF br L.length dr V6
 rw [hV7] at hbu
 obtain ⟨g33, kV⟩ := ZR V6.heap.size
 rw [kV] at hbu aU
 have CF := Ou B c0 c1 c2 [(br, dr, L)] (some ⟨g33, 0, none⟩) 1 V7 (rU.out.below hb7) dG.out aU (show 1 ≤ 100000 by decide)
 rw [show XM B (lsB [(br, dr, L)]) = (C, [q1], 0) from HF5.out] at CF
 go_upto_region 4 with fail
 refine wl <| ZI rfl ⟨g5, 0, none⟩ (.agg (ZL B c0 c1 c2)) (Xx zx.out) <| ZV (.slice br L.length dr) ?_
 simp only [pu]
 refine Zh (by kernel_rfl) (some 33) rfl 41 1 #[(0, .tmp 32)] rfl #[(0, .slice br L.length dr)] (by kernel_rfl) (.slice (some ⟨g33, 0, none⟩) 1 1) _ hbu ?_
 simp only [pu]
 refine Yl (fun v w' => ∃ m0 m1 m2 r, v = .tuple #[.agg (ZL C m0 m1 m2), r, Z8 0] ∧ WA w' C m0 m1 m2 ∧ Wy w' V7.heap.size r [q1] ∧ Below V7.heap.size V7 w') (CF.mono fun e w' q => by obtain ⟨m0, m1, m2, r, h1, h2, h3, h4⟩ := q; exact ⟨_, h1, m0, m1, m2, r, rfl, h2, h3, h4⟩) (fun vv V8 hq => ?_)
 obtain ⟨e0, e1, e2, r, rfl, lM, uH, hb8⟩ := hq
 obtain ⟨a7, c7, rfl, -, -⟩ := Yj uH
 obtain ⟨V9, YJ, WJ, Ue⟩ := VQ V8 C e0 e1 e2
 simp only [pu]
 refine Xl (.tuple #[.agg (ZL C e0 e1 e2), .slice a7 1 c7, Z8 0]) (.agg (ZL C e0 e1 e2)) (.slice a7 1 c7) (Z8 0) ?_
 simp only [pu]
 refine Zz rfl (some 6) rfl (Z5 V8.heap.size 0) (V8.alloc (.cells (#[.slice none 0 0, Z7 0, .slice none 0 0, Z7 0, .slice none 0 0, Z7 0, ZY, Z7 0]) 35)) (by kernel_rfl) ?_
 simp only [pu]
 refine Zt rfl (YJ) <| ZG (.slice a7 1 c7) (Z8 0) <| wn ?_
 simp only [pu]
 obtain ⟨g6, Vk⟩ := ZR V8.heap.size
 rw [Vk] at Ue ⊢
 have JQ := hb7.trans ((hb8.trans (WJ.mono hb8.size)).mono hb7.size)
 have Zj := Z9 (Xp.out.trans (JQ.mono Xp.out.size))
 have mJ := Z9 (MB.out.below JQ)
 have kT := Z9 (kW.out.below JQ)
 have rQ := Z9 (rW.out.below rW.out.lt JQ)
 have kS := Z9 (rU.out.below JQ)
 have rP := Z9 (zx.out.below zx.out.lt JQ)
 have rO := Z9 (lM.below WJ)
 have zu := Z9 Ue
 clear hV7 hb7 aU hbu kV CF lM uH hb8 YJ WJ Ue JQ Vk Xp MB kW rW rU zx
 have CG := Ou C e0 e1 e2 [] none 0 V9 rO.out HWC.out (MG.nil V9) (Nat.zero_le _)
 rw [show XM C (lsB []) = (Uw, [], 9) from HF6.out] at CG
 go_upto_region 5 with fail
 refine wl <| ZI rfl ⟨g6, 0, none⟩ (.agg (ZL C e0 e1 e2)) (Xx zu.out) <|
  Yl (fun v w' => ∃ m0 m1 m2 r, v = .tuple #[.agg (ZL Uw m0 m1 m2), r, Z8 9] ∧ Below V9.heap.size V9 w') (CG.mono fun e w' q => by obtain ⟨m0, m1, m2, r, h1, h2, h3, h4⟩ := q; exact ⟨_, h1, m0, m1, m2, r, rfl, h4⟩) (fun vv Va hq => ?_)
 obtain ⟨h0, h1, h2, rz, rfl, hba⟩ := hq
 obtain ⟨Vb, kR, hbb, hYb⟩ := VQ Va Uw h0 h1 h2
 simp only [pu]
 refine Xl (.tuple #[.agg (ZL Uw h0 h1 h2), rz, Z8 9]) (.agg (ZL Uw h0 h1 h2)) (rz) (Z8 9) ?_
 simp only [pu]
 refine Zz rfl (some 9) rfl (Z5 Va.heap.size 0) (Va.alloc (.cells (#[.slice none 0 0, Z7 0, .slice none 0 0, Z7 0, .slice none 0 0, Z7 0, ZY, Z7 0]) 35)) (by kernel_rfl) ?_
 simp only [pu]
 refine Zt rfl (kR) <| ZG (rz) (Z8 9) <| wn ?_
 simp only [pu]
 obtain ⟨g9, uN⟩ := ZR Va.heap.size
 rw [uN] at hYb ⊢
 have Ot := hba.trans (hbb.mono hba.size)
 have aT := Z9 (Zj.out.trans (Ot.mono Zj.out.size))
 have HRb := Z9 (mJ.out.below Ot)
 have kQ := Z9 (kT.out.below Ot)
 have rM := Z9 (rQ.out.below rQ.out.lt Ot)
 have kP := Z9 (kS.out.below Ot)
 have rJ := Z9 (rP.out.below rP.out.lt Ot)
 have kN := Z9 (rO.out.below Ot)
 have kM := Z9 (zu.out.below zu.out.lt Ot)
 obtain ⟨qz, hqz⟩ := ZR (Value.tuple #[.agg (ZL Uw h0 h1 h2), rz, Z8 9])
 obtain ⟨qy, hqy⟩ := ZR (Value.agg (ZL Uw h0 h1 h2))
 simp only [hqz]
 simp only [hqy]
 clear CG hba kR hbb hYb Ot uN hqz hqy Zj mJ kT rQ kS rP rO zu
 have CC := EF C e0 e1 e2 Vb kN.out HWC.out
 rw [HF7.out] at CC
 go_upto_region 6 with fail
 refine wl <| ZI rfl ⟨g6, 0, none⟩ (.agg (ZL C e0 e1 e2)) (Xx kM.out) <|
  Yl (fun v w' => ∃ m0 m1 m2, v = .tuple #[.agg (ZL F m0 m1 m2), Z8 0] ∧ WA w' F m0 m1 m2 ∧ Below Vb.heap.size Vb w') (CC.mono fun e w' q => by obtain ⟨m0, m1, m2, h1, h2, h3⟩ := q; exact ⟨_, h1, m0, m1, m2, rfl, h2, h3⟩) (fun vv Vc hq => ?_)
 obtain ⟨p0, p1, p2, rfl, -, hbc⟩ := hq
 obtain ⟨W, kL, hbd, hYd⟩ := VQ Vc F p0 p1 p2
 simp only [pu]
 refine YT (.tuple #[.agg (ZL F p0 p1 p2), Z8 0]) (.agg (ZL F p0 p1 p2)) (Z8 0) ?_
 simp only [pu]
 refine Zz rfl (some 12) rfl (Z5 Vc.heap.size 0) (Vc.alloc (.cells (#[.slice none 0 0, Z7 0, .slice none 0 0, Z7 0, .slice none 0 0, Z7 0, ZY, Z7 0]) 35)) (by kernel_rfl) ?_
 simp only [pu]
 refine Zt rfl (kL) <| ZV (Z8 0) <| wn ?_
 simp only [pu]
 obtain ⟨g12, kK⟩ := ZR Vc.heap.size
 rw [kK] at hYd ⊢
 have JO := hbc.trans (hbd.mono hbc.size)
 have HB := Z9 (aT.out.trans (JO.mono aT.out.size))
 have HR := Z9 (HRb.out.below JO)
 have kY := Z9 (kQ.out.below JO)
 have uI := Z9 (rM.out.below rM.out.lt JO)
 have aS := Z9 (kP.out.below JO)
 have HXB := Z9 (rJ.out.below rJ.out.lt JO)
 have uG := Z9 hYd
 clear CC hbc kL hbd hYd JO kK aT HRb kQ rM kP rJ kN kM
 go_upto_region 7 with fail
 have h0 : KK W br dr L A false false undef undef W.drew := ⟨(Below.refl _ W).drew, (fun e => nomatch e), fun e => nomatch e⟩
 refine Oq (by kernel_rfl) ?_
 refine Yg 0 3 (fun listed Zr V => ∃ b0 b1 b2 : Bool, listed = #[b0, b1, b2, false, false, false, false, false, false, false, false, false, false, false, false, false, false, false, false, false, false, false, false, false, false, false, false, false, false, false, false, false, false, false, false, false, false, false, false, false, false, false, false, false, false, false, false, false, false, false, false, false, false] ∧ Zr = { tmps := #[ZY, Z5 g1 0, Z8 0, .slice br L.length dr, Z8 0, Z5 g5 0, Z5 g6 0, .slice a7 1 c7, Z8 0, Z5 g9 0, rz, Z8 9, Z5 g12 0, Z8 0, .tuple #[.agg (ZL A a0 a1 a2), Z8 0], .agg (ZA (Xn, 1000, 0)), .slice (some ⟨g0, 0, none⟩) 1 1, .tuple #[.agg (ZL A a0 a1 a2), Z8 0], .agg (ZL A a0 a1 a2), Z8 0, .tuple #[.slice br L.length dr, Z8 0], .agg (Yv (Wn, 5)), .slice (some ⟨g22, 0, none⟩) 1 1, .agg (Zu kU (some ⟨g22, 0, none⟩) 1), .tuple #[.slice br L.length dr, Z8 0], .slice br L.length dr, Z8 0, .agg (ZL A a0 a1 a2), .slice br L.length dr, .agg (ZL B c0 c1 c2), .tuple #[.agg (ZL C e0 e1 e2), .slice a7 1 c7, Z8 0], .agg (ZL B c0 c1 c2), .slice br L.length dr, .slice (some ⟨g33, 0, none⟩) 1 1, .tuple #[.agg (ZL C e0 e1 e2), .slice a7 1 c7, Z8 0], .agg (ZL C e0 e1 e2), .slice a7 1 c7, Z8 0, qz, .agg (ZL C e0 e1 e2), qz, qy, rz, Z8 9, .tuple #[.agg (ZL F p0 p1 p2), Z8 0], .agg (ZL C e0 e1 e2), .tuple #[.agg (ZL F p0 p1 p2), Z8 0], .agg (ZL F p0 p1 p2), Z8 0, (cond b0 (Z8 0) undef), (cond b1 Z4 undef), (cond b2 Z4 undef), undef, undef, undef, undef, undef, undef, undef, undef, undef, undef, undef, undef, undef, undef, undef, undef, undef, undef, undef, undef, undef, undef, undef, undef, undef, undef, undef, undef, undef, undef, undef, undef, undef, undef, undef, undef, undef, undef, undef, undef, undef, undef, undef, undef, undef, undef, undef, undef, undef], defers := [] } ∧ KK W br dr L A false false undef undef V) (by kernel_rfl) (by kernel_rfl) ?_ ?_ ?_
 ·exact ⟨false, false, false, by kernel_rfl, rfl, h0⟩
 ·intro i9 listed Zr V hk9 hi9 hr hJ
  obtain ⟨b0, b1, b2, rfl, rfl, hF⟩ := hJ
  have hi3 : i9 = 0 ∨ i9 = 1 ∨ i9 = 2 := by omega
  rcases hi3 with rfl | rfl | rfl
  ·obtain rfl : b0 = false := ZX hr
   refine ZO rfl (by kernel_rfl) (some 49) rfl (Z8 0) V (by kernel_rfl) ?_
   exact ⟨_, _, _, rfl, rfl, hF⟩
  ·obtain rfl : b1 = false := ZX hr
   obtain rfl : b0 = true := ZW hr 0
   refine ZO rfl (by kernel_rfl) (some 50) rfl Z4 V (TG rfl 0 0 (decide_eq_true rfl) (by kernel_rfl) (by kernel_rfl) _) ?_
   exact ⟨_, _, _, rfl, rfl, hF⟩
  ·obtain rfl : b2 = false := ZX hr
   obtain rfl : b1 = true := ZW hr 1
   refine ZO rfl (by kernel_rfl) (some 51) rfl Z4 V (by kernel_rfl) ?_
   exact ⟨_, _, _, rfl, rfl, hF⟩
 ·intro Zr V hJ
  obtain ⟨b0, b1, b2, he, rfl, hF⟩ := hJ
  have he : (#[true, true, true, false, false, false, false, false, false, false, false, false, false, false, false, false, false, false, false, false, false, false, false, false, false, false, false, false, false, false, false, false, false, false, false, false, false, false, false, false, false, false, false, false, false, false, false, false, false, false, false, false, false] : Array Bool) = #[b0, b1, b2, false, false, false, false, false, false, false, false, false, false, false, false, false, false, false, false, false, false, false, false, false, false, false, false, false, false, false, false, false, false, false, false, false, false, false, false, false, false, false, false, false, false, false, false, false, false, false, false, false, false] := Eq.trans (by kernel_rfl) he
  simp only [Array.mk.injEq, List.cons.injEq, and_true, true_and] at he
  obtain ⟨rfl, rfl, rfl⟩ := he
  simp only [cond_true]
  have Ro := hF
  clear hF
  refine Yg 3 7 (fun listed Zr V => ∃ b3 b4 b5 b6 b7 b8 b9 : Bool, listed = #[true, true, true, b3, b4, b5, b6, b7, b8, b9, false, false, false, false, false, false, false, false, false, false, false, false, false, false, false, false, false, false, false, false, false, false, false, false, false, false, false, false, false, false, false, false, false, false, false, false, false, false, false, false, false, false, false] ∧ Zr = { tmps := #[ZY, Z5 g1 0, Z8 0, .slice br L.length dr, Z8 0, Z5 g5 0, Z5 g6 0, .slice a7 1 c7, Z8 0, Z5 g9 0, rz, Z8 9, Z5 g12 0, Z8 0, .tuple #[.agg (ZL A a0 a1 a2), Z8 0], .agg (ZA (Xn, 1000, 0)), .slice (some ⟨g0, 0, none⟩) 1 1, .tuple #[.agg (ZL A a0 a1 a2), Z8 0], .agg (ZL A a0 a1 a2), Z8 0, .tuple #[.slice br L.length dr, Z8 0], .agg (Yv (Wn, 5)), .slice (some ⟨g22, 0, none⟩) 1 1, .agg (Zu kU (some ⟨g22, 0, none⟩) 1), .tuple #[.slice br L.length dr, Z8 0], .slice br L.length dr, Z8 0, .agg (ZL A a0 a1 a2), .slice br L.length dr, .agg (ZL B c0 c1 c2), .tuple #[.agg (ZL C e0 e1 e2), .slice a7 1 c7, Z8 0], .agg (ZL B c0 c1 c2), .slice br L.length dr, .slice (some ⟨g33, 0, none⟩) 1 1, .tuple #[.agg (ZL C e0 e1 e2), .slice a7 1 c7, Z8 0], .agg (ZL C e0 e1 e2), .slice a7 1 c7, Z8 0, qz, .agg (ZL C e0 e1 e2), qz, qy, rz, Z8 9, .tuple #[.agg (ZL F p0 p1 p2), Z8 0], .agg (ZL C e0 e1 e2), .tuple #[.agg (ZL F p0 p1 p2), Z8 0], .agg (ZL F p0 p1 p2), Z8 0, Z8 0, Z4, Z4, (cond b3 (.agg (ZL A a0 a1 a2)) undef), (cond b4 (.slice br L.length dr) undef), (cond b5 (.agg (ZE q1)) undef), (cond b6 (Z8 q1.code) undef), (cond b7 Z4 undef), (cond b8 Z4 undef), (cond b9 Z4 undef), undef, undef, undef, undef, undef, undef, undef, undef, undef, undef, undef, undef, undef, undef, undef, undef, undef, undef, undef, undef, undef, undef, undef, undef, undef, undef, undef, undef, undef, undef, undef, undef, undef, undef, undef, undef, undef, undef, undef, undef, undef, undef], defers := [] } ∧ KK W br dr L A false false undef undef V) (by kernel_rfl) (by kernel_rfl) ?_ ?_ ?_
  ·exact ⟨false, false, false, false, false, false, false, by kernel_rfl, rfl, Ro⟩
  ·intro i9 listed Zr V hk9 hi9 hr hJ
   obtain ⟨b3, b4, b5, b6, b7, b8, b9, rfl, rfl, hF⟩ := hJ
   have hi3 : i9 = 3 ∨ i9 = 4 ∨ i9 = 5 ∨ i9 = 6 ∨ i9 = 7 ∨ i9 = 8 ∨ i9 = 9 := by omega
   rcases hi3 with rfl | rfl | rfl | rfl | rfl | rfl | rfl
   ·obtain rfl : b3 = false := ZX hr
    refine Y7 rfl (by kernel_rfl) (some 52) rfl 35 (.tmp 1) rfl ⟨g1, 0, none⟩ (.agg (ZL A a0 a1 a2)) (by kernel_rfl) (Xx (uI.out.below uI.out.lt hF.bel)) ?_
    exact ⟨_, _, _, _, _, _, _, rfl, rfl, hF⟩
   ·obtain rfl : b4 = false := ZX hr
    refine ZO rfl (by kernel_rfl) (some 53) rfl (.slice br L.length dr) V (by kernel_rfl) ?_
    exact ⟨_, _, _, _, _, _, _, rfl, rfl, hF⟩
   ·obtain rfl : b5 = false := ZX hr
    obtain rfl : b3 = true := ZW hr 3
    obtain rfl : b4 = true := ZW hr 4
    refine XD rfl (by kernel_rfl) (some 54) rfl 18 #[.agg (ZL A a0 a1 a2), .slice br L.length dr] (by kernel_rfl) ((IK A a0 a1 a2 L br dr V (kY.out.below hF.bel) aV.out (HR.out.below hF.bel).1 (HR.out.below hF.bel).2.1 (HR.out.below hF.bel).2.2).mono fun e w' z => ?_)
    rw [HF3.out] at z
    obtain ⟨rfl, hb⟩ := z
    exact ⟨_, rfl, _, _, _, _, _, _, _, rfl, rfl, hF.go hb⟩
   ·obtain rfl : b6 = false := ZX hr
    obtain rfl : b5 = true := ZW hr 5
    refine ZO rfl (by kernel_rfl) (some 55) rfl (Z8 q1.code) V (by kernel_rfl) ?_
    exact ⟨_, _, _, _, _, _, _, rfl, rfl, hF⟩
   ·obtain rfl : b7 = false := ZX hr
    obtain rfl : b6 = true := ZW hr 6
    refine ZO rfl (by kernel_rfl) (some 56) rfl Z4 V (TG rfl q1.code 0 (decide_eq_true Xf.out) (by kernel_rfl) (by kernel_rfl) _) ?_
    exact ⟨_, _, _, _, _, _, _, rfl, rfl, hF⟩
   ·obtain rfl : b8 = false := ZX hr
    obtain rfl : b7 = true := ZW hr 7
    refine ZO rfl (by kernel_rfl) (some 57) rfl Z4 V (by kernel_rfl) ?_
    exact ⟨_, _, _, _, _, _, _, rfl, rfl, hF⟩
   ·obtain rfl : b9 = false := ZX hr
    obtain rfl : b8 = true := ZW hr 8
    refine ZO rfl (by kernel_rfl) (some 58) rfl Z4 V (by kernel_rfl) ?_
    exact ⟨_, _, _, _, _, _, _, rfl, rfl, hF⟩
  ·intro Zr V hJ
   obtain ⟨b3, b4, b5, b6, b7, b8, b9, he, rfl, hF⟩ := hJ
   have he : (#[true, true, true, true, true, true, true, true, true, true, false, false, false, false, false, false, false, false, false, false, false, false, false, false, false, false, false, false, false, false, false, false, false, false, false, false, false, false, false, false, false, false, false, false, false, false, false, false, false, false, false, false, false] : Array Bool) = #[true, true, true, b3, b4, b5, b6, b7, b8, b9, false, false, false, false, false, false, false, false, false, false, false, false, false, false, false, false, false, false, false, false, false, false, false, false, false, false, false, false, false, false, false, false, false, false, false, false, false, false, false, false, false, false, false] := Eq.trans (by kernel_rfl) he
   simp only [Array.mk.injEq, List.cons.injEq, and_true, true_and] at he
   obtain ⟨rfl, rfl, rfl, rfl, rfl, rfl, rfl⟩ := he
   simp only [cond_true]
   have Ro := hF
   clear hF
   refine Yg 10 7 (fun listed Zr V => ∃ b10 b11 b12 b13 b14 b15 b16 : Bool, listed = #[true, true, true, true, true, true, true, true, true, true, b10, b11, b12, b13, b14, b15, b16, false, false, false, false, false, false, false, false, false, false, false, false, false, false, false, false, false, false, false, false, false, false, false, false, false, false, false, false, false, false, false, false, false, false, false, false] ∧ Zr = { tmps := #[ZY, Z5 g1 0, Z8 0, .slice br L.length dr, Z8 0, Z5 g5 0, Z5 g6 0, .slice a7 1 c7, Z8 0, Z5 g9 0, rz, Z8 9, Z5 g12 0, Z8 0, .tuple #[.agg (ZL A a0 a1 a2), Z8 0], .agg (ZA (Xn, 1000, 0)), .slice (some ⟨g0, 0, none⟩) 1 1, .tuple #[.agg (ZL A a0 a1 a2), Z8 0], .agg (ZL A a0 a1 a2), Z8 0, .tuple #[.slice br L.length dr, Z8 0], .agg (Yv (Wn, 5)), .slice (some ⟨g22, 0, none⟩) 1 1, .agg (Zu kU (some ⟨g22, 0, none⟩) 1), .tuple #[.slice br L.length dr, Z8 0], .slice br L.length dr, Z8 0, .agg (ZL A a0 a1 a2), .slice br L.length dr, .agg (ZL B c0 c1 c2), .tuple #[.agg (ZL C e0 e1 e2), .slice a7 1 c7, Z8 0], .agg (ZL B c0 c1 c2), .slice br L.length dr, .slice (some ⟨g33, 0, none⟩) 1 1, .tuple #[.agg (ZL C e0 e1 e2), .slice a7 1 c7, Z8 0], .agg (ZL C e0 e1 e2), .slice a7 1 c7, Z8 0, qz, .agg (ZL C e0 e1 e2), qz, qy, rz, Z8 9, .tuple #[.agg (ZL F p0 p1 p2), Z8 0], .agg (ZL C e0 e1 e2), .tuple #[.agg (ZL F p0 p1 p2), Z8 0], .agg (ZL F p0 p1 p2), Z8 0, Z8 0, Z4, Z4, .agg (ZL A a0 a1 a2), .slice br L.length dr, .agg (ZE q1), Z8 q1.code, Z4, Z4, Z4, (cond b10 (.agg (ZL B c0 c1 c2)) undef), (cond b11 (.slice br L.length dr) undef), (cond b12 (.agg (ZE q2)) undef), (cond b13 (Z8 q2.code) undef), (cond b14 Z4 undef), (cond b15 Z4 undef), (cond b16 Z4 undef), undef, undef, undef, undef, undef, undef, undef, undef, undef, undef, undef, undef, undef, undef, undef, undef, undef, undef, undef, undef, undef, undef, undef, undef, undef, undef, undef, undef, undef, undef, undef, undef, undef, undef, undef], defers := [] } ∧ KK W br dr L A false false undef undef V) (by kernel_rfl) (by kernel_rfl) ?_ ?_ ?_
   ·exact ⟨false, false, false, false, false, false, false, by kernel_rfl, rfl, Ro⟩
   ·intro i9 listed Zr V hk9 hi9 hr hJ
    obtain ⟨b10, b11, b12, b13, b14, b15, b16, rfl, rfl, hF⟩ := hJ
    have hi3 : i9 = 10 ∨ i9 = 11 ∨ i9 = 12 ∨ i9 = 13 ∨ i9 = 14 ∨ i9 = 15 ∨ i9 = 16 := by omega
    rcases hi3 with rfl | rfl | rfl | rfl | rfl | rfl | rfl
    ·obtain rfl : b10 = false := ZX hr
     refine Y7 rfl (by kernel_rfl) (some 59) rfl 35 (.tmp 5) rfl ⟨g5, 0, none⟩ (.agg (ZL B c0 c1 c2)) (by kernel_rfl) (Xx (HXB.out.below HXB.out.lt hF.bel)) ?_
     exact ⟨_, _, _, _, _, _, _, rfl, rfl, hF⟩
    ·obtain rfl : b11 = false := ZX hr
     refine ZO rfl (by kernel_rfl) (some 60) rfl (.slice br L.length dr) V (by kernel_rfl) ?_
     exact ⟨_, _, _, _, _, _, _, rfl, rfl, hF⟩
    ·obtain rfl : b12 = false := ZX hr
     obtain rfl : b10 = true := ZW hr 10
     obtain rfl : b11 = true := ZW hr 11
     refine XD rfl (by kernel_rfl) (some 61) rfl 18 #[.agg (ZL B c0 c1 c2), .slice br L.length dr] (by kernel_rfl) ((IK B c0 c1 c2 L br dr V (aS.out.below hF.bel) dG.out (HR.out.below hF.bel).1 (HR.out.below hF.bel).2.1 (HR.out.below hF.bel).2.2).mono fun e w' z => ?_)
     rw [HF4.out] at z
     obtain ⟨rfl, hb⟩ := z
     exact ⟨_, rfl, _, _, _, _, _, _, _, rfl, rfl, hF.go hb⟩
    ·obtain rfl : b13 = false := ZX hr
     obtain rfl : b12 = true := ZW hr 12
     refine ZO rfl (by kernel_rfl) (some 62) rfl (Z8 q2.code) V (by kernel_rfl) ?_
     exact ⟨_, _, _, _, _, _, _, rfl, rfl, hF⟩
    ·obtain rfl : b14 = false := ZX hr
     obtain rfl : b13 = true := ZW hr 13
     refine ZO rfl (by kernel_rfl) (some 63) rfl Z4 V (TG rfl q2.code 14 (decide_eq_true Wq.out) (by kernel_rfl) (by kernel_rfl) _) ?_
     exact ⟨_, _, _, _, _, _, _, rfl, rfl, hF⟩
    ·obtain rfl : b15 = false := ZX hr
     obtain rfl : b14 = true := ZW hr 14
     refine ZO rfl (by kernel_rfl) (some 64) rfl Z4 V (by kernel_rfl) ?_
     exact ⟨_, _, _, _, _, _, _, rfl, rfl, hF⟩
    ·obtain rfl : b16 = false := ZX hr
     obtain rfl : b15 = true := ZW hr 15
     refine ZO rfl (by kernel_rfl) (some 65) rfl Z4 V (by kernel_rfl) ?_
     exact ⟨_, _, _, _, _, _, _, rfl, rfl, hF⟩
   ·intro Zr V hJ
    obtain ⟨b10, b11, b12, b13, b14, b15, b16, he, rfl, hF⟩ := hJ
    have he : (#[true, true, true, true, true, true, true, true, true, true, true, true, true, true, true, true, true, false, false, false, false, false, false, false, false, false, false, false, false, false, false, false, false, false, false, false, false, false, false, false, false, false, false, false, false, false, false, false, false, false, false, false, false] : Array Bool) = #[true, true, true, true, true, true, true, true, true, true, b10, b11, b12, b13, b14, b15, b16, false, false, false, false, false, false, false, false, false, false, false, false, false, false, false, false, false, false, false, false, false, false, false, false, false, false, false, false, false, false, false, false, false, false, false, false] := Eq.trans (by kernel_rfl) he
    simp only [Array.mk.injEq, List.cons.injEq, and_true, true_and] at he
    obtain ⟨rfl, rfl, rfl, rfl, rfl, rfl, rfl⟩ := he
    simp only [cond_true]
    have Ro := hF
    clear hF
    refine Yg 17 6 (fun listed Zr V => ∃ b17 b18 b19 b20 b21 b22 : Bool, ∃ x68 : Value, listed = #[true, true, true, true, true, true, true, true, true, true, true, true, true, true, true, true, true, b17, b18, b19, b20, b21, b22, false, false, false, false, false, false, false, false, false, false, false, false, false, false, false, false, false, false, false, false, false, false, false, false, false, false, false, false, false, false] ∧ Zr = { tmps := #[ZY, Z5 g1 0, Z8 0, .slice br L.length dr, Z8 0, Z5 g5 0, Z5 g6 0, .slice a7 1 c7, Z8 0, Z5 g9 0, rz, Z8 9, Z5 g12 0, Z8 0, .tuple #[.agg (ZL A a0 a1 a2), Z8 0], .agg (ZA (Xn, 1000, 0)), .slice (some ⟨g0, 0, none⟩) 1 1, .tuple #[.agg (ZL A a0 a1 a2), Z8 0], .agg (ZL A a0 a1 a2), Z8 0, .tuple #[.slice br L.length dr, Z8 0], .agg (Yv (Wn, 5)), .slice (some ⟨g22, 0, none⟩) 1 1, .agg (Zu kU (some ⟨g22, 0, none⟩) 1), .tuple #[.slice br L.length dr, Z8 0], .slice br L.length dr, Z8 0, .agg (ZL A a0 a1 a2), .slice br L.length dr, .agg (ZL B c0 c1 c2), .tuple #[.agg (ZL C e0 e1 e2), .slice a7 1 c7, Z8 0], .agg (ZL B c0 c1 c2), .slice br L.length dr, .slice (some ⟨g33, 0, none⟩) 1 1, .tuple #[.agg (ZL C e0 e1 e2), .slice a7 1 c7, Z8 0], .agg (ZL C e0 e1 e2), .slice a7 1 c7, Z8 0, qz, .agg (ZL C e0 e1 e2), qz, qy, rz, Z8 9, .tuple #[.agg (ZL F p0 p1 p2), Z8 0], .agg (ZL C e0 e1 e2), .tuple #[.agg (ZL F p0 p1 p2), Z8 0], .agg (ZL F p0 p1 p2), Z8 0, Z8 0, Z4, Z4, .agg (ZL A a0 a1 a2), .slice br L.length dr, .agg (ZE q1), Z8 q1.code, Z4, Z4, Z4, .agg (ZL B c0 c1 c2), .slice br L.length dr, .agg (ZE q2), Z8 q2.code, Z4, Z4, Z4, (cond b17 (.agg (ZL B c0 c1 c2)) undef), (cond b18 (.slice br L.length dr) undef), x68, (cond b20 Z4 undef), (cond b21 Z4 undef), (cond b22 Z4 undef), undef, undef, undef, undef, undef, undef, undef, undef, undef, undef, undef, undef, undef, undef, undef, undef, undef, undef, undef, undef, undef, undef, undef, undef, undef, undef, undef, undef, undef], defers := [] } ∧ KK W br dr L A b19 false x68 undef V) (by kernel_rfl) (by kernel_rfl) ?_ ?_ ?_
    ·exact ⟨false, false, false, false, false, false, undef, by kernel_rfl, rfl, Ro⟩
    ·intro i9 listed Zr V hk9 hi9 hr hJ
     obtain ⟨b17, b18, b19, b20, b21, b22, x68, rfl, rfl, hF⟩ := hJ
     have hi3 : i9 = 17 ∨ i9 = 18 ∨ i9 = 19 ∨ i9 = 20 ∨ i9 = 21 ∨ i9 = 22 := by omega
     rcases hi3 with rfl | rfl | rfl | rfl | rfl | rfl
     ·obtain rfl : b17 = false := ZX hr
      refine Y7 rfl (by kernel_rfl) (some 66) rfl 35 (.tmp 5) rfl ⟨g5, 0, none⟩ (.agg (ZL B c0 c1 c2)) (by kernel_rfl) (Xx (HXB.out.below HXB.out.lt hF.bel)) ?_
      exact ⟨_, _, _, _, _, _, _, rfl, rfl, hF⟩
     ·obtain rfl : b18 = false := ZX hr
      refine ZO rfl (by kernel_rfl) (some 67) rfl (.slice br L.length dr) V (by kernel_rfl) ?_
      exact ⟨_, _, _, _, _, _, _, rfl, rfl, hF⟩
     ·obtain rfl : b19 = false := ZX hr
      obtain rfl : b18 = true := ZW hr 18
      obtain ⟨V2, hV2, hb2, hE2⟩ := IL (HR.out.below hF.bel)
      have hbu := MF br L.length dr V
      rw [hV2] at hbu
      refine Xw rfl (by kernel_rfl) (some 68) rfl 41 1 #[(0, .tmp 67)] rfl #[(0, .slice br L.length dr)] (by kernel_rfl) (.slice (some ⟨V.heap.size, 0, none⟩) 1 1) V2 hbu ?_
      exact ⟨_, _, _, _, _, _, _, rfl, rfl, ⟨(hF.go hb2).bel, fun _ => ⟨_, rfl, hE2⟩, (hF.go hb2).rs⟩⟩
     ·obtain rfl : b20 = false := ZX hr
      obtain rfl : b17 = true := ZW hr 17
      obtain rfl : b19 = true := ZW hr 19
      obtain ⟨q, rfl, hE⟩ := hF.rw rfl
      refine XD rfl (by kernel_rfl) (some 69) rfl 19 #[.agg (ZL B c0 c1 c2), .slice (some ⟨q, 0, none⟩) 1 1] (by kernel_rfl) ((GH B c0 c1 c2 [(br, dr, L)] (some ⟨q, 0, none⟩) 1 V (aS.out.below hF.bel) dG.out hE (show 1 ≤ 100000 by decide)).mono fun e w' z => ?_)
      rw [show JV B (lsB [(br, dr, L)]) = true from HF9.out] at z
      obtain ⟨rfl, hb⟩ := z
      exact ⟨_, rfl, _, _, _, _, _, _, _, rfl, rfl, hF.go hb⟩
     ·obtain rfl : b21 = false := ZX hr
      obtain rfl : b20 = true := ZW hr 20
      refine ZO rfl (by kernel_rfl) (some 70) rfl Z4 V (by kernel_rfl) ?_
      exact ⟨_, _, _, _, _, _, _, rfl, rfl, hF⟩
     ·obtain rfl : b22 = false := ZX hr
      obtain rfl : b21 = true := ZW hr 21
      refine ZO rfl (by kernel_rfl) (some 71) rfl Z4 V (by kernel_rfl) ?_
      exact ⟨_, _, _, _, _, _, _, rfl, rfl, hF⟩
    ·intro Zr V hJ
     obtain ⟨b17, b18, b19, b20, b21, b22, x68, he, rfl, hF⟩ := hJ
     have he : (#[true, true, true, true, true, true, true, true, true, true, true, true, true, true, true, true, true, true, true, true, true, true, true, false, false, false, false, false, false, false, false, false, false, false, false, false, false, false, false, false, false, false, false, false, false, false, false, false, false, false, false, false, false] : Array Bool) = #[true, true, true, true, true, true, true, true, true, true, true, true, true, true, true, true, true, b17, b18, b19, b20, b21, b22, false, false, false, false, false, false, false, false, false, false, false, false, false, false, false, false, false, false, false, false, false, false, false, false, false, false, false, false, false, false] := Eq.trans (by kernel_rfl) he
     simp only [Array.mk.injEq, List.cons.injEq, and_true, true_and] at he
     obtain ⟨rfl, rfl, rfl, rfl, rfl, rfl⟩ := he
     simp only [cond_true]
     have Ro := hF
     clear hF
     refine Yg 23 4 (fun listed Zr V => ∃ b23 b24 b25 b26 : Bool, listed = #[true, true, true, true, true, true, true, true, true, true, true, true, true, true, true, true, true, true, true, true, true, true, true, b23, b24, b25, b26, false, false, false, false, false, false, false, false, false, false, false, false, false, false, false, false, false, false, false, false, false, false, false, false, false, false] ∧ Zr = { tmps := #[ZY, Z5 g1 0, Z8 0, .slice br L.length dr, Z8 0, Z5 g5 0, Z5 g6 0, .slice a7 1 c7, Z8 0, Z5 g9 0, rz, Z8 9, Z5 g12 0, Z8 0, .tuple #[.agg (ZL A a0 a1 a2), Z8 0], .agg (ZA (Xn, 1000, 0)), .slice (some ⟨g0, 0, none⟩) 1 1, .tuple #[.agg (ZL A a0 a1 a2), Z8 0], .agg (ZL A a0 a1 a2), Z8 0, .tuple #[.slice br L.length dr, Z8 0], .agg (Yv (Wn, 5)), .slice (some ⟨g22, 0, none⟩) 1 1, .agg (Zu kU (some ⟨g22, 0, none⟩) 1), .tuple #[.slice br L.length dr, Z8 0], .slice br L.length dr, Z8 0, .agg (ZL A a0 a1 a2), .slice br L.length dr, .agg (ZL B c0 c1 c2), .tuple #[.agg (ZL C e0 e1 e2), .slice a7 1 c7, Z8 0], .agg (ZL B c0 c1 c2), .slice br L.length dr, .slice (some ⟨g33, 0, none⟩) 1 1, .tuple #[.agg (ZL C e0 e1 e2), .slice a7 1 c7, Z8 0], .agg (ZL C e0 e1 e2), .slice a7 1 c7, Z8 0, qz, .agg (ZL C e0 e1 e2), qz, qy, rz, Z8 9, .tuple #[.agg (ZL F p0 p1 p2), Z8 0], .agg (ZL C e0 e1 e2), .tuple #[.agg (ZL F p0 p1 p2), Z8 0], .agg (ZL F p0 p1 p2), Z8 0, Z8 0, Z4, Z4, .agg (ZL A a0 a1 a2), .slice br L.length dr, .agg (ZE q1), Z8 q1.code, Z4, Z4, Z4, .agg (ZL B c0 c1 c2), .slice br L.length dr, .agg (ZE q2), Z8 q2.code, Z4, Z4, Z4, .agg (ZL B c0 c1 c2), .slice br L.length dr, x68, Z4, Z4, Z4, (cond b23 (Z8 0) undef), (cond b24 Z4 undef), (cond b25 Z4 undef), (cond b26 Z4 undef), undef, undef, undef, undef, undef, undef, undef, undef, undef, undef, undef, undef, undef, undef, undef, undef, undef, undef, undef, undef, undef, undef, undef, undef, undef], defers := [] } ∧ KK W br dr L A true false x68 undef V) (by kernel_rfl) (by kernel_rfl) ?_ ?_ ?_
     ·exact ⟨false, false, false, false, by kernel_rfl, rfl, Ro⟩
     ·intro i9 listed Zr V hk9 hi9 hr hJ
      obtain ⟨b23, b24, b25, b26, rfl, rfl, hF⟩ := hJ
      have hi3 : i9 = 23 ∨ i9 = 24 ∨ i9 = 25 ∨ i9 = 26 := by omega
      rcases hi3 with rfl | rfl | rfl | rfl
      ·obtain rfl : b23 = false := ZX hr
       refine ZO rfl (by kernel_rfl) (some 72) rfl (Z8 0) V (by kernel_rfl) ?_
       exact ⟨_, _, _, _, rfl, rfl, hF⟩
      ·obtain rfl : b24 = false := ZX hr
       obtain rfl : b23 = true := ZW hr 23
       refine ZO rfl (by kernel_rfl) (some 73) rfl Z4 V (TG rfl 0 0 (decide_eq_true rfl) (by kernel_rfl) (by kernel_rfl) _) ?_
       exact ⟨_, _, _, _, rfl, rfl, hF⟩
      ·obtain rfl : b25 = false := ZX hr
       obtain rfl : b24 = true := ZW hr 24
       refine ZO rfl (by kernel_rfl) (some 74) rfl Z4 V (by kernel_rfl) ?_
       exact ⟨_, _, _, _, rfl, rfl, hF⟩
      ·obtain rfl : b26 = false := ZX hr
       obtain rfl : b25 = true := ZW hr 25
       refine ZO rfl (by kernel_rfl) (some 75) rfl Z4 V (by kernel_rfl) ?_
       exact ⟨_, _, _, _, rfl, rfl, hF⟩
     ·intro Zr V hJ
      obtain ⟨b23, b24, b25, b26, he, rfl, hF⟩ := hJ
      have he : (#[true, true, true, true, true, true, true, true, true, true, true, true, true, true, true, true, true, true, true, true, true, true, true, true, true, true, true, false, false, false, false, false, false, false, false, false, false, false, false, false, false, false, false, false, false, false, false, false, false, false, false, false, false] : Array Bool) = #[true, true, true, true, true, true, true, true, true, true, true, true, true, true, true, true, true, true, true, true, true, true, true, b23, b24, b25, b26, false, false, false, false, false, false, false, false, false, false, false, false, false, false, false, false, false, false, false, false, false, false, false, false, false, false] := Eq.trans (by kernel_rfl) he
      simp only [Array.mk.injEq, List.cons.injEq, and_true, true_and] at he
      obtain ⟨rfl, rfl, rfl, rfl⟩ := he
      simp only [cond_true]
      have Ro := hF
      clear hF
      refine Yg 27 5 (fun listed Zr V => ∃ b27 b28 b29 b30 b31 : Bool, listed = #[true, true, true, true, true, true, true, true, true, true, true, true, true, true, true, true, true, true, true, true, true, true, true, true, true, true, true, b27, b28, b29, b30, b31, false, false, false, false, false, false, false, false, false, false, false, false, false, false, false, false, false, false, false, false, false] ∧ Zr = { tmps := #[ZY, Z5 g1 0, Z8 0, .slice br L.length dr, Z8 0, Z5 g5 0, Z5 g6 0, .slice a7 1 c7, Z8 0, Z5 g9 0, rz, Z8 9, Z5 g12 0, Z8 0, .tuple #[.agg (ZL A a0 a1 a2), Z8 0], .agg (ZA (Xn, 1000, 0)), .slice (some ⟨g0, 0, none⟩) 1 1, .tuple #[.agg (ZL A a0 a1 a2), Z8 0], .agg (ZL A a0 a1 a2), Z8 0, .tuple #[.slice br L.length dr, Z8 0], .agg (Yv (Wn, 5)), .slice (some ⟨g22, 0, none⟩) 1 1, .agg (Zu kU (some ⟨g22, 0, none⟩) 1), .tuple #[.slice br L.length dr, Z8 0], .slice br L.length dr, Z8 0, .agg (ZL A a0 a1 a2), .slice br L.length dr, .agg (ZL B c0 c1 c2), .tuple #[.agg (ZL C e0 e1 e2), .slice a7 1 c7, Z8 0], .agg (ZL B c0 c1 c2), .slice br L.length dr, .slice (some ⟨g33, 0, none⟩) 1 1, .tuple #[.agg (ZL C e0 e1 e2), .slice a7 1 c7, Z8 0], .agg (ZL C e0 e1 e2), .slice a7 1 c7, Z8 0, qz, .agg (ZL C e0 e1 e2), qz, qy, rz, Z8 9, .tuple #[.agg (ZL F p0 p1 p2), Z8 0], .agg (ZL C e0 e1 e2), .tuple #[.agg (ZL F p0 p1 p2), Z8 0], .agg (ZL F p0 p1 p2), Z8 0, Z8 0, Z4, Z4, .agg (ZL A a0 a1 a2), .slice br L.length dr, .agg (ZE q1), Z8 q1.code, Z4, Z4, Z4, .agg (ZL B c0 c1 c2), .slice br L.length dr, .agg (ZE q2), Z8 q2.code, Z4, Z4, Z4, .agg (ZL B c0 c1 c2), .slice br L.length dr, x68, Z4, Z4, Z4, Z8 0, Z4, Z4, Z4, (cond b27 (.slice a7 1 c7) undef), (cond b28 (Z8 1) undef), (cond b29 Z4 undef), (cond b30 Z4 undef), (cond b31 Z4 undef), undef, undef, undef, undef, undef, undef, undef, undef, undef, undef, undef, undef, undef, undef, undef, undef, undef, undef, undef, undef], defers := [] } ∧ KK W br dr L A true false x68 undef V) (by kernel_rfl) (by kernel_rfl) ?_ ?_ ?_
      ·exact ⟨false, false, false, false, false, by kernel_rfl, rfl, Ro⟩
      ·intro i9 listed Zr V hk9 hi9 hr hJ
       obtain ⟨b27, b28, b29, b30, b31, rfl, rfl, hF⟩ := hJ
       have hi3 : i9 = 27 ∨ i9 = 28 ∨ i9 = 29 ∨ i9 = 30 ∨ i9 = 31 := by omega
       rcases hi3 with rfl | rfl | rfl | rfl | rfl
       ·obtain rfl : b27 = false := ZX hr
        refine ZO rfl (by kernel_rfl) (some 76) rfl (.slice a7 1 c7) V (by kernel_rfl) ?_
        exact ⟨_, _, _, _, _, rfl, rfl, hF⟩
       ·obtain rfl : b28 = false := ZX hr
        obtain rfl : b27 = true := ZW hr 27
        refine ZO rfl (by kernel_rfl) (some 77) rfl (Z8 1) V (by kernel_rfl) ?_
        exact ⟨_, _, _, _, _, rfl, rfl, hF⟩
       ·obtain rfl : b29 = false := ZX hr
        obtain rfl : b28 = true := ZW hr 28
        refine ZO rfl (by kernel_rfl) (some 78) rfl Z4 V (Xv rfl 1 1 (decide_eq_true rfl) (by kernel_rfl) (by kernel_rfl) _) ?_
        exact ⟨_, _, _, _, _, rfl, rfl, hF⟩
       ·obtain rfl : b30 = false := ZX hr
        obtain rfl : b29 = true := ZW hr 29
        refine ZO rfl (by kernel_rfl) (some 79) rfl Z4 V (by kernel_rfl) ?_
        exact ⟨_, _, _, _, _, rfl, rfl, hF⟩
       ·obtain rfl : b31 = false := ZX hr
        obtain rfl : b30 = true := ZW hr 30
        refine ZO rfl (by kernel_rfl) (some 80) rfl Z4 V (by kernel_rfl) ?_
        exact ⟨_, _, _, _, _, rfl, rfl, hF⟩
      ·intro Zr V hJ
       obtain ⟨b27, b28, b29, b30, b31, he, rfl, hF⟩ := hJ
       have he : (#[true, true, true, true, true, true, true, true, true, true, true, true, true, true, true, true, true, true, true, true, true, true, true, true, true, true, true, true, true, true, true, true, false, false, false, false, false, false, false, false, false, false, false, false, false, false, false, false, false, false, false, false, false] : Array Bool) = #[true, true, true, true, true, true, true, true, true, true, true, true, true, true, true, true, true, true, true, true, true, true, true, true, true, true, true, b27, b28, b29, b30, b31, false, false, false, false, false, false, false, false, false, false, false, false, false, false, false, false, false, false, false, false, false] := Eq.trans (by kernel_rfl) he
       simp only [Array.mk.injEq, List.cons.injEq, and_true, true_and] at he
       obtain ⟨rfl, rfl, rfl, rfl, rfl⟩ := he
       simp only [cond_true]
       have Ro := hF
       clear hF
       refine Yg 32 4 (fun listed Zr V => ∃ b32 b33 b34 b35 : Bool, listed = #[true, true, true, true, true, true, true, true, true, true, true, true, true, true, true, true, true, true, true, true, true, true, true, true, true, true, true, true, true, true, true, true, b32, b33, b34, b35, false, false, false, false, false, false, false, false, false, false, false, false, false, false, false, false, false] ∧ Zr = { tmps := #[ZY, Z5 g1 0, Z8 0, .slice br L.length dr, Z8 0, Z5 g5 0, Z5 g6 0, .slice a7 1 c7, Z8 0, Z5 g9 0, rz, Z8 9, Z5 g12 0, Z8 0, .tuple #[.agg (ZL A a0 a1 a2), Z8 0], .agg (ZA (Xn, 1000, 0)), .slice (some ⟨g0, 0, none⟩) 1 1, .tuple #[.agg (ZL A a0 a1 a2), Z8 0], .agg (ZL A a0 a1 a2), Z8 0, .tuple #[.slice br L.length dr, Z8 0], .agg (Yv (Wn, 5)), .slice (some ⟨g22, 0, none⟩) 1 1, .agg (Zu kU (some ⟨g22, 0, none⟩) 1), .tuple #[.slice br L.length dr, Z8 0], .slice br L.length dr, Z8 0, .agg (ZL A a0 a1 a2), .slice br L.length dr, .agg (ZL B c0 c1 c2), .tuple #[.agg (ZL C e0 e1 e2), .slice a7 1 c7, Z8 0], .agg (ZL B c0 c1 c2), .slice br L.length dr, .slice (some ⟨g33, 0, none⟩) 1 1, .tuple #[.agg (ZL C e0 e1 e2), .slice a7 1 c7, Z8 0], .agg (ZL C e0 e1 e2), .slice a7 1 c7, Z8 0, qz, .agg (ZL C e0 e1 e2), qz, qy, rz, Z8 9, .tuple #[.agg (ZL F p0 p1 p2), Z8 0], .agg (ZL C e0 e1 e2), .tuple #[.agg (ZL F p0 p1 p2), Z8 0], .agg (ZL F p0 p1 p2), Z8 0, Z8 0, Z4, Z4, .agg (ZL A a0 a1 a2), .slice br L.length dr, .agg (ZE q1), Z8 q1.code, Z4, Z4, Z4, .agg (ZL B c0 c1 c2), .slice br L.length dr, .agg (ZE q2), Z8 q2.code, Z4, Z4, Z4, .agg (ZL B c0 c1 c2), .slice br L.length dr, x68, Z4, Z4, Z4, Z8 0, Z4, Z4, Z4, .slice a7 1 c7, Z8 1, Z4, Z4, Z4, (cond b32 (Z8 9) undef), (cond b33 Z4 undef), (cond b34 Z4 undef), (cond b35 Z4 undef), undef, undef, undef, undef, undef, undef, undef, undef, undef, undef, undef, undef, undef, undef, undef, undef], defers := [] } ∧ KK W br dr L A true false x68 undef V) (by kernel_rfl) (by kernel_rfl) ?_ ?_ ?_
       ·exact ⟨false, false, false, false, by kernel_rfl, rfl, Ro⟩
       ·intro i9 listed Zr V hk9 hi9 hr hJ
        obtain ⟨b32, b33, b34, b35, rfl, rfl, hF⟩ := hJ
        have hi3 : i9 = 32 ∨ i9 = 33 ∨ i9 = 34 ∨ i9 = 35 := by omega
        rcases hi3 with rfl | rfl | rfl | rfl
        ·obtain rfl : b32 = false := ZX hr
         refine ZO rfl (by kernel_rfl) (some 81) rfl (Z8 9) V (by kernel_rfl) ?_
         exact ⟨_, _, _, _, rfl, rfl, hF⟩
        ·obtain rfl : b33 = false := ZX hr
         obtain rfl : b32 = true := ZW hr 32
         refine ZO rfl (by kernel_rfl) (some 82) rfl Z4 V (TG rfl 9 9 (decide_eq_true rfl) (by kernel_rfl) (by kernel_rfl) _) ?_
         exact ⟨_, _, _, _, rfl, rfl, hF⟩
        ·obtain rfl : b34 = false := ZX hr
         obtain rfl : b33 = true := ZW hr 33
         refine ZO rfl (by kernel_rfl) (some 83) rfl Z4 V (by kernel_rfl) ?_
         exact ⟨_, _, _, _, rfl, rfl, hF⟩
        ·obtain rfl : b35 = false := ZX hr
         obtain rfl : b34 = true := ZW hr 34
         refine ZO rfl (by kernel_rfl) (some 84) rfl Z4 V (by kernel_rfl) ?_
         exact ⟨_, _, _, _, rfl, rfl, hF⟩
       ·intro Zr V hJ
        obtain ⟨b32, b33, b34, b35, he, rfl, hF⟩ := hJ
        have he : (#[true, true, true, true, true, true, true, true, true, true, true, true, true, true, true, true, true, true, true, true, true, true, true, true, true, true, true, true, true, true, true, true, true, true, true, true, false, false, false, false, false, false, false, false, false, false, false, false, false, false, false, false, false] : Array Bool) = #[true, true, true, true, true, true, true, true, true, true, true, true, true, true, true, true, true, true, true, true, true, true, true, true, true, true, true, true, true, true, true, true, b32, b33, b34, b35, false, false, false, false, false, false, false, false, false, false, false, false, false, false, false, false, false] := Eq.trans (by kernel_rfl) he
        simp only [Array.mk.injEq, List.cons.injEq, and_true, true_and] at he
        obtain ⟨rfl, rfl, rfl, rfl⟩ := he
        simp only [cond_true]
        have Ro := hF
        clear hF
        refine Yg 36 4 (fun listed Zr V => ∃ b36 b37 b38 b39 : Bool, listed = #[true, true, true, true, true, true, true, true, true, true, true, true, true, true, true, true, true, true, true, true, true, true, true, true, true, true, true, true, true, true, true, true, true, true, true, true, b36, b37, b38, b39, false, false, false, false, false, false, false, false, false, false, false, false, false] ∧ Zr = { tmps := #[ZY, Z5 g1 0, Z8 0, .slice br L.length dr, Z8 0, Z5 g5 0, Z5 g6 0, .slice a7 1 c7, Z8 0, Z5 g9 0, rz, Z8 9, Z5 g12 0, Z8 0, .tuple #[.agg (ZL A a0 a1 a2), Z8 0], .agg (ZA (Xn, 1000, 0)), .slice (some ⟨g0, 0, none⟩) 1 1, .tuple #[.agg (ZL A a0 a1 a2), Z8 0], .agg (ZL A a0 a1 a2), Z8 0, .tuple #[.slice br L.length dr, Z8 0], .agg (Yv (Wn, 5)), .slice (some ⟨g22, 0, none⟩) 1 1, .agg (Zu kU (some ⟨g22, 0, none⟩) 1), .tuple #[.slice br L.length dr, Z8 0], .slice br L.length dr, Z8 0, .agg (ZL A a0 a1 a2), .slice br L.length dr, .agg (ZL B c0 c1 c2), .tuple #[.agg (ZL C e0 e1 e2), .slice a7 1 c7, Z8 0], .agg (ZL B c0 c1 c2), .slice br L.length dr, .slice (some ⟨g33, 0, none⟩) 1 1, .tuple #[.agg (ZL C e0 e1 e2), .slice a7 1 c7, Z8 0], .agg (ZL C e0 e1 e2), .slice a7 1 c7, Z8 0, qz, .agg (ZL C e0 e1 e2), qz, qy, rz, Z8 9, .tuple #[.agg (ZL F p0 p1 p2), Z8 0], .agg (ZL C e0 e1 e2), .tuple #[.agg (ZL F p0 p1 p2), Z8 0], .agg (ZL F p0 p1 p2), Z8 0, Z8 0, Z4, Z4, .agg (ZL A a0 a1 a2), .slice br L.length dr, .agg (ZE q1), Z8 q1.code, Z4, Z4, Z4, .agg (ZL B c0 c1 c2), .slice br L.length dr, .agg (ZE q2), Z8 q2.code, Z4, Z4, Z4, .agg (ZL B c0 c1 c2), .slice br L.length dr, x68, Z4, Z4, Z4, Z8 0, Z4, Z4, Z4, .slice a7 1 c7, Z8 1, Z4, Z4, Z4, Z8 9, Z4, Z4, Z4, (cond b36 (Z8 0) undef), (cond b37 Z4 undef), (cond b38 Z4 undef), (cond b39 Z4 undef), undef, undef, undef, undef, undef, undef, undef, undef, undef, undef, undef, undef], defers := [] } ∧ KK W br dr L A true false x68 undef V) (by kernel_rfl) (by kernel_rfl) ?_ ?_ ?_
        ·exact ⟨false, false, false, false, by kernel_rfl, rfl, Ro⟩
        ·intro i9 listed Zr V hk9 hi9 hr hJ
         obtain ⟨b36, b37, b38, b39, rfl, rfl, hF⟩ := hJ
         have hi3 : i9 = 36 ∨ i9 = 37 ∨ i9 = 38 ∨ i9 = 39 := by omega
         rcases hi3 with rfl | rfl | rfl | rfl
         ·obtain rfl : b36 = false := ZX hr
          refine ZO rfl (by kernel_rfl) (some 85) rfl (Z8 0) V (by kernel_rfl) ?_
          exact ⟨_, _, _, _, rfl, rfl, hF⟩
         ·obtain rfl : b37 = false := ZX hr
          obtain rfl : b36 = true := ZW hr 36
          refine ZO rfl (by kernel_rfl) (some 86) rfl Z4 V (TG rfl 0 0 (decide_eq_true rfl) (by kernel_rfl) (by kernel_rfl) _) ?_
          exact ⟨_, _, _, _, rfl, rfl, hF⟩
         ·obtain rfl : b38 = false := ZX hr
          obtain rfl : b37 = true := ZW hr 37
          refine ZO rfl (by kernel_rfl) (some 87) rfl Z4 V (by kernel_rfl) ?_
          exact ⟨_, _, _, _, rfl, rfl, hF⟩
         ·obtain rfl : b39 = false := ZX hr
          obtain rfl : b38 = true := ZW hr 38
          refine ZO rfl (by kernel_rfl) (some 88) rfl Z4 V (by kernel_rfl) ?_
          exact ⟨_, _, _, _, rfl, rfl, hF⟩
        ·intro Zr V hJ
         obtain ⟨b36, b37, b38, b39, he, rfl, hF⟩ := hJ
         have he : (#[true, true, true, true, true, true, true, true, true, true, true, true, true, true, true, true, true, true, true, true, true, true, true, true, true, true, true, true, true, true, true, true, true, true, true, true, true, true, true, true, false, false, false, false, false, false, false, false, false, false, false, false, false] : Array Bool) = #[true, true, true, true, true, true, true, true, true, true, true, true, true, true, true, true, true, true, true, true, true, true, true, true, true, true, true, true, true, true, true, true, true, true, true, true, b36, b37, b38, b39, false, false, false, false, false, false, false, false, false, false, false, false, false] := Eq.trans (by kernel_rfl) he
         simp only [Array.mk.injEq, List.cons.injEq, and_true, true_and] at he
         obtain ⟨rfl, rfl, rfl, rfl⟩ := he
         simp only [cond_true]
         have Ro := hF
         clear hF
         refine Yg 40 7 (fun listed Zr V => ∃ b40 b41 b42 b43 b44 b45 b46 : Bool, listed = #[true, true, true, true, true, true, true, true, true, true, true, true, true, true, true, true, true, true, true, true, true, true, true, true, true, true, true, true, true, true, true, true, true, true, true, true, true, true, true, true, b40, b41, b42, b43, b44, b45, b46, false, false, false, false, false, false] ∧ Zr = { tmps := #[ZY, Z5 g1 0, Z8 0, .slice br L.length dr, Z8 0, Z5 g5 0, Z5 g6 0, .slice a7 1 c7, Z8 0, Z5 g9 0, rz, Z8 9, Z5 g12 0, Z8 0, .tuple #[.agg (ZL A a0 a1 a2), Z8 0], .agg (ZA (Xn, 1000, 0)), .slice (some ⟨g0, 0, none⟩) 1 1, .tuple #[.agg (ZL A a0 a1 a2), Z8 0], .agg (ZL A a0 a1 a2), Z8 0, .tuple #[.slice br L.length dr, Z8 0], .agg (Yv (Wn, 5)), .slice (some ⟨g22, 0, none⟩) 1 1, .agg (Zu kU (some ⟨g22, 0, none⟩) 1), .tuple #[.slice br L.length dr, Z8 0], .slice br L.length dr, Z8 0, .agg (ZL A a0 a1 a2), .slice br L.length dr, .agg (ZL B c0 c1 c2), .tuple #[.agg (ZL C e0 e1 e2), .slice a7 1 c7, Z8 0], .agg (ZL B c0 c1 c2), .slice br L.length dr, .slice (some ⟨g33, 0, none⟩) 1 1, .tuple #[.agg (ZL C e0 e1 e2), .slice a7 1 c7, Z8 0], .agg (ZL C e0 e1 e2), .slice a7 1 c7, Z8 0, qz, .agg (ZL C e0 e1 e2), qz, qy, rz, Z8 9, .tuple #[.agg (ZL F p0 p1 p2), Z8 0], .agg (ZL C e0 e1 e2), .tuple #[.agg (ZL F p0 p1 p2), Z8 0], .agg (ZL F p0 p1 p2), Z8 0, Z8 0, Z4, Z4, .agg (ZL A a0 a1 a2), .slice br L.length dr, .agg (ZE q1), Z8 q1.code, Z4, Z4, Z4, .agg (ZL B c0 c1 c2), .slice br L.length dr, .agg (ZE q2), Z8 q2.code, Z4, Z4, Z4, .agg (ZL B c0 c1 c2), .slice br L.length dr, x68, Z4, Z4, Z4, Z8 0, Z4, Z4, Z4, .slice a7 1 c7, Z8 1, Z4, Z4, Z4, Z8 9, Z4, Z4, Z4, Z8 0, Z4, Z4, Z4, (cond b40 (Z5 g12 0) undef), (cond b41 (Z5 g12 0) undef), (cond b42 (.slice p0.a F.c.1.length p0.k) undef), (cond b43 (Z8 F.c.1.length) undef), (cond b44 Z4 undef), (cond b45 Z4 undef), (cond b46 Z4 undef), undef, undef, undef, undef, undef], defers := [] } ∧ KK W br dr L A true false x68 undef V) (by kernel_rfl) (by kernel_rfl) ?_ ?_ ?_
         ·exact ⟨false, false, false, false, false, false, false, by kernel_rfl, rfl, Ro⟩
         ·intro i9 listed Zr V hk9 hi9 hr hJ
          obtain ⟨b40, b41, b42, b43, b44, b45, b46, rfl, rfl, hF⟩ := hJ
          have hi3 : i9 = 40 ∨ i9 = 41 ∨ i9 = 42 ∨ i9 = 43 ∨ i9 = 44 ∨ i9 = 45 ∨ i9 = 46 := by omega
          rcases hi3 with rfl | rfl | rfl | rfl | rfl | rfl | rfl
          ·obtain rfl : b40 = false := ZX hr
           refine ZO rfl (by kernel_rfl) (some 89) rfl (Z5 g12 0) V (by kernel_rfl) ?_
           exact ⟨_, _, _, _, _, _, _, rfl, rfl, hF⟩
          ·obtain rfl : b41 = false := ZX hr
           obtain rfl : b40 = true := ZW hr 40
           refine ZO rfl (by kernel_rfl) (some 90) rfl (Z5 g12 0) V (by kernel_rfl) ?_
           exact ⟨_, _, _, _, _, _, _, rfl, rfl, hF⟩
          ·obtain rfl : b42 = false := ZX hr
           obtain rfl : b41 = true := ZW hr 41
           refine Y7 rfl (by kernel_rfl) (some 91) rfl 22 (.tmp 90) rfl ⟨g12, 0, none⟩ (.slice p0.a F.c.1.length p0.k) (by kernel_rfl) ((uG.out.below uG.out.lt hF.bel).ZN 0) ?_
           exact ⟨_, _, _, _, _, _, _, rfl, rfl, hF⟩
          ·obtain rfl : b43 = false := ZX hr
           obtain rfl : b42 = true := ZW hr 42
           refine ZO rfl (by kernel_rfl) (some 92) rfl (Z8 F.c.1.length) V (by kernel_rfl) ?_
           exact ⟨_, _, _, _, _, _, _, rfl, rfl, hF⟩
          ·obtain rfl : b44 = false := ZX hr
           obtain rfl : b43 = true := ZW hr 43
           refine ZO rfl (by kernel_rfl) (some 93) rfl Z4 V (Xv rfl F.c.1.length 2 (decide_eq_true (by have := zK.out; omega)) (by kernel_rfl) (by kernel_rfl) _) ?_
           exact ⟨_, _, _, _, _, _, _, rfl, rfl, hF⟩
          ·obtain rfl : b45 = false := ZX hr
           obtain rfl : b44 = true := ZW hr 44
           refine ZO rfl (by kernel_rfl) (some 94) rfl Z4 V (by kernel_rfl) ?_
           exact ⟨_, _, _, _, _, _, _, rfl, rfl, hF⟩
          ·obtain rfl : b46 = false := ZX hr
           obtain rfl : b45 = true := ZW hr 45
           refine ZO rfl (by kernel_rfl) (some 95) rfl Z4 V (by kernel_rfl) ?_
           exact ⟨_, _, _, _, _, _, _, rfl, rfl, hF⟩
         ·intro Zr V hJ
          obtain ⟨b40, b41, b42, b43, b44, b45, b46, he, rfl, hF⟩ := hJ
          have he : (#[true, true, true, true, true, true, true, true, true, true, true, true, true, true, true, true, true, true, true, true, true, true, true, true, true, true, true, true, true, true, true, true, true, true, true, true, true, true, true, true, true, true, true, true, true, true, true, false, false, false, false, false, false] : Array Bool) = #[true, true, true, true, true, true, true, true, true, true, true, true, true, true, true, true, true, true, true, true, true, true, true, true, true, true, true, true, true, true, true, true, true, true, true, true, true, true, true, true, b40, b41, b42, b43, b44, b45, b46, false, false, false, false, false, false] := Eq.trans (by kernel_rfl) he
          simp only [Array.mk.injEq, List.cons.injEq, and_true, true_and] at he
          obtain ⟨rfl, rfl, rfl, rfl, rfl, rfl, rfl⟩ := he
          simp only [cond_true]
          have Ro := hF
          clear hF
          refine Yg 47 6 (fun listed Zr V => ∃ b47 b48 b49 b50 b51 b52 : Bool, ∃ x97 : Value, listed = #[true, true, true, true, true, true, true, true, true, true, true, true, true, true, true, true, true, true, true, true, true, true, true, true, true, true, true, true, true, true, true, true, true, true, true, true, true, true, true, true, true, true, true, true, true, true, true, b47, b48, b49, b50, b51, b52] ∧ Zr = { tmps := #[(cond b52 Z4 ZY), Z5 g1 0, Z8 0, .slice br L.length dr, Z8 0, Z5 g5 0, Z5 g6 0, .slice a7 1 c7, Z8 0, Z5 g9 0, rz, Z8 9, Z5 g12 0, Z8 0, .tuple #[.agg (ZL A a0 a1 a2), Z8 0], .agg (ZA (Xn, 1000, 0)), .slice (some ⟨g0, 0, none⟩) 1 1, .tuple #[.agg (ZL A a0 a1 a2), Z8 0], .agg (ZL A a0 a1 a2), Z8 0, .tuple #[.slice br L.length dr, Z8 0], .agg (Yv (Wn, 5)), .slice (some ⟨g22, 0, none⟩) 1 1, .agg (Zu kU (some ⟨g22, 0, none⟩) 1), .tuple #[.slice br L.length dr, Z8 0], .slice br L.length dr, Z8 0, .agg (ZL A a0 a1 a2), .slice br L.length dr, .agg (ZL B c0 c1 c2), .tuple #[.agg (ZL C e0 e1 e2), .slice a7 1 c7, Z8 0], .agg (ZL B c0 c1 c2), .slice br L.length dr, .slice (some ⟨g33, 0, none⟩) 1 1, .tuple #[.agg (ZL C e0 e1 e2), .slice a7 1 c7, Z8 0], .agg (ZL C e0 e1 e2), .slice a7 1 c7, Z8 0, qz, .agg (ZL C e0 e1 e2), qz, qy, rz, Z8 9, .tuple #[.agg (ZL F p0 p1 p2), Z8 0], .agg (ZL C e0 e1 e2), .tuple #[.agg (ZL F p0 p1 p2), Z8 0], .agg (ZL F p0 p1 p2), Z8 0, Z8 0, Z4, Z4, .agg (ZL A a0 a1 a2), .slice br L.length dr, .agg (ZE q1), Z8 q1.code, Z4, Z4, Z4, .agg (ZL B c0 c1 c2), .slice br L.length dr, .agg (ZE q2), Z8 q2.code, Z4, Z4, Z4, .agg (ZL B c0 c1 c2), .slice br L.length dr, x68, Z4, Z4, Z4, Z8 0, Z4, Z4, Z4, .slice a7 1 c7, Z8 1, Z4, Z4, Z4, Z8 9, Z4, Z4, Z4, Z8 0, Z4, Z4, Z4, Z5 g12 0, Z5 g12 0, .slice p0.a F.c.1.length p0.k, Z8 F.c.1.length, Z4, Z4, Z4, (cond b47 (.agg (ZL B c0 c1 c2)) undef), x97, (cond b49 (.agg (ZL A a0 a1 a2)) undef), (cond b50 Z4 undef), (cond b51 Z4 undef)], defers := [] } ∧ KK W br dr L A true b48 x68 x97 V) (by kernel_rfl) (by kernel_rfl) ?_ ?_ ?_
          ·exact ⟨false, false, false, false, false, false, undef, by kernel_rfl, rfl, Ro⟩
          ·intro i9 listed Zr V hk9 hi9 hr hJ
           obtain ⟨b47, b48, b49, b50, b51, b52, x97, rfl, rfl, hF⟩ := hJ
           have hi3 : i9 = 47 ∨ i9 = 48 ∨ i9 = 49 ∨ i9 = 50 ∨ i9 = 51 ∨ i9 = 52 := by omega
           rcases hi3 with rfl | rfl | rfl | rfl | rfl | rfl
           ·obtain rfl : b47 = false := ZX hr
            refine Y7 rfl (by kernel_rfl) (some 96) rfl 35 (.tmp 5) rfl ⟨g5, 0, none⟩ (.agg (ZL B c0 c1 c2)) (by kernel_rfl) (Xx (HXB.out.below HXB.out.lt hF.bel)) ?_
            exact ⟨_, _, _, _, _, _, _, rfl, rfl, hF⟩
           ·obtain rfl : b48 = false := ZX hr
            obtain rfl : b47 = true := ZW hr 47
            refine XD rfl (by kernel_rfl) (some 97) rfl 20 #[.agg (ZL B c0 c1 c2)] (by kernel_rfl) ((zq B c0 c1 c2 V (aS.out.below hF.bel) dG.out).mono fun e w' z => ?_)
            rw [HF8.out] at z
            obtain ⟨v, rfl, m0, m1, m2, rfl, hi, hb⟩ := z
            exact ⟨_, rfl, _, _, _, _, _, _, _, rfl, rfl, ⟨(hF.go hb).bel, (hF.go hb).rw, fun _ => ⟨m0, m1, m2, rfl, hi⟩⟩⟩
           ·obtain rfl : b49 = false := ZX hr
            refine Y7 rfl (by kernel_rfl) (some 98) rfl 35 (.tmp 1) rfl ⟨g1, 0, none⟩ (.agg (ZL A a0 a1 a2)) (by kernel_rfl) (Xx (uI.out.below uI.out.lt hF.bel)) ?_
            exact ⟨_, _, _, _, _, _, _, rfl, rfl, hF⟩
           ·obtain rfl : b50 = false := ZX hr
            obtain rfl : b48 = true := ZW hr 48
            obtain rfl : b49 = true := ZW hr 49
            obtain ⟨m0, m1, m2, rfl, hi⟩ := hF.rs rfl
            refine XD rfl (by kernel_rfl) (some 99) rfl 12 #[.agg (ZL A m0 m1 m2), .agg (ZL A a0 a1 a2)] (by kernel_rfl) ((EJ A m0 m1 m2 a0 a1 a2 V hi (kY.out.below hF.bel) aV.out).mono fun e w' z => ?_)
            obtain ⟨rfl, hb⟩ := z
            exact ⟨_, rfl, _, _, _, _, _, _, _, rfl, rfl, hF.go hb⟩
           ·obtain rfl : b51 = false := ZX hr
            obtain rfl : b50 = true := ZW hr 50
            refine ZO rfl (by kernel_rfl) (some 100) rfl Z4 V (by kernel_rfl) ?_
            exact ⟨_, _, _, _, _, _, _, rfl, rfl, hF⟩
           ·obtain rfl : b52 = false := ZX hr
            obtain rfl : b51 = true := ZW hr 51
            refine ZO rfl (by kernel_rfl) (some 0) rfl Z4 V (by kernel_rfl) ?_
            exact ⟨_, _, _, _, _, _, _, rfl, rfl, hF⟩
          ·intro Zr V hJ
           obtain ⟨b47, b48, b49, b50, b51, b52, x97, he, rfl, hF⟩ := hJ
           have he : (#[true, true, true, true, true, true, true, true, true, true, true, true, true, true, true, true, true, true, true, true, true, true, true, true, true, true, true, true, true, true, true, true, true, true, true, true, true, true, true, true, true, true, true, true, true, true, true, true, true, true, true, true, true] : Array Bool) = #[true, true, true, true, true, true, true, true, true, true, true, true, true, true, true, true, true, true, true, true, true, true, true, true, true, true, true, true, true, true, true, true, true, true, true, true, true, true, true, true, true, true, true, true, true, true, true, b47, b48, b49, b50, b51, b52] := Eq.trans (by kernel_rfl) he
           simp only [Array.mk.injEq, List.cons.injEq, and_true, true_and] at he
           obtain ⟨rfl, rfl, rfl, rfl, rfl, rfl⟩ := he
           simp only [cond_true]
           refine ED ?_
           have HE := Z9 (HB.out.trans (hF.bel.mono HB.out.size))
           clear hF
           go_wp2_with fail
           go_ret
           exact ⟨rfl, HE.out⟩
end Go.Proofs.Ytnhlpahoomcgnaa.Lg
namespace Go.Proofs.Ytnhlpahoomcgnaa.Lg
open Mo (Zd Zm YL YU)
open Go.RowKit
end Go.Proofs.Ytnhlpahoomcgnaa.Lg
namespace Go.Proofs.Ytnhlpahoomcgnaa.Lg
open Mo (Zd Zm YL YU)
open Go.RowKit
end Go.Proofs.Ytnhlpahoomcgnaa.Lg
namespace Go.Proofs.Ytnhlpahoomcgnaa.Lg
open Mo (Zd Zm YL YU)
open Go.RowKit
theorem EK (A : List Ac) (a : Option Addr) (k : Nat) (p : Int) (w : World) (hR : Cs w a (acc A)) (hn : A.length ≤ 4398046511104) (hw : Xz A) (hz : ∀ x, x ∈ A → x.1.size ≤ 140737488355328) :
  Calls Try.prog 11 #[.slice a A.length k, Z7 p] w (MH w (Xo A p)) :=
 (Af A a k p w hR hn hw hz).mono fun e w' q => by
  rcases q with ⟨h0, ad, kk, h1, h2, h3, -, h5⟩ | ⟨h0, h1, h2⟩
  ·have e1 : Xo A p = (Me (X4 A).1 p, 0) := by unfold Xo; rw [if_pos h0]
   rw [e1]
   exact ⟨⟨ad, kk⟩, ⟨ad, kk⟩, Yb, h1, ⟨⟨h2, h3⟩, ⟨h2, h3⟩, Uo.nil _⟩, h5⟩
  ·have e1 : Xo A p = (Uw, (X4 A).2) := by unfold Xo; rw [if_neg h0]
   rw [e1]
   exact ⟨Yb, Yb, Yb, h1, WA.z _, h2⟩
end Go.Proofs.Ytnhlpahoomcgnaa.Lg
