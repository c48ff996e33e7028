/-
  Texts LH LS MS joined.
-/
import Derived.Test.YtnhlpahoomcgnaaJ12
import Derived.Test.YtnhlpahoomcgnaaJ1
set_option maxRecDepth 100000
set_option maxHeartbeats 8000000
set_option linter.unusedSimpArgs false
set_option linter.unusedVariables false
namespace Go.Proofs.Ytnhlpahoomcgnaa.Lg
attribute [local irreducible] wpList wpQuiet
open Go.RowKit
theorem L6 {A : List Ac} {j : Nat} (B : List Ac) (h : j < A.length) : YI B (A.drop j) = if isName (nums (aca A j).1) = false then ([], 10) else if Ze B (aca A j).1 < B.length then ([], 8) else YI (Y9 B (aca A j)) (A.drop (j + 1)) := by
 rw [List.drop_eq_getElem_cons h, ← YH h]
 rfl
theorem Iy (A B : List Ac) : YI B (A.drop A.length) = (B, 0) := by rw [List.drop_length]; rfl
def PU (B : List Ac) : List Ac × Int × Int := if Yp B 0 = true then (B, 0, 0) else ([], 0, 6)
def Rk (A : List Ac) : List Ac × Int × Int := ((X4 A).1, 0, (X4 A).2)
theorem LZ {A : List Ac} (h : 256 < A.length) : Rk A = ([], 0, 3) := by unfold Rk X4; rw [if_pos h]
theorem LY {A : List Ac} {e : Int} (h : ¬ 256 < A.length) (hg : YI [] A = ([], e)) (he : e ≠ 0) : Rk A = ([], 0, e) := by
 unfold Rk X4
 rw [if_neg h, hg]
 simp only [ne_eq, he, not_false_eq_true, if_true]
theorem Iw {A B : List Ac} (h : ¬ 256 < A.length) (hg : YI [] A = (B, 0)) : Rk A = PU B := by
 unfold Rk X4 PU
 rw [if_neg h, hg]
 simp only [ne_eq, not_true_eq_false, if_false]
 split <;> rfl
theorem QF {w w0 : World} {g B : Nat} {a a' : Option Addr} {n n' k k' : Nat} {c : Int} (h : Bx w g (ZU a n k c) 33) (hb : Below B w0 w) (hg : B ≤ g) :
  ∃ V, (Instr.storeAt 22 (Z5 g 0) (.slice a' n' k')).run Try.prog w = .ok () V ∧ Bx V g (ZU a' n' k' c) 33 ∧ Below B w0 V ∧ But g w V :=
 Zb h hb hg (by simp) rfl (by kernel_rfl) rfl
theorem QE {w : World} {g B n : Nat} {v : Value} {A : List Ac} {x : Array Value} (h : w.ownsRow B 49 3 v n (acc A)) (hg : g < B) : (w.setRow g x).ownsRow B 49 3 v n (acc A) := Zv h (But.setRow _ _) hg
theorem Gv (a : Option Addr) (k : Nat) (A : List Ac) (w : World) (hR : Cs w a (acc A)) (hn : A.length ≤ 4398046511104) (hw : Xz A) (hz : ∀ x, x ∈ A → x.1.size ≤ 140737488355328) :
  Calls Try.prog 22 #[.slice a A.length k] w (Yx w (Rk A)) := by
 obtain ⟨hb0, hX0, Uk⟩ := Zi w (ZU none 0 0 0) (ZU none 0 0 0) 33 33
 have hb1 : Below w.heap.size w (w.alloc (.cells (ZU none 0 0 0) 33)) := (Below.refl _ w).alloc (Nat.le_refl _) _
 have hX1 : Bx (w.alloc (.cells (ZU none 0 0 0) 33)) w.heap.size (ZU none 0 0 0) 33 := heap_alloc_last w _
 have HA := Z9 (hR.below hb0)
 have jW := Z9 hz
 have HAT := Z9 (fun V (h : Below w.heap.size w V) => hR.below h)
 have QX : Hid (∀ B j, j ≤ A.length → YI [] A = YI B (A.drop j) → Xz B → ∀ P, YI [] A = (P, 0) → Xz P) := Z9 fun B j h1 h2 h3 P h4 => by
  have := Iu (A.drop j) B h3 (fun x hx => VN hw x (List.mem_of_mem_drop hx))
  rw [← h2, h4] at this
  exact this
 have qW : Hid (∀ B j, j < A.length → Xz B → Xz (Y9 B (aca A j))) := Z9 fun B j h1 h2 => Pm h2 (hw j h1)
 have HST := Z9 (fun (j : Nat) (B : List Ac) (h : j < A.length) => L6 B h)
 have qV := Z9 (Iy A)
 obtain ⟨r, hr⟩ := ZR (Rk A)
 have LX : Hid (256 < A.length → r = ([], 0, 3)) := Z9 fun h => by rw [← hr]; exact LZ h
 have QY : Hid (∀ e, ¬ 256 < A.length → YI [] A = ([], e) → e ≠ 0 → r = ([], 0, e)) := Z9 fun e h1 h2 h3 => by rw [← hr]; exact LY h1 h2 h3
 have Gw : Hid (∀ B, ¬ 256 < A.length → YI [] A = (B, 0) → r = PU B) := Z9 fun B h1 h2 => by rw [← hr]; exact Iw h1 h2
 have zf : Hid (YI [] A = YI [] (A.drop 0)) := Z9 (by rw [List.drop_zero])
 obtain ⟨n, hnn⟩ := ZR A.length
 have HN := Z9 hnn
 have TI : Hid (n ≤ 4398046511104) := Z9 (by omega)
 rw [hnn] at LX QY Gw HST qV qW QX
 rw [hnn, hr]
 generalize YI [] A = qU at *
 clear hR hn hr hw hz
 go_enter Try.func22, Try.ntmps22
 go_upto_region 1 with fail
 change Code.wp _ _ _ _ (w.alloc (.cells (ZU none 0 0 0) 33))
 by_cases hbig : 256 < n
 ·obtain rfl := LX.out hbig
  generalize w.alloc (.cells (ZU none 0 0 0) 33) = W at *
  obtain ⟨g1, hg1⟩ := ZR w.heap.size
  have Rj : Hid (w.heap.size ≤ g1) := Z9 (by omega)
  rw [hg1] at hX1
  simp only [hg1]
  have HB1 := Z9 hb1
  refine wl <| ZG (.slice a n k) (Z8 n) <| ZM (Zl rfl (n) (256) dT) <| wn ?_
  simp only [pu]
  have hst := ZJ (a' := none) (n' := 0) (k' := 0) (c' := 0) hX1
  have Zj := Z9 (ZT HB1.out Rj.out (ZU none 0 0 0))
  have Y0 := Z9 (ZQ hst.2)
  have hst1 := hst.1
  generalize World.setRow W g1 (ZU none 0 0 0) = V9 at *
  clear hst
  go_upto_region 2 with fail
  refine wl <| ZV (.agg #[.slice none 0 0, Z7 0]) <| Zt rfl (hst1) <| ZV (Z8 3) <| wn ?_
  simp only [pu]
  clear hst1 hX1
  go_wp2_with fail
  exact bodyPost_ret (ZP (p := 2) (q := 3) rfl (by kernel_rfl) Y0.out rfl) rfl (Yx.err Zj.out)
 have Vo := Z9 hbig
 refine wl <| ZG (.slice a n k) (Z8 n) <| ZM (Zl rfl (n) (256) dF) <| wn ?_
 simp only [pu]
 clear hbig LX hb1 hX1
 go_upto_region 4 with fail
 change Code.wp _ _ _ _ ((w.alloc (.cells (ZU none 0 0 0) 33)).alloc (.cells (ZU none 0 0 0) 33))
 generalize (w.alloc (.cells (ZU none 0 0 0) 33)).alloc (.cells (ZU none 0 0 0) 33) = W at *
 obtain ⟨g1, hg1⟩ := ZR w.heap.size
 obtain ⟨g2, hg2⟩ := ZR (w.heap.size + 1)
 have Rj : Hid (w.heap.size ≤ g1) := Z9 (by omega)
 have qR : Hid (w.heap.size ≤ g2) := Z9 (by omega)
 have Eh : Hid (w.heap.size ≤ W.heap.size) := Z9 hb0.size
 have VR : Hid (g1 < W.heap.size ∧ g2 < W.heap.size ∧ g1 ≠ g2) := Z9 ⟨by have := hX0.lt; omega, by have := Uk.lt; omega, by omega⟩
 have HB0 := Z9 hb0
 rw [hg2] at Uk
 rw [hg1] at hX0
 simp only [hg1]
 rw [show g1 + 1 = g2 by omega]
 have HX := Z9 hX0
 have HZ := Z9 Uk
 clear hb0 hg1 hg2 hX0 Uk hnn
 refine wl <| YT (.slice a n k) (Z8 n) (Z8 0) <| wn ?_
 simp only [pu]
 have zJ : Hid (∃ (a9 : Option Addr) (k9 : Nat) (B : List Ac), Bx W g2 (ZU a9 B.length k9 0) 33 ∧ ZB W W.heap.size (.slice a9 B.length k9) B ∧ B.length = 0 ∧ Rl B ∧ Pj B ∧ Xz B ∧ qU = YI B (A.drop 0)) := Z9 ⟨none, 0, [], HZ.out, TA _ _, rfl, Oi, Oh, XB, zf.out⟩
 clear zf HZ
 go_wp2_with fail
 go_loopg [15] n (fun gg s15 wx => ∃ j : Nat, s15 = Z8 j ∧ j ≤ n ∧ Hid (∃ (a9 : Option Addr) (k9 : Nat) (B : List Ac), Bx wx g2 (ZU a9 B.length k9 0) 33 ∧ ZB wx W.heap.size (.slice a9 B.length k9) B ∧ B.length = j ∧ Rl B ∧ Pj B ∧ Xz B ∧ qU = YI B (A.drop j)) ∧ Hid (Bx wx g1 (ZU none 0 0 0) 33 ∧ Below w.heap.size w wx ∧ Cs wx a (acc A) ∧ W.heap.size ≤ wx.heap.size) ∧ n - j = gg)
 case atStart => exact ⟨0, rfl, by omega, zJ, Z9 ⟨HX.out, HB0.out, HA.out, Nat.le_refl _⟩, by omega⟩
 case round =>
  clear zJ HA HX HB0
  obtain ⟨j, rfl, hj, HS, HQ, hg⟩ := hrel
  have EO := TI.out
  have HG := Z9 hg
  clear hg
  by_cases hlt : j < n
  ·obtain ⟨b, off, rfl, -, hrx⟩ := YS HQ.out.2.2.1 (k := j) (by rw [HN.out]; exact hlt)
   have LW := Z9 (Ym hrx)
   have y9 := Z9 (HST.out j)
   have aB := Z9 (jW.out (aca A j) (UM (by rw [HN.out]; exact hlt)))
   have y8 := Z9 (fun B => qW.out B j hlt)
   generalize aca A j = y at *
   obtain ⟨V2, hst, hb2, hbx⟩ := WW wr y
   have CN := Vg y.1 V2
   generalize hnm : isName (nums y.1) = nm at *
   clear hrx
   go_upto_region 5 with fail
   refine wl <| ZM (ZC rfl (j) (n) dT) <| wn ?_
   simp only [pu]
   go_upto_region 6 with fail
   refine wl <| YO (Z5 b (off + j * 3)) (YR b off n k j hlt _ _ _ rfl (by kernel_rfl) (by kernel_rfl)) <| ZI rfl ⟨b, off + j * 3, none⟩ (.agg (ZA y)) (LW.out) ?_
   simp only [pu]
   refine Zz rfl (some 6) rfl (Z5 wr.heap.size 0) (wr.alloc (.cells (ZA Xg) 49)) (by kernel_rfl) ?_
   simp only [pu]
   refine Zt rfl (hst) <| wn ?_
   obtain ⟨g4, hg4⟩ := ZR wr.heap.size
   rw [hg4] at hbx ⊢
   clear hst hg4 LW
   go_upto_region 7 with fail
   cases nm
   ·refine wl <| ZV (Z5 g4 0) <| ZI rfl ⟨g4, 0, none⟩ (.string y.1) (hbx.ZN 0) <| Y2 ZY (fun w' => Below V2.heap.size V2 w') (CN) (fun V3 XE => ?_)
    simp only [pu]
    refine ZV Z4 <| wn ?_
    simp only [pu]
    have hb3 := hb2.trans (XE.mono hb2.size)
    have YK := Z9 (hbx.below hbx.lt XE)
    clear XE hbx CN hb2
    obtain ⟨a9, k9, B, hq1, hq2, hq3, hq4, hq5, hq6, hq7⟩ := HS.out
    have Xf := Z9 (hq1.below hq1.lt hb3)
    have Wq := Z9 (own_below hq2 hb3)
    have Vm := Z9 (HQ.out.1.below HQ.out.1.lt hb3)
    have Ut := Z9 (HQ.out.2.1.trans (hb3.mono HQ.out.2.1.size))
    have Gu := Z9 (HQ.out.2.2.1.below hb3)
    have Ir : Hid (W.heap.size ≤ V3.heap.size) := Z9 (Nat.le_trans HQ.out.2.2.2 hb3.size)
    have Tz := y9.out B hlt
    rw [← hq7] at Tz
    clear hq1 hq2 HS hb3 HQ y9
    rw [if_pos rfl] at Tz
    obtain rfl := QY.out 10 Vo.out Tz (by decide)
    clear Tz hq3 hq4 hq5 hq6 hq7 y8 Xf Wq Gu YK hnm
    have hst := ZJ (a' := none) (n' := 0) (k' := 0) (c' := 0) Vm.out
    have Zj := Z9 (ZT Ut.out Rj.out (ZU none 0 0 0))
    have Y0 := Z9 (ZQ hst.2)
    have hst1 := hst.1
    generalize World.setRow V3 g1 (ZU none 0 0 0) = V9 at *
    clear hst
    go_upto_region 8 with fail
    refine wl <| ZV (.agg #[.slice none 0 0, Z7 0]) <| Zt rfl (hst1) <| ZV (Z8 10) <| wn ?_
    simp only [pu]
    clear hst1 Vm
    go_wp2_with fail
    exact bodyPost_ret (ZP (p := 2) (q := 3) rfl (by kernel_rfl) Y0.out rfl) rfl (Yx.err Zj.out)
   ·refine wl <| ZV (Z5 g4 0) <| ZI rfl ⟨g4, 0, none⟩ (.string y.1) (hbx.ZN 0) <| Y2 Z4 (fun w' => Below V2.heap.size V2 w') (CN) (fun V3 XE => ?_)
    simp only [pu]
    refine ZV ZY <| wn ?_
    simp only [pu]
    have hb3 := hb2.trans (XE.mono hb2.size)
    have YK := Z9 (hbx.below hbx.lt XE)
    clear XE hbx CN hb2
    obtain ⟨a9, k9, B, hq1, hq2, hq3, hq4, hq5, hq6, hq7⟩ := HS.out
    have Xf := Z9 (hq1.below hq1.lt hb3)
    have Wq := Z9 (own_below hq2 hb3)
    have Vm := Z9 (HQ.out.1.below HQ.out.1.lt hb3)
    have Ut := Z9 (HQ.out.2.1.trans (hb3.mono HQ.out.2.1.size))
    have Gu := Z9 (HQ.out.2.2.1.below hb3)
    have Ir : Hid (W.heap.size ≤ V3.heap.size) := Z9 (Nat.le_trans HQ.out.2.2.2 hb3.size)
    have Tz := y9.out B hlt
    rw [← hq7] at Tz
    clear hq1 hq2 HS hb3 HQ y9
    rw [if_neg (by simp)] at Tz
    have jV : Hid (B.length ≤ 256) := Z9 (by have := Vo.out; omega)
    obtain ⟨m, hm⟩ := ZR B.length
    obtain ⟨a8, k8, ea, hcb, hck⟩ := Yj Wq.out
    simp only [Value.slice.injEq, true_and] at ea
    obtain ⟨rfl, rfl⟩ := ea
    have CP := IB a9 k9 B y.1 V3 hcb hq4 (by have := jV.out; omega)
    by_cases hf : Ze B y.1 < B.length
    ·rw [if_pos hf] at Tz
     rw [decide_eq_true hf] at CP
     obtain rfl := QY.out 8 Vo.out Tz (by decide)
     generalize Y1 B y.1 = li at *
     rw [hm] at Xf Wq CP
     clear Tz hq4 hq5 hq6 hq7 y8 hcb hck hf hnm
     go_upto_region 9 with fail
     refine wl <| ZV (Z5 g2 0) <| ZI rfl ⟨g2, 0, none⟩ (.slice a9 m k9) (Xf.out.ZN 0) <| ZV (Z5 g4 0) <| ZI rfl ⟨g4, 0, none⟩ (.string y.1) (YK.out.ZN 0) <|
      Y2 (.tuple #[Z8 li, Z4]) (fun w' => Below V3.heap.size V3 w') (CP) (fun V4 WV => ?_)
     simp only [pu]
     refine Sz (.tuple #[Z8 li, Z4]) (Z8 li) Z4 (Z8 li) Z4 <| wn ?_
     simp only [pu]
     replace Vm := Z9 (Vm.out.below Vm.out.lt WV)
     replace Ut := Z9 (Ut.out.trans (WV.mono Ut.out.size))
     clear CP
     clear Xf Wq Gu YK WV
     have hst := ZJ (a' := none) (n' := 0) (k' := 0) (c' := 0) Vm.out
     have Zj := Z9 (ZT Ut.out Rj.out (ZU none 0 0 0))
     have Y0 := Z9 (ZQ hst.2)
     have hst1 := hst.1
     generalize World.setRow V4 g1 (ZU none 0 0 0) = V9 at *
     clear hst
     go_upto_region 10 with fail
     refine wl <| ZV Z4 <| wn ?_
     simp only [pu]
     go_upto_region 11 with fail
     refine wl <| ZV (.agg #[.slice none 0 0, Z7 0]) <| Zt rfl (hst1) <| ZV (Z8 8) <| wn ?_
     simp only [pu]
     clear hst1 Vm
     go_wp2_with fail
     exact bodyPost_ret (ZP (p := 2) (q := 3) rfl (by kernel_rfl) Y0.out rfl) rfl (Yx.err Zj.out)
    ·rw [if_neg hf] at Tz
     rw [decide_eq_false hf] at CP
     have CI := fun V (h : V.ownsRow W.heap.size 49 3 (.slice a9 B.length k9) B.length (acc B)) (h2 : W.heap.size ≤ V.heap.size) => L9 (.slice a9 B.length k9) B y (Y1 B y.1) W.heap.size V h h2 (VK B y.1) (by have := jV.out; omega)
     rw [← VO hf] at CI
     generalize Y1 B y.1 = li at *
     have Ef : Hid (Rl (Y9 B y) ∧ Pj (Y9 B y) ∧ Xz (Y9 B y) ∧ (Y9 B y).length = j + 1) := Z9 ⟨UL hq4, UK hq5 hnm, y8.out B hq6, by rw [Ye, if_neg hf]; omega⟩
     have jU := Z9 Tz
     generalize Y9 B y = P at *
     rw [hm] at Xf Wq CP CI
     clear Tz hq4 hq5 hq6 hq7 y8 hcb hf hnm
     go_upto_region 9 with fail
     refine wl <| ZV (Z5 g2 0) <| ZI rfl ⟨g2, 0, none⟩ (.slice a9 m k9) (Xf.out.ZN 0) <| ZV (Z5 g4 0) <| ZI rfl ⟨g4, 0, none⟩ (.string y.1) (YK.out.ZN 0) <|
      Y2 (.tuple #[Z8 li, ZY]) (fun w' => Below V3.heap.size V3 w') (CP) (fun V4 WV => ?_)
     simp only [pu]
     refine Sz (.tuple #[Z8 li, ZY]) (Z8 li) ZY (Z8 li) ZY <| wn ?_
     simp only [pu]
     replace Vm := Z9 (Vm.out.below Vm.out.lt WV)
     replace Ut := Z9 (Ut.out.trans (WV.mono Ut.out.size))
     clear CP
     replace Xf := Z9 (Xf.out.below Xf.out.lt WV)
     replace Wq := Z9 (own_below Wq.out WV)
     replace Gu := Z9 (Gu.out.below WV)
     replace Ir : Hid (W.heap.size ≤ V4.heap.size) := Z9 (Nat.le_trans Ir.out WV.size)
     have jT := Z9 (YK.out.below YK.out.lt WV)
     clear YK WV
     have CJ := CI V4 Wq.out Ir.out
     clear CI
     go_upto_region 10 with fail
     refine wl <| ZV ZY <| wn ?_
     simp only [pu]
     go_upto_region 12 with fail
     refine wl <| ZV (Z5 g2 0) <| ZI rfl ⟨g2, 0, none⟩ (.slice a9 m k9) (Xf.out.ZN 0) <| ZV (Z8 li) <| ZI rfl ⟨g4, 0, none⟩ (.agg (ZA y)) (Zn jT.out) <|
      Yl (fun v w' => ZB w' W.heap.size v P ∧ Below W.heap.size V4 w') (CJ.mono fun e w' q => by obtain ⟨v, h1, h2, h3⟩ := q; exact ⟨v, h1, h2, h3⟩) (fun v5 V5 hq => ?_)
     obtain ⟨SC, hb5⟩ := hq
     obtain ⟨a5, k5, rfl, -, -⟩ := SC.cs
     obtain ⟨V6, Xm, Uu, hb6, XY⟩ := QF (a' := a5) (n' := P.length) (k' := k5) (Xf.out.below VR.out.2.1 hb5) (B := w.heap.size) (w0 := w) (Ut.out.trans (hb5.mono (by have := Eh.out; omega))) (by have := qR.out; omega)
     simp only [pu]
     refine ZV (Z5 g2 0) <| Zt rfl (Xm) <| wn ?_
     simp only [pu]
     have Gt : Hid (∃ (a9 : Option Addr) (k9 : Nat) (B : List Ac), Bx V6 g2 (ZU a9 B.length k9 0) 33 ∧ ZB V6 W.heap.size (.slice a9 B.length k9) B ∧ B.length = j + 1 ∧ Rl B ∧ Pj B ∧ Xz B ∧ qU = YI B (A.drop (j + 1))) := Z9 ⟨a5, k5, P, Uu, Zv SC XY VR.out.2.1, Ef.out.2.2.2, Ef.out.1, Ef.out.2.1, Ef.out.2.2.1, jU.out⟩
     have aA : Hid (Bx V6 g1 (ZU none 0 0 0) 33 ∧ Below w.heap.size w V6 ∧ Cs V6 (some ⟨b, off, none⟩) (acc A) ∧ W.heap.size ≤ V6.heap.size) := Z9 ⟨(Vm.out.below VR.out.1 hb5).but XY VR.out.2.2, hb6, HAT.out V6 hb6, Nat.le_trans Ir.out (Nat.le_trans hb5.size XY.1.size)⟩
     clear SC hb5 Xm Uu hb6 XY CJ jT Xf Wq Gu Vm Ut Ir Ef jU
     go_upto_region 13 with fail
     refine wl <| YN (Z8 (j + 1 : Nat)) (ZK rfl j 1 (by omega)) <| ZV (Z8 (j + 1 : Nat)) <| wn ?_
     simp only [pu]
     go_wp2_with fail
     go_roundg (n - (j + 1))
     case measure => have := HG.out; omega
     case rel => exact ⟨j + 1, rfl, hlt, Gt, aA, rfl⟩
  ·obtain rfl : n = j := by omega
   obtain ⟨a9, k9, B, hq1, hq2, hq3, hq4, hq5, hq6, hq7⟩ := HS.out
   rw [qV.out B] at hq7
   obtain rfl := Gw.out B Vo.out hq7
   obtain ⟨a8, k8, ea, hcb, hck⟩ := hq2.cs
   simp only [Value.slice.injEq, true_and] at ea
   obtain ⟨rfl, rfl⟩ := ea
   have CT := Sr a9 k9 B 0 wr hcb (by have := Vo.out; omega) X0 hq6
   have Vm := Z9 HQ.out.1
   have Ut := Z9 HQ.out.2.1
   have Xf := Z9 hq1
   have Wq := Z9 (show wr.ownsRow W.heap.size 49 3 (.slice a9 B.length k9) B.length (acc B) from hq2)
   have HRR : Hid (PU B = cond (Yp B 0) (B, 0, 0) ([], 0, 6)) := Z9 (by unfold PU; cases Yp B 0 <;> simp)
   clear HQ HS hq1 hq2 hq3 hq4 hq5 hq6 hq7 qV Gw QY HST QX qW jW hcb hck HAT
   generalize hm : B.length = m at *
   generalize PU B = rr at *
   go_upto_region 5 with fail
   refine wl <| ZM (ZC rfl (n) (n) dF) <| wn ?_
   simp only [pu]
   generalize Yp B 0 = tb at *
   cases tb
   ·obtain rfl := HRR.out
    go_upto_region 14 with fail
    refine wl <| ZI rfl ⟨g2, 0, none⟩ (.agg (ZU a9 m k9 0)) (ZQ Xf.out) <| Y2 (.tuple #[.agg (ZU none 0 0 0), Z8 6]) (fun w' => Below wr.heap.size wr w') CT (fun V4 WV => ?_)
    have JG := Z9 (Vm.out.below Vm.out.lt WV)
    have JF := Z9 (Ut.out.trans (WV.mono Ut.out.size))
    have Ee := Z9 (own_below Wq.out WV)
    have hst := ZJ (a' := none) (n' := 0) (k' := 0) (c' := 0) JG.out
    have Zj := Z9 (ZT JF.out Rj.out (ZU none 0 0 0))
    have Y0 := Z9 (ZQ hst.2)
    have hst1 := hst.1
    generalize World.setRow V4 g1 (ZU none 0 0 0) = V9 at *
    clear hst
    simp only [pu]
    refine ZG (.agg (ZU none 0 0 0)) (Z8 6) <| Zt rfl (hst1) <| ZV (Z8 6) <| wn ?_
    simp only [pu]
    clear hst1 CT WV
    go_wp2_with fail
    exact bodyPost_ret (ZP (p := 2) (q := 3) rfl (by kernel_rfl) Y0.out rfl) rfl (Yx.err Zj.out)
   ·obtain rfl := HRR.out
    go_upto_region 14 with fail
    refine wl <| ZI rfl ⟨g2, 0, none⟩ (.agg (ZU a9 m k9 0)) (ZQ Xf.out) <| Y2 (.tuple #[.agg (ZU a9 m k9 0), Z8 0]) (fun w' => Below wr.heap.size wr w') CT (fun V4 WV => ?_)
    have JG := Z9 (Vm.out.below Vm.out.lt WV)
    have JF := Z9 (Ut.out.trans (WV.mono Ut.out.size))
    have Ee := Z9 (own_below Wq.out WV)
    have hst := ZJ (a' := a9) (n' := m) (k' := k9) (c' := 0) JG.out
    have Zj := Z9 (ZT JF.out Rj.out (ZU a9 m k9 0))
    have Y0 := Z9 (ZQ hst.2)
    have hst1 := hst.1
    have HE := Z9 (QE (x := ZU a9 m k9 0) Ee.out VR.out.1)
    generalize World.setRow V4 g1 (ZU a9 m k9 0) = V9 at *
    clear hst
    simp only [pu]
    refine ZG (.agg (ZU a9 m k9 0)) (Z8 0) <| Zt rfl (hst1) <| ZV (Z8 0) <| wn ?_
    simp only [pu]
    clear hst1 CT WV
    go_wp2_with fail
    exact bodyPost_ret (ZP (p := 2) (q := 3) rfl (by kernel_rfl) Y0.out rfl) rfl ⟨a9, k9, by rw [hm]; rfl, by have := own_base HE.out Eh.out; rw [← hm] at this; exact this, Zj.out⟩
theorem LV (a : Option Addr) (k : Nat) (A : List Ac) (w : World) (hR : Cs w a (acc A)) (hn : A.length ≤ 4398046511104) (hw : Xz A) (hz : ∀ x, x ∈ A → x.1.size ≤ 140737488355328) :
  Calls Try.prog 24 #[.slice a A.length k] w (Yx w (Rk A)) := by
 obtain ⟨hb0, hX0, Uk⟩ := Zi w (ZU none 0 0 0) (ZU none 0 0 0) 33 33
 have hb1 : Below w.heap.size w (w.alloc (.cells (ZU none 0 0 0) 33)) := (Below.refl _ w).alloc (Nat.le_refl _) _
 have hX1 : Bx (w.alloc (.cells (ZU none 0 0 0) 33)) w.heap.size (ZU none 0 0 0) 33 := heap_alloc_last w _
 have HA := Z9 (hR.below hb0)
 have jW := Z9 hz
 have HAT := Z9 (fun V (h : Below w.heap.size w V) => hR.below h)
 have QX : Hid (∀ B j, j ≤ A.length → YI [] A = YI B (A.drop j) → Xz B → ∀ P, YI [] A = (P, 0) → Xz P) := Z9 fun B j h1 h2 h3 P h4 => by
  have := Iu (A.drop j) B h3 (fun x hx => VN hw x (List.mem_of_mem_drop hx))
  rw [← h2, h4] at this
  exact this
 have qW : Hid (∀ B j, j < A.length → Xz B → Xz (Y9 B (aca A j))) := Z9 fun B j h1 h2 => Pm h2 (hw j h1)
 have HST := Z9 (fun (j : Nat) (B : List Ac) (h : j < A.length) => L6 B h)
 have qV := Z9 (Iy A)
 obtain ⟨r, hr⟩ := ZR (Rk A)
 have LX : Hid (256 < A.length → r = ([], 0, 3)) := Z9 fun h => by rw [← hr]; exact LZ h
 have QY : Hid (∀ e, ¬ 256 < A.length → YI [] A = ([], e) → e ≠ 0 → r = ([], 0, e)) := Z9 fun e h1 h2 h3 => by rw [← hr]; exact LY h1 h2 h3
 have Gw : Hid (∀ B, ¬ 256 < A.length → YI [] A = (B, 0) → r = PU B) := Z9 fun B h1 h2 => by rw [← hr]; exact Iw h1 h2
 have zf : Hid (YI [] A = YI [] (A.drop 0)) := Z9 (by rw [List.drop_zero])
 obtain ⟨n, hnn⟩ := ZR A.length
 have HN := Z9 hnn
 have TI : Hid (n ≤ 4398046511104) := Z9 (by omega)
 rw [hnn] at LX QY Gw HST qV qW QX
 rw [hnn, hr]
 generalize YI [] A = qU at *
 clear hR hn hr hw hz
 go_enter Try.func24, Try.ntmps24
 go_upto_region 1 with fail
 change Code.wp _ _ _ _ (w.alloc (.cells (ZU none 0 0 0) 33))
 by_cases hbig : 256 < n
 ·obtain rfl := LX.out hbig
  generalize w.alloc (.cells (ZU none 0 0 0) 33) = W at *
  obtain ⟨g1, hg1⟩ := ZR w.heap.size
  have Rj : Hid (w.heap.size ≤ g1) := Z9 (by omega)
  rw [hg1] at hX1
  simp only [hg1]
  have HB1 := Z9 hb1
  refine wl <| ZG (.slice a n k) (Z8 n) <| ZM (Zl rfl (n) (256) dT) <| wn ?_
  simp only [pu]
  have hst := ZJ (a' := none) (n' := 0) (k' := 0) (c' := 0) hX1
  have Zj := Z9 (ZT HB1.out Rj.out (ZU none 0 0 0))
  have Y0 := Z9 (ZQ hst.2)
  have hst1 := hst.1
  generalize World.setRow W g1 (ZU none 0 0 0) = V9 at *
  clear hst
  go_upto_region 2 with fail
  refine wl <| ZV (.agg #[.slice none 0 0, Z7 0]) <| Zt rfl (hst1) <| ZV (Z8 3) <| wn ?_
  simp only [pu]
  clear hst1 hX1
  go_wp2_with fail
  exact bodyPost_ret (ZP (p := 2) (q := 3) rfl (by kernel_rfl) Y0.out rfl) rfl (Yx.err Zj.out)
 have Vo := Z9 hbig
 refine wl <| ZG (.slice a n k) (Z8 n) <| ZM (Zl rfl (n) (256) dF) <| wn ?_
 simp only [pu]
 clear hbig LX hb1 hX1
 go_upto_region 4 with fail
 change Code.wp _ _ _ _ ((w.alloc (.cells (ZU none 0 0 0) 33)).alloc (.cells (ZU none 0 0 0) 33))
 generalize (w.alloc (.cells (ZU none 0 0 0) 33)).alloc (.cells (ZU none 0 0 0) 33) = W at *
 obtain ⟨g1, hg1⟩ := ZR w.heap.size
 obtain ⟨g2, hg2⟩ := ZR (w.heap.size + 1)
 have Rj : Hid (w.heap.size ≤ g1) := Z9 (by omega)
 have qR : Hid (w.heap.size ≤ g2) := Z9 (by omega)
 have Eh : Hid (w.heap.size ≤ W.heap.size) := Z9 hb0.size
 have VR : Hid (g1 < W.heap.size ∧ g2 < W.heap.size ∧ g1 ≠ g2) := Z9 ⟨by have := hX0.lt; omega, by have := Uk.lt; omega, by omega⟩
 have HB0 := Z9 hb0
 rw [hg2] at Uk
 rw [hg1] at hX0
 simp only [hg1]
 rw [show g1 + 1 = g2 by omega]
 have HX := Z9 hX0
 have HZ := Z9 Uk
 clear hb0 hg1 hg2 hX0 Uk hnn
 refine wl <| YT (.slice a n k) (Z8 n) (Z8 0) <| wn ?_
 simp only [pu]
 have zJ : Hid (∃ (a9 : Option Addr) (k9 : Nat) (B : List Ac), Bx W g2 (ZU a9 B.length k9 0) 33 ∧ ZB W W.heap.size (.slice a9 B.length k9) B ∧ B.length = 0 ∧ Rl B ∧ Pj B ∧ Xz B ∧ qU = YI B (A.drop 0)) := Z9 ⟨none, 0, [], HZ.out, TA _ _, rfl, Oi, Oh, XB, zf.out⟩
 clear zf HZ
 go_wp2_with fail
 go_loopg [15] n (fun gg s15 wx => ∃ j : Nat, s15 = Z8 j ∧ j ≤ n ∧ Hid (∃ (a9 : Option Addr) (k9 : Nat) (B : List Ac), Bx wx g2 (ZU a9 B.length k9 0) 33 ∧ ZB wx W.heap.size (.slice a9 B.length k9) B ∧ B.length = j ∧ Rl B ∧ Pj B ∧ Xz B ∧ qU = YI B (A.drop j)) ∧ Hid (Bx wx g1 (ZU none 0 0 0) 33 ∧ Below w.heap.size w wx ∧ Cs wx a (acc A) ∧ W.heap.size ≤ wx.heap.size) ∧ n - j = gg)
 case atStart => exact ⟨0, rfl, by omega, zJ, Z9 ⟨HX.out, HB0.out, HA.out, Nat.le_refl _⟩, by omega⟩
 case round =>
  clear zJ HA HX HB0
  obtain ⟨j, rfl, hj, HS, HQ, hg⟩ := hrel
  have EO := TI.out
  have HG := Z9 hg
  clear hg
  by_cases hlt : j < n
  ·obtain ⟨b, off, rfl, -, hrx⟩ := YS HQ.out.2.2.1 (k := j) (by rw [HN.out]; exact hlt)
   have LW := Z9 (Ym hrx)
   have y9 := Z9 (HST.out j)
   have aB := Z9 (jW.out (aca A j) (UM (by rw [HN.out]; exact hlt)))
   have y8 := Z9 (fun B => qW.out B j hlt)
   generalize aca A j = y at *
   obtain ⟨V2, hst, hb2, hbx⟩ := WW wr y
   have CN := Ub y.1 V2 aB.out
   generalize hnm : isName (nums y.1) = nm at *
   clear hrx
   go_upto_region 5 with fail
   refine wl <| ZM (ZC rfl (j) (n) dT) <| wn ?_
   simp only [pu]
   go_upto_region 6 with fail
   refine wl <| YO (Z5 b (off + j * 3)) (YR b off n k j hlt _ _ _ rfl (by kernel_rfl) (by kernel_rfl)) <| ZI rfl ⟨b, off + j * 3, none⟩ (.agg (ZA y)) (LW.out) ?_
   simp only [pu]
   refine Zz rfl (some 6) rfl (Z5 wr.heap.size 0) (wr.alloc (.cells (ZA Xg) 49)) (by kernel_rfl) ?_
   simp only [pu]
   refine Zt rfl (hst) <| wn ?_
   obtain ⟨g4, hg4⟩ := ZR wr.heap.size
   rw [hg4] at hbx ⊢
   clear hst hg4 LW
   go_upto_region 7 with fail
   cases nm
   ·refine wl <| ZV (Z5 g4 0) <| ZI rfl ⟨g4, 0, none⟩ (.string y.1) (hbx.ZN 0) <| Y2 ZY (fun w' => V2 = w') (CN) (fun V3 XE => ?_)
    simp only [pu]
    refine ZV Z4 <| wn ?_
    simp only [pu]
    subst XE
    have hb3 := hb2
    have YK := Z9 hbx
    clear hbx CN hb2
    obtain ⟨a9, k9, B, hq1, hq2, hq3, hq4, hq5, hq6, hq7⟩ := HS.out
    have Xf := Z9 (hq1.below hq1.lt hb3)
    have Wq := Z9 (own_below hq2 hb3)
    have Vm := Z9 (HQ.out.1.below HQ.out.1.lt hb3)
    have Ut := Z9 (HQ.out.2.1.trans (hb3.mono HQ.out.2.1.size))
    have Gu := Z9 (HQ.out.2.2.1.below hb3)
    have Ir : Hid (W.heap.size ≤ V2.heap.size) := Z9 (Nat.le_trans HQ.out.2.2.2 hb3.size)
    have Tz := y9.out B hlt
    rw [← hq7] at Tz
    clear hq1 hq2 HS hb3 HQ y9
    rw [if_pos rfl] at Tz
    obtain rfl := QY.out 10 Vo.out Tz (by decide)
    clear Tz hq3 hq4 hq5 hq6 hq7 y8 Xf Wq Gu YK hnm
    have hst := ZJ (a' := none) (n' := 0) (k' := 0) (c' := 0) Vm.out
    have Zj := Z9 (ZT Ut.out Rj.out (ZU none 0 0 0))
    have Y0 := Z9 (ZQ hst.2)
    have hst1 := hst.1
    generalize World.setRow V2 g1 (ZU none 0 0 0) = V9 at *
    clear hst
    go_upto_region 8 with fail
    refine wl <| ZV (.agg #[.slice none 0 0, Z7 0]) <| Zt rfl (hst1) <| ZV (Z8 10) <| wn ?_
    simp only [pu]
    clear hst1 Vm
    go_wp2_with fail
    exact bodyPost_ret (ZP (p := 2) (q := 3) rfl (by kernel_rfl) Y0.out rfl) rfl (Yx.err Zj.out)
   ·refine wl <| ZV (Z5 g4 0) <| ZI rfl ⟨g4, 0, none⟩ (.string y.1) (hbx.ZN 0) <| Y2 Z4 (fun w' => V2 = w') (CN) (fun V3 XE => ?_)
    simp only [pu]
    refine ZV ZY <| wn ?_
    simp only [pu]
    subst XE
    have hb3 := hb2
    have YK := Z9 hbx
    clear hbx CN hb2
    obtain ⟨a9, k9, B, hq1, hq2, hq3, hq4, hq5, hq6, hq7⟩ := HS.out
    have Xf := Z9 (hq1.below hq1.lt hb3)
    have Wq := Z9 (own_below hq2 hb3)
    have Vm := Z9 (HQ.out.1.below HQ.out.1.lt hb3)
    have Ut := Z9 (HQ.out.2.1.trans (hb3.mono HQ.out.2.1.size))
    have Gu := Z9 (HQ.out.2.2.1.below hb3)
    have Ir : Hid (W.heap.size ≤ V2.heap.size) := Z9 (Nat.le_trans HQ.out.2.2.2 hb3.size)
    have Tz := y9.out B hlt
    rw [← hq7] at Tz
    clear hq1 hq2 HS hb3 HQ y9
    rw [if_neg (by simp)] at Tz
    have jV : Hid (B.length ≤ 256) := Z9 (by have := Vo.out; omega)
    obtain ⟨m, hm⟩ := ZR B.length
    obtain ⟨a8, k8, ea, hcb, hck⟩ := Yj Wq.out
    simp only [Value.slice.injEq, true_and] at ea
    obtain ⟨rfl, rfl⟩ := ea
    have CP := LU a9 k9 B y.1 V2 hcb (by have := jV.out; omega)
    by_cases hf : Ze B y.1 < B.length
    ·rw [if_pos hf] at Tz
     rw [show Og B y.1 = ((Ze B y.1 : Nat) : Int) from if_pos hf] at CP
     obtain rfl := QY.out 8 Vo.out Tz (by decide)
     generalize Ze B y.1 = li at *
     rw [hm] at Xf Wq CP
     clear Tz hq4 hq5 hq6 hq7 y8 hcb hck hf hnm
     go_upto_region 9 with fail
     refine wl <| ZV (Z5 g2 0) <| ZI rfl ⟨g2, 0, none⟩ (.slice a9 m k9) (Xf.out.ZN 0) <| ZV (Z5 g4 0) <| ZI rfl ⟨g4, 0, none⟩ (.string y.1) (YK.out.ZN 0) <|
      Y2 (Z8 li) (fun w' => Below V2.heap.size V2 w') (CP) (fun V4 WV => ?_)
     simp only [pu]
     refine ZM (Uj rfl li 0 dT) <| wn ?_
     simp only [pu]
     replace Vm := Z9 (Vm.out.below Vm.out.lt WV)
     replace Ut := Z9 (Ut.out.trans (WV.mono Ut.out.size))
     clear CP
     clear Xf Wq Gu YK WV
     have hst := ZJ (a' := none) (n' := 0) (k' := 0) (c' := 0) Vm.out
     have Zj := Z9 (ZT Ut.out Rj.out (ZU none 0 0 0))
     have Y0 := Z9 (ZQ hst.2)
     have hst1 := hst.1
     generalize World.setRow V4 g1 (ZU none 0 0 0) = V9 at *
     clear hst
     go_upto_region 10 with fail
     refine wl <| ZV (.agg #[.slice none 0 0, Z7 0]) <| Zt rfl (hst1) <| ZV (Z8 8) <| wn ?_
     simp only [pu]
     clear hst1 Vm
     go_wp2_with fail
     exact bodyPost_ret (ZP (p := 2) (q := 3) rfl (by kernel_rfl) Y0.out rfl) rfl (Yx.err Zj.out)
    ·rw [if_neg hf] at Tz
     rw [show Og B y.1 = -1 from if_neg hf] at CP
     have CI := fun V (h : Cs V a9 (acc B)) => y7 a9 k9 B y V h hck (by have := jV.out; omega)
     have Ef : Hid (Rl (Y9 B y) ∧ Pj (Y9 B y) ∧ Xz (Y9 B y) ∧ (Y9 B y).length = j + 1) := Z9 ⟨UL hq4, UK hq5 hnm, y8.out B hq6, by rw [Ye, if_neg hf]; omega⟩
     have jU := Z9 Tz
     generalize Y9 B y = P at *
     rw [hm] at Xf Wq CP CI
     clear Tz hq4 hq5 hq6 hq7 y8 hcb hf hnm
     go_upto_region 9 with fail
     refine wl <| ZV (Z5 g2 0) <| ZI rfl ⟨g2, 0, none⟩ (.slice a9 m k9) (Xf.out.ZN 0) <| ZV (Z5 g4 0) <| ZI rfl ⟨g4, 0, none⟩ (.string y.1) (YK.out.ZN 0) <|
      Y2 (Z8 (-1)) (fun w' => Below V2.heap.size V2 w') (CP) (fun V4 WV => ?_)
     simp only [pu]
     refine ZM (Uj rfl (-1) 0 dF) <| wn ?_
     simp only [pu]
     replace Vm := Z9 (Vm.out.below Vm.out.lt WV)
     replace Ut := Z9 (Ut.out.trans (WV.mono Ut.out.size))
     clear CP
     replace Xf := Z9 (Xf.out.below Xf.out.lt WV)
     replace Wq := Z9 (own_below Wq.out WV)
     replace Gu := Z9 (Gu.out.below WV)
     replace Ir : Hid (W.heap.size ≤ V4.heap.size) := Z9 (Nat.le_trans Ir.out WV.size)
     have jT := Z9 (YK.out.below YK.out.lt WV)
     clear YK WV
     have CJ := CI V4 (by obtain ⟨a7, k7, e7, hc7, -⟩ := Yj Wq.out; simp only [Value.slice.injEq, true_and] at e7; obtain ⟨rfl, rfl⟩ := e7; exact hc7)
     clear CI
     go_upto_region 11 with fail
     refine wl <| ZV (Z5 g2 0) <| ZI rfl ⟨g2, 0, none⟩ (.slice a9 m k9) (Xf.out.ZN 0) <| ZI rfl ⟨g4, 0, none⟩ (.agg (ZA y)) (Zn jT.out) <|
      Yl (fun v w' => ZB w' W.heap.size v P ∧ Below W.heap.size V4 w') (CJ.mono fun e w' q => by obtain ⟨v, h1, h2, h3⟩ := q; exact ⟨v, h1, own_base h2 Ir.out, h3.mono Ir.out⟩) (fun v5 V5 hq => ?_)
     obtain ⟨SC, hb5⟩ := hq
     obtain ⟨a5, k5, rfl, -, -⟩ := SC.cs
     obtain ⟨V6, Xm, Uu, hb6, XY⟩ := QF (a' := a5) (n' := P.length) (k' := k5) (Xf.out.below VR.out.2.1 hb5) (B := w.heap.size) (w0 := w) (Ut.out.trans (hb5.mono (by have := Eh.out; omega))) (by have := qR.out; omega)
     simp only [pu]
     refine ZV (Z5 g2 0) <| Zt rfl (Xm) <| wn ?_
     simp only [pu]
     have Gt : Hid (∃ (a9 : Option Addr) (k9 : Nat) (B : List Ac), Bx V6 g2 (ZU a9 B.length k9 0) 33 ∧ ZB V6 W.heap.size (.slice a9 B.length k9) B ∧ B.length = j + 1 ∧ Rl B ∧ Pj B ∧ Xz B ∧ qU = YI B (A.drop (j + 1))) := Z9 ⟨a5, k5, P, Uu, Zv SC XY VR.out.2.1, Ef.out.2.2.2, Ef.out.1, Ef.out.2.1, Ef.out.2.2.1, jU.out⟩
     have aA : Hid (Bx V6 g1 (ZU none 0 0 0) 33 ∧ Below w.heap.size w V6 ∧ Cs V6 (some ⟨b, off, none⟩) (acc A) ∧ W.heap.size ≤ V6.heap.size) := Z9 ⟨(Vm.out.below VR.out.1 hb5).but XY VR.out.2.2, hb6, HAT.out V6 hb6, Nat.le_trans Ir.out (Nat.le_trans hb5.size XY.1.size)⟩
     clear SC hb5 Xm Uu hb6 XY CJ jT Xf Wq Gu Vm Ut Ir Ef jU
     go_upto_region 12 with fail
     refine wl <| YN (Z8 (j + 1 : Nat)) (ZK rfl j 1 (by omega)) <| ZV (Z8 (j + 1 : Nat)) <| wn ?_
     simp only [pu]
     go_wp2_with fail
     go_roundg (n - (j + 1))
     case measure => have := HG.out; omega
     case rel => exact ⟨j + 1, rfl, hlt, Gt, aA, rfl⟩
  ·obtain rfl : n = j := by omega
   obtain ⟨a9, k9, B, hq1, hq2, hq3, hq4, hq5, hq6, hq7⟩ := HS.out
   rw [qV.out B] at hq7
   obtain rfl := Gw.out B Vo.out hq7
   obtain ⟨a8, k8, ea, hcb, hck⟩ := hq2.cs
   simp only [Value.slice.injEq, true_and] at ea
   obtain ⟨rfl, rfl⟩ := ea
   have CT := Gs a9 k9 B 0 wr hcb (by have := Vo.out; omega) X0 hq6
   have Vm := Z9 HQ.out.1
   have Ut := Z9 HQ.out.2.1
   have Xf := Z9 hq1
   have Wq := Z9 (show wr.ownsRow W.heap.size 49 3 (.slice a9 B.length k9) B.length (acc B) from hq2)
   have HRR : Hid (PU B = cond (Yp B 0) (B, 0, 0) ([], 0, 6)) := Z9 (by unfold PU; cases Yp B 0 <;> simp)
   clear HQ HS hq1 hq2 hq3 hq4 hq5 hq6 hq7 qV Gw QY HST QX qW jW hcb hck HAT
   generalize hm : B.length = m at *
   generalize PU B = rr at *
   go_upto_region 5 with fail
   refine wl <| ZM (ZC rfl (n) (n) dF) <| wn ?_
   simp only [pu]
   generalize Oe B 0 = tv at *
   generalize Yp B 0 = tb at *
   cases tb
   ·obtain rfl := HRR.out
    go_upto_region 13 with fail
    refine wl <| ZI rfl ⟨g2, 0, none⟩ (.agg (ZU a9 m k9 0)) (ZQ Xf.out) <| Y2 (.tuple #[Z7 tv, ZY]) (fun w' => Below wr.heap.size wr w') (CT) (fun V4 WV => ?_)
    have JG := Z9 (Vm.out.below Vm.out.lt WV)
    have JF := Z9 (Ut.out.trans (WV.mono Ut.out.size))
    have Ee := Z9 (own_below Wq.out WV)
    have jS := Z9 (Xf.out.below Xf.out.lt WV)
    simp only [pu]
    refine Sz (.tuple #[Z7 tv, ZY]) (Z7 tv) ZY (Z7 tv) ZY <| wn ?_
    simp only [pu]
    clear CT WV
    go_upto_region 14 with fail
    refine wl <| ZG ZY Z4 <| wn ?_
    simp only [pu]
    have hst := ZJ (a' := none) (n' := 0) (k' := 0) (c' := 0) JG.out
    have Zj := Z9 (ZT JF.out Rj.out (ZU none 0 0 0))
    have Y0 := Z9 (ZQ hst.2)
    have hst1 := hst.1
    generalize World.setRow V4 g1 (ZU none 0 0 0) = V9 at *
    clear hst
    go_upto_region 15 with fail
    refine wl <| ZV (.agg #[.slice none 0 0, Z7 0]) <| Zt rfl (hst1) <| ZV (Z8 6) <| wn ?_
    simp only [pu]
    clear hst1
    go_wp2_with fail
    exact bodyPost_ret (ZP (p := 2) (q := 3) rfl (by kernel_rfl) Y0.out rfl) rfl (Yx.err Zj.out)
   ·obtain rfl := HRR.out
    go_upto_region 13 with fail
    refine wl <| ZI rfl ⟨g2, 0, none⟩ (.agg (ZU a9 m k9 0)) (ZQ Xf.out) <| Y2 (.tuple #[Z7 tv, Z4]) (fun w' => Below wr.heap.size wr w') (CT) (fun V4 WV => ?_)
    have JG := Z9 (Vm.out.below Vm.out.lt WV)
    have JF := Z9 (Ut.out.trans (WV.mono Ut.out.size))
    have Ee := Z9 (own_below Wq.out WV)
    have jS := Z9 (Xf.out.below Xf.out.lt WV)
    simp only [pu]
    refine Sz (.tuple #[Z7 tv, Z4]) (Z7 tv) Z4 (Z7 tv) Z4 <| wn ?_
    simp only [pu]
    clear CT WV
    go_upto_region 14 with fail
    refine wl <| ZG Z4 ZY <| wn ?_
    simp only [pu]
    have hst := ZJ (a' := a9) (n' := m) (k' := k9) (c' := 0) JG.out
    have Zj := Z9 (ZT JF.out Rj.out (ZU a9 m k9 0))
    have Y0 := Z9 (ZQ hst.2)
    have hst1 := hst.1
    have HE := Z9 (QE (x := ZU a9 m k9 0) Ee.out VR.out.1)
    generalize World.setRow V4 g1 (ZU a9 m k9 0) = V9 at *
    clear hst
    go_upto_region 16 with fail
    refine wl <| ZI rfl ⟨g2, 0, none⟩ (.agg (ZU a9 m k9 0)) (ZQ jS.out) <| Zt rfl (hst1) <| ZV (Z8 0) <| wn ?_
    simp only [pu]
    clear hst1
    go_wp2_with fail
    exact bodyPost_ret (ZP (p := 2) (q := 3) rfl (by kernel_rfl) Y0.out rfl) rfl ⟨a9, k9, by rw [hm]; rfl, by have := own_base HE.out Eh.out; rw [← hm] at this; exact this, Zj.out⟩
theorem rG {A : List Ac} {c : Int} {a : Ac} (h : Y8 A c ≠ 0) : TB A c a = ([], 0, Y8 A c) := if_pos h
theorem rF {A : List Ac} {c : Int} {a : Ac} (h : Y8 A c = 0) (h1 : isName (nums a.1) = false) : TB A c a = ([], 0, 10) := by
 unfold TB
 rw [if_neg (by rw [h]; simp), if_pos h1]
theorem Ep {A : List Ac} {c : Int} {a : Ac} (h : Y8 A c = 0) (h1 : isName (nums a.1) = true) (h2 : 256 < (Y9 A a).length) : TB A c a = ([], 0, 3) := by
 unfold TB
 rw [if_neg (by rw [h]; simp), if_neg (by rw [h1]; simp), if_pos h2]
theorem Ol {A : List Ac} {c : Int} {a : Ac} (h : Y8 A c = 0) (h1 : isName (nums a.1) = true) (h2 : ¬ 256 < (Y9 A a).length) : TB A c a = cond (Yp (Y9 A a) c) (Y9 A a, c, 0) ([], 0, 6) := by
 unfold TB
 rw [if_neg (by rw [h]; simp), if_neg (by rw [h1]; simp), if_neg h2]
 cases Yp (Y9 A a) c <;> simp
theorem Xt (w : World) (x y z : Array Value) (t u v : Nat) : Below w.heap.size w (((w.alloc (.cells x t)).alloc (.cells y u)).alloc (.cells z v)) ∧ Bx (((w.alloc (.cells x t)).alloc (.cells y u)).alloc (.cells z v)) w.heap.size x t ∧ Bx (((w.alloc (.cells x t)).alloc (.cells y u)).alloc (.cells z v)) (w.heap.size + 1) y u ∧ Bx (((w.alloc (.cells x t)).alloc (.cells y u)).alloc (.cells z v)) (w.heap.size + 2) z v := by
 obtain ⟨h1, h2, h3⟩ := Zi w x y t u
 have hs : ((w.alloc (.cells x t)).alloc (.cells y u)).heap.size = w.heap.size + 2 := by simp
 have hb : Below ((w.alloc (.cells x t)).alloc (.cells y u)).heap.size ((w.alloc (.cells x t)).alloc (.cells y u)) (((w.alloc (.cells x t)).alloc (.cells y u)).alloc (.cells z v)) := (Below.refl _ _).alloc (Nat.le_refl _) _
 have hz : Bx (((w.alloc (.cells x t)).alloc (.cells y u)).alloc (.cells z v)) ((w.alloc (.cells x t)).alloc (.cells y u)).heap.size z v := heap_alloc_last _ _
 rw [hs] at hz
 exact ⟨h1.trans (hb.mono h1.size), h2.below h2.lt hb, h3.below h3.lt hb, hz⟩
theorem Yx.ok {w V : World} {ad : Option Addr} {m kk : Nat} {P : List Ac} {c : Int} (hl : P.length = m) (hr : V.ownsRow w.heap.size 49 3 (.slice ad m kk) P.length (acc P)) (hb : Below w.heap.size w V) : Yx w (P, c, 0) (.returned (.tuple #[.agg (ZU ad m kk c), Z8 0])) V := by
 subst hl
 exact ⟨ad, kk, rfl, hr, hb⟩
theorem rE {w w' : World} {B e s n : Nat} {v : Value} {xs : List Value} (h : w.ownsRow B e s v n xs) (hq : ∀ q, v.ownBlock = some q → w'.heap[q]? = w.heap[q]?) : w'.ownsRow B e s v n xs := by
 refine ⟨h.1, ?_⟩
 rcases h.2 with h1 | ⟨g, cap, cur, rfl, hB, hg, r⟩
 ·exact .inl h1
 ·exact .inr ⟨g, cap, cur, rfl, hB, (hq g rfl).trans hg, r⟩
theorem uD (a : Option Addr) (k : Nat) (A : List Ac) (c : Int) (x : Ac) (w : World) (hR : Cs w a (acc A)) (hk : A.length ≤ k) (hn : A.length ≤ 4398046511104) (hc : W64 c) (hw : Xz A) (hz : ∀ x, x ∈ A → x.1.size ≤ 140737488355328) (hxw : W64 x.2.1 ∧ W64 x.2.2) (hxz : x.1.size ≤ 140737488355328) :
  Calls Try.prog 78 #[.agg (ZU a A.length k c), .agg (ZA x)] w (Yx w (TB A c x)) := by
 obtain ⟨hb0, hX0, hY0, Uk⟩ := Xt w (ZU a A.length k c) (ZA x) (ZU none 0 0 0) 33 49 33
 obtain ⟨W0, hW0⟩ := ZR (((w.alloc (.cells (ZU a A.length k c) 33)).alloc (.cells (ZA x) 49)).alloc (.cells (ZU none 0 0 0) 33))
 rw [hW0] at hb0 hX0 hY0 Uk
 have HA := Z9 (hR.below hb0)
 have CV := VL a k A c W0 (hR.below hb0) hn hc hw hz
 have CN := fun V => Vg x.1 V
 have MQ := Z9 (fun V (h1 : Rl A) (h2 : A.length ≤ 1000000) (h : Cs V a (acc A)) => IB a k A x.1 V h h1 h2)
 have kC := Z9 (fun V (h2 : A.length ≤ 1000) (h : Cs V a (acc A)) => UO a k A V h (by omega))
 have HIN := Z9 (fun (v : Value) (B : Nat) (V : World) (h : ZB V B v A) (h1 : B ≤ V.heap.size) (h2 : A.length ≤ 1000) => L9 v A x (Y1 A x.1) B V h h1 (VK A x.1) h2)
 have HLI := Z9 (fun (ad : Option Addr) (kk : Nat) (V : World) (h : Cs V ad (acc (Y9 A x))) (h1 : (Y9 A x).length ≤ 4398046511104) => Sr ad kk (Y9 A x) c V h h1 hc (Pm hw hxw))
 have rD := Z9 (@WY A x)
 have rC := Z9 (@VO A x)
 have zK := Z9 (fun (h : Rl A) (hf : Ze A x.1 < A.length) => Iz h hf)
 obtain ⟨r, hr⟩ := ZR (TB A c x)
 have Eo : Hid (Y8 A c ≠ 0 → r = ([], 0, Y8 A c)) := Z9 fun h => by rw [← hr]; exact rG h
 have HE2 : Hid (Y8 A c = 0 → isName (nums x.1) = false → r = ([], 0, 10)) := Z9 fun h h1 => by rw [← hr]; exact rF h h1
 have ru : Hid (Y8 A c = 0 → isName (nums x.1) = true → 256 < (Y9 A x).length → r = ([], 0, 3)) := Z9 fun h h1 h2 => by rw [← hr]; exact Ep h h1 h2
 have HE4 : Hid (Y8 A c = 0 → isName (nums x.1) = true → ¬ 256 < (Y9 A x).length → r = cond (Yp (Y9 A x) c) (Y9 A x, c, 0) ([], 0, 6)) := Z9 fun h h1 h2 => by rw [← hr]; exact Ol h h1 h2
 have Gw := Z9 (@Xc A c)
 have aF := Z9 (@En A x)
 rw [hr]
 obtain ⟨n, hnn⟩ := ZR A.length
 have HN := Z9 hnn
 have HKK : Hid (n ≤ k) := Z9 (by omega)
 rw [hnn] at hX0 hW0 CV Gw aF
 rw [hnn]
 generalize hnm : isName (nums x.1) = nm at *
 generalize qZ : Y8 A c = ve at *
 have ku := Z9 hW0
 clear hR hn hr hw hz hc hxw hxz hk hnm qZ hW0
 go_enter Try.func78, Try.ntmps78
 go_upto_region 1 with fail
 change Code.wp _ _ _ _ (((w.alloc (.cells (ZU a n k c) 33)).alloc (.cells (ZA x) 49)).alloc (.cells (ZU none 0 0 0) 33))
 rw [ku.out]
 clear ku
 obtain ⟨g0, hg0⟩ := ZR w.heap.size
 obtain ⟨g1, hg1⟩ := ZR (w.heap.size + 1)
 obtain ⟨g2, hg2⟩ := ZR (w.heap.size + 2)
 have VR : Hid (w.heap.size ≤ g0 ∧ w.heap.size ≤ g2 ∧ g0 < W0.heap.size ∧ g1 < W0.heap.size ∧ g2 < W0.heap.size ∧ g1 ≠ g0 ∧ g2 ≠ g0 ∧ w.heap.size ≤ W0.heap.size) := Z9 ⟨by omega, by omega, by have := hX0.lt; omega, by have := hY0.lt; omega, by have := Uk.lt; omega, by omega, by omega, hb0.size⟩
 have HB0 := Z9 hb0
 rw [hg0] at hX0
 rw [hg1] at hY0
 rw [hg2] at Uk
 simp only [hg0]
 rw [show g0 + 1 = g1 by omega, show g1 + 1 = g2 by omega]
 have HX := Z9 hX0
 have HY := Z9 hY0
 have HZ := Z9 Uk
 clear hb0 hg0 hg1 hg2 hX0 hY0 Uk hnn
 refine wl <| ZI rfl ⟨g0, 0, none⟩ (.agg (ZU a n k c)) (ZQ HX.out) <| Y2 (Z8 ve) (fun w' => Below W0.heap.size W0 w') (CV) (fun V1 hV1 => ?_)
 have XP := Z9 (HX.out.below HX.out.lt hV1)
 have PX := Z9 (HY.out.below HY.out.lt hV1)
 have HZ1 := Z9 (HZ.out.below HZ.out.lt hV1)
 have HB1 := Z9 (HB0.out.trans (hV1.mono HB0.out.size))
 have HA1 := Z9 (HA.out.below hV1)
 have HW1 : Hid (W0.heap.size ≤ V1.heap.size) := Z9 hV1.size
 simp only [pu]
 refine ZV (Z8 ve) <| wn ?_
 simp only [pu]
 clear CV hV1 HX HY HZ HB0 HA
 by_cases hv : ve = 0
 ·subst hv
  obtain ⟨h256, hsrt, aC, -⟩ := Gw.out rfl
  have HSR := Z9 hsrt
  have H256 := Z9 h256
  clear hsrt aC h256 Eo Gw
  go_upto_region 2 with fail
  refine wl <| ZV (Z8 0) <| ZM (YZ rfl 0 0 (decide_eq_true rfl)) <| wn ?_
  simp only [pu]
  have dD := CN V1
  clear CN
  go_upto_region 4 with fail
  cases nm
  ·refine wl <| ZV (Z5 g1 0) <| ZI rfl ⟨g1, 0, none⟩ (.string x.1) (PX.out.ZN 0) <| Y2 ZY (fun w' => Below V1.heap.size V1 w') (dD) (fun V2 hV2 => ?_)
   replace XP := Z9 (XP.out.below XP.out.lt hV2)
   replace PX := Z9 (PX.out.below PX.out.lt hV2)
   replace HZ1 := Z9 (HZ1.out.below HZ1.out.lt hV2)
   replace HB1 := Z9 (HB1.out.trans (hV2.mono HB1.out.size))
   replace HA1 := Z9 (HA1.out.below hV2)
   replace HW1 : Hid (W0.heap.size ≤ V2.heap.size) := Z9 (Nat.le_trans HW1.out hV2.size)
   simp only [pu]
   refine ZV Z4 <| wn ?_
   simp only [pu]
   clear dD hV2
   obtain rfl := HE2.out rfl rfl
   have hst := ZJ (a' := none) (n' := 0) (k' := 0) (c' := 0) HZ1.out
   have Zj := Z9 (ZT HB1.out VR.out.2.1 (ZU none 0 0 0))
   have Y0 := Z9 (ZQ hst.2)
   have hst1 := hst.1
   generalize World.setRow V2 g2 (ZU none 0 0 0) = V9 at *
   clear hst
   go_upto_region 5 with fail
   refine wl <| ZV (.agg #[.slice none 0 0, Z7 0]) <| Zt rfl (hst1) <| ZV (Z8 10) <| wn ?_
   simp only [pu]
   clear hst1
   go_wp2_with fail
   exact bodyPost_ret (ZP (p := 4) (q := 5) rfl (by kernel_rfl) Y0.out rfl) rfl (Yx.err Zj.out)
  ·refine wl <| ZV (Z5 g1 0) <| ZI rfl ⟨g1, 0, none⟩ (.string x.1) (PX.out.ZN 0) <| Y2 Z4 (fun w' => Below V1.heap.size V1 w') (dD) (fun V2 hV2 => ?_)
   replace XP := Z9 (XP.out.below XP.out.lt hV2)
   replace PX := Z9 (PX.out.below PX.out.lt hV2)
   replace HZ1 := Z9 (HZ1.out.below HZ1.out.lt hV2)
   replace HB1 := Z9 (HB1.out.trans (hV2.mono HB1.out.size))
   replace HA1 := Z9 (HA1.out.below hV2)
   replace HW1 : Hid (W0.heap.size ≤ V2.heap.size) := Z9 (Nat.le_trans HW1.out hV2.size)
   simp only [pu]
   refine ZV ZY <| wn ?_
   simp only [pu]
   clear dD hV2
   have qY := Z9 (ru.out rfl rfl)
   have zn := Z9 (HE4.out rfl rfl)
   have Em := Z9 (aF.out H256.out)
   clear HE2 ru HE4 aF
   have CP := MQ.out V2 HSR.out (by rw [HN.out]; have := H256.out; omega) HA1.out
   rw [HN.out] at CP
   by_cases hf : Ze A x.1 < n
   ·rw [decide_eq_true hf] at CP
    have hle := VK A x.1
    rw [HN.out] at hle
    have hfl := zK.out HSR.out (by rw [HN.out]; exact hf)
    go_upto_region 6 with fail
    refine wl <| ZV (Z5 g0 0) <| ZI rfl ⟨g0, 0, none⟩ (.slice a n k) (XP.out.ZN 0) <| ZV (Z5 g1 0) <| ZI rfl ⟨g1, 0, none⟩ (.string x.1) (PX.out.ZN 0) <|
     Y2 (.tuple #[Z8 (Y1 A x.1 : Nat), Z4]) (fun w' => Below V2.heap.size V2 w') (CP) (fun V3 XE => ?_)
    simp only [pu]
    refine Sz (.tuple #[Z8 (Y1 A x.1 : Nat), Z4]) (Z8 (Y1 A x.1 : Nat)) Z4 (Z8 (Y1 A x.1 : Nat)) Z4 <| wn ?_
    simp only [pu]
    replace XP := Z9 (XP.out.below XP.out.lt XE)
    replace PX := Z9 (PX.out.below PX.out.lt XE)
    replace HZ1 := Z9 (HZ1.out.below HZ1.out.lt XE)
    replace HB1 := Z9 (HB1.out.trans (XE.mono HB1.out.size))
    replace HA1 := Z9 (HA1.out.below XE)
    replace HW1 : Hid (W0.heap.size ≤ V3.heap.size) := Z9 (Nat.le_trans HW1.out XE.size)
    clear CP XE
    go_upto_region 7 with fail
    refine wl <| YX Z4 ZY ZY undef undef undef <| ZG undef ZY <| wn ?_
    simp only [pu]
    have CC := kC.out V3 (by rw [HN.out]; have := H256.out; omega) HA1.out
    rw [HN.out] at CC
    go_upto_region 9 with fail
    refine wl <| ZV (Z5 g0 0) <| ZI rfl ⟨g0, 0, none⟩ (.slice a n k) (XP.out.ZN 0) <| Yl (fun v w' => ZB w' V3.heap.size v A ∧ Below V3.heap.size V3 w') CC (fun v5 V5 hq => ?_)
    obtain ⟨SC, hb5⟩ := hq
    obtain ⟨a5, k5, rfl, -, -⟩ := SC.cs
    rw [HN.out]
    obtain ⟨V6, Xm, Uu, hb6, XY⟩ := QF (a' := a5) (n' := n) (k' := k5) (XP.out.below XP.out.lt hb5) (B := w.heap.size) (w0 := w) (HB1.out.trans (hb5.mono HB1.out.size)) VR.out.1
    have Ej : V6.ownsRow W0.heap.size 49 3 (.slice a5 n k5) n (acc A) := by have := own_base (Zv SC XY (Nat.lt_of_lt_of_le VR.out.2.2.1 HW1.out)) HW1.out; rwa [HN.out] at this
    have jZ := Z9 ((PX.out.below PX.out.lt hb5).but XY VR.out.2.2.2.2.2.1)
    have jY := Z9 ((HZ1.out.below HZ1.out.lt hb5).but XY VR.out.2.2.2.2.2.2.1)
    have Xp := Z9 hb6
    have VJ := Z9 Uu
    have zl : Hid (W0.heap.size ≤ V6.heap.size) := Z9 (Nat.le_trans HW1.out (Nat.le_trans hb5.size XY.1.size))
    have MB := Z9 Ej
    simp only [pu]
    refine ZV (Z5 g0 0) <| Zt rfl (Xm) <| wn ?_
    simp only [pu]
    clear SC hb5 Xm Uu hb6 XY Ej CC XP PX HZ1 HB1 HA1 HW1
    go_upto_region 10 with fail
    refine wl <| ZV Z4 <| wn ?_
    simp only [pu]
    obtain ⟨g5, e5, hg5, -⟩ := VI MB.out (by omega)
    subst e5
    obtain ⟨V7, Xy, L8, hb7, Oj⟩ := JJ (show ZB V6 W0.heap.size (.slice (some ⟨g5, 0, none⟩) n k5) A by unfold ZB; rw [HN.out]; exact MB.out) HN.out.symm (i := Y1 A x.1) (by rw [HN.out]; omega) x
    rw [hfl, ← rD.out (by rw [HN.out]; exact hf)] at L8
    have hpl : (Y9 A x).length = n := by rw [Ye, if_pos (by rw [HN.out]; exact hf)]; exact HN.out
    have HXB := Z9 VJ.out
    have MI := Z9 (VJ.out.below VR.out.2.2.1 hb7)
    have zk := Z9 (jY.out.below VR.out.2.2.2.2.1 hb7)
    have Um := Z9 (Xp.out.trans (hb7.mono VR.out.2.2.2.2.2.2.2))
    have uz := Z9 L8
    have zi := Z9 hpl
    clear hg5 L8 hb7 Oj VJ jY Xp MB hpl
    go_upto_region 11 with fail
    refine wl <| ZV (Z5 g0 0) <| ZI rfl ⟨g0, 0, none⟩ (.slice (some ⟨g5, 0, none⟩) n k5) (HXB.out.ZN 0) <| ZV (Z8 (Y1 A x.1 : Nat)) <| ZI rfl ⟨g1, 0, none⟩ (.agg (ZA x)) (Zn jZ.out) <|
     YO (Z5 g5 (0 + Y1 A x.1 * 3)) (YR g5 0 n k5 (Y1 A x.1) (by omega) _ _ _ rfl (by kernel_rfl) (by kernel_rfl)) <| Zt rfl (Xy) <| wn ?_
    simp only [pu]
    clear Xy HXB jZ
    have TL := uz.out
    obtain ⟨a9, k9, e9, jX, -⟩ := TL.cs
    rw [zi.out] at e9
    simp only [Value.slice.injEq, true_and] at e9
    obtain ⟨rfl, rfl⟩ := e9
    have CT := HLI.out (some ⟨g5, 0, none⟩) k5 V7 jX (by rw [zi.out]; have := H256.out; omega)
    have QY := zn.out (by intro h; have := Em.out.1 h; exact this.1 hf)
    generalize hP : Y9 A x = P at *
    generalize Yp P c = tb at *
    rw [zi.out] at CT
    clear TL jX zn qY Em
    go_upto_region 13 with fail
    cases tb
    ·obtain rfl := QY
     refine wl <| ZI rfl ⟨g0, 0, none⟩ (.agg (ZU (some ⟨g5, 0, none⟩) n k5 c)) (ZQ MI.out) <| Y2 (.tuple #[.agg (ZU none 0 0 0), Z8 6]) (fun w' => Below V7.heap.size V7 w') CT (fun V10 Ve => ?_)
     have JI := Z9 (zk.out.below zk.out.lt Ve)
     have JH := Z9 (Um.out.trans (Ve.mono Um.out.size))
     have hst := ZJ (a' := none) (n' := 0) (k' := 0) (c' := 0) JI.out
     have Zj := Z9 (ZT JH.out VR.out.2.1 (ZU none 0 0 0))
     have Y0 := Z9 (ZQ hst.2)
     have hst1 := hst.1
     generalize World.setRow V10 g2 (ZU none 0 0 0) = V9 at *
     clear hst
     simp only [pu]
     refine ZG (.agg (ZU none 0 0 0)) (Z8 6) <| Zt rfl (hst1) <| ZV (Z8 6) <| wn ?_
     simp only [pu]
     clear hst1 CT Ve
     go_wp2_with fail
     exact bodyPost_ret (ZP (p := 4) (q := 5) rfl (by kernel_rfl) Y0.out rfl) rfl (Yx.err Zj.out)
    ·obtain rfl := QY
     refine wl <| ZI rfl ⟨g0, 0, none⟩ (.agg (ZU (some ⟨g5, 0, none⟩) n k5 c)) (ZQ MI.out) <| Y2 (.tuple #[.agg (ZU (some ⟨g5, 0, none⟩) n k5 c), Z8 0]) (fun w' => Below V7.heap.size V7 w') CT (fun V10 Ve => ?_)
     have JI := Z9 (zk.out.below zk.out.lt Ve)
     have JH := Z9 (Um.out.trans (Ve.mono Um.out.size))
     have hst := ZJ (a' := (some ⟨g5, 0, none⟩)) (n' := n) (k' := k5) (c' := c) JI.out
     have Zj := Z9 (ZT JH.out VR.out.2.1 (ZU (some ⟨g5, 0, none⟩) n k5 c))
     have Y0 := Z9 (ZQ hst.2)
     have hst1 := hst.1
     have HE := Z9 (Zv (own_below uz.out Ve) (But.setRow V10 (g := g2) (ZU (some ⟨g5, 0, none⟩) n k5 c)) VR.out.2.2.2.2.1)
     generalize World.setRow V10 g2 (ZU (some ⟨g5, 0, none⟩) n k5 c) = V9 at *
     clear hst
     simp only [pu]
     refine ZG (.agg (ZU (some ⟨g5, 0, none⟩) n k5 c)) (Z8 0) <| Zt rfl (hst1) <| ZV (Z8 0) <| wn ?_
     simp only [pu]
     clear hst1 CT Ve
     go_wp2_with fail
     exact bodyPost_ret (ZP (p := 4) (q := 5) rfl (by kernel_rfl) Y0.out rfl) rfl (Yx.ok zi.out (own_base HE.out VR.out.2.2.2.2.2.2.2) Zj.out)
   ·rw [decide_eq_false hf] at CP
    have hle := VK A x.1
    rw [HN.out] at hle
    go_upto_region 6 with fail
    refine wl <| ZV (Z5 g0 0) <| ZI rfl ⟨g0, 0, none⟩ (.slice a n k) (XP.out.ZN 0) <| ZV (Z5 g1 0) <| ZI rfl ⟨g1, 0, none⟩ (.string x.1) (PX.out.ZN 0) <|
     Y2 (.tuple #[Z8 (Y1 A x.1 : Nat), ZY]) (fun w' => Below V2.heap.size V2 w') (CP) (fun V3 XE => ?_)
    simp only [pu]
    refine Sz (.tuple #[Z8 (Y1 A x.1 : Nat), ZY]) (Z8 (Y1 A x.1 : Nat)) ZY (Z8 (Y1 A x.1 : Nat)) ZY <| wn ?_
    simp only [pu]
    replace XP := Z9 (XP.out.below XP.out.lt XE)
    replace PX := Z9 (PX.out.below PX.out.lt XE)
    replace HZ1 := Z9 (HZ1.out.below HZ1.out.lt XE)
    replace HB1 := Z9 (HB1.out.trans (XE.mono HB1.out.size))
    replace HA1 := Z9 (HA1.out.below XE)
    replace HW1 : Hid (W0.heap.size ≤ V3.heap.size) := Z9 (Nat.le_trans HW1.out XE.size)
    clear CP XE
    by_cases h25 : n = 256
    ·obtain rfl := qY.out (Em.out.2 ⟨hf, h25⟩)
     go_upto_region 7 with fail
     refine wl <| Xl ZY Z4 Z4 (Z5 g0 0) <| ZI rfl ⟨g0, 0, none⟩ (.slice a n k) (XP.out.ZN 0) <| ZV (Z8 n) <|
      ZM (Xv rfl n 256 dT) <| ZV Z4 <| wn ?_
     simp only [pu]
     have hst := ZJ (a' := none) (n' := 0) (k' := 0) (c' := 0) HZ1.out
     have Zj := Z9 (ZT HB1.out VR.out.2.1 (ZU none 0 0 0))
     have Y0 := Z9 (ZQ hst.2)
     have hst1 := hst.1
     generalize World.setRow V3 g2 (ZU none 0 0 0) = V9 at *
     clear hst
     go_upto_region 8 with fail
     refine wl <| ZV (.agg #[.slice none 0 0, Z7 0]) <| Zt rfl (hst1) <| ZV (Z8 3) <| wn ?_
     simp only [pu]
     clear hst1
     go_wp2_with fail
     exact bodyPost_ret (ZP (p := 4) (q := 5) rfl (by kernel_rfl) Y0.out rfl) rfl (Yx.err Zj.out)
    ·go_upto_region 7 with fail
     refine wl <| Xl ZY Z4 Z4 (Z5 g0 0) <| ZI rfl ⟨g0, 0, none⟩ (.slice a n k) (XP.out.ZN 0) <| ZV (Z8 n) <|
      ZM (Xv rfl n 256 dF) <| ZV ZY <| wn ?_
     simp only [pu]
     have CC := kC.out V3 (by rw [HN.out]; have := H256.out; omega) HA1.out
     rw [HN.out] at CC
     go_upto_region 9 with fail
     refine wl <| ZV (Z5 g0 0) <| ZI rfl ⟨g0, 0, none⟩ (.slice a n k) (XP.out.ZN 0) <| Yl (fun v w' => ZB w' V3.heap.size v A ∧ Below V3.heap.size V3 w') CC (fun v5 V5 hq => ?_)
     obtain ⟨SC, hb5⟩ := hq
     obtain ⟨a5, k5, rfl, -, -⟩ := SC.cs
     rw [HN.out]
     obtain ⟨V6, Xm, Uu, hb6, XY⟩ := QF (a' := a5) (n' := n) (k' := k5) (XP.out.below XP.out.lt hb5) (B := w.heap.size) (w0 := w) (HB1.out.trans (hb5.mono HB1.out.size)) VR.out.1
     have Ej : V6.ownsRow W0.heap.size 49 3 (.slice a5 n k5) n (acc A) := by have := own_base (Zv SC XY (Nat.lt_of_lt_of_le VR.out.2.2.1 HW1.out)) HW1.out; rwa [HN.out] at this
     have jZ := Z9 ((PX.out.below PX.out.lt hb5).but XY VR.out.2.2.2.2.2.1)
     have jY := Z9 ((HZ1.out.below HZ1.out.lt hb5).but XY VR.out.2.2.2.2.2.2.1)
     have Xp := Z9 hb6
     have VJ := Z9 Uu
     have zl : Hid (W0.heap.size ≤ V6.heap.size) := Z9 (Nat.le_trans HW1.out (Nat.le_trans hb5.size XY.1.size))
     have MB := Z9 Ej
     simp only [pu]
     refine ZV (Z5 g0 0) <| Zt rfl (Xm) <| wn ?_
     simp only [pu]
     clear SC hb5 Xm Uu hb6 XY Ej CC XP PX HZ1 HB1 HA1 HW1
     go_upto_region 10 with fail
     refine wl <| ZV ZY <| wn ?_
     simp only [pu]
     have CI := HIN.out (.slice a5 n k5) W0.heap.size V6 (by unfold ZB; rw [HN.out]; exact MB.out) zl.out (by rw [HN.out]; have := H256.out; omega)
     rw [← rC.out (by rw [HN.out]; exact hf)] at CI
     have hpl : (Y9 A x).length = n + 1 := by rw [Ye, if_neg (by rw [HN.out]; exact hf), HN.out]
     go_upto_region 12 with fail
     refine wl <| ZV (Z5 g0 0) <| ZI rfl ⟨g0, 0, none⟩ (.slice a5 n k5) (VJ.out.ZN 0) <| ZV (Z8 (Y1 A x.1 : Nat)) <| ZI rfl ⟨g1, 0, none⟩ (.agg (ZA x)) (Zn jZ.out) <|
      Yl (fun v w' => ZB w' W0.heap.size v (Y9 A x) ∧ Below W0.heap.size V6 w') CI (fun v7 V7 hq => ?_)
     obtain ⟨L8, hb7⟩ := hq
     obtain ⟨a7, k7, rfl, -, -⟩ := L8.cs
     rw [hpl]
     obtain ⟨V8, Vd, PV, hb8, XW⟩ := QF (a' := a7) (n' := n + 1) (k' := k7) (VJ.out.below VR.out.2.2.1 hb7) (B := w.heap.size) (w0 := w) (Xp.out.trans (hb7.mono VR.out.2.2.2.2.2.2.2)) VR.out.1
     have uz : Hid (ZB V8 W0.heap.size (.slice a7 (n + 1) k7) (Y9 A x)) := Z9 (by rw [← hpl]; exact Zv L8 XW VR.out.2.2.1)
     have MI := Z9 PV
     have zk := Z9 ((jY.out.below VR.out.2.2.2.2.1 hb7).but XW VR.out.2.2.2.2.2.2.1)
     have Um := Z9 hb8
     simp only [pu]
     refine ZV (Z5 g0 0) <| Zt rfl (Vd) <| wn ?_
     simp only [pu]
     have zi := Z9 hpl
     clear L8 hb7 Vd PV hb8 XW CI VJ jZ jY Xp MB hpl
     have TL := uz.out
     obtain ⟨a9, k9, e9, jX, -⟩ := TL.cs
     rw [zi.out] at e9
     simp only [Value.slice.injEq, true_and] at e9
     obtain ⟨rfl, rfl⟩ := e9
     have CT := HLI.out a7 k7 V8 jX (by rw [zi.out]; have := H256.out; omega)
     have QY := zn.out (by intro h; have := Em.out.1 h; exact h25 this.2)
     generalize hP : Y9 A x = P at *
     generalize Yp P c = tb at *
     rw [zi.out] at CT
     clear TL jX zn qY Em
     go_upto_region 13 with fail
     cases tb
     ·obtain rfl := QY
      refine wl <| ZI rfl ⟨g0, 0, none⟩ (.agg (ZU a7 (n + 1) k7 c)) (ZQ MI.out) <| Y2 (.tuple #[.agg (ZU none 0 0 0), Z8 6]) (fun w' => Below V8.heap.size V8 w') CT (fun V10 Ve => ?_)
      have JI := Z9 (zk.out.below zk.out.lt Ve)
      have JH := Z9 (Um.out.trans (Ve.mono Um.out.size))
      have hst := ZJ (a' := none) (n' := 0) (k' := 0) (c' := 0) JI.out
      have Zj := Z9 (ZT JH.out VR.out.2.1 (ZU none 0 0 0))
      have Y0 := Z9 (ZQ hst.2)
      have hst1 := hst.1
      generalize World.setRow V10 g2 (ZU none 0 0 0) = V9 at *
      clear hst
      simp only [pu]
      refine ZG (.agg (ZU none 0 0 0)) (Z8 6) <| Zt rfl (hst1) <| ZV (Z8 6) <| wn ?_
      simp only [pu]
      clear hst1 CT Ve
      go_wp2_with fail
      exact bodyPost_ret (ZP (p := 4) (q := 5) rfl (by kernel_rfl) Y0.out rfl) rfl (Yx.err Zj.out)
     ·obtain rfl := QY
      refine wl <| ZI rfl ⟨g0, 0, none⟩ (.agg (ZU a7 (n + 1) k7 c)) (ZQ MI.out) <| Y2 (.tuple #[.agg (ZU a7 (n + 1) k7 c), Z8 0]) (fun w' => Below V8.heap.size V8 w') CT (fun V10 Ve => ?_)
      have JI := Z9 (zk.out.below zk.out.lt Ve)
      have JH := Z9 (Um.out.trans (Ve.mono Um.out.size))
      have hst := ZJ (a' := a7) (n' := (n + 1)) (k' := k7) (c' := c) JI.out
      have Zj := Z9 (ZT JH.out VR.out.2.1 (ZU a7 (n + 1) k7 c))
      have Y0 := Z9 (ZQ hst.2)
      have hst1 := hst.1
      have HE := Z9 (Zv (own_below uz.out Ve) (But.setRow V10 (g := g2) (ZU a7 (n + 1) k7 c)) VR.out.2.2.2.2.1)
      generalize World.setRow V10 g2 (ZU a7 (n + 1) k7 c) = V9 at *
      clear hst
      simp only [pu]
      refine ZG (.agg (ZU a7 (n + 1) k7 c)) (Z8 0) <| Zt rfl (hst1) <| ZV (Z8 0) <| wn ?_
      simp only [pu]
      clear hst1 CT Ve
      go_wp2_with fail
      exact bodyPost_ret (ZP (p := 4) (q := 5) rfl (by kernel_rfl) Y0.out rfl) rfl (Yx.ok zi.out (own_base HE.out VR.out.2.2.2.2.2.2.2) Zj.out)
 ·obtain rfl := Eo.out hv
  go_upto_region 2 with fail
  refine wl <| ZV (Z8 ve) <| ZM (YZ rfl ve 0 (decide_eq_false hv)) <| wn ?_
  simp only [pu]
  have hst := ZJ (a' := none) (n' := 0) (k' := 0) (c' := 0) HZ1.out
  have Zj := Z9 (ZT HB1.out VR.out.2.1 (ZU none 0 0 0))
  have Y0 := Z9 (ZQ hst.2)
  have hst1 := hst.1
  generalize World.setRow V1 g2 (ZU none 0 0 0) = V9 at *
  clear hst
  go_upto_region 3 with fail
  refine wl <| ZG (.agg #[.slice none 0 0, Z7 0]) (Z8 ve) <| Zt rfl (hst1) <| ZV (Z8 ve) <| wn ?_
  simp only [pu]
  clear hst1
  go_wp2_with fail
  exact bodyPost_ret (ZP (p := 4) (q := 5) rfl (by kernel_rfl) Y0.out rfl) rfl (Yx.err Zj.out)
structure K6 (W : World) (P : List Ac) (c : Int) (b3 b6 b7 b8 : Bool) (x24 x7 : Value) (V : World) : Prop where
 bel : Below W.heap.size W V
 row : b3 = true → ZB V W.heap.size x24 P
 o3 : b8 = true → b3 = true
 o6 : b6 = true → b3 = true
 o7 : b8 = true → b7 = true
 box : b7 = true → ∃ g, x7 = Z5 g 0 ∧ W.heap.size ≤ g ∧ (b8 = false → Bx V g (ZU none 0 0 0) 33) ∧ (b3 = true → x24.ownBlock ≠ some g) ∧ (b8 = true → ∃ ad kk, x24 = .slice ad P.length kk ∧ Bx V g (ZU ad P.length kk c) 33)
theorem qX {ρ : Operand → Value} {o : Oper} {x y : Operand} (ho : o.op = .binOp .neq 23 x y 23) (a : Int) (hx : ρ x = Z7 a) (hy : ρ y = Z7 a) (w : World) : (execOp ρ o).run Try.prog w = .ok (.value ZY) w := by
 unfold execOp
 simp only [ho, hx, hy]
 go_simp
theorem zh {ρ : Operand → Value} {o : Oper} {x y : Operand} (ho : o.op = .binOp .neq 49 x y 49) (a : Ac) (hx : ρ x = .agg (ZA a)) (hy : ρ y = .agg (ZA a)) (w : World) : (execOp ρ o).run Try.prog w = .ok (.value ZY) w := by
 unfold execOp
 simp only [ho, hx, hy]
 go_simp
theorem U9 (A : List Ac) (c : Int) (a1 a2 : Option Addr) (c1 c2 : Nat) (w : World) (h1 : Cs w a1 (acc A)) (h2 : Cs w a2 (acc A)) (hn : A.length ≤ 4398046511104) :
  Calls Try.prog 25 #[.agg (ZU a1 A.length c1 c), .agg (ZU a2 A.length c2 c)] w fun e w' => e = .returned Z4 ∧ Below w.heap.size w w' := by
 obtain ⟨hb0, hX0, hY0⟩ := Zi w (ZU a1 A.length c1 c) (ZU a2 A.length c2 c) 33 33
 have HA1 := Z9 (h1.below hb0)
 have HA2 := Z9 (h2.below hb0)
 obtain ⟨n, hnn⟩ := ZR A.length
 have HN := Z9 hnn
 rw [hnn] at hb0 hX0 hY0 HA1 HA2 hn ⊢
 clear hnn h1 h2
 go_enter Try.func25, Try.ntmps25
 go_upto_region 1 with fail
 change Code.wp _ _ _ _ ((w.alloc (.cells (ZU a1 n c1 c) 33)).alloc (.cells (ZU a2 n c2 c) 33))
 generalize (w.alloc (.cells (ZU a1 n c1 c) 33)).alloc (.cells (ZU a2 n c2 c) 33) = W at *
 obtain ⟨g0, hg0⟩ := ZR w.heap.size
 obtain ⟨g2, hg2⟩ := ZR (w.heap.size + 1)
 have HB0 := Z9 hb0
 rw [hg2] at hY0
 rw [hg0] at hX0
 simp only [hg0]
 rw [show g0 + 1 = g2 by omega]
 have HX := Z9 hX0
 have HY := Z9 hY0
 clear hb0 hg0 hg2 hX0 hY0
 refine wl <| ZV (Z5 g0 0) <| ZI rfl ⟨g0, 0, none⟩ (.slice a1 n c1) (HX.out.ZN 0) <| ZG (Z8 n) (Z5 g2 0) <| ZI rfl ⟨g2, 0, none⟩ (.slice a2 n c2) (HY.out.ZN 0) <|
  ZV (Z8 n) <| ZM (Ei rfl n n (decide_eq_true rfl)) <| ZG ZY (Z5 g0 1) <| ZI rfl ⟨g0, 1, none⟩ (Z7 c) (HX.out.ZN 1) <| ZV (Z5 g2 1) <|
  ZI rfl ⟨g2, 1, none⟩ (Z7 c) (HY.out.ZN 1) <| YN ZY (qX rfl c) <| ZV ZY <| wn ?_
 simp only [pu]
 go_upto_region 3 with fail
 refine wl <| ZV (Z5 g0 0) <| ZI rfl ⟨g0, 0, none⟩ (.slice a1 n c1) (HX.out.ZN 0) <| ZG (Z8 n) (Z8 0) <| wn ?_
 simp only [pu]
 go_wp2_with fail
 go_loopg [23] n (fun gg s23 wx => ∃ j : Nat, s23 = Z8 j ∧ j ≤ n ∧ Hid (Below W.heap.size W wx) ∧ n - j = gg)
 case atStart => exact ⟨0, rfl, by omega, Z9 (Below.refl _ _), by omega⟩
 case round =>
  obtain ⟨j, rfl, hj, HB, hg⟩ := hrel
  by_cases hlt : j < n
  ·have HG : Hid (n - (j + 1) = gk - 1 ∧ 0 < gk ∧ j + 1 ≤ n ∧ j + 1 ≤ 4398046511104) := Z9 ⟨by omega, by omega, by omega, by omega⟩
   have hjm : j < A.length := by rw [HN.out]; exact hlt
   obtain ⟨b1, o1, rfl, -, hr1⟩ := YS (HA1.out.below HB.out) (k := j) hjm
   obtain ⟨b2, o2, rfl, -, hr2⟩ := YS (HA2.out.below HB.out) (k := j) hjm
   have uy : Hid ((Instr.loadAt 49 (Z5 b1 (o1 + j * 3))).run Try.prog wr.drew = .ok (.agg (ZA (aca A j))) wr.drew) := Z9 (Ym (w := wr.drew) hr1)
   have HL2 : Hid ((Instr.loadAt 49 (Z5 b2 (o2 + j * 3))).run Try.prog wr.drew = .ok (.agg (ZA (aca A j))) wr.drew) := Z9 (Ym (w := wr.drew) hr2)
   have lJ := Z9 (HX.out.below HX.out.lt HB.out.drew)
   have HY9 := Z9 (HY.out.below HY.out.lt HB.out.drew)
   have Zj := Z9 HB.out.drew
   generalize aca A j = y at *
   clear hr1 hr2 hjm hg HB
   go_upto_region 4 with fail
   refine wl <| ZM (ZC rfl (j) (n) dT) <| wn ?_
   simp only [pu]
   go_upto_region 5 with fail
   refine wl <| ZG (Z8 j) (Z8 j) <| wn ?_
   simp only [pu]
   go_upto_region 6 with fail
   refine ZF (C := fun U => U = wr.drew) (by kernel_rfl) (by kernel_rfl) (rfl) ?_
   refine gy (Z5 g0 0) <| UN rfl ⟨g0, 0, none⟩ (.slice (some ⟨b1, o1, none⟩) n c1) (fun U hU => by rw [hU]; exact lJ.out.ZN 0) <| gy (Z8 j) <|
     X3 (Z5 b1 (o1 + j * 3)) (fun U hU => YR b1 o1 n c1 j hlt _ _ _ rfl (by kernel_rfl) (by kernel_rfl)) <| UN rfl ⟨b1, o1 + j * 3, none⟩ (.agg (ZA y)) (fun U hU => by rw [hU]; exact uy.out) <| gy (Z5 g2 0) <|
     UN rfl ⟨g2, 0, none⟩ (.slice (some ⟨b2, o2, none⟩) n c2) (fun U hU => by rw [hU]; exact HY9.out.ZN 0) <| gy (Z8 j) <| X3 (Z5 b2 (o2 + j * 3)) (fun U hU => YR b2 o2 n c2 j hlt _ _ _ rfl (by kernel_rfl) (by kernel_rfl)) <|
     UN rfl ⟨b2, o2 + j * 3, none⟩ (.agg (ZA y)) (fun U hU => by rw [hU]; exact HL2.out) <| X3 ZY (fun U hU => zh rfl y (by kernel_rfl) (by kernel_rfl) _) ?_
   simp only [pu]
   apply wpQuiet_nil
   intro U hU
   subst hU
   clear uy HL2 lJ HY9
   go_upto_region 8 with fail
   refine wl <| YN (Z8 (j + 1 : Nat)) (ZK rfl j 1 (by have := HG.out; omega)) <| ZV (Z8 (j + 1 : Nat)) <| wn ?_
   simp only [pu]
   go_wp2_with fail
   go_roundg (gk - 1)
   case measure => have := HG.out; omega
   case rel => exact ⟨j + 1, rfl, HG.out.2.2.1, Zj, HG.out.1⟩
  ·have Zj := Z9 (HB0.out.trans (HB.out.mono HB0.out.size))
   clear HB hg
   go_upto_region 4 with fail
   refine wl <| ZM (ZC rfl (j) (n) dF) <| wn ?_
   simp only [pu]
   go_upto_region 9 with fail
   refine wl <| ZV Z4 <| wn ?_
   simp only [pu]
   go_wp2_with fail
   go_ret
   exact ⟨rfl, Zj.out⟩
end Go.Proofs.Ytnhlpahoomcgnaa.Lg
namespace Go.Proofs.Ytnhlpahoomcgnaa.Lg
open Go.RowKit
end Go.Proofs.Ytnhlpahoomcgnaa.Lg
