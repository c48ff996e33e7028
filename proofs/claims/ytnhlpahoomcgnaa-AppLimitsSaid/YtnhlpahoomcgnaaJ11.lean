/-
  Texts LV LI joined.
-/
import Derived.Test.YtnhlpahoomcgnaaJ10
import Derived.Test.YtnhlpahoomcgnaaJ1
set_option maxRecDepth 100000
set_option maxHeartbeats 8000000
set_option linter.unusedSimpArgs false
set_option linter.unusedVariables false
namespace Go.Proofs.Ytnhlpahoomcgnaa.Lg
attribute [local irreducible] wpList wpQuiet
open Go.RowKit
theorem qO {A : List Ac} {i : Nat} (h : isName (nums (aca A i).1) = false) : Xb A i = 10 := if_pos h
theorem jP {A : List Ac} {i : Nat} (h : isName (nums (aca A i).1) = true) (h0 : 0 < i) (h1 : (aca A (i - 1)).1 = (aca A i).1) : Xb A i = 8 := by
 unfold Xb
 rw [if_neg (by rw [h]; simp), if_pos ⟨h0, h1⟩]
theorem jO {A : List Ac} {i : Nat} (h : isName (nums (aca A i).1) = true) (h0 : 0 < i) (h1 : ¬ (aca A (i - 1)).1 = (aca A i).1) (h2 : WG (aca A i).1 (aca A (i - 1)).1 = true) : Xb A i = 1 := by
 unfold Xb
 rw [if_neg (by rw [h]; simp), if_neg (fun q => h1 q.2), if_pos ⟨h0, h2⟩]
theorem jM {A : List Ac} {i : Nat} (h : isName (nums (aca A i).1) = true) (h0 : ¬ 0 < i) : Xb A i = 0 := by
 unfold Xb
 rw [if_neg (by rw [h]; simp), if_neg (fun q => h0 q.1), if_neg (fun q => h0 q.1)]
theorem jL {A : List Ac} {i : Nat} (h : isName (nums (aca A i).1) = true) (h1 : ¬ (aca A (i - 1)).1 = (aca A i).1) (h2 : WG (aca A i).1 (aca A (i - 1)).1 = false) : Xb A i = 0 := by
 unfold Xb
 rw [if_neg (by rw [h]; simp), if_neg (fun q => h1 q.2), if_neg (fun q => by rw [h2] at q; cases q.2)]
theorem yR {A : List Ac} {c : Int} (h : 256 < A.length) : Y8 A c = 3 := if_pos h
theorem yQ {A : List Ac} {c : Int} {i : Nat} {e : Int} (h : ¬ 256 < A.length) (hi : i < A.length) (hb : ∀ t, t < i → Xb A t = 0) (he : Xb A i = e) (h0 : e ≠ 0) : Y8 A c = e := by
 have h1 := Ip hi hb (by rw [he]; exact h0)
 unfold Y8
 rw [if_neg h, h1, he, if_pos h0]
theorem yP {A : List Ac} {c : Int} (h : ¬ 256 < A.length) (hb : ∀ t, t < A.length → Xb A t = 0) : Y8 A c = Gl A c := by
 unfold Y8
 rw [if_neg h, N9 hb, if_neg (by simp)]
def aa0 (tb : Bool) (a : Option Addr) (n k : Nat) (c : Int) : Array Value := cond tb (ZU a n k c) (ZU none 0 0 0)
theorem qN (A : List Ac) (c : Int) : Gl A c = cond (Yp A c) 0 6 := by
 unfold Gl
 cases Yp A c <;> simp
theorem Sr (a : Option Addr) (k : Nat) (A : List Ac) (c : Int) (w : World) (hR : Cs w a (acc A)) (hn : A.length ≤ 4398046511104) (hc : W64 c) (hw : Xz A) :
  Calls Try.prog 34 #[.agg (ZU a A.length k c)] w fun e w' => e = .returned (.tuple #[.agg (aa0 (Yp A c) a A.length k c), Z8 (cond (Yp A c) 0 6)]) ∧ Below w.heap.size w w' := by
 have hb0 : Below w.heap.size w (w.alloc (.cells (ZU a A.length k c) 33)) := (Below.refl _ w).alloc (Nat.le_refl _) _
 have hX0 : Bx (w.alloc (.cells (ZU a A.length k c) 33)) w.heap.size (ZU a A.length k c) 33 := heap_alloc_last w _
 have hb1 : Below (w.alloc (.cells (ZU a A.length k c) 33)).heap.size (w.alloc (.cells (ZU a A.length k c) 33)) ((w.alloc (.cells (ZU a A.length k c) 33)).alloc (.cells (ZU none 0 0 0) 33)) := (Below.refl _ _).alloc (Nat.le_refl _) _
 have Uk : Bx ((w.alloc (.cells (ZU a A.length k c) 33)).alloc (.cells (ZU none 0 0 0) 33)) (w.heap.size + 1) (ZU none 0 0 0) 33 := by
  have := heap_alloc_last (w.alloc (.cells (ZU a A.length k c) 33)) (.cells (ZU none 0 0 0) 33)
  rwa [show (w.alloc (.cells (ZU a A.length k c) 33)).heap.size = w.heap.size + 1 by simp] at this
 have CT := yO a k A c ((w.alloc (.cells (ZU a A.length k c) 33)).alloc (.cells (ZU none 0 0 0) 33)) (hR.below (hb0.trans (hb1.mono hb0.size))) hn hc hw
 generalize A.length = n at *
 generalize Oe A c = tv at *
 generalize htb : Yp A c = tb at *
 clear htb hR hn hc hw
 go_enter Try.func34, Try.ntmps34
 go_upto_region 1 with fail
 change Code.wp _ _ _ _ ((w.alloc (.cells (ZU a n k c) 33)).alloc (.cells (ZU none 0 0 0) 33))
 generalize w.alloc (.cells (ZU a n k c) 33) = W0 at *
 have hX1 := hX0.below hX0.lt hb1
 have HB1 := Z9 (hb0.trans (hb1.mono hb0.size))
 generalize W0.alloc (.cells (ZU none 0 0 0) 33) = W at *
 obtain ⟨g0, hg0⟩ := ZR w.heap.size
 obtain ⟨g1, hg1⟩ := ZR (w.heap.size + 1)
 have uq : Hid (w.heap.size ≤ g1) := Z9 (by omega)
 rw [hg1] at Uk
 rw [hg0] at hX1
 simp only [hg0]
 rw [show g0 + 1 = g1 by omega]
 clear hb0 hb1 hX0 hg0 hg1
 refine wl <| ZI rfl ⟨g0, 0, none⟩ (.agg (ZU a n k c)) (ZQ hX1) <| Y2 (.tuple #[Z7 tv, .bool tb]) (fun w' => Below W.heap.size W w') (CT) (fun V2 hV2 => ?_)
 have HX := Z9 (hX1.below hX1.lt hV2)
 have hZ := Uk.below Uk.lt hV2
 have HB := Z9 (HB1.out.trans (hV2.mono HB1.out.size))
 simp only [pu]
 refine Sz (.tuple #[Z7 tv, .bool tb]) (Z7 tv) (.bool tb) (Z7 tv) (.bool tb) <| wn ?_
 simp only [pu]
 clear CT hV2 hX1 Uk HB1
 cases tb
 ·go_upto_region 2 with fail
  refine wl <| ZG ZY Z4 <| wn ?_
  simp only [pu]
  have hst := ZJ (a' := none) (n' := 0) (k' := 0) (c' := 0) hZ
  have Zj := Z9 (ZT HB.out uq.out (ZU none 0 0 0))
  have Y0 := Z9 (ZQ hst.2)
  have hst1 := hst.1
  generalize V2.setRow g1 (ZU none 0 0 0) = V9 at *
  clear hst hZ
  go_upto_region 3 with fail
  refine wl <| ZV (.agg #[.slice none 0 0, Z7 0]) <| Zt rfl (hst1) <| ZV (Z8 6) <| wn ?_
  simp only [pu]
  clear hst1
  go_wp2_with fail
  exact bodyPost_ret (ZP (p := 2) (q := 3) rfl (by kernel_rfl) Y0.out rfl) rfl ⟨rfl, Zj.out⟩
 ·go_upto_region 2 with fail
  refine wl <| ZG Z4 ZY <| wn ?_
  simp only [pu]
  have hst := ZJ (a' := a) (n' := n) (k' := k) (c' := c) hZ
  have Zj := Z9 (ZT HB.out uq.out (ZU a n k c))
  have Y0 := Z9 (ZQ hst.2)
  have hst1 := hst.1
  generalize V2.setRow g1 (ZU a n k c) = V9 at *
  clear hst hZ
  go_upto_region 4 with fail
  refine wl <| ZI rfl ⟨g0, 0, none⟩ (.agg (ZU a n k c)) (ZQ HX.out) <| Zt rfl (hst1) <| ZV (Z8 0) <| wn ?_
  simp only [pu]
  clear hst1
  go_wp2_with fail
  exact bodyPost_ret (ZP (p := 2) (q := 3) rfl (by kernel_rfl) Y0.out rfl) rfl ⟨rfl, Zj.out⟩
theorem LK {ρ : Operand → Value} {o : Oper} {x y : Operand} (ho : o.op = .binOp .sub 3 x y 3) (m : Nat) (h0 : 0 < m) (hm : m ≤ 9223372036854775807) (hx : ρ x = Z8 m) (hy : ρ y = Z8 1) (w : World) : (execOp ρ o).run Try.prog w = .ok (.value (Z8 (m - 1 : Nat))) w := by
 have e : (m : Int) - 1 = ((m - 1 : Nat) : Int) := by omega
 have hw : IntKind.i64.wrap ((m - 1 : Nat) : Int) = ((m - 1 : Nat) : Int) := by rw [IntKind.wrap_i64]; omega
 unfold execOp
 simp only [ho, hx, hy]
 go_simp
def Gj (w : World) (b o : Nat) (s : ByteArray) : Prop := w.cell? ⟨b, o, none⟩ = some (.string s)
theorem uo {w : World} {b o : Nat} {x : Ac} (h : w.rangeAt b o (acl x)) : Gj w b o x.1 := by have := h 0 (.string x.1) rfl; rwa [Nat.add_zero] at this
theorem Gj.load {w : World} {b o : Nat} {s : ByteArray} (h : Gj w b o s) : (Instr.loadAt 9 (Z5 b o)).run Try.prog w = .ok (.string s) w := YV h (by kernel_rfl)
theorem Gj.drew {w : World} {b o : Nat} {s : ByteArray} (h : Gj w b o s) : Gj w.drew b o s := h
theorem VL (a : Option Addr) (k : Nat) (A : List Ac) (c : Int) (w : World) (hR : Cs w a (acc A)) (hn : A.length ≤ 4398046511104) (hc : W64 c) (hw : Xz A) (hz : ∀ x, x ∈ A → x.1.size ≤ 140737488355328) :
  Calls Try.prog 57 #[.agg (ZU a A.length k c)] w fun e w' => e = .returned (Z8 (Y8 A c)) ∧ Below w.heap.size w w' := by
 have hb0 : Below w.heap.size w (w.alloc (.cells (ZU a A.length k c) 33)) := (Below.refl _ w).alloc (Nat.le_refl _) _
 have hX0 : Bx (w.alloc (.cells (ZU a A.length k c) 33)) w.heap.size (ZU a A.length k c) 33 := heap_alloc_last w _
 have HA := Z9 (hR.below hb0)
 have HZ := Z9 hz
 have CL := Z9 (fun (V : World) (a2 : Option Addr) (h : Cs V a2 (acc A)) => Sr a2 k A c V h hn hc hw)
 obtain ⟨ve, qZ⟩ := ZR (Y8 A c)
 have HE2 : Hid (256 < A.length → ve = 3) := Z9 fun h => by rw [← qZ]; exact yR h
 have JA : Hid (∀ i e, ¬ 256 < A.length → i < A.length → (∀ t, t < i → Xb A t = 0) → Xb A i = e → e ≠ 0 → ve = e) := Z9 fun i e h1 h2 h3 h4 h5 => by rw [← qZ]; exact yQ h1 h2 h3 h4 h5
 have Eo : Hid (¬ 256 < A.length → (∀ t, t < A.length → Xb A t = 0) → ve = cond (Yp A c) 0 6) := Z9 fun h1 h2 => by rw [← qZ, yP h1 h2, qN]
 obtain ⟨n, hnn⟩ := ZR A.length
 have HN := Z9 hnn
 have TI : Hid (n ≤ 4398046511104) := Z9 (by omega)
 rw [hnn] at hb0 hX0 HA CL HE2 JA Eo
 rw [qZ, hnn]
 generalize Yp A c = tb at *
 clear hR hn hnn hw hc hz qZ
 go_enter Try.func57, Try.ntmps57
 go_upto_region 1 with fail
 change Code.wp _ _ _ _ (w.alloc (.cells (ZU a n k c) 33))
 generalize w.alloc (.cells (ZU a n k c) 33) = W at *
 obtain ⟨g0, hg0⟩ := ZR w.heap.size
 have HB0 := Z9 hb0
 rw [hg0] at hX0
 simp only [hg0]
 have HX := Z9 hX0
 clear hb0 hg0 hX0
 by_cases hbig : 256 < n
 ·refine wl <| ZV (Z5 g0 0) <| ZI rfl ⟨g0, 0, none⟩ (.slice a n k) (HX.out.ZN 0) <| ZV (Z8 n) <| ZM (Zl rfl (n) (256) dT) <| wn ?_
  simp only [pu]
  obtain rfl := HE2.out hbig
  go_upto_region 2 with fail
  refine wl <| ZV (Z8 3) <| wn ?_
  simp only [pu]
  go_wp2_with fail
  go_ret
  exact ⟨rfl, HB0.out⟩
 have LX := Z9 hbig
 clear HE2
 refine wl <| ZV (Z5 g0 0) <| ZI rfl ⟨g0, 0, none⟩ (.slice a n k) (HX.out.ZN 0) <| ZV (Z8 n) <| ZM (Zl rfl (n) (256) dF) <| wn ?_
 simp only [pu]
 go_upto_region 3 with fail
 refine wl <| ZV (Z5 g0 0) <| ZI rfl ⟨g0, 0, none⟩ (.slice a n k) (HX.out.ZN 0) <| ZG (Z8 n) (Z8 0) <| wn ?_
 simp only [pu]
 clear hbig
 go_wp2_with fail
 go_loopg [14] n (fun gg s14 wx => ∃ j : Nat, s14 = Z8 j ∧ j ≤ n ∧ Hid (∀ t, t < j → Xb A t = 0) ∧ Hid (Below W.heap.size W wx) ∧ n - j = gg)
 case atStart => exact ⟨0, rfl, by omega, Z9 (fun t h => by omega), Z9 (Below.refl _ _), by omega⟩
 case round =>
  obtain ⟨j, rfl, hj, HO, HB, hg⟩ := hrel
  have EO := TI.out
  by_cases hlt : j < n
  ·obtain ⟨b, off, rfl, -, hrx⟩ := YS (HA.out.below HB.out) (k := j) (by rw [HN.out]; exact hlt)
   have Y0 := Z9 (Ym hrx)
   have QY := Z9 (fun e => JA.out j e LX.out hlt HO.out)
   have H10 := Z9 (@qO A j)
   have H8 := Z9 (@jP A j)
   have H1 := Z9 (@jO A j)
   have HZ0 := Z9 (@jM A j)
   have mF := Z9 (@jL A j)
   have aB := Z9 (HZ.out (aca A j) (UM (by rw [HN.out]; exact hlt)))
   generalize hy : aca A j = y at *
   have HY := Z9 hy
   have HG := Z9 hg
   obtain ⟨V2, hst, hb2, hbx⟩ := WW wr y
   have HB2 := Z9 (HB.out.trans (hb2.mono HB.out.size))
   have CN := Vg y.1 V2
   generalize hnm : isName (nums y.1) = nm at *
   clear hrx hg hb2 hnm hy
   go_upto_region 4 with fail
   refine wl <| ZM (ZC rfl (j) (n) dT) <| wn ?_
   simp only [pu]
   go_upto_region 5 with fail
   refine wl <| ZV (Z8 j) <| YO (Z5 b (off + j * 3)) (YR b off n k j hlt _ _ _ rfl (by kernel_rfl) (by kernel_rfl)) <| ZI rfl ⟨b, off + j * 3, none⟩ (.agg (ZA y)) (Y0.out) ?_
   simp only [pu]
   refine Zz rfl (some 4) rfl (Z5 wr.heap.size 0) (wr.alloc (.cells (ZA Xg) 49)) (by kernel_rfl) ?_
   simp only [pu]
   refine ZV (Z8 j) <| Zt rfl (hst) <| wn ?_
   simp only [pu]
   obtain ⟨g4, hg4⟩ := ZR wr.heap.size
   rw [hg4] at hbx ⊢
   clear hst hg4
   go_upto_region 6 with fail
   cases nm
   ·refine wl <| ZV (Z5 g4 0) <| ZI rfl ⟨g4, 0, none⟩ (.string y.1) (hbx.ZN 0) <| Y2 ZY (fun w' => Below V2.heap.size V2 w') (CN) (fun V3 XE => ?_)
    simp only [pu]
    refine ZG Z4 Z4 <| wn ?_
    simp only [pu]
    have HB3 := Z9 (HB2.out.trans (XE.mono HB2.out.size))
    have YK := Z9 (hbx.below hbx.lt XE)
    clear XE hbx CN HB2
    obtain rfl := QY.out 10 (H10.out rfl) (by decide)
    have Zj := Z9 (HB0.out.trans (HB3.out.mono HB0.out.size))
    clear QY H10 H8 H1 HZ0 mF HB3 Y0 HB
    go_upto_region 7 with fail
    refine wl <| ZV (Z8 10) <| wn ?_
    simp only [pu]
    go_wp2_with fail
    go_ret
    exact ⟨rfl, Zj.out⟩
   ·refine wl <| ZV (Z5 g4 0) <| ZI rfl ⟨g4, 0, none⟩ (.string y.1) (hbx.ZN 0) <| Y2 Z4 (fun w' => Below V2.heap.size V2 w') (CN) (fun V3 XE => ?_)
    simp only [pu]
    refine ZG ZY ZY <| wn ?_
    simp only [pu]
    have HB3 := Z9 (HB2.out.trans (XE.mono HB2.out.size))
    have YK := Z9 (hbx.below hbx.lt XE)
    clear XE hbx CN HB2
    clear H10
    clear Y0
    by_cases hpos : 0 < j
    ·obtain ⟨b2, off2, ea, -, hrx⟩ := YS (HA.out.below HB3.out.drew) (k := j - 1) (by rw [HN.out]; omega)
     simp only [Option.some.injEq, Addr.mk.injEq, and_true] at ea
     obtain ⟨rfl, rfl⟩ := ea
     have PS := Z9 (uo hrx)
     have U7 := Z9 (YK.out.below YK.out.lt ((Below.refl _ V3).drew))
     generalize hx : aca A (j - 1) = x at *
     clear hrx
     by_cases he : x.1 = y.1
     ·go_upto_region 8 with fail
      refine ZF (C := fun U => U = V3.drew) (by kernel_rfl) (by kernel_rfl) (rfl) ?_
      refine gy (Z8 j) <| X3 Z4 (fun U hU => Zl rfl (j) (0) dT (by kernel_rfl) (by kernel_rfl) _) <| gy Z4 <| gy (Z5 g0 0) <|
        UN rfl ⟨g0, 0, none⟩ (.slice (some ⟨b, off, none⟩) n k) (fun U hU => by rw [hU]; exact (HX.out.below HX.out.lt HB3.out.drew).ZN 0) <| gy (Z8 j) <| X3 (Z8 (j - 1 : Nat)) (fun U hU => LK rfl j hpos (by omega) (by kernel_rfl) (by kernel_rfl) _) <|
        X3 (Z5 b (off + (j - 1) * 3)) (fun U hU => YR b off n k (j - 1) (by omega) _ _ _ rfl (by kernel_rfl) (by kernel_rfl)) <| gy (Z5 b (off + (j - 1) * 3)) <|
        UN rfl ⟨b, off + (j - 1) * 3, none⟩ (.string x.1) (fun U hU => by rw [hU]; exact PS.out.load) <| gy (Z5 g4 0) <| UN rfl ⟨g4, 0, none⟩ (.string y.1) (fun U hU => by rw [hU]; exact U7.out.ZN 0) <|
        X3 Z4 (fun U hU => Ui rfl x.1 y.1 (by rw [JE]; exact decide_eq_true he) (by kernel_rfl) (by kernel_rfl) _) <| gy Z4 <| gy Z4 ?_
      simp only [pu]
      apply wpQuiet_nil
      intro U hU
      subst hU
      obtain rfl := QY.out 8 (H8.out rfl hpos he) (by decide)
      have Zj := Z9 (HB0.out.trans (HB3.out.drew.mono HB0.out.size))
      clear QY H8 H1 HZ0 mF HB3 HB
      go_upto_region 9 with fail
      refine wl <| ZV (Z8 8) <| wn ?_
      simp only [pu]
      go_wp2_with fail
      go_ret
      exact ⟨rfl, Zj.out⟩
     generalize yU : WG y.1 x.1 = au at *
     cases au
     ·go_upto_region 8 with fail
      refine ZF (C := fun U => U = V3.drew) (by kernel_rfl) (by kernel_rfl) (rfl) ?_
      refine gy (Z8 j) <| X3 Z4 (fun U hU => Zl rfl (j) (0) dT (by kernel_rfl) (by kernel_rfl) _) <| gy Z4 <| gy (Z5 g0 0) <|
        UN rfl ⟨g0, 0, none⟩ (.slice (some ⟨b, off, none⟩) n k) (fun U hU => by rw [hU]; exact (HX.out.below HX.out.lt HB3.out.drew).ZN 0) <| gy (Z8 j) <| X3 (Z8 (j - 1 : Nat)) (fun U hU => LK rfl j hpos (by omega) (by kernel_rfl) (by kernel_rfl) _) <|
        X3 (Z5 b (off + (j - 1) * 3)) (fun U hU => YR b off n k (j - 1) (by omega) _ _ _ rfl (by kernel_rfl) (by kernel_rfl)) <| gy (Z5 b (off + (j - 1) * 3)) <|
        UN rfl ⟨b, off + (j - 1) * 3, none⟩ (.string x.1) (fun U hU => by rw [hU]; exact PS.out.load) <| gy (Z5 g4 0) <| UN rfl ⟨g4, 0, none⟩ (.string y.1) (fun U hU => by rw [hU]; exact U7.out.ZN 0) <|
        X3 ZY (fun U hU => Ui rfl x.1 y.1 (by rw [JE]; exact decide_eq_false he) (by kernel_rfl) (by kernel_rfl) _) <| gy ZY <| gy ZY ?_
      simp only [pu]
      apply wpQuiet_nil
      intro U hU
      subst hU
      have LJ := Z9 (U7.out.below U7.out.lt ((Below.refl _ V3.drew).drew))
      have Eb := Z9 PS.out.drew
      have LH := Z9 HB3.out.drew
      clear U7 PS HB3 YK
      generalize V3.drew = V5 at *
      have HB3 := LH
      have PS := Eb
      have U7 := LJ
      clear LH Eb LJ
      go_upto_region 10 with fail
      refine ZF (C := fun U => U = V5.drew) (by kernel_rfl) (by kernel_rfl) (rfl) ?_
      refine gy (Z8 j) <| X3 Z4 (fun U hU => Zl rfl (j) (0) dT (by kernel_rfl) (by kernel_rfl) _) <| gy Z4 <| gy (Z5 g0 0) <|
        UN rfl ⟨g0, 0, none⟩ (.slice (some ⟨b, off, none⟩) n k) (fun U hU => by rw [hU]; exact (HX.out.below HX.out.lt HB3.out.drew).ZN 0) <| gy (Z8 j) <| X3 (Z8 (j - 1 : Nat)) (fun U hU => LK rfl j hpos (by omega) (by kernel_rfl) (by kernel_rfl) _) <|
        X3 (Z5 b (off + (j - 1) * 3)) (fun U hU => YR b off n k (j - 1) (by omega) _ _ _ rfl (by kernel_rfl) (by kernel_rfl)) <| gy (Z5 b (off + (j - 1) * 3)) <|
        UN rfl ⟨b, off + (j - 1) * 3, none⟩ (.string x.1) (fun U hU => by rw [hU]; exact PS.out.load) <| gy (Z5 g4 0) <| UN rfl ⟨g4, 0, none⟩ (.string y.1) (fun U hU => by rw [hU]; exact U7.out.ZN 0) <|
        X3 ZY (fun U hU => uj rfl x.1 y.1 yU (by kernel_rfl) (by kernel_rfl) _) <| gy ZY <| gy ZY ?_
      simp only [pu]
      apply wpQuiet_nil
      intro U hU
      subst hU
      replace HB3 := Z9 HB3.out.drew
      clear PS U7
      have Gq : Hid (∀ t, t < j + 1 → Xb A t = 0) := Z9 fun t ht => (by rcases Nat.lt_or_ge t j with h7 | h7; exact HO.out t h7; have e7 : t = j := (by omega); rw [e7]; exact mF.out rfl he rfl)
      clear QY H8 H1 HZ0 mF HB HO
      go_upto_region 12 with fail
      refine wl <| YN (Z8 (j + 1 : Nat)) (ZK rfl j 1 (by omega)) <| ZV (Z8 (j + 1 : Nat)) <| wn ?_
      simp only [pu]
      go_wp2_with fail
      go_roundg (n - (j + 1))
      case measure => have := HG.out; omega
      case rel => exact ⟨j + 1, rfl, hlt, Gq, HB3, rfl⟩
     ·go_upto_region 8 with fail
      refine ZF (C := fun U => U = V3.drew) (by kernel_rfl) (by kernel_rfl) (rfl) ?_
      refine gy (Z8 j) <| X3 Z4 (fun U hU => Zl rfl (j) (0) dT (by kernel_rfl) (by kernel_rfl) _) <| gy Z4 <| gy (Z5 g0 0) <|
        UN rfl ⟨g0, 0, none⟩ (.slice (some ⟨b, off, none⟩) n k) (fun U hU => by rw [hU]; exact (HX.out.below HX.out.lt HB3.out.drew).ZN 0) <| gy (Z8 j) <| X3 (Z8 (j - 1 : Nat)) (fun U hU => LK rfl j hpos (by omega) (by kernel_rfl) (by kernel_rfl) _) <|
        X3 (Z5 b (off + (j - 1) * 3)) (fun U hU => YR b off n k (j - 1) (by omega) _ _ _ rfl (by kernel_rfl) (by kernel_rfl)) <| gy (Z5 b (off + (j - 1) * 3)) <|
        UN rfl ⟨b, off + (j - 1) * 3, none⟩ (.string x.1) (fun U hU => by rw [hU]; exact PS.out.load) <| gy (Z5 g4 0) <| UN rfl ⟨g4, 0, none⟩ (.string y.1) (fun U hU => by rw [hU]; exact U7.out.ZN 0) <|
        X3 ZY (fun U hU => Ui rfl x.1 y.1 (by rw [JE]; exact decide_eq_false he) (by kernel_rfl) (by kernel_rfl) _) <| gy ZY <| gy ZY ?_
      simp only [pu]
      apply wpQuiet_nil
      intro U hU
      subst hU
      have LJ := Z9 (U7.out.below U7.out.lt ((Below.refl _ V3.drew).drew))
      have Eb := Z9 PS.out.drew
      have LH := Z9 HB3.out.drew
      clear U7 PS HB3 YK
      generalize V3.drew = V5 at *
      have HB3 := LH
      have PS := Eb
      have U7 := LJ
      clear LH Eb LJ
      go_upto_region 10 with fail
      refine ZF (C := fun U => U = V5.drew) (by kernel_rfl) (by kernel_rfl) (rfl) ?_
      refine gy (Z8 j) <| X3 Z4 (fun U hU => Zl rfl (j) (0) dT (by kernel_rfl) (by kernel_rfl) _) <| gy Z4 <| gy (Z5 g0 0) <|
        UN rfl ⟨g0, 0, none⟩ (.slice (some ⟨b, off, none⟩) n k) (fun U hU => by rw [hU]; exact (HX.out.below HX.out.lt HB3.out.drew).ZN 0) <| gy (Z8 j) <| X3 (Z8 (j - 1 : Nat)) (fun U hU => LK rfl j hpos (by omega) (by kernel_rfl) (by kernel_rfl) _) <|
        X3 (Z5 b (off + (j - 1) * 3)) (fun U hU => YR b off n k (j - 1) (by omega) _ _ _ rfl (by kernel_rfl) (by kernel_rfl)) <| gy (Z5 b (off + (j - 1) * 3)) <|
        UN rfl ⟨b, off + (j - 1) * 3, none⟩ (.string x.1) (fun U hU => by rw [hU]; exact PS.out.load) <| gy (Z5 g4 0) <| UN rfl ⟨g4, 0, none⟩ (.string y.1) (fun U hU => by rw [hU]; exact U7.out.ZN 0) <|
        X3 Z4 (fun U hU => uj rfl x.1 y.1 yU (by kernel_rfl) (by kernel_rfl) _) <| gy Z4 <| gy Z4 ?_
      simp only [pu]
      apply wpQuiet_nil
      intro U hU
      subst hU
      replace HB3 := Z9 HB3.out.drew
      clear PS U7
      obtain rfl := QY.out 1 (H1.out rfl hpos he rfl) (by decide)
      have Zj := Z9 (HB0.out.trans (HB3.out.mono HB0.out.size))
      clear QY H8 H1 HZ0 mF HB3 HB
      go_upto_region 11 with fail
      refine wl <| ZV (Z8 1) <| wn ?_
      simp only [pu]
      go_wp2_with fail
      go_ret
      exact ⟨rfl, Zj.out⟩
    ·have U7 := Z9 YK.out
     go_upto_region 8 with fail
     refine ZF (C := fun U => U = V3.drew) (by kernel_rfl) (by kernel_rfl) (rfl) ?_
     refine gy (Z8 j) <| X3 ZY (fun U hU => Zl rfl (j) (0) dF (by kernel_rfl) (by kernel_rfl) _) <| gy ZY <| SB <| SB <| SB <| SB <| SB <| SB <| SB <| SB <| SB <| SB <| gy ZY <| gy ZY ?_
     simp only [pu]
     apply wpQuiet_nil
     intro U hU
     subst hU
     have LH := Z9 HB3.out.drew
     clear HB3 U7 YK
     generalize V3.drew = V5 at *
     have HB3 := LH
     clear LH
     go_upto_region 10 with fail
     refine ZF (C := fun U => U = V5.drew) (by kernel_rfl) (by kernel_rfl) (rfl) ?_
     refine gy (Z8 j) <| X3 ZY (fun U hU => Zl rfl (j) (0) dF (by kernel_rfl) (by kernel_rfl) _) <| gy ZY <| SB <| SB <| SB <| SB <| SB <| SB <| SB <| SB <| SB <| SB <| gy ZY <| gy ZY ?_
     simp only [pu]
     apply wpQuiet_nil
     intro U hU
     subst hU
     replace HB3 := Z9 HB3.out.drew
     have Gq : Hid (∀ t, t < j + 1 → Xb A t = 0) := Z9 fun t ht => (by rcases Nat.lt_or_ge t j with h7 | h7; exact HO.out t h7; have e7 : t = j := (by omega); rw [e7]; exact HZ0.out rfl hpos)
     clear QY H8 H1 HZ0 mF HB HO
     go_upto_region 12 with fail
     refine wl <| YN (Z8 (j + 1 : Nat)) (ZK rfl j 1 (by omega)) <| ZV (Z8 (j + 1 : Nat)) <| wn ?_
     simp only [pu]
     go_wp2_with fail
     go_roundg (n - (j + 1))
     case measure => have := HG.out; omega
     case rel => exact ⟨j + 1, rfl, hlt, Gq, HB3, rfl⟩
  ·obtain rfl : n = j := by omega
   obtain rfl := Eo.out LX.out HO.out
   have CT := CL.out wr a (HA.out.below HB.out)
   have YK := Z9 (HX.out.below HX.out.lt HB.out)
   clear hg Eo JA CL HO
   go_upto_region 4 with fail
   refine wl <| ZM (ZC rfl (n) (n) dF) <| wn ?_
   simp only [pu]
   go_upto_region 13 with fail
   cases tb
   ·refine wl <| ZI rfl ⟨g0, 0, none⟩ (.agg (ZU a n k c)) (ZQ YK.out) <| Y2 (.tuple #[.agg (ZU none 0 0 0), Z8 6]) (fun w' => Below wr.heap.size wr w') (CT) (fun V2 hV2 => ?_)
    obtain ⟨V3, hst, hb3, -⟩ := VE V2 none 0 0 0
    have Zj := Z9 (HB0.out.trans ((HB.out.trans ((hV2.trans (hb3.mono hV2.size)).mono HB.out.size)).mono HB0.out.size))
    simp only [pu]
    refine YT (.tuple #[.agg (ZU none 0 0 0), Z8 6]) (.agg (ZU none 0 0 0)) (Z8 6) ?_
    simp only [pu]
    refine Zz rfl (some 5) rfl (Z5 V2.heap.size 0) (V2.alloc (.cells (ZU none 0 0 0) 33)) (by kernel_rfl) ?_
    simp only [pu]
    refine Zt rfl (hst) <| ZV (Z8 6) <| wn ?_
    simp only [pu]
    clear CT hV2 hst hb3 HB
    go_upto_region 14 with fail
    refine wl <| ZG (Z8 6) (Z8 6) <| wn ?_
    simp only [pu]
    go_wp2_with fail
    go_ret
    exact ⟨rfl, Zj.out⟩
   ·refine wl <| ZI rfl ⟨g0, 0, none⟩ (.agg (ZU a n k c)) (ZQ YK.out) <| Y2 (.tuple #[.agg (ZU a n k c), Z8 0]) (fun w' => Below wr.heap.size wr w') (CT) (fun V2 hV2 => ?_)
    obtain ⟨V3, hst, hb3, -⟩ := VE V2 a n k c
    have Zj := Z9 (HB0.out.trans ((HB.out.trans ((hV2.trans (hb3.mono hV2.size)).mono HB.out.size)).mono HB0.out.size))
    simp only [pu]
    refine YT (.tuple #[.agg (ZU a n k c), Z8 0]) (.agg (ZU a n k c)) (Z8 0) ?_
    simp only [pu]
    refine Zz rfl (some 5) rfl (Z5 V2.heap.size 0) (V2.alloc (.cells (ZU none 0 0 0) 33)) (by kernel_rfl) ?_
    simp only [pu]
    refine Zt rfl (hst) <| ZV (Z8 0) <| wn ?_
    simp only [pu]
    clear CT hV2 hst hb3 HB
    go_upto_region 14 with fail
    refine wl <| ZG (Z8 0) (Z8 0) <| wn ?_
    simp only [pu]
    go_wp2_with fail
    go_ret
    exact ⟨rfl, Zj.out⟩
end Go.Proofs.Ytnhlpahoomcgnaa.Lg
namespace Go.Proofs.Ytnhlpahoomcgnaa.Lg
open Go.RowKit
theorem QV (A B : List Ac) : acc (A ++ B) = acc A ++ acc B := by simp [acc]
theorem Tv (x : Ac) (A : List Ac) : acc (x :: A) = acl x ++ acc A := rfl
theorem QW (A : List Ac) : ∀ u ∈ acc A, u.oneCell' = true := fun u hu => by
 obtain ⟨x, -, hx⟩ := List.mem_flatMap.1 hu
 simp only [acl, List.mem_cons, List.not_mem_nil, or_false] at hx
 rcases hx with rfl | rfl | rfl <;> rfl
theorem Wi : ∀ (A : List Ac) (k : Nat), (acc A).take (k * 3) = acc (A.take k)
 | [], k => by simp [acc]
 | x :: r, 0 => by simp [acc]
 | x :: r, k + 1 => by
  rw [Tv, show (k + 1) * 3 = k * 3 + 1 + 1 + 1 by omega, List.take_succ_cons, Tv, ← Wi r k]
  rfl
theorem U8 : ∀ (A : List Ac) (k : Nat), (acc A).drop (k * 3) = acc (A.drop k)
 | [], k => by simp [acc]
 | x :: r, 0 => by simp
 | x :: r, k + 1 => by
  rw [List.drop_succ_cons, ← U8 r k, Tv, show (k + 1) * 3 = k * 3 + 1 + 1 + 1 by omega]
  rfl
theorem Oc (w : World) : (Instr.buildSlice 22 0 #[]).run Try.prog w = .ok (.slice (some ⟨w.heap.size, 0, none⟩) 0 0) (w.alloc (.cells #[] 49)) := Gn Try.underlying22 VH w
theorem Ph (a : Option Addr) (n c k : Nat) (w : World) (h : k ≤ c) : (Instr.slice 22 (.slice a n c) none (some (Z8 (k : Int))) none).run Try.prog w = .ok (.slice a k c) w := qP (s := 3) (by kernel_rfl) (fun w => by kernel_rfl) a n c k w h
theorem WE (a : Option Addr) (n c k : Nat) (w : World) (h : k ≤ n) : (Instr.slice 22 (.slice a n c) (some (Z8 (k : Int))) none none).run Try.prog w = .ok (.slice (Zc 3 a c k) (n - k) (c - k)) w := LP (s := 3) (by kernel_rfl) (fun w => by kernel_rfl) a n c k w h
theorem Gm {w : World} {B n m : Nat} {v : Value} {xs : List Value} (hO : w.ownsRow B 49 3 v n xs) (pa : Option Addr) (cp : Nat) (L : List Ac) (hP : Cs w pa (acc L)) (hl : L.length = m) (hB : B ≤ w.heap.size) (hn : n ≤ 100000) (hm : m ≤ 100000) :
  ∃ v' w', (Builtin.append_ #[22, 22] 22 #[v, .slice pa m cp]).run Try.prog w = .ok v' w' ∧ w'.ownsRow B 49 3 v' (n + m) (xs ++ acc L) ∧ Below B w w' ∧ w.grownBy w' v.ownBlock :=
 Si (by kernel_rfl) VH (by kernel_rfl) (by omega) (by omega) hO pa cp _ hP (by rw [Yd, hl]) (QW _) hB hn hm
def Row (V0 V : World) (x : Value) (L : List Ac) : Prop := V.ownsRow V0.heap.size 49 3 x L.length (acc L)
theorem Row.below {V0 V V2 : World} {x : Value} {L : List Ac} (h : Row V0 V x L) (hb : Below V.heap.size V V2) : Row V0 V2 x L := own_below h hb
theorem Row.app {V0 V : World} {x : Value} {L : List Ac} (h : Row V0 V x L) (hV : V0.heap.size ≤ V.heap.size) (pa : Option Addr) (m cp : Nat) (P : List Ac) (hP : Cs V pa (acc P)) (hm : P.length = m) (hl : L.length ≤ 100000) (hp : m ≤ 100000) :
  ∃ v V2, (Builtin.append_ #[22, 22] 22 #[x, .slice pa m cp]).run Try.prog V = .ok v V2 ∧ Row V0 V2 v (L ++ P) ∧ Below V0.heap.size V V2 ∧ V.grownBy V2 x.ownBlock ∧ (v.ownBlock = x.ownBlock ∨ v.ownBlock = some V.heap.size) := by
 subst hm
 have hlen : (L ++ P).length = L.length + P.length := List.length_append
 cases P with
 | nil =>
  obtain ⟨v', w', hr, hO, hb, hg⟩ := Gm h pa cp [] hP rfl hV hl hp
  cases pa with
  | none =>
   have e : (Builtin.append_ #[22, 22] 22 #[x, .slice none 0 cp]).run Try.prog V = .ok x V := by
    obtain ⟨i0, hi, hz0, hz1, hz2⟩ := info_parts VH
    have hu : Try.prog.underlying 22 = some (.slice 49) := by kernel_rfl
    rcases h.2 with ⟨rfl, h0⟩ | ⟨g, cap, cur, rfl, _, _, hnc, _⟩
    ·simp [Builtin.append_, run_underlying hu, sizeOf, typeInfo, hi, Builtin.lenOf, Builtin.firstCells]
    ·simp [Builtin.append_, run_underlying hu, sizeOf, typeInfo, hi, Builtin.lenOf, Builtin.firstCells, hnc, storeCells]
   exact ⟨x, V, e, by rw [List.append_nil]; exact h, Below.refl _ _, World.grownBy.refl V _, .inl rfl⟩
  | some y =>
   obtain ⟨i0, hi, hz0, hz1, hz2⟩ := info_parts VH
   obtain ⟨v2, w2, hr2, hO2, hg2, -, VG⟩ := run_append_own_at (P := Try.prog) V V0.heap.size 22 22 49 i0 _ 3 32 (by kernel_rfl) hi hz0 hz1 hz2 (by kernel_rfl) (by omega) x L.length (acc L) h y 0 cp [] (by simp) (fun j u h => by simp at h) (by simp) (by unfold maxLen; omega) (by omega) hV
   exact ⟨v2, w2, hr2, by unfold Row; rw [List.append_nil]; simpa using hO2, (Below.refl _ V).grown hg2 hV (fun j hj => (h.lt j hj).1), hg2, VG⟩
 | cons p P =>
  obtain ⟨b, off, rfl, -, -⟩ := YS hP (k := 0) (by simp)
  obtain ⟨i0, hi, hz0, hz1, hz2⟩ := info_parts VH
  obtain ⟨v2, w2, hr2, hO2, hg2, -, VG⟩ := run_append_own_at (P := Try.prog) V V0.heap.size 22 22 49 i0 _ 3 32 (by kernel_rfl) hi hz0 hz1 hz2 (by kernel_rfl) (by omega) x L.length (acc L) h ⟨b, off, none⟩ (p :: P).length cp (acc (p :: P)) (Yd _) (fun j u hu => by
   obtain ⟨b2, off2, e2, -, hc⟩ := hP j u hu
   simp only [Option.some.injEq, Addr.mk.injEq, and_true] at e2
   obtain ⟨rfl, rfl⟩ := e2
   rw [Addr.add_mid]
   exact hc) (QW _) (by unfold maxLen; omega) (by omega) hV
  exact ⟨v2, w2, hr2, by unfold Row; rw [hlen, QV]; exact hO2, (Below.refl _ V).grown hg2 hV (fun j hj => (h.lt j hj).1), hg2, VG⟩
structure CH (V0 : World) (k : Ac) (L1 L2 L3 : List Ac) (b0 b1 b2 b3 bk : Bool) (x0 x1 x2 x3 xk : Value) (V : World) : Prop where
 bel : Below V0.heap.size V0 V
 r0 : b0 = true → b1 = false → Row V0 V x0 []
 r1 : b1 = true → b2 = false → Row V0 V x1 L1
 r2 : b2 = true → b3 = false → Row V0 V x2 L2
 r3 : b3 = true → Row V0 V x3 L3
 c1 : b1 = true → b0 = true
 c2 : b2 = true → b1 = true
 c3 : b3 = true → b2 = true
 kx : bk = true → ∃ g, xk = .slice (some ⟨g, 0, none⟩) 1 1 ∧ Bx V g (ZA k) 49 ∧ (b0 = true → b1 = false → x0.ownBlock ≠ some g) ∧ (b1 = true → b2 = false → x1.ownBlock ≠ some g) ∧ (b2 = true → b3 = false → x2.ownBlock ≠ some g)
section
variable {V0 V V2 : World} {k : Ac} {L1 L2 L3 : List Ac} {b0 b1 b2 b3 bk : Bool} {x0 x1 x2 x3 xk v : Value}
theorem Row.ne {x : Value} {L : List Ac} (h : Row V0 V x L) : x.ownBlock ≠ some V.heap.size := fun e => Nat.lt_irrefl _ (h.lt _ e).2
theorem CH.nil (h : CH V0 k L1 L2 L3 false false false false bk x0 x1 x2 x3 xk V) : CH V0 k L1 L2 L3 true false false false bk (.slice (some ⟨V.heap.size, 0, none⟩) 0 0) x1 x2 x3 xk (V.alloc (.cells #[] 49)) :=
 have hb : Below V.heap.size V (V.alloc (.cells #[] 49)) := (Below.refl _ V).alloc (Nat.le_refl _) _
 {bel := h.bel.trans (hb.mono h.bel.size), r0 := fun _ _ => own_base (Ob V 49 3) h.bel.size, r1 := fun h1 => (by cases h1), r2 := fun h1 => (by cases h1), r3 := fun h1 => (by cases h1), c1 := fun h1 => (by cases h1), c2 := fun h1 => (by cases h1), c3 := fun h1 => (by cases h1)
  kx := fun hk => by
   obtain ⟨g, e, hx, -⟩ := h.kx hk
   exact ⟨g, e, hx.below hx.lt hb, fun _ _ e2 => by have := hx.lt; simp only [Value.ownBlock, Option.some.injEq] at e2; omega, fun h1 => (by cases h1), fun h1 => (by cases h1)⟩ }
theorem CH.key (h : CH V0 k L1 L2 L3 b0 b1 b2 b3 false x0 x1 x2 x3 xk V) : CH V0 k L1 L2 L3 b0 b1 b2 b3 true x0 x1 x2 x3 (.slice (some ⟨V.heap.size, 0, none⟩) 1 1) (V.alloc (.cells (ZA k) 49)) :=
 have hb : Below V.heap.size V (V.alloc (.cells (ZA k) 49)) := (Below.refl _ V).alloc (Nat.le_refl _) _
 {bel := h.bel.trans (hb.mono h.bel.size), r0 := fun h1 h2 => (h.r0 h1 h2).below hb, r1 := fun h1 h2 => (h.r1 h1 h2).below hb, r2 := fun h1 h2 => (h.r2 h1 h2).below hb, r3 := fun h1 => (h.r3 h1).below hb, c1 := h.c1, c2 := h.c2, c3 := h.c3
  kx := fun _ => ⟨V.heap.size, rfl, heap_alloc_last V _, fun h1 h2 => (h.r0 h1 h2).ne, fun h1 h2 => (h.r1 h1 h2).ne, fun h1 h2 => (h.r2 h1 h2).ne⟩ }
theorem QD {g : Nat} {x y : Value} (hx : Bx V g (ZA k) 49) (hn : x.ownBlock ≠ some g) (hg : V.grownBy V2 x.ownBlock) (hat : y.ownBlock = x.ownBlock ∨ y.ownBlock = some V.heap.size) : Bx V2 g (ZA k) 49 ∧ y.ownBlock ≠ some g :=
 ⟨(hg.block g hx.lt (Ne.symm hn)).trans hx, fun e => hat.elim (fun h => hn (h.symm.trans e)) fun h => by
  have h2 := h.symm.trans e
  have := hx.lt
  simp only [Option.some.injEq] at h2
  omega⟩
theorem CH.one (h : CH V0 k L1 L2 L3 true false false false bk x0 x1 x2 x3 xk V) (hO : Row V0 V2 v L1) (hb : Below V0.heap.size V V2) (hg : V.grownBy V2 x0.ownBlock) (hat : v.ownBlock = x0.ownBlock ∨ v.ownBlock = some V.heap.size) : CH V0 k L1 L2 L3 true true false false bk x0 v x2 x3 xk V2 :=
 {bel := h.bel.trans hb, r0 := fun _ h1 => (by cases h1), r1 := fun _ _ => hO, r2 := fun h1 => (by cases h1), r3 := fun h1 => (by cases h1), c1 := fun _ => rfl, c2 := fun h1 => (by cases h1), c3 := fun h1 => (by cases h1)
  kx := fun hk => by
   obtain ⟨g, e, hx, h0, -⟩ := h.kx hk
   obtain ⟨h1, h2⟩ := QD hx (h0 rfl rfl) hg hat
   exact ⟨g, e, h1, fun _ h3 => (by cases h3), fun _ _ => h2, fun h3 => (by cases h3)⟩ }
theorem CH.two (h : CH V0 k L1 L2 L3 b0 true false false bk x0 x1 x2 x3 xk V) (hO : Row V0 V2 v L2) (hb : Below V0.heap.size V V2) (hg : V.grownBy V2 x1.ownBlock) (hat : v.ownBlock = x1.ownBlock ∨ v.ownBlock = some V.heap.size) : CH V0 k L1 L2 L3 b0 true true false bk x0 x1 v x3 xk V2 :=
 {bel := h.bel.trans hb, r0 := fun _ h1 => (by cases h1), r1 := fun _ h1 => (by cases h1), r2 := fun _ _ => hO, r3 := fun h1 => (by cases h1), c1 := h.c1, c2 := fun _ => rfl, c3 := fun h1 => (by cases h1)
  kx := fun hk => by
   obtain ⟨g, e, hx, -, h0, -⟩ := h.kx hk
   obtain ⟨h1, h2⟩ := QD hx (h0 rfl rfl) hg hat
   exact ⟨g, e, h1, fun _ h3 => (by cases h3), fun _ h3 => (by cases h3), fun _ _ => h2⟩ }
theorem CH.three (h : CH V0 k L1 L2 L3 b0 b1 true false bk x0 x1 x2 x3 xk V) (hO : Row V0 V2 v L3) (hb : Below V0.heap.size V V2) (hg : V.grownBy V2 x2.ownBlock) (hat : v.ownBlock = x2.ownBlock ∨ v.ownBlock = some V.heap.size) : CH V0 k L1 L2 L3 b0 b1 true true bk x0 x1 x2 v xk V2 :=
 have hb1 := h.c2 rfl
 {bel := h.bel.trans hb, r0 := fun _ h1 => (by rw [hb1] at h1; cases h1), r1 := fun _ h1 => (by cases h1), r2 := fun _ h1 => (by cases h1), r3 := fun _ => hO, c1 := h.c1, c2 := h.c2, c3 := fun _ => rfl
  kx := fun hk => by
   obtain ⟨g, e, hx, -, -, h0⟩ := h.kx hk
   obtain ⟨h1, h2⟩ := QD hx (h0 rfl rfl) hg hat
   exact ⟨g, e, h1, fun _ h3 => (by rw [hb1] at h3; cases h3), fun _ h3 => (by cases h3), fun _ h3 => (by cases h3)⟩ }
theorem CH.start (V0 : World) (k : Ac) (L1 L2 L3 : List Ac) (x0 x1 x2 x3 xk : Value) : CH V0 k L1 L2 L3 false false false false false x0 x1 x2 x3 xk { V0 with drawn := V0.drawn + 1 } :=
 {bel := (Below.refl _ V0).drew, r0 := fun h1 => (by cases h1), r1 := fun h1 => (by cases h1), r2 := fun h1 => (by cases h1), r3 := fun h1 => (by cases h1), c1 := fun h1 => (by cases h1), c2 := fun h1 => (by cases h1), c3 := fun h1 => (by cases h1), kx := fun h1 => (by cases h1) }
end
theorem yT {w : World} {B e s n c b : Nat} {xs : List Value} (h : w.ownsRow B e s (.slice (some ⟨b, 0, none⟩) n c) n xs) (j : Nat) (v : Value) (hj : j < xs.length) : (w.setCell ⟨b, j, none⟩ v).ownsRow B e s (.slice (some ⟨b, 0, none⟩) n c) n (xs.set j v) := by
 have hlen := h.1
 rcases h.2 with ⟨e0, -⟩ | ⟨g, cap, cur, e0, hb, hg, hn, hm, hc, ht⟩
 ·cases e0
 ·simp only [Value.slice.injEq, Option.some.injEq, Addr.mk.injEq, and_true, true_and] at e0
  obtain ⟨rfl, rfl⟩ := e0
  refine ⟨by simpa using hlen, .inr ⟨b, c, cur.setIfInBounds j v, rfl, hb, Joins.block_setCell hg v, hn, hm, by simpa using hc, ?_⟩⟩
  rw [Array.toList_setIfInBounds, List.take_set, ht]
theorem Oa {w : World} {B e s n c b : Nat} {xs : List Value} (h : w.ownsRow B e s (.slice (some ⟨b, 0, none⟩) n c) n xs) : ∃ cur, Bx w b cur e ∧ n * s ≤ cur.size ∧ B ≤ b ∧ cur.toList.take (n * s) = xs := by
 rcases h.2 with ⟨e0, -⟩ | ⟨g, cap, cur, e0, hb, hg, hn, hm, hc, ht⟩
 ·cases e0
 ·simp only [Value.slice.injEq, Option.some.injEq, Addr.mk.injEq, and_true, true_and] at e0
  obtain ⟨rfl, rfl⟩ := e0
  exact ⟨cur, hg, by rw [hc]; exact Nat.mul_le_mul_right _ hn, hb, ht⟩
theorem QC {B e s n c b : Nat} : ∀ (vs : List Value) (o : Nat) (w : World) (xs : List Value), w.ownsRow B e s (.slice (some ⟨b, 0, none⟩) n c) n xs → o + vs.length ≤ xs.length → (w.setCells b o vs).ownsRow B e s (.slice (some ⟨b, 0, none⟩) n c) n (xs.take o ++ vs ++ xs.drop (o + vs.length))
 | [], o, w, xs, h, _ => by simpa [World.setCells] using h
 | v :: r, o, w, xs, h, hl => by
  rw [List.length_cons] at hl
  have h1 := QC r (o + 1) _ _ (yT h o v (by omega)) (by rw [List.length_set]; omega)
  rw [World.setCells]
  have e : (xs.set o v).take (o + 1) ++ r ++ (xs.set o v).drop (o + 1 + r.length) = xs.take o ++ v :: r ++ xs.drop (o + (v :: r).length) := by
   rw [List.drop_set_of_lt (by omega), List.take_set, List.length_cons, show o + (r.length + 1) = o + 1 + r.length by omega]
   have ho : o < xs.length := by omega
   rw [List.take_add_one, List.getElem?_eq_getElem ho, Option.toList_some, List.set_append_right _ _ (by rw [List.length_take]; omega), List.length_take, Nat.min_eq_left (by omega), Nat.sub_self, List.set_cons_zero]
   simp
  rw [e] at h1
  exact h1
theorem VF {B b : Nat} (hB : B ≤ b) : ∀ (vs : List Value) (o : Nat) (w : World), Below B w (w.setCells b o vs)
 | [], o, w => Below.refl _ _
 | v :: r, o, w => ((Below.refl B w).setCell hB v).trans (VF hB r (o + 1) _)
theorem Tt {b : Nat} : ∀ (vs : List Value) (o : Nat) (w : World), But b w (w.setCells b o vs)
 | [], o, w => But.refl _ _
 | v :: r, o, w => (But.setCell w o v).trans (Tt r (o + 1) _)
theorem JJ {w : World} {B g n c i : Nat} {A : List Ac} (h : ZB w B (.slice (some ⟨g, 0, none⟩) n c) A) (hn : n = A.length) (hi : i < A.length) (x : Ac) :
  ∃ V2, (Instr.storeAt 49 (Z5 g (0 + i * 3)) (.agg (ZA x))).run Try.prog w = .ok () V2 ∧ ZB V2 B (.slice (some ⟨g, 0, none⟩) n c) (A.set i x) ∧ Below B w V2 ∧ But g w V2 := by
 subst hn
 have hge : B ≤ g := by
  obtain ⟨g2, e, h1, -⟩ := VI h (by omega)
  cases e
  exact h1
 have hst := run_storeAt_mid (P := Try.prog) w g (0 + i * 3) 49 (ZA x) (fun k hk => by
  have hk4 : k < 3 := hk
  obtain ⟨cur, hcur, hz, -, -⟩ := Oa h
  refine ⟨?_, frozen_of_row w g _ _ 49 hcur⟩
  rw [cell_of_row w g _ _ 49 (0, 0) hcur, Array.getElem?_eq_getElem (by omega)]
  rfl) (by kernel_rfl) (by simp [Value.oneCell'])
 have hb : Below B w (w.setCells g (0 + i * 3) (ZA x).toList) := VF hge _ _ _
 have ho := QC (ZA x).toList (0 + i * 3) w (acc A) h (by rw [Yd]; show 0 + i * 3 + 3 ≤ _; omega)
 refine ⟨_, hst, ?_, hb, Tt _ _ _⟩
 unfold ZB
 have e : (acc A).take (0 + i * 3) ++ (ZA x).toList ++ (acc A).drop (0 + i * 3 + (ZA x).toList.length) = acc (A.set i x) := by
  rw [Nat.zero_add, show i * 3 + (ZA x).toList.length = (i + 1) * 3 by show i * 3 + 3 = _; omega, Wi, U8, List.set_eq_take_append_cons_drop, if_pos hi, QV, Tv]
  simp [acl]
 rw [e] at ho
 rw [List.length_set]
 exact ho
theorem yS (A : List Ac) (i m : Nat) : ((acc A).drop (i * 3)).take (m * 3) = acc ((A.drop i).take m) := by rw [U8, Wi]
theorem yX {w : World} {B g n c i : Nat} {A : List Ac} (h : ZB w B (.slice (some ⟨g, 0, none⟩) n c) A) (hn : n = A.length) (hi : i < n) (ty : TypeId) :
  ∃ q V2, (Builtin.copy_ #[22, 22] ty #[.slice (Zc 3 (some ⟨g, 0, none⟩) c (i + 1)) (n - (i + 1)) (c - (i + 1)), .slice (Zc 3 (some ⟨g, 0, none⟩) c i) (n - i) (c - i)]).run Try.prog w = .ok q V2 ∧ ZB V2 B (.slice (some ⟨g, 0, none⟩) n c) (A.take (i + 1) ++ (A.drop i).take (n - (i + 1))) ∧ Below B w V2 ∧ But g w V2 := by
 subst hn
 obtain ⟨g2, e, hge, -⟩ := VI h (by omega)
 cases e
 obtain ⟨i0, hi0, hz0, hz1, hz2⟩ := info_parts VH
 obtain ⟨a2, c2, e2, hcs, hcc⟩ := h.cs
 simp only [Value.slice.injEq] at e2
 obtain ⟨rfl, -, rfl⟩ := e2
 have hmin : Nat.min (A.length - i) (A.length - (i + 1)) = A.length - (i + 1) := Nat.min_eq_right (by omega)
 have hlen : ((A.take (i + 1)) ++ (A.drop i).take (A.length - (i + 1))).length = A.length := by rw [List.length_append, List.length_take, List.length_take, List.length_drop]; omega
 by_cases hl : i + 1 = A.length
 ·refine ⟨goInt 0, w, ?_, ?_, Below.refl _ _, But.refl _ _⟩
  ·have hS : ∀ k, ∃ x, Zc 3 (some ⟨g, 0, none⟩) c k = some x := fun k => by
    unfold Zc
    split
    ·exact ⟨_, rfl⟩
    ·exact ⟨_, rfl⟩
   obtain ⟨x1, hx1⟩ := hS (i + 1)
   obtain ⟨x0, hx0⟩ := hS i
   have hfc := run_firstCells_some (P := Try.prog) w i0.size 0 x0 (A.length - i) (c - i) [] (by simp) (by simp)
   have hm0 : Nat.min (A.length - i) (A.length - (i + 1)) = 0 := by rw [hmin]; omega
   rw [hx1, hx0]
   simp [Builtin.copy_, run_underlying Try.underlying22, Builtin.lenOf, sizeOf, typeInfo, hi0, hm0, hfc, storeCells]
  ·rw [show A.length - (i + 1) = 0 by omega, List.take_zero, List.append_nil, List.take_of_length_le (by omega)]
   exact h
 ·have hf1 : Zc 3 (some ⟨g, 0, none⟩) c (i + 1) = some ⟨g, (i + 1) * 3, none⟩ := by
   unfold Zc
   rw [if_neg (by omega), Option.map_some, Addr.add_mid, Nat.zero_add]
  have hf0 : Zc 3 (some ⟨g, 0, none⟩) c i = some ⟨g, i * 3, none⟩ := by
   unfold Zc
   rw [if_neg (by omega), Option.map_some, Addr.add_mid, Nat.zero_add]
  have hfc := run_firstCells_some (P := Try.prog) w i0.size (A.length - (i + 1)) ⟨g, i * 3, none⟩ (A.length - i) (c - i) (acc ((A.drop i).take (A.length - (i + 1)))) (by rw [Yd, hz1, List.length_take, List.length_drop]; congr 1; omega) (fun j v hj => by
   rw [← yS] at hj
   have hj2 : j < (A.length - (i + 1)) * 3 := by
    have := (List.getElem?_eq_some_iff.1 hj).1
    rw [List.length_take] at this
    omega
   rw [List.getElem?_take, if_pos hj2, List.getElem?_drop] at hj
   obtain ⟨b, off, e3, -, hc3⟩ := hcs _ v hj
   cases e3
   rw [Addr.add_mid]
   rw [Nat.zero_add] at hc3
   exact hc3)
  have hsl : (acc ((A.drop i).take (A.length - (i + 1)))).length = (A.length - (i + 1)) * 3 := by rw [Yd, List.length_take, List.length_drop]; congr 1; omega
  have hst := run_storeCells_cells (P := Try.prog) g ((i + 1) * 3) (acc ((A.drop i).take (A.length - (i + 1)))) 0 w (fun j hj => by
   obtain ⟨cur, hcur, hz, -, -⟩ := Oa h
   rw [cell_of_row w g _ _ 49 (0, 0) hcur, Array.getElem?_eq_getElem (by rw [hsl] at hj; omega)]
   rfl) (fun j hj => by
   obtain ⟨cur, hcur, hz, -, -⟩ := Oa h
   exact frozen_of_row w g _ _ 49 hcur) (QW _)
  have ho := QC (acc ((A.drop i).take (A.length - (i + 1)))) ((i + 1) * 3) w (acc A) h (by rw [hsl, Yd]; omega)
  refine ⟨goInt (A.length - (i + 1) : Nat), w.setCells g ((i + 1) * 3 + 0) (acc ((A.drop i).take (A.length - (i + 1)))), ?_, ?_, VF hge _ _ _, Tt _ _ _⟩
  ·rw [hf1, hf0]
   simp [Builtin.copy_, run_underlying Try.underlying22, Builtin.lenOf, sizeOf, typeInfo, hi0, hmin, hfc, hst]
  ·unfold ZB
   rw [hlen]
   have e5 : (acc A).take ((i + 1) * 3) ++ acc ((A.drop i).take (A.length - (i + 1))) ++ (acc A).drop ((i + 1) * 3 + (acc ((A.drop i).take (A.length - (i + 1)))).length) = acc (A.take (i + 1) ++ (A.drop i).take (A.length - (i + 1))) := by
    rw [hsl, show (acc A).drop ((i + 1) * 3 + (A.length - (i + 1)) * 3) = [] from List.drop_of_length_le (by rw [Yd]; omega), List.append_nil, Wi, QV]
   rw [e5] at ho
   exact ho
theorem yY (L : List Ac) (x : Ac) (i : Nat) (hi : i ≤ L.length) : (((L ++ [x]).take (i + 1)) ++ ((L ++ [x]).drop i).take (L.length + 1 - (i + 1))).set i x = L.take i ++ x :: L.drop i := by
 apply List.ext_getElem?
 intro j
 have h1 : ((L ++ [x]).take (i + 1)).length = i + 1 := by rw [List.length_take, List.length_append]; simp; omega
 rw [List.getElem?_set]
 by_cases e : i = j
 ·subst e
  rw [if_pos rfl, if_pos (by rw [List.length_append, h1]; omega), List.getElem?_append_right (by rw [List.length_take]; omega), List.length_take, Nat.min_eq_left hi, Nat.sub_self]
  rfl
 rw [if_neg e]
 by_cases h2 : j < i
 ·rw [List.getElem?_append_left (by omega), List.getElem?_take, if_pos (by omega), List.getElem?_append_left (by omega), List.getElem?_append_left (by rw [List.length_take]; omega), List.getElem?_take, if_pos h2]
 ·obtain ⟨d, rfl⟩ : ∃ d, j = i + 1 + d := ⟨j - i - 1, by omega⟩
  rw [List.getElem?_append_right (by omega), h1, show i + 1 + d - (i + 1) = d by omega, List.getElem?_take, List.getElem?_append_right (by rw [List.length_take]; omega), List.length_take, Nat.min_eq_left hi, show i + 1 + d - i = d + 1 by omega, List.getElem?_cons_succ, List.getElem?_drop]
  by_cases h3 : d < L.length - i
  ·rw [if_pos (by omega), List.getElem?_drop, List.getElem?_append_left (by omega)]
  ·rw [if_neg (by omega), List.getElem?_eq_none (by rw [List.length_drop]; omega)]
theorem yV {P : Program} {ops : Array Oper} {o : Oper} {a : Act} {w : World} {Q : Exit → Act → World → Prop} {K : Act → World → Prop} {i : Nat} (hi : ops[i]? = some o) (hw : Region.wanted o (yielded ops a.tmps) = true) (d : Option Tmp) (hd : o.dst = d) (ty : TypeId) (hty : o.type = ty) (s x : Operand) (t : TypeId)
  (ho : o.op = .call { callee := .builtin .copy, args := #[s, x], argTypes := #[t, t] }) (v u v' : Value) (w' : World) (hs : a.eval s = v) (hx : a.eval x = u)
  (hr : (Builtin.copy_ #[t, t] ty #[v, u]).run P w = .ok v' w') (h : K (a.put d v') w') : wpOp P ops Q i K a w := by
 subst hd
 subst hty
 refine LM hi hw ?_
 unfold Oper.wp execOp
 simp only [ho, resolve, invoke, builtin, Sem.run_bind, Sem.run_pure, Result.andThen_ok, List.map_toArray, List.map_cons, List.map_nil, hs, hx, hr]
 exact h
end Go.Proofs.Ytnhlpahoomcgnaa.Lg
