/-
  Texts QB QC QD joined.
-/
import Derived.Test.YtnhlpahoomcgnaaJ15
import Derived.Test.YtnhlpahoomcgnaaJ1
set_option maxRecDepth 100000
set_option maxHeartbeats 8000000
set_option linter.unusedSimpArgs false
set_option linter.unusedVariables false
namespace Go.Proofs.Ytnhlpahoomcgnaa.Lg
attribute [local irreducible] wpList wpQuiet
open Mo (Zd Zm YL YU)
open Go.RowKit
def zT (a b : Int) : Bool := decide (b ≤ a)
def zU (a b : Int) : Int := if b ≤ a then a - b else 0
theorem Fa (a b : Int) (w : World) (ha : W64 a) (hb : W64 b) :
  Calls Try.prog 77 #[Z7 a, Z7 b] w fun e w' => e = .returned (.tuple #[Z7 (zU a b), .bool (zT a b)]) ∧ w = w' := by
 obtain ⟨a0, a1⟩ := ha; obtain ⟨b0, b1⟩ := hb
 by_cases h : b ≤ a
 ·have e1 : zU a b = a - b := if_pos h
  have e2 : zT a b = true := decide_eq_true h
  rw [e1, e2]
  clear e1 e2
  go_enter Try.func77, Try.ntmps77
  go_wp2
  go_ret2
  exact ⟨rfl, rfl⟩
 ·have e1 : zU a b = 0 := if_neg h
  have e2 : zT a b = false := decide_eq_false h
  rw [e1, e2]
  clear e1 e2
  go_enter Try.func77, Try.ntmps77
  go_wp2
  go_ret2
  exact ⟨rfl, rfl⟩
theorem ac6 (a : Option Addr) (k : Nat) (A : List Ac) (c : Int) (w : World) (hR : Cs w a (acc A)) (hn : A.length ≤ 4398046511104) :
  Calls Try.prog 46 #[.agg (ZU a A.length k c)] w (fK w A c) := by
 obtain ⟨hb0, hX1, hX2⟩ := Zi w (ZU a A.length k c) (ZU none 0 0 0) 33 33
 have hA := hR.below hb0
 obtain ⟨n, hnn⟩ := ZR A.length
 have CC := fun V h => UO a k A V h hn
 have HN := Z9 hnn
 rw [hnn] at hb0 hX1 hX2 hA CC ⊢
 clear hR hn hnn
 go_enter Try.func46, Try.ntmps46
 go_upto_region 1 with fail
 change Code.wp _ _ _ _ ((w.alloc (.cells (ZU a n k c) 33)).alloc (.cells (ZU none 0 0 0) 33))
 generalize (w.alloc (.cells (ZU a n k c) 33)).alloc (.cells (ZU none 0 0 0) 33) = W at *
 obtain ⟨g1, hg1⟩ := ZR w.heap.size
 obtain ⟨g2, hg2⟩ := ZR (g1 + 1)
 have HB0 := Z9 hb0
 rw [show w.heap.size + 1 = g2 by omega] at hX2
 have HG : Hid (w.heap.size ≤ g1 ∧ w.heap.size ≤ g2 ∧ g1 ≠ g2 ∧ g2 ≠ g1 ∧ g1 < W.heap.size ∧ g2 < W.heap.size) := Z9 ⟨by omega, by omega, by omega, by omega, by rw [hg1] at hX1; exact hX1.lt, hX2.lt⟩
 rw [hg1] at hX1
 simp only [hg1]
 simp only [hg2]
 have XP := Z9 hX1
 have Yr := Z9 hX2
 have sS := CC W hA
 clear hb0 hX1 hX2 hA hg1 hg2 CC
 refine wl <| ZV (Z5 g1 0) <| ZI rfl ⟨g1, 0, none⟩ (.slice a n k) (XP.out.ZN 0) <| Yl (fun v w' => ZB w' W.heap.size v A ∧ Below W.heap.size W w') (sS.mono fun e w' q => by obtain ⟨v, h1, h2, h3⟩ := q; exact ⟨v, h1, h2, h3⟩) (fun vv V1 hq => ?_)
 obtain ⟨hr1, hb1⟩ := hq
 obtain ⟨ad, cd, rfl, -, -⟩ := hr1.cs
 rw [HN.out]
 rw [HN.out] at hr1
 obtain ⟨V2, hst2, ou, hb2, Vu⟩ := Zb (i := 0) (ty := 22) (v := .slice ad n cd) (cs' := ZU ad n cd c) (XP.out.below XP.out.lt hb1) (HB0.out.trans (hb1.mono HB0.out.size)) HG.out.1 (by show 0 < 2; decide) rfl (by kernel_rfl) rfl
 have hr2 := Zv hr1 Vu HG.out.2.2.2.2.1
 simp only [pu]
 refine ZV (Z5 g1 0) <| Zt rfl (hst2) <| wn ?_
 simp only [pu]
 have Py := (Yr.out.below Yr.out.lt hb1).but Vu HG.out.2.2.2.1
 obtain ⟨hst3, oq⟩ := ZJ (a' := ad) (n' := n) (k' := cd) (c' := c) Py
 have hr3 := Zv hr2 (But.setRow (g := g2) V2 (ZU ad n cd c)) HG.out.2.2.2.2.2
 have hb3 := ZT hb2 HG.out.2.1 (ZU ad n cd c)
 have HE : Hid (ZB (V2.setRow g2 (ZU ad n cd c)) w.heap.size (.slice ad n cd) A ∧ Below w.heap.size w (V2.setRow g2 (ZU ad n cd c))) := Z9 ⟨own_base hr3 HB0.out.size, hb3⟩
 generalize V2.setRow g2 (ZU ad n cd c) = V3 at *
 clear sS hr1 hb1 hst2 hb2 Vu hr2 Py hr3 hb3
 go_upto_region 2 with fail
 refine wl <| ZI rfl ⟨g1, 0, none⟩ (.agg (ZU ad n cd c)) (ZQ ou) <| Zt rfl (hst3) <| wn ?_
 simp only [pu]
 go_wp2_with fail
 exact bodyPost_ret (XJ rfl (by kernel_rfl) (ZQ oq)) rfl ⟨ad, cd, by rw [HN.out], by rw [HN.out]; exact HE.out.1, HE.out.2⟩
def MW (A : List Ac) (c : Int) (L : List Int) : Zf × Int := if Y8 A c ≠ 0 then (zX, 1) else Zq L
theorem fA (A : List Ac) (c : Int) (L : List Int) (la ra : Option Addr) (lk rc : Nat) (w : World) (hL : Cs w la (acc A)) (hn : A.length ≤ 4398046511104) (hc : W64 c) (hw : Xz A) (hz : ∀ x, x ∈ A → x.1.size ≤ 140737488355328) (hR : Sl w ra rc L) (hrc : L.length ≤ rc) (h8 : ∀ y, y ∈ L → W8 y) :
  Calls Try.prog 45 #[.agg (ZU la A.length lk c), .slice ra L.length rc] w (DJ w (MW A c L)) := by
 obtain ⟨hb0, hX2, Xk⟩ := Zi w (ZU la A.length lk c) (Zu zX none 0) 33 57
 have hA := hL.below hb0
 have HRW := Z9 (ZH hR hb0)
 obtain ⟨D, hD⟩ := ZR (MW A c L)
 have H1 : Hid (Y8 A c ≠ 0 → D = (zX, 1)) := Z9 fun h => by rw [← hD]; exact if_pos h
 have H2 : Hid (Y8 A c = 0 → D = Zq L) := Z9 fun h => by rw [← hD]; exact if_neg (by rw [h]; decide)
 have CV := fun V h => VL la lk A c V h hn hc hw hz
 have CD := Z9 (fun V (h : Sl V ra rc L) => DI ra rc L V h hrc h8)
 rw [hD]
 generalize Y8 A c = ve at *
 clear hL hR hz h8 hD
 go_enter Try.func45, Try.ntmps45
 go_upto_region 1 with fail
 change Code.wp _ _ _ _ ((w.alloc (.cells (ZU la A.length lk c) 33)).alloc (.cells (Zu zX none 0) 57))
 generalize (w.alloc (.cells (ZU la A.length lk c) 33)).alloc (.cells (Zu zX none 0) 57) = W at *
 obtain ⟨g2, hg2⟩ := ZR w.heap.size
 obtain ⟨g4, hg4⟩ := ZR (g2 + 1)
 have HB0 := Z9 hb0
 rw [show w.heap.size + 1 = g4 by omega] at Xk
 have HG : Hid (w.heap.size ≤ g4 ∧ g4 < W.heap.size) := Z9 ⟨by omega, Xk.lt⟩
 rw [hg2] at hX2
 simp only [hg2]
 simp only [hg4]
 have Yr := Z9 hX2
 have YK := Z9 Xk
 have SS := CV W hA
 clear hb0 hX2 Xk hA hg2 hg4 CV
 refine wl <| ZI rfl ⟨g2, 0, none⟩ (.agg (ZU la A.length lk c)) (ZQ Yr.out) <| Y2 (Z8 ve) (fun w' => Below W.heap.size W w') (SS) (fun W1 hW1 => ?_)
 simp only [pu]
 have HB1 := Z9 (HB0.out.trans (hW1.mono HB0.out.size))
 have IU := Z9 (YK.out.below YK.out.lt hW1)
 have ae0 := Z9 (ZH HRW.out hW1)
 have zJ : Hid (W.heap.size ≤ W1.heap.size) := Z9 hW1.size
 clear SS hW1 YK HRW Yr
 by_cases hv : ve = 0
 ·subst hv
  refine ZM (YZ rfl 0 0 (decide_eq_true rfl)) <| wn ?_
  simp only [pu]
  have hd := H2.out rfl
  subst hd
  have CDW := CD.out W1 ae0.out
  generalize Zq L = D at *
  clear CD H1 H2
  go_upto_region 3 with fail
  refine wl <| ZV (.slice ra L.length rc) <| Yl (fun v w' => ∃ a c, v = .tuple #[.agg (Zu D.1 a c), Z8 D.2] ∧ Yn w' W1.heap.size (.slice a D.1.tr.length c) D.1.tr ∧ Below W1.heap.size W1 w') (CDW.mono fun e w' q => by obtain ⟨a, c, h1, h2⟩ := q; exact ⟨_, h1, a, c, rfl, h2⟩) (fun vv W2 hq => ?_)
  obtain ⟨ta, tk, rfl, hrt, hb2⟩ := hq
  obtain ⟨hst3, Vt⟩ := YC (y := D.1) (a' := ta) (c' := tk) (IU.out.below IU.out.lt hb2)
  have dN := Zv hrt (But.setRow (g := g4) W2 (Zu D.1 ta tk)) (Nat.lt_of_lt_of_le HG.out.2 zJ.out)
  have hb3 := ZT (HB1.out.trans (hb2.mono HB1.out.size)) HG.out.1 (Zu D.1 ta tk)
  have HE : Hid (DJ w D (.returned (.tuple #[.agg (Zu D.1 ta tk), Z8 D.2])) (W2.setRow g4 (Zu D.1 ta tk))) := Z9 ⟨ta, tk, rfl, own_base dN HB1.out.size, hb3⟩
  generalize W2.setRow g4 (Zu D.1 ta tk) = W3 at *
  clear hrt hb2 dN hb3
  simp only [pu]
  refine ZG (.agg (Zu D.1 ta tk)) (Z8 D.2) <| Zt rfl (hst3) <| ZV (Z8 D.2) <| wn ?_
  simp only [pu]
  go_wp2_with fail
  exact bodyPost_ret (ZP (p := 4) (q := 5) rfl (by kernel_rfl) (Za Vt) rfl) rfl HE.out
 ·refine ZM (YZ rfl ve 0 (decide_eq_false hv)) <| wn ?_
  simp only [pu]
  have hd := H1.out hv
  subst hd
  obtain ⟨hst3, Vt⟩ := YC (y := zX) (a' := none) (c' := 0) IU.out
  have hb3 := ZT HB1.out HG.out.1 (Zu zX none 0)
  have HE : Hid (DJ w (zX, 1) (.returned (.tuple #[.agg (Zu zX none 0), Z8 1])) (W1.setRow g4 (Zu zX none 0))) := Z9 ⟨none, 0, rfl, Yn.nil _ _, hb3⟩
  generalize W1.setRow g4 (Zu zX none 0) = W3 at *
  clear CD H1 H2 hb3
  go_upto_region 2 with fail
  refine wl <| ZV (.agg (Zu zX none 0)) <| Zt rfl (hst3) <| ZV (Z8 1) <| wn ?_
  simp only [pu]
  go_wp2_with fail
  exact bodyPost_ret (ZP (p := 4) (q := 5) rfl (by kernel_rfl) (Za Vt) rfl) rfl HE.out
theorem Aa (A : List Ac) (c : Int) (t : Zf) (la ta : Option Addr) (lk tk : Nat) (w : World) (hL : Cs w la (acc A)) (hn : A.length ≤ 4398046511104) :
  Calls Try.prog 60 #[.agg (ZU la A.length lk c), .agg (Zu t ta tk)] w fun e w' => e = .returned (.tuple #[.agg (ZA (Un A t).1), Z8 (Un A t).2]) ∧ Below w.heap.size w w' := by
 obtain ⟨hb0, hX2, Vt, Xk⟩ := Xt w (ZU la A.length lk c) (Zu t ta tk) (ZA Xg) 33 57 49
 have hA := hL.below hb0
 have CG0 := fun V h => uw la lk A c t.snd V h hn
 obtain ⟨r, hr⟩ := ZR (Un A t)
 have hr0 := hr
 unfold Un at hr0
 obtain ⟨y, hy⟩ := ZR ((Zw A t.snd).1)
 obtain ⟨gb, hgb⟩ := ZR ((Zw A t.snd).2)
 rw [hy, hgb] at hr0 CG0
 have HR := Z9 hr0.symm
 rw [hr]
 clear hL hn hr hr0 hy hgb
 go_enter Try.func60, Try.ntmps60
 go_upto_region 1 with fail
 change Code.wp _ _ _ _ (((w.alloc (.cells (ZU la A.length lk c) 33)).alloc (.cells (Zu t ta tk) 57)).alloc (.cells (ZA Xg) 49))
 generalize ((w.alloc (.cells (ZU la A.length lk c) 33)).alloc (.cells (Zu t ta tk) 57)).alloc (.cells (ZA Xg) 49) = W at *
 obtain ⟨g2, hg2⟩ := ZR w.heap.size
 obtain ⟨g3, hg3⟩ := ZR (g2 + 1)
 obtain ⟨g4, hg4⟩ := ZR (g3 + 1)
 have HB0 := Z9 hb0
 rw [show w.heap.size + 2 = g4 by omega] at Xk
 rw [show w.heap.size + 1 = g3 by omega] at Vt
 have HG : Hid (w.heap.size ≤ g4) := Z9 (by omega)
 rw [hg2] at hX2
 simp only [hg2]
 simp only [hg3]
 simp only [hg4]
 have Yr := Z9 hX2
 have Wu := Z9 Vt
 have YK := Z9 Xk
 have CG := CG0 W hA
 clear hb0 hX2 Vt Xk hA hg2 hg3 hg4 CG0
 refine wl <| ZI rfl ⟨g2, 0, none⟩ (.agg (ZU la A.length lk c)) (ZQ Yr.out) <| ZV (Z5 g3 0) <| ZI rfl ⟨g3, 0, none⟩ (.string t.snd) (Wu.out.ZN 0) <| Y2 (.tuple #[.agg (ZA y), .bool gb]) (fun w' => Below W.heap.size W w') CG (fun W1 hW1 => ?_)
 obtain ⟨V2, hst2, hb2, hbx2⟩ := WW W1 y
 simp only [pu]
 refine YT (.tuple #[.agg (ZA y), .bool gb]) (.agg (ZA y)) (.bool gb) ?_
 simp only [pu]
 refine Zz rfl (some 6) rfl (Z5 W1.heap.size 0) (W1.alloc (.cells (ZA Xg) 49)) (by kernel_rfl) ?_
 simp only [pu]
 refine Zt rfl (hst2) <| ZV (.bool gb) <| wn ?_
 simp only [pu]
 have hb3 := hW1.trans (hb2.mono hW1.size)
 obtain ⟨g6, Vk⟩ := ZR W1.heap.size
 rw [Vk] at hbx2 ⊢
 have VJ := Z9 hbx2
 have HB2 := Z9 (HB0.out.trans (hb3.mono HB0.out.size))
 have dM := Z9 (Wu.out.below Wu.out.lt hb3)
 have Ku := YK.out.below YK.out.lt hb3
 clear CG hW1 hst2 hb2 Vk hbx2 hb3 Yr Wu YK
 cases gb
 ·go_upto_region 2 with fail
  refine wl <| YT ZY Z4 Z4 <| wn ?_
  simp only [pu]
  obtain rfl : r = (Xg, 13) := by rw [HR.out]; rfl
  obtain ⟨hst, Vl⟩ := XV (y := Xg) Ku
  have Zj := Z9 (ZT HB2.out HG.out (ZA Xg))
  generalize V2.setRow g4 (ZA Xg) = V9 at *
  go_upto_region 3 with fail
  refine wl <| ZV (.agg (ZA Xg)) <| Zt rfl (hst) <| ZV (Z8 13) <| wn ?_
  simp only [pu]
  go_wp2_with fail
  exact bodyPost_ret (ZP (p := 4) (q := 5) rfl (by kernel_rfl) (Zn Vl) rfl) rfl ⟨rfl, Zj.out⟩
 ·go_upto_region 2 with fail
  refine wl <| YT Z4 ZY ZY <| wn ?_
  simp only [pu]
  by_cases hs : y.2.2 = t.sq
  ·go_upto_region 4 with fail
   refine wl <| ZV (Z5 g6 2) <| ZI rfl ⟨g6, 2, none⟩ (Z7 y.2.2) (VJ.out.ZN 2) <| ZV (Z5 g3 1) <| ZI rfl ⟨g3, 1, none⟩ (Z7 t.sq) (dM.out.ZN 1) <|
    ZM (A8 rfl y.2.2 t.sq (decide_eq_true hs)) <| ZV ZY <| wn ?_
   simp only [pu]
   by_cases hm : t.sq = 18446744073709551615
   ·go_upto_region 6 with fail
    refine wl <| ZV (Z5 g6 2) <| ZI rfl ⟨g6, 2, none⟩ (Z7 y.2.2) (VJ.out.ZN 2) <| ZM (I8 rfl y.2.2 18446744073709551615 (decide_eq_true (hs.trans hm))) <| ZV Z4 <|
     wpList_nil ?_
    simp only [pu]
    obtain rfl : r = (Xg, 6) := by rw [HR.out, if_neg (by decide), if_neg (fun q => q hs), if_pos hm]
    obtain ⟨hst, Vl⟩ := XV (y := Xg) Ku
    have Zj := Z9 (ZT HB2.out HG.out (ZA Xg))
    generalize V2.setRow g4 (ZA Xg) = V9 at *
    go_upto_region 7 with fail
    refine wl <| ZV (.agg (ZA Xg)) <| Zt rfl (hst) <| ZV (Z8 6) <| wn ?_
    simp only [pu]
    go_wp2_with fail
    exact bodyPost_ret (ZP (p := 4) (q := 5) rfl (by kernel_rfl) (Zn Vl) rfl) rfl ⟨rfl, Zj.out⟩
   ·go_upto_region 6 with fail
    refine wl <| ZV (Z5 g6 2) <| ZI rfl ⟨g6, 2, none⟩ (Z7 y.2.2) (VJ.out.ZN 2) <| ZM (I8 rfl y.2.2 18446744073709551615 (decide_eq_false (fun q => hm (hs.symm.trans q)))) <|
     ZV ZY <| wn ?_
    simp only [pu]
    obtain rfl : r = (y, 0) := by rw [HR.out, if_neg (by decide), if_neg (fun q => q hs), if_neg hm]
    obtain ⟨hst, Vl⟩ := XV (y := y) Ku
    have Zj := Z9 (ZT HB2.out HG.out (ZA y))
    generalize V2.setRow g4 (ZA y) = V9 at *
    go_upto_region 8 with fail
    refine wl <| ZI rfl ⟨g6, 0, none⟩ (.agg (ZA y)) (Zn VJ.out) <| Zt rfl (hst) <| ZV (Z8 0) <| wn ?_
    simp only [pu]
    go_wp2_with fail
    exact bodyPost_ret (ZP (p := 4) (q := 5) rfl (by kernel_rfl) (Zn Vl) rfl) rfl ⟨rfl, Zj.out⟩
  ·go_upto_region 4 with fail
   refine wl <| ZV (Z5 g6 2) <| ZI rfl ⟨g6, 2, none⟩ (Z7 y.2.2) (VJ.out.ZN 2) <| ZV (Z5 g3 1) <| ZI rfl ⟨g3, 1, none⟩ (Z7 t.sq) (dM.out.ZN 1) <|
    ZM (A8 rfl y.2.2 t.sq (decide_eq_false hs)) <| ZV Z4 <| wn ?_
   simp only [pu]
   obtain rfl : r = (Xg, 14) := by rw [HR.out, if_neg (by decide), if_pos hs]
   obtain ⟨hst, Vl⟩ := XV (y := Xg) Ku
   have Zj := Z9 (ZT HB2.out HG.out (ZA Xg))
   generalize V2.setRow g4 (ZA Xg) = V9 at *
   go_upto_region 5 with fail
   refine wl <| ZV (.agg (ZA Xg)) <| Zt rfl (hst) <| ZV (Z8 14) <| wn ?_
   simp only [pu]
   go_wp2_with fail
   exact bodyPost_ret (ZP (p := 4) (q := 5) rfl (by kernel_rfl) (Zn Vl) rfl) rfl ⟨rfl, Zj.out⟩
theorem eF (t : Zf) (price size : Int) (ta : Option Addr) (tk : Nat) (w : World) (hg : W64 t.Zk) (hp : W64 price) :
  Calls Try.prog 61 #[.agg (Zu t ta tk), Z7 price, Z8 size] w fun e w' => e = .returned (Z8 (P5 t price size)) ∧ Below w.heap.size w w' := by
 have hb0 : Below w.heap.size w (w.alloc (.cells (Zu t ta tk) 57)) := (Below.refl _ w).alloc (Nat.le_refl _) _
 have hX0 : Bx (w.alloc (.cells (Zu t ta tk) 57)) w.heap.size (Zu t ta tk) 57 := heap_alloc_last w _
 have CU := fun V => Mo.Bj size t.tr.length V
 have CN := fun V => Mo.Bh t.Zk price V hg hp
 obtain ⟨r, hr⟩ := ZR (P5 t price size)
 have hr0 := hr
 unfold P5 at hr0
 generalize Zd size t.tr.length = us at *
 generalize YU t.Zk price = mv at *
 generalize YL t.Zk price = mb at *
 have HR := Z9 hr0.symm
 rw [hr]
 clear hr hr0
 go_enter Try.func61, Try.ntmps61
 go_upto_region 1 with fail
 change Code.wp _ _ _ _ (w.alloc (.cells (Zu t ta tk) 57))
 generalize w.alloc (.cells (Zu t ta tk) 57) = W at *
 obtain ⟨g3, hg3⟩ := ZR w.heap.size
 have HB0 := Z9 hb0
 rw [hg3] at hX0
 simp only [hg3]
 have HX0 := Z9 hX0
 have lS : Hid (Bx W.drew g3 (Zu t ta tk) 57) := Z9 hX0
 clear hb0 hg3 hX0
 by_cases hga : t.Zk < us
 ·go_upto_region 1 with fail
  refine ZF (C := fun U => U = W.drew) (by kernel_rfl) (by kernel_rfl) (rfl) ?_
  refine gy (Z5 g3 2) <| UN rfl ⟨g3, 2, none⟩ (Z7 t.Zk) (fun U hU => by rw [hU]; exact lS.out.ZN 2) <| gy (Z8 size) <| gy (Z5 g3 5) <|
    UN rfl ⟨g3, 5, none⟩ (.slice ta t.tr.length tk) (fun U hU => by rw [hU]; exact lS.out.ZN 5) <| gy (Z8 t.tr.length) ?_
  simp only [pu]
  refine GY (by kernel_rfl) (some 15) rfl 74 #[Z8 size, Z8 t.tr.length] (Z7 us) (fun U hU => by kernel_rfl) (fun U hU => (CU U).mono fun e w2 q => ⟨q.1, q.2 ▸ hU⟩) ?_
  simp only [pu]
  refine X3 Z4 (fun U hU => Na rfl t.Zk us (decide_eq_true hga) (by kernel_rfl) (by kernel_rfl) _) ?_
  simp only [pu]
  apply wpQuiet_nil
  intro U hU
  have HB2 : Hid (Below w.heap.size w U) := Z9 (by rw [hU]; exact HB0.out.drew)
  have Wu : Hid (Bx U g3 (Zu t ta tk) 57) := Z9 (by rw [hU]; exact lS.out)
  clear hU
  obtain rfl : r = 15 := by rw [HR.out, if_pos hga]
  go_upto_region 2 with fail
  refine wl <| ZV (Z8 15) <| wn ?_
  simp only [pu]
  go_wp2_with fail
  go_ret
  exact ⟨rfl, HB2.out⟩
 ·go_upto_region 1 with fail
  refine ZF (C := fun U => U = W.drew) (by kernel_rfl) (by kernel_rfl) (rfl) ?_
  refine gy (Z5 g3 2) <| UN rfl ⟨g3, 2, none⟩ (Z7 t.Zk) (fun U hU => by rw [hU]; exact lS.out.ZN 2) <| gy (Z8 size) <| gy (Z5 g3 5) <|
    UN rfl ⟨g3, 5, none⟩ (.slice ta t.tr.length tk) (fun U hU => by rw [hU]; exact lS.out.ZN 5) <| gy (Z8 t.tr.length) ?_
  simp only [pu]
  refine GY (by kernel_rfl) (some 15) rfl 74 #[Z8 size, Z8 t.tr.length] (Z7 us) (fun U hU => by kernel_rfl) (fun U hU => (CU U).mono fun e w2 q => ⟨q.1, q.2 ▸ hU⟩) ?_
  simp only [pu]
  refine X3 ZY (fun U hU => Na rfl t.Zk us (decide_eq_false hga) (by kernel_rfl) (by kernel_rfl) _) ?_
  simp only [pu]
  apply wpQuiet_nil
  intro U hU
  have HB2 : Hid (Below w.heap.size w U) := Z9 (by rw [hU]; exact HB0.out.drew)
  have Wu : Hid (Bx U g3 (Zu t ta tk) 57) := Z9 (by rw [hU]; exact lS.out)
  clear hU
  go_upto_region 3 with fail
  refine wl <| ZV (Z5 g3 2) <| ZI rfl ⟨g3, 2, none⟩ (Z7 t.Zk) (Wu.out.ZN 2) <| ZV (Z7 price) <| Y2 (.tuple #[Z7 mv, .bool mb]) (fun w' => U = w') (CN U) (fun V9 XQ => ?_)
  subst XQ
  simp only [pu]
  refine Sz (.tuple #[Z7 mv, .bool mb]) (Z7 mv) (.bool mb) (Z7 mv) (.bool mb) <| wn ?_
  simp only [pu]
  cases mb
  ·go_upto_region 4 with fail
   refine wl <| YT ZY Z4 Z4 <| wn ?_
   simp only [pu]
   obtain rfl : r = 6 := by rw [HR.out, if_neg hga]; rfl
   go_upto_region 5 with fail
   refine wl <| ZV (Z8 6) <| wn ?_
   simp only [pu]
   go_wp2_with fail
   go_ret
   exact ⟨rfl, HB2.out⟩
  ·go_upto_region 4 with fail
   refine wl <| YT Z4 ZY ZY <| wn ?_
   simp only [pu]
   by_cases hfe : t.Y6 < mv
   ·go_upto_region 6 with fail
    refine wl <| ZV (Z5 g3 3) <| ZI rfl ⟨g3, 3, none⟩ (Z7 t.Y6) (Wu.out.ZN 3) <| ZV (Z7 mv) <| ZM (Na rfl t.Y6 mv (decide_eq_true hfe)) <| ZV Z4 <|
     wpList_nil ?_
    simp only [pu]
    obtain rfl : r = 16 := by rw [HR.out, if_neg hga, if_neg (by decide), if_pos hfe]
    go_upto_region 7 with fail
    refine wl <| ZV (Z8 16) <| wn ?_
    simp only [pu]
    go_wp2_with fail
    go_ret
    exact ⟨rfl, HB2.out⟩
   ·go_upto_region 6 with fail
    refine wl <| ZV (Z5 g3 3) <| ZI rfl ⟨g3, 3, none⟩ (Z7 t.Y6) (Wu.out.ZN 3) <| ZV (Z7 mv) <| ZM (Na rfl t.Y6 mv (decide_eq_false hfe)) <| ZV ZY <|
     wpList_nil ?_
    simp only [pu]
    obtain rfl : r = 0 := by rw [HR.out, if_neg hga, if_neg (by decide), if_neg hfe]
    go_upto_region 8 with fail
    refine wl <| ZV (Z8 0) <| wn ?_
    simp only [pu]
    go_wp2_with fail
    go_ret
    exact ⟨rfl, HB2.out⟩
theorem IW (w : World) (x y z u : Array Value) (t1 t2 t3 t4 : Nat) : Below w.heap.size w ((((w.alloc (.cells x t1)).alloc (.cells y t2)).alloc (.cells z t3)).alloc (.cells u t4)) ∧ Bx ((((w.alloc (.cells x t1)).alloc (.cells y t2)).alloc (.cells z t3)).alloc (.cells u t4)) w.heap.size x t1 ∧ Bx ((((w.alloc (.cells x t1)).alloc (.cells y t2)).alloc (.cells z t3)).alloc (.cells u t4)) (w.heap.size + 1) y t2 ∧ Bx ((((w.alloc (.cells x t1)).alloc (.cells y t2)).alloc (.cells z t3)).alloc (.cells u t4)) (w.heap.size + 2) z t3 ∧ Bx ((((w.alloc (.cells x t1)).alloc (.cells y t2)).alloc (.cells z t3)).alloc (.cells u t4)) (w.heap.size + 3) u t4 := by
 obtain ⟨h1, h2, h3, h4⟩ := Xt w x y z t1 t2 t3
 have hs : (((w.alloc (.cells x t1)).alloc (.cells y t2)).alloc (.cells z t3)).heap.size = w.heap.size + 3 := by simp
 have hz : Bx ((((w.alloc (.cells x t1)).alloc (.cells y t2)).alloc (.cells z t3)).alloc (.cells u t4)) (((w.alloc (.cells x t1)).alloc (.cells y t2)).alloc (.cells z t3)).heap.size u t4 := heap_alloc_last _ _
 generalize ((w.alloc (.cells x t1)).alloc (.cells y t2)).alloc (.cells z t3) = W at *
 have hb : Below W.heap.size W (W.alloc (.cells u t4)) := (Below.refl _ _).alloc (Nat.le_refl _) _
 rw [hs] at hz
 exact ⟨h1.trans (hb.mono h1.size), h2.below h2.lt hb, h3.below h3.lt hb, h4.below h4.lt hb, hz⟩
theorem IV {w : World} {B : Nat} {v : Value} {A : List Ac} (h : ZB w B v A) : ∀ q, v.ownBlock = some q → B ≤ q ∧ q < w.heap.size := fun q hq => by
 rcases h.2 with ⟨rfl, -⟩ | ⟨g, cap, cur, rfl, hB, hg, -⟩
 ·cases hq
 ·obtain rfl : g = q := Option.some.inj hq
  refine ⟨hB, ?_⟩
  rcases Nat.lt_or_ge g w.heap.size with h1 | h1
  ·exact h1
  ·rw [Array.getElem?_eq_none h1] at hg; cases hg
theorem zV {w w' : World} {B g : Nat} {v : Value} {A : List Ac} (h : ZB w B v A) (hn : ∀ q, v.ownBlock = some q → q ≠ g) (hb : But g w w') : ZB w' B v A :=
 rE h fun q hq => hb.2 q (IV h q hq).2 (hn q hq)
structure zG (A : List Ac) (c price : Int) (t : Zf) : Prop where
 q : oH A c price t
 g : (Zw A t.snd).2 = true
 s : (Zw A t.snd).1.2.2 = t.sq
 m : ¬ t.sq = 18446744073709551615
theorem zG.ld {A : List Ac} {c price : Int} {t : Zf} (h : zG A c price t) : ML A c := ⟨h.q.v, h.q.w, h.q.cw⟩
theorem zG.xz {A : List Ac} {c price : Int} {t : Zf} (h : zG A c price t) : (Zw A t.snd).1.1.size ≤ 140737488355328 := by
 obtain ⟨h1, h2, h3⟩ := Xu h.g
 rw [h2]
 exact h.ld.z _ (UM h1)
theorem zG.dn {A : List Ac} {c price : Int} {t : Zf} (h : zG A c price t) (h4 : Vp t = true) (h5 : ¬ (Zw A t.snd).1.2.1 < X9 t) : OG A c t := h.q.dn h.g h.s h.m h4 h5
theorem zG.bw {A : List Ac} {c price : Int} {t : Zf} (h : zG A c price t) : W64 (Zw A t.snd).1.2.1 := by
 obtain ⟨h1, h2, h3⟩ := Xu h.g
 rw [h2]
 exact (h.q.w _ h1).1
theorem nD (t : Zf) (hf : W64 t.Y6) (ha : ∀ x, x ∈ t.tr → W64 x.2) : W64 (X9 t) := by
 by_cases h : Vp t = true
 ·obtain ⟨h1, h2⟩ := Oo h
  have h3 := TD t
  have h4 := (Om ha t.tr.length).1
  have := hf.1
  exact ⟨by omega, by omega⟩
 ·rw [rH (by simpa using h)]; exact X0
theorem nI (A : List Ac) (c price : Int) (t : Zf) (la ta : Option Addr) (lk tk : Nat) (w : World) (hL : Cs w la (acc A)) (hlk : A.length ≤ lk) (hT : Cs w ta (SE t.tr)) (hQ : zG A c price t) :
  Calls Try.prog 62 #[.agg (ZU la A.length lk c), .agg (ZA (Zw A t.snd).1), .agg (Zu t ta tk)] w (Yx w (Q5 A c t)) := by
 obtain ⟨hb0, Vt, Xk, MR, Tm⟩ := IW w (ZU la A.length lk c) (ZA (Zw A t.snd).1) (Zu t ta tk) (ZU none 0 0 0) 33 49 57 33
 have HAW := Z9 hL
 have hA := hL.below hb0
 have CC := fun V h => oD t ta tk V h (by have := hQ.q.m; omega) hQ.q.f hQ.q.a
 have hT0 := hT.below hb0
 have HYW := Z9 (fun h4 h5 => (hQ.dn h4 h5).yw)
 have CS := fun V => Fa (Zw A t.snd).1.2.1 (X9 t) V hQ.bw (nD t hQ.q.f hQ.q.a)
 have HST := Z9 (fun (h4 : Vp t = true) (h5 : ¬ (Zw A t.snd).1.2.1 < X9 t) => Kr hQ.q.v hQ.g (hQ.dn h4 h5).c0.1)
 have HSE := Z9 (fun (x : Ac) V (h : Cs V la (acc A)) (hx : W64 x.2.1 ∧ W64 x.2.2) (hz : x.1 = (Zw A t.snd).1.1) => uD la lk A c x V h hlk (by have := hQ.ld.n; omega) hQ.q.cw hQ.q.w hQ.ld.z hx (by rw [hz]; exact hQ.xz))
 obtain ⟨r, hr⟩ := ZR (Q5 A c t)
 have hr0 := hr
 unfold Q5 at hr0
 have HR := Z9 hr0.symm
 rw [hr]
 obtain ⟨y, hy⟩ := ZR ((Zw A t.snd).1)
 rw [hy] at HYW CS HST HSE HR hb0 Vt Xk MR Tm hA hT0 ⊢
 generalize Xd A t = SA at *
 generalize X9 t = cv at *
 generalize Vp t = cb at *
 clear hL hT hQ hr hr0 hy
 go_enter Try.func62, Try.ntmps62
 go_upto_region 1 with fail
 change Code.wp _ _ _ _ ((((w.alloc (.cells (ZU la A.length lk c) 33)).alloc (.cells (ZA y) 49)).alloc (.cells (Zu t ta tk) 57)).alloc (.cells (ZU none 0 0 0) 33))
 generalize (((w.alloc (.cells (ZU la A.length lk c) 33)).alloc (.cells (ZA y) 49)).alloc (.cells (Zu t ta tk) 57)).alloc (.cells (ZU none 0 0 0) 33) = W at *
 obtain ⟨g3, hg3⟩ := ZR w.heap.size
 obtain ⟨g4, hg4⟩ := ZR (g3 + 1)
 obtain ⟨g5, hg5⟩ := ZR (g4 + 1)
 obtain ⟨g6, Vk⟩ := ZR (g5 + 1)
 have HB0 := Z9 hb0
 rw [show w.heap.size + 3 = g6 by omega] at Tm
 rw [show w.heap.size + 2 = g5 by omega] at MR
 rw [show w.heap.size + 1 = g4 by omega] at Xk
 have HG : Hid (w.heap.size ≤ g6 ∧ w.heap.size ≤ g4 ∧ g3 ≠ g4 ∧ g6 ≠ g4 ∧ g6 < W.heap.size) := Z9 ⟨by omega, by omega, by omega, by omega, Tm.lt⟩
 rw [hg3] at Vt
 simp only [hg3]
 simp only [hg4]
 simp only [hg5]
 simp only [Vk]
 have Wu := Z9 Vt
 have YK := Z9 Xk
 have uO := Z9 MR
 have VJ := Z9 Tm
 have HA := Z9 hA
 have sS := CC W hT0
 clear hb0 Vt Xk MR Tm hA hT0 hg3 hg4 hg5 Vk CC
 refine wl <| ZI rfl ⟨g5, 0, none⟩ (.agg (Zu t ta tk)) (Za uO.out) <| Y2 (.tuple #[Z7 cv, .bool cb]) (fun w' => Below W.heap.size W w') (sS) (fun W1 hW1 => ?_)
 simp only [pu]
 refine Sz (.tuple #[Z7 cv, .bool cb]) (Z7 cv) (.bool cb) (Z7 cv) (.bool cb) <| wn ?_
 simp only [pu]
 have HB1 := Z9 (HB0.out.trans (hW1.mono HB0.out.size))
 have zJ : Hid (W.heap.size ≤ W1.heap.size) := Z9 hW1.size
 have ad4 := Z9 (Wu.out.below Wu.out.lt hW1)
 have IU := Z9 (YK.out.below YK.out.lt hW1)
 have nC := Z9 (VJ.out.below VJ.out.lt hW1)
 have HA1 := Z9 (HA.out.below hW1)
 clear sS hW1 Wu YK uO VJ HA
 cases cb
 ·go_upto_region 2 with fail
  refine wl <| ZG ZY Z4 <| wn ?_
  simp only [pu]
  obtain rfl : r = ([], 0, 6) := by rw [HR.out]; rfl
  obtain ⟨hst, Vl⟩ := ZJ (a' := none) (n' := 0) (k' := 0) (c' := 0) nC.out
  have Ws := ZT HB1.out HG.out.1 (ZU none 0 0 0)
  have HE := Z9 (Yx.err (e := 6) Ws)
  generalize W1.setRow g6 (ZU none 0 0 0) = V9 at *
  clear Ws
  go_upto_region 3 with fail
  refine wl <| ZV (.agg (ZU none 0 0 0)) <| Zt rfl (hst) <| ZV (Z8 6) <| wn ?_
  simp only [pu]
  go_wp2_with fail
  exact bodyPost_ret (ZP (p := 6) (q := 7) rfl (by kernel_rfl) (ZQ Vl) rfl) rfl HE.out
 ·go_upto_region 2 with fail
  refine wl <| ZG Z4 ZY <| wn ?_
  simp only [pu]
  have dY := CS W1
  by_cases hfu : y.2.1 < cv
  ·rw [show zU y.2.1 cv = 0 from if_neg (by omega), show zT y.2.1 cv = false from decide_eq_false (by omega)] at dY
   go_upto_region 4 with fail
   refine wl <| ZV (Z5 g4 1) <| ZI rfl ⟨g4, 1, none⟩ (Z7 y.2.1) (IU.out.ZN 1) <| ZV (Z7 cv) <| Y2 (.tuple #[Z7 (0), ZY]) (fun w' => W1 = w') (dY) (fun V9 XQ => ?_)
   subst XQ
   simp only [pu]
   refine Sz (.tuple #[Z7 (0), ZY]) (Z7 (0)) ZY (Z7 (0)) ZY <| wn ?_
   simp only [pu]
   go_upto_region 5 with fail
   refine wl <| ZG ZY Z4 <| wn ?_
   simp only [pu]
   obtain rfl : r = ([], 0, 17) := by rw [HR.out, if_neg (by decide), if_pos hfu]
   obtain ⟨hst, Vl⟩ := ZJ (a' := none) (n' := 0) (k' := 0) (c' := 0) nC.out
   have Ws := ZT HB1.out HG.out.1 (ZU none 0 0 0)
   have HE := Z9 (Yx.err (e := 17) Ws)
   generalize W1.setRow g6 (ZU none 0 0 0) = V9 at *
   clear Ws
   go_upto_region 6 with fail
   refine wl <| ZV (.agg (ZU none 0 0 0)) <| Zt rfl (hst) <| ZV (Z8 17) <| wn ?_
   simp only [pu]
   go_wp2_with fail
   exact bodyPost_ret (ZP (p := 6) (q := 7) rfl (by kernel_rfl) (ZQ Vl) rfl) rfl HE.out
  ·rw [show zU y.2.1 cv = y.2.1 - cv from if_pos (by omega), show zT y.2.1 cv = true from decide_eq_true (by omega)] at dY
   go_upto_region 4 with fail
   refine wl <| ZV (Z5 g4 1) <| ZI rfl ⟨g4, 1, none⟩ (Z7 y.2.1) (IU.out.ZN 1) <| ZV (Z7 cv) <| Y2 (.tuple #[Z7 (y.2.1 - cv), Z4]) (fun w' => W1 = w') (dY) (fun V9 XQ => ?_)
   subst XQ
   simp only [pu]
   refine Sz (.tuple #[Z7 (y.2.1 - cv), Z4]) (Z7 (y.2.1 - cv)) Z4 (Z7 (y.2.1 - cv)) Z4 <| wn ?_
   simp only [pu]
   go_upto_region 5 with fail
   refine wl <| ZG Z4 ZY <| wn ?_
   simp only [pu]
   obtain ⟨hy1, hy2⟩ := HYW.out rfl hfu
   obtain ⟨V2, hst2, Kq, hb2, Vu⟩ := Zb (i := 1) (ty := 23) (v := Z7 (y.2.1 - cv)) (cs' := ZA (y.1, y.2.1 - cv, y.2.2)) IU.out HB1.out HG.out.2.1 (by show 1 < 3; decide) rfl (by kernel_rfl) rfl
   obtain ⟨V3, hst3, ad5, hb3, Sj⟩ := Zb (i := 2) (ty := 23) (v := Z7 (y.2.2 + 1)) (cs' := ZA (y.1, y.2.1 - cv, y.2.2 + 1)) Kq hb2 HG.out.2.1 (by show 2 < 3; decide) rfl (by kernel_rfl) rfl
   have ad6 := (ad4.out.but Vu HG.out.2.2.1).but Sj HG.out.2.2.1
   have ny := (nC.out.but Vu HG.out.2.2.2.1).but Sj HG.out.2.2.2.1
   clear dY CS
   go_upto_region 7 with fail
   refine wl <| ZG (Z7 (y.2.1 - cv)) (Z5 g4 1) <| Zt rfl (hst2) <| wn ?_
   simp only [pu]
   go_upto_region 8 with fail
   refine wl <| ZV (Z5 g4 2) <| ZI rfl ⟨g4, 2, none⟩ (Z7 y.2.2) (Kq.ZN 2) <| YN (Z7 (y.2.2 + 1)) (I7 rfl y.2.2 1 hy2) <| ZV (Z5 g4 2) <| Zt rfl (hst3) <|
    wpList_nil ?_
   simp only [pu]
   obtain rfl : r = (SA, c, 0) := by rw [HR.out, if_neg (by decide), if_neg hfu]
   have hA3 : Cs V3 la (acc A) := HAW.out.below hb3
   have CT := HSE.out (y.1, y.2.1 - cv, y.2.2 + 1) V3 hA3 ⟨hy1, hy2⟩ rfl
   rw [HST.out rfl hfu] at CT
   clear HST HSE HYW
   go_upto_region 9 with fail
   refine wl <| ZI rfl ⟨g3, 0, none⟩ (.agg (ZU la A.length lk c)) (ZQ ad6) <| ZI rfl ⟨g4, 0, none⟩ (.agg (ZA (y.1, y.2.1 - cv, y.2.2 + 1))) (Zn ad5) <|
    Yl (fun v w' => ∃ ad kk, v = .tuple #[.agg (ZU ad SA.length kk c), Z8 0] ∧ ZB w' V3.heap.size (.slice ad SA.length kk) SA ∧ Below V3.heap.size V3 w') (CT.mono fun e w' q => by obtain ⟨ad, kk, h1, h2, h3⟩ := q; exact ⟨_, h1, ad, kk, rfl, h2, h3⟩) (fun vv V4 hq => ?_)
   obtain ⟨ad, kk, rfl, hr4, hb4⟩ := hq
   obtain ⟨hst5, Vl⟩ := ZJ (a' := ad) (n' := SA.length) (k' := kk) (c' := c) (ny.below ny.lt hb4)
   have Ws := ZT (hb3.trans (hb4.mono hb3.size)) HG.out.1 (ZU ad SA.length kk c)
   have SC := Zv hr4 (But.setRow (g := g6) V4 (ZU ad SA.length kk c)) ny.lt
   have HE : Hid (Yx w (SA, c, 0) (.returned (.tuple #[.agg (ZU ad SA.length kk c), Z8 0])) (V4.setRow g6 (ZU ad SA.length kk c))) := Z9 ⟨ad, kk, rfl, own_base SC hb3.size, Ws⟩
   generalize V4.setRow g6 (ZU ad SA.length kk c) = V5 at *
   clear hr4 hb4 Ws SC
   simp only [pu]
   refine ZG (.agg (ZU ad SA.length kk c)) (Z8 0) <| Zt rfl (hst5) <| ZV (Z8 0) <| wn ?_
   simp only [pu]
   go_wp2_with fail
   exact bodyPost_ret (ZP (p := 6) (q := 7) rfl (by kernel_rfl) (ZQ Vl) rfl) rfl HE.out
def vw (B : Nat) (w : World) (r : List Ac × Int × Int) (e : Ending) (w' : World) : Prop := ∃ ad k, e = .returned (.tuple #[.agg (ZU ad r.1.length k r.2.1), Z8 r.2.2]) ∧ ZB w' B (.slice ad r.1.length k) r.1 ∧ Below w.heap.size w w'
structure bJ (w : World) (g2 g4 Bs : Nat) (A : List Ac) (c : Int) (t : Zf) (j : Nat) (V : World) (B : List Ac) (ad : Option Addr) (k : Nat) : Prop where
 gj : Gx A t j B
 v : Y8 B c = 0
 bI : Bx V g2 (ZU ad B.length k c) 33
 bH : Bx V g4 (ZU none 0 0 0) 33
 row : ZB V Bs (.slice ad B.length k) B
 bel : Below w.heap.size w V
 ne : ∀ q, (Value.slice ad B.length k).ownBlock = some q → q ≠ g2 ∧ q ≠ g4
theorem dX {A B : List Ac} {c : Int} {t : Zf} {j : Nat} (h : OG A c t) (hJ : Gx A t j B) (hj : j < t.tr.length) : c + (tot (Zy B) + (tfa t.tr j).2) < 18446744073709551616 := by
 have h1 := hJ.s
 have h2 := h.tt
 have h3 := Mc hj
 have h4 := (Om h.a (j + 1)).2
 have h5 := TD t
 have h6 := h.f.1
 omega
theorem GR {A : List Ac} {c : Int} {t : Zf} (h : 256 < (Yt A t).length) : Q7 A c t = ([], 0, 3) := if_pos h
theorem Kv {A : List Ac} {c : Int} {t : Zf} (h : ¬ 256 < (Yt A t).length) : Q7 A c t = (Yt A t, c, 0) := if_neg h
theorem nH (A : List Ac) (c : Int) (t : Zf) (la ta : Option Addr) (lk tk Bs : Nat) (w : World) (hL : ZB w Bs (.slice la (Xd A t).length lk) (Xd A t)) (hBs : Bs ≤ w.heap.size) (hT : Cs w ta (SE t.tr)) (hQ : OG A c t) (hv : Y8 A c = 0) (hnm : ∀ x, x ∈ t.tr → isName (nums x.1) = true) :
  Calls Try.prog 63 #[.agg (ZU la (Xd A t).length lk c), .slice ta t.tr.length tk] w (vw Bs w (Q7 A c t)) := by
 obtain ⟨hb0, hX2, Xk⟩ := Zi w (ZU la (Xd A t).length lk c) (ZU none 0 0 0) 33 33
 have HT := Z9 hT
 have HQ := Z9 hQ
 have HNM := Z9 hnm
 have TI : Hid (A.length ≤ 256 ∧ t.tr.length ≤ 16) := Z9 ⟨hQ.n, hQ.m⟩
 have hgl : bJ w w.heap.size (w.heap.size + 1) Bs A c t 0 ((w.alloc (.cells (ZU la (Xd A t).length lk c) 33)).alloc (.cells (ZU none 0 0 0) 33)) (Xd A t) la lk := ⟨hQ.j0, vk hv hQ.g hQ.c0.1, hX2, Xk, own_below hL hb0, hb0, fun q hq => by have := (IV hL q hq).2; omega⟩
 obtain ⟨SA, hSA⟩ := ZR (Xd A t)
 rw [hSA] at hgl hb0 hX2 Xk ⊢
 clear hL hT hQ hv hnm hSA
 go_enter Try.func63, Try.ntmps63
 go_upto_region 1 with fail
 change Code.wp _ _ _ _ ((w.alloc (.cells (ZU la SA.length lk c) 33)).alloc (.cells (ZU none 0 0 0) 33))
 generalize (w.alloc (.cells (ZU la SA.length lk c) 33)).alloc (.cells (ZU none 0 0 0) 33) = W at *
 obtain ⟨g2, hg2⟩ := ZR w.heap.size
 obtain ⟨g4, hg4⟩ := ZR (g2 + 1)
 rw [show w.heap.size + 1 = g4 by omega] at Xk hgl
 have HG : Hid (w.heap.size ≤ g2 ∧ w.heap.size ≤ g4 ∧ g2 ≠ g4 ∧ g4 ≠ g2) := Z9 (by omega)
 have dW : bJ w g2 g4 Bs A c t 0 W SA la lk := by rw [← hg2]; exact hgl
 simp only [hg2]
 simp only [hg4]
 have HGL := Z9 dW
 clear hb0 hX2 Xk hgl dW hg2 hg4
 refine wl <| YT (.slice ta t.tr.length tk) (Z8 t.tr.length) (Z8 0) <| wn ?_
 simp only [pu]
 go_wp2_with fail
 go_loopg [14] t.tr.length (fun gg s14 wx => ∃ (j : Nat) (B : List Ac) (ad : Option Addr) (k : Nat), s14 = Z8 j ∧ j ≤ t.tr.length ∧ Hid (bJ w g2 g4 Bs A c t j wx B ad k) ∧ t.tr.length - j = gg)
 case atStart => exact ⟨0, SA, la, lk, rfl, by omega, HGL, by omega⟩
 case round =>
  obtain ⟨j, B, ad, k, rfl, hj, HL, hg⟩ := hrel
  clear HGL
  have hBn : B.length ≤ 256 := (Xc HL.out.v).1
  by_cases hlt : j < t.tr.length
  ·obtain ⟨b, off, rfl, -, hrx⟩ := U5 (HT.out.below HL.out.bel) hlt
   have Y0 := Z9 (UG hrx)
   obtain ⟨hJ1, hW1⟩ := HQ.out.js HL.out.gj hlt
   have hq9 := dX HQ.out HL.out.gj hlt
   have hxn := HNM.out (tfa t.tr j) (by rw [XC hlt]; exact List.getElem_mem hlt)
   have hdl := E8 A t (j + 1)
   rw [← hJ1.is] at hdl
   generalize tfa t.tr j = x at *
   have HXS : Hid (x.1.size ≤ 140737488355328) := Z9 (Nat.le_trans (Ba hxn) (by decide))
   have hset := Ko HL.out.v hxn hq9
   have hval := fun h => vg HL.out.v hxn hq9 h
   have hga := OC B x.1
   have hw1 := HL.out.gj.w
   have hlz := (ML.mk HL.out.v hw1 HQ.out.cw).z
   have hn16 := TI.out.2
   have HG9 := Z9 hg
   obtain ⟨V2, hst, hb2, hbx⟩ := RX wr x
   obtain ⟨a5, c5, e5, hcs, hcd⟩ := HL.out.row.cs
   simp only [Value.slice.injEq, true_and] at e5
   obtain ⟨rfl, rfl⟩ := e5
   have CG := uw ad k B c x.1 V2 (hcs.below hb2) (by omega)
   have hwy : W64 (Zw B x.1).1.2.2 := by have := (Eu hw1 x.1).2.1; rw [hga] at this; exact this
   rw [hga] at hW1
   generalize (Zw B x.1).2 = gb at *
   generalize (Zw B x.1).1 = y at *
   have Py := HL.out.bI.below HL.out.bI.lt hb2
   have bG : Hid (g2 < wr.heap.size ∧ g4 < wr.heap.size) := Z9 ⟨HL.out.bI.lt, HL.out.bH.lt⟩
   clear hrx hg
   go_upto_region 2 with fail
   refine wl <| ZM (ZC rfl (j) (t.tr.length) dT) <| wn ?_
   simp only [pu]
   go_upto_region 3 with fail
   refine wl <| YO (Z5 b (off + j * 2)) (Qw b off t.tr.length tk j hlt _ _ _ rfl (by kernel_rfl) (by kernel_rfl)) <| ZI rfl ⟨b, off + j * 2, none⟩ (.agg (Yv x)) (Y0.out) ?_
   simp only [pu]
   refine Zz rfl (some 7) rfl (Z5 wr.heap.size 0) (wr.alloc (.cells (Yv TK) 54)) (by kernel_rfl) ?_
   simp only [pu]
   refine Zt rfl (hst) <| wn ?_
   obtain ⟨g7, yB⟩ := ZR wr.heap.size
   have HG7 : Hid (g2 < g7 ∧ g4 < g7) := Z9 (by have := bG.out; omega)
   rw [yB] at hbx hst ⊢
   clear hst Y0
   go_upto_region 4 with fail
   refine wl <| ZI rfl ⟨g2, 0, none⟩ (.agg (ZU ad B.length k c)) (ZQ Py) <| ZV (Z5 g7 0) <| ZI rfl ⟨g7, 0, none⟩ (.string x.1) (hbx.ZN 0) <| Y2 (.tuple #[.agg (ZA y), .bool gb]) (fun w' => Below V2.heap.size V2 w') CG (fun V3 XE => ?_)
   obtain ⟨V4, Pz, hb4, ni⟩ := WW V3 y
   simp only [pu]
   refine YT (.tuple #[.agg (ZA y), .bool gb]) (.agg (ZA y)) (.bool gb) ?_
   simp only [pu]
   refine Zz rfl (some 8) rfl (Z5 V3.heap.size 0) (V3.alloc (.cells (ZA Xg) 49)) (by kernel_rfl) ?_
   simp only [pu]
   refine Zt rfl (Pz) <| ZV (.bool gb) <| wn ?_
   simp only [pu]
   have Ov := XE.trans (hb4.mono XE.size)
   have ng := hb2.trans (Ov.mono hb2.size)
   obtain ⟨g8, J3⟩ := ZR V3.heap.size
   have hG8 : wr.heap.size ≤ g8 := by rw [← J3]; exact Nat.le_trans hb2.size XE.size
   have hne : g7 ≠ g8 := by have := hbx.lt; rw [← J3]; have := XE.size; omega
   have hne2 : g2 ≠ g8 ∧ g4 ≠ g8 := by have := bG.out; omega
   have mZ := hbx.below hbx.lt Ov
   have dV := Py.below Py.lt Ov
   rw [J3] at ni ⊢
   obtain ⟨V5, hst5, Kt, hb5, Us⟩ := Zb (i := 0) (ty := 9) (v := .string x.1) (cs' := ZA (x.1, y.2.1, y.2.2)) ni ng hG8 (by show 0 < 3; decide) rfl (by kernel_rfl) rfl
   have sO := mZ.but Us hne
   have dU := dV.but Us hne2.1
   obtain ⟨V6, Xm, dS, hb6, XY⟩ := Zb (i := 1) (ty := 23) (v := Z7 (y.2.1 + x.2)) (cs' := ZA (x.1, y.2.1 + x.2, y.2.2)) Kt hb5 hG8 (by show 1 < 3; decide) rfl (by kernel_rfl) rfl
   have uZ := dU.but XY hne2.1
   have uY : Bx V6 g4 (ZU none 0 0 0) 33 := ((HL.out.bH.below HL.out.bH.lt ng).but Us hne2.2).but XY hne2.2
   have CS := uD ad k B c (x.1, y.2.1 + x.2, y.2.2) V6 (hcs.below hb6) hcd (by omega) HQ.out.cw hw1 hlz ⟨hW1, hwy⟩ HXS.out
   rw [hset] at CS
   have Xp := Z9 hb6
   clear CG XE hb4 Pz Ov ng J3 hbx ni Py dV hcs
   go_upto_region 5 with fail
   refine wl <| ZV (Z5 g7 0) <| ZI rfl ⟨g7, 0, none⟩ (.string x.1) (mZ.ZN 0) <| ZV (Z5 g8 0) <| Zt rfl (hst5) <| wn ?_
   simp only [pu]
   go_upto_region 6 with fail
   refine wl <| ZV (Z5 g8 1) <| ZI rfl ⟨g8, 1, none⟩ (Z7 y.2.1) (Kt.ZN 1) <| ZV (Z5 g7 1) <| ZI rfl ⟨g7, 1, none⟩ (Z7 x.2) (sO.ZN 1) <|
    YN (Z7 (y.2.1 + x.2)) (I7 rfl y.2.1 x.2 hW1) <| ZV (Z5 g8 1) <| Zt rfl (Xm) <| wn ?_
   simp only [pu]
   clear hst5 Xm mZ sO Kt Us XY hb5 dU
   generalize Xe B x = B2 at *
   by_cases hfl : 256 < B2.length
   ·rw [if_pos hfl] at CS
    go_upto_region 7 with fail
    refine wl <| ZI rfl ⟨g2, 0, none⟩ (.agg (ZU ad B.length k c)) (ZQ uZ) <| ZI rfl ⟨g8, 0, none⟩ (.agg (ZA (x.1, y.2.1 + x.2, y.2.2))) (Zn dS) <|
     Yl (fun v w' => ∃ a7 k7, v = .tuple #[.agg (ZU a7 ([] : List Ac).length k7 0), Z8 3] ∧ ZB w' V6.heap.size (.slice a7 ([] : List Ac).length k7) [] ∧ Below V6.heap.size V6 w') (CS.mono fun e w' q => by obtain ⟨ad, kk, h1, h2, h3⟩ := q; exact ⟨_, h1, ad, kk, rfl, h2, h3⟩) (fun vv V7 hq => ?_)
    obtain ⟨a7, k7, rfl, L8, hb7⟩ := hq
    obtain ⟨V8, Vd, hb8, PV⟩ := VE V7 a7 ([] : List Ac).length k7 0
    simp only [pu]
    refine YT (.tuple #[.agg (ZU a7 ([] : List Ac).length k7 0), Z8 3]) (.agg (ZU a7 ([] : List Ac).length k7 0)) (Z8 3) ?_
    simp only [pu]
    refine Zz rfl (some 10) rfl (Z5 V7.heap.size 0) (V7.alloc (.cells (ZU none 0 0 0) 33)) (by kernel_rfl) ?_
    simp only [pu]
    refine Zt rfl (Vd) <| ZV (Z8 3) <| wn ?_
    simp only [pu]
    obtain ⟨g10, RI⟩ := ZR V7.heap.size
    have J9 := hb7.trans (hb8.mono hb7.size)
    have IX := uY.below uY.lt J9
    have hBel := (HL.out.bel.trans (Xp.out.mono HL.out.bel.size)).trans (J9.mono (HL.out.bel.trans (Xp.out.mono HL.out.bel.size)).size)
    rw [RI]
    obtain ⟨YJ, Vl⟩ := ZJ (a' := none) (n' := 0) (k' := 0) (c' := 0) IX
    have Ws := ZT hBel HG.out.2.1 (ZU none 0 0 0)
    have hno := GR (c := c) (show 256 < (Yt A t).length by omega)
    have HE : Hid (vw Bs w (Q7 A c t) (.returned (.tuple #[.agg (ZU none 0 0 0), Z8 3])) (V8.setRow g4 (ZU none 0 0 0))) := Z9 (by rw [hno]; exact ⟨none, 0, rfl, TA _ _, Ws⟩)
    generalize V8.setRow g4 (ZU none 0 0 0) = V9 at *
    clear Ws IX hBel J9 hno
    go_upto_region 8 with fail
    refine wl <| ZV (Z8 3) <| ZM (YZ rfl 3 0 (decide_eq_false (by decide))) <| wn ?_
    simp only [pu]
    go_upto_region 9 with fail
    refine wl <| ZG (.agg (ZU none 0 0 0)) (Z8 3) <| Zt rfl (YJ) <| ZV (Z8 3) <| wn ?_
    simp only [pu]
    go_wp2_with fail
    exact bodyPost_ret (ZP (p := 4) (q := 5) rfl (by kernel_rfl) (ZQ Vl) rfl) rfl HE.out
   ·rw [if_neg hfl] at CS
    go_upto_region 7 with fail
    refine wl <| ZI rfl ⟨g2, 0, none⟩ (.agg (ZU ad B.length k c)) (ZQ uZ) <| ZI rfl ⟨g8, 0, none⟩ (.agg (ZA (x.1, y.2.1 + x.2, y.2.2))) (Zn dS) <|
     Yl (fun v w' => ∃ a7 k7, v = .tuple #[.agg (ZU a7 B2.length k7 c), Z8 0] ∧ ZB w' V6.heap.size (.slice a7 B2.length k7) B2 ∧ Below V6.heap.size V6 w') (CS.mono fun e w' q => by obtain ⟨ad, kk, h1, h2, h3⟩ := q; exact ⟨_, h1, ad, kk, rfl, h2, h3⟩) (fun vv V7 hq => ?_)
    obtain ⟨a7, k7, rfl, L8, hb7⟩ := hq
    obtain ⟨V8, Vd, hb8, PV⟩ := VE V7 a7 B2.length k7 c
    simp only [pu]
    refine YT (.tuple #[.agg (ZU a7 B2.length k7 c), Z8 0]) (.agg (ZU a7 B2.length k7 c)) (Z8 0) ?_
    simp only [pu]
    refine Zz rfl (some 10) rfl (Z5 V7.heap.size 0) (V7.alloc (.cells (ZU none 0 0 0) 33)) (by kernel_rfl) ?_
    simp only [pu]
    refine Zt rfl (Vd) <| ZV (Z8 0) <| wn ?_
    simp only [pu]
    obtain ⟨g10, RI⟩ := ZR V7.heap.size
    have J9 := hb7.trans (hb8.mono hb7.size)
    have IX := uY.below uY.lt J9
    have dR := uZ.below uZ.lt J9
    have hBel := (HL.out.bel.trans (Xp.out.mono HL.out.bel.size)).trans (J9.mono (HL.out.bel.trans (Xp.out.mono HL.out.bel.size)).size)
    rw [RI] at PV ⊢
    obtain ⟨YJ, dQ⟩ := ZJ (a' := a7) (n' := B2.length) (k' := k7) (c' := c) dR
    have Ws := ZT hBel HG.out.1 (ZU a7 B2.length k7 c)
    have dP := IX.but (But.setRow (g := g2) V8 (ZU a7 B2.length k7 c)) HG.out.2.2.2
    have ad7 : g2 < V6.heap.size := by have := bG.out; have := Xp.out.size; omega
    have af0 : g4 < V6.heap.size := by have := bG.out; have := Xp.out.size; omega
    have TL := Zv (own_below L8 hb8) (But.setRow (g := g2) V8 (ZU a7 B2.length k7 c)) ad7
    have dO := IV TL
    have ad8 : Hid (bJ w g2 g4 Bs A c t (j + 1) (V8.setRow g2 (ZU a7 B2.length k7 c)) B2 a7 k7) := Z9 ⟨hJ1, hval hfl, dQ, dP, own_base TL (Nat.le_trans hBs (Nat.le_trans HL.out.bel.size Xp.out.size)), Ws, fun q hq => by have := (dO q hq).1; omega⟩
    generalize V8.setRow g2 (ZU a7 B2.length k7 c) = V9 at *
    clear Ws IX dR hBel J9 dQ dP TL L8 hb7 hb8 dO
    go_upto_region 8 with fail
    refine wl <| ZV (Z8 0) <| ZM (YZ rfl 0 0 (decide_eq_true rfl)) <| wn ?_
    simp only [pu]
    go_upto_region 10 with fail
    refine wl <| ZI rfl ⟨g10, 0, none⟩ (.agg (ZU a7 B2.length k7 c)) (ZQ PV) <| Zt rfl (YJ) <| wn ?_
    simp only [pu]
    go_upto_region 11 with fail
    refine wl <| YN (Z8 (j + 1 : Nat)) (ZK rfl j 1 (by omega)) <| ZV (Z8 (j + 1 : Nat)) <| wn ?_
    simp only [pu]
    go_wp2_with fail
    go_roundg (t.tr.length - (j + 1))
    case measure => have := HG9.out; omega
    case rel => exact ⟨j + 1, B2, a7, k7, rfl, hlt, ad8, rfl⟩
  ·obtain rfl : t.tr.length = j := by omega
   have hfin : Yt A t = B := (HL.out.gj.is).symm
   obtain ⟨YJ, Vl⟩ := ZJ (a' := ad) (n' := B.length) (k' := k) (c' := c) HL.out.bH
   have hrow := zV HL.out.row (fun q hq => (HL.out.ne q hq).2) (But.setRow (g := g4) wr (ZU ad B.length k c))
   have WJ := ZT HL.out.bel HG.out.2.1 (ZU ad B.length k c)
   have hyes := Kv (A := A) (c := c) (t := t) (by rw [hfin]; omega)
   rw [hfin] at hyes
   have HE : Hid (vw Bs w (Q7 A c t) (.returned (.tuple #[.agg (ZU ad B.length k c), Z8 0])) (wr.setRow g4 (ZU ad B.length k c))) := Z9 (by rw [hyes]; exact ⟨ad, k, rfl, hrow, WJ⟩)
   generalize wr.setRow g4 (ZU ad B.length k c) = V9 at *
   clear hrow WJ hyes hfin
   go_upto_region 2 with fail
   refine wl <| ZM (ZC rfl (t.tr.length) (t.tr.length) dF) <| wn ?_
   simp only [pu]
   go_upto_region 12 with fail
   refine wl <| ZI rfl ⟨g2, 0, none⟩ (.agg (ZU ad B.length k c)) (ZQ HL.out.bI) <| Zt rfl (YJ) <| ZV (Z8 0) <| wn ?_
   simp only [pu]
   go_wp2_with fail
   exact bodyPost_ret (ZP (p := 4) (q := 5) rfl (by kernel_rfl) (ZQ Vl) rfl) rfl HE.out
theorem eG {A : List Ac} {c : Int} {t : Zf} (h : (Q7 A c t).2.2 = 0) : (Q7 A c t).2.1 = c := by
 by_cases h1 : 256 < (Yt A t).length
 ·rw [GR h1] at h; exact absurd h (by decide)
 ·rw [Kv h1]
theorem Yx.to {w V : World} {R : List Ac × Int × Int} {Q : List Ac} {d e : Int} {ad : Option Addr} {kk : Nat} (h : R = (Q, d, e)) (hr : ZB V w.heap.size (.slice ad Q.length kk) Q) (hb : Below w.heap.size w V) : Yx w R (.returned (.tuple #[.agg (ZU ad Q.length kk d), Z8 e])) V := by
 subst h; exact ⟨ad, kk, rfl, hr, hb⟩
theorem vO (A : List Ac) (c price size : Int) (t : Zf) (la ta : Option Addr) (lk tk : Nat) (w : World) (hL : Cs w la (acc A)) (hlk : A.length ≤ lk) (hT : Cs w ta (SE t.tr)) (hQ : oH A c price t) (hnm : ∀ x, x ∈ t.tr → isName (nums x.1) = true) :
  Calls Try.prog 48 #[.agg (ZU la A.length lk c), Z7 price, .agg (Zu t ta tk), Z8 size] w (Yx w (VT A c price t size)) := by
 obtain ⟨hb0, Xk, Tm, RD⟩ := Xt w (ZU la A.length lk c) (Zu t ta tk) (ZU none 0 0 0) 33 57 33
 have HA := Z9 (hL.below hb0)
 have HTT := Z9 (hT.below hb0)
 have hTW := Z9 hT
 have CS0 := fun V h => Aa A c t la ta lk tk V h (by have := (Xc hQ.v).1; omega)
 have CFE := fun V => eF t price size ta tk V hQ.Zk hQ.p
 obtain ⟨S, hS⟩ := ZR (Un A t)
 obtain ⟨fe, hfe⟩ := ZR (P5 t price size)
 obtain ⟨X, hX⟩ := ZR (Q5 A c t)
 obtain ⟨G, hG⟩ := ZR (Q7 A c t)
 obtain ⟨R, hR⟩ := ZR (VT A c price t size)
 have HK := Z9 (fun (h : S.2 = 0) => (show zG A c price t ∧ S.1 = (Zw A t.snd).1 from by subst hS; obtain ⟨h1, h2, h3, h4⟩ := zZ h; exact ⟨⟨hQ, h1, h2, h3⟩, h4⟩))
 have HR1 : Hid (S.2 ≠ 0 → R = ([], 0, S.2)) := Z9 fun h => by subst hS; rw [← hR]; exact vM h
 have HR2 : Hid (S.2 = 0 → fe ≠ 0 → R = ([], 0, fe)) := Z9 fun h h1 => by subst hS; subst hfe; rw [← hR]; exact vK h h1
 have HR3 : Hid (S.2 = 0 → fe = 0 → X.2.2 ≠ 0 → R = ([], 0, X.2.2)) := Z9 fun h h1 h2 => by subst hS; subst hfe; subst hX; rw [← hR]; exact vJ h h1 h2
 have HR4 : Hid (S.2 = 0 → fe = 0 → X.2.2 = 0 → R = if G.2.2 = 0 then (G.1, c + t.Y6, 0) else ([], 0, G.2.2)) := Z9 fun h h1 h2 => by subst hS; subst hfe; subst hX; subst hG; rw [← hR]; exact vI h h1 h2
 have HX0 : Hid (S.2 = 0 → X.2.2 = 0 → OG A c t ∧ X.1 = Xd A t ∧ X.2.1 = c) := Z9 fun h h2 => by
  subst hX
  obtain ⟨c1, c2, c3⟩ := zY h2
  exact ⟨(HK.out h).1.dn c1 c2, by rw [c3], by rw [c3]⟩
 have Rj : Hid (G.2.2 = 0 → G.2.1 = c) := Z9 fun h => by subst hG; exact eG h
 have HV := Z9 hQ.v
 have HNM := Z9 hnm
 rw [hR]
 rw [hS] at CS0
 rw [hfe] at CFE
 clear hL hT hQ hnm hR hS hfe
 go_enter Try.func48, Try.ntmps48
 go_upto_region 1 with fail
 change Code.wp _ _ _ _ (((w.alloc (.cells (ZU la A.length lk c) 33)).alloc (.cells (Zu t ta tk) 57)).alloc (.cells (ZU none 0 0 0) 33))
 generalize ((w.alloc (.cells (ZU la A.length lk c) 33)).alloc (.cells (Zu t ta tk) 57)).alloc (.cells (ZU none 0 0 0) 33) = W at *
 obtain ⟨g4, hg4⟩ := ZR w.heap.size
 obtain ⟨g6, Vk⟩ := ZR (g4 + 1)
 obtain ⟨g8, J3⟩ := ZR (g6 + 1)
 have HB0 := Z9 hb0
 rw [show w.heap.size + 2 = g8 by omega] at RD
 rw [show w.heap.size + 1 = g6 by omega] at Tm
 have HG : Hid (w.heap.size ≤ g8 ∧ w.heap.size ≤ g4 ∧ g6 ≠ g4 ∧ g8 ≠ g4 ∧ g8 < W.heap.size) := Z9 ⟨by omega, by omega, by omega, by omega, RD.lt⟩
 rw [hg4] at Xk
 simp only [hg4]
 simp only [Vk]
 simp only [J3]
 have eu := Z9 Xk.lt
 have YK := Z9 Xk
 have VJ := Z9 Tm
 have MN := Z9 RD
 have CS := CS0 W HA.out
 clear hb0 Xk Tm RD hg4 Vk J3 CS0
 refine wl <| ZI rfl ⟨g4, 0, none⟩ (.agg (ZU la A.length lk c)) (ZQ YK.out) <| ZI rfl ⟨g6, 0, none⟩ (.agg (Zu t ta tk)) (Za VJ.out) <| Y2 (.tuple #[.agg (ZA S.1), Z8 S.2]) (fun w' => Below W.heap.size W w') CS (fun W1 hW1 => ?_)
 obtain ⟨V2, hst2, hb2, hbx2⟩ := WW W1 S.1
 simp only [pu]
 refine YT (.tuple #[.agg (ZA S.1), Z8 S.2]) (.agg (ZA S.1)) (Z8 S.2) ?_
 simp only [pu]
 refine Zz rfl (some 10) rfl (Z5 W1.heap.size 0) (W1.alloc (.cells (ZA Xg) 49)) (by kernel_rfl) ?_
 simp only [pu]
 refine Zt rfl (hst2) <| ZV (Z8 S.2) <| wn ?_
 simp only [pu]
 have hb3 := hW1.trans (hb2.mono hW1.size)
 obtain ⟨g10, RI⟩ := ZR W1.heap.size
 rw [RI] at hbx2 ⊢
 have vU : Hid (g10 ≠ g4) := Z9 (by have := eu.out; have := hW1.size; omega)
 have PI := Z9 hbx2
 have HB2 := Z9 (HB0.out.trans (hb3.mono HB0.out.size))
 have HS2 : Hid (W.heap.size ≤ V2.heap.size) := Z9 hb3.size
 have Ku := Z9 (YK.out.below YK.out.lt hb3)
 have vH := Z9 (VJ.out.below VJ.out.lt hb3)
 have vG := Z9 (MN.out.below MN.out.lt hb3)
 have HA2 := Z9 (HA.out.below hb3)
 have HT2 := Z9 (HTT.out.below hb3)
 clear CS hW1 hst2 hb2 RI hbx2 hb3 YK VJ MN HA HTT
 by_cases hs0 : S.2 = 0
 ·go_upto_region 2 with fail
  refine wl <| ZV (Z8 S.2) <| ZM (YZ rfl S.2 0 (decide_eq_true hs0)) <| wn ?_
  simp only [pu]
  obtain ⟨hkq, hs1⟩ := HK.out hs0
  have CF := CFE V2
  go_upto_region 4 with fail
  refine wl <| ZI rfl ⟨g6, 0, none⟩ (.agg (Zu t ta tk)) (Za vH.out) <| ZG (Z7 price) (Z8 size) <| Y2 (Z8 fe) (fun w' => Below V2.heap.size V2 w') (CF) (fun V3 XE => ?_)
  simp only [pu]
  refine ZV (Z8 fe) <| wn ?_
  simp only [pu]
  have HB3 := Z9 (HB2.out.trans (XE.mono HB2.out.size))
  have HS3 : Hid (W.heap.size ≤ V3.heap.size) := Z9 (Nat.le_trans HS2.out XE.size)
  have zW := Z9 (Ku.out.below Ku.out.lt XE)
  have Px := Z9 (vH.out.below vH.out.lt XE)
  have vF := Z9 (vG.out.below vG.out.lt XE)
  have sQ := Z9 (PI.out.below PI.out.lt XE)
  have Gp := Z9 (HA2.out.below XE)
  have HT3 := Z9 (HT2.out.below XE)
  clear CF CFE XE Ku vH vG PI HA2 HT2
  by_cases hf0 : fe = 0
  ·go_upto_region 5 with fail
   refine wl <| ZV (Z8 fe) <| ZM (YZ rfl fe 0 (decide_eq_true hf0)) <| wn ?_
   simp only [pu]
   have CT := nI A c price t la ta lk tk V3 Gp.out hlk HT3.out hkq
   rw [← hs1, hX] at CT
   clear hX
   go_upto_region 7 with fail
   refine wl <| ZI rfl ⟨g4, 0, none⟩ (.agg (ZU la A.length lk c)) (ZQ zW.out) <| ZI rfl ⟨g10, 0, none⟩ (.agg (ZA S.1)) (Zn sQ.out) <| ZI rfl ⟨g6, 0, none⟩ (.agg (Zu t ta tk)) (Za Px.out) <|
    Yl (fun v w' => ∃ ad kk, v = .tuple #[.agg (ZU ad X.1.length kk X.2.1), Z8 X.2.2] ∧ ZB w' V3.heap.size (.slice ad X.1.length kk) X.1 ∧ Below V3.heap.size V3 w') (CT.mono fun e w' q => by obtain ⟨ad, kk, h1, h2, h3⟩ := q; exact ⟨_, h1, ad, kk, rfl, h2, h3⟩) (fun vv V4 hq => ?_)
   obtain ⟨ad, kk, rfl, hr4, hb4⟩ := hq
   obtain ⟨hst5, vC⟩ := ZJ (a' := ad) (n' := X.1.length) (k' := kk) (c' := X.2.1) (zW.out.below zW.out.lt hb4)
   have Us : But g4 V4 (V4.setRow g4 (ZU ad X.1.length kk X.2.1)) := But.setRow _ _
   have nJ := Z9 (ZT (HB3.out.trans (hb4.mono HB3.out.size)) HG.out.2.1 (ZU ad X.1.length kk X.2.1))
   have SC := Zv hr4 Us zW.out.lt
   have IY := (Px.out.below Px.out.lt hb4).but Us HG.out.2.2.1
   have Kt := (vF.out.below vF.out.lt hb4).but Us HG.out.2.2.2.1
   have HS5 : Hid (V3.heap.size ≤ (V4.setRow g4 (ZU ad X.1.length kk X.2.1)).heap.size) := Z9 (by rw [size_setRow]; exact hb4.size)
   generalize V4.setRow g4 (ZU ad X.1.length kk X.2.1) = V5 at *
   clear hr4 hb4 Us CT
   simp only [pu]
   refine YT (.tuple #[.agg (ZU ad X.1.length kk X.2.1), Z8 X.2.2]) (.agg (ZU ad X.1.length kk X.2.1)) (Z8 X.2.2) <| Zt rfl (hst5) <| ZV (Z8 X.2.2) <| wn ?_
   simp only [pu]
   clear hst5 zW Px vF sQ
   have bY : Hid (Cs V5 ta (SE t.tr)) := Z9 (hTW.out.below nJ.out)
   by_cases hx0 : X.2.2 = 0
   ·go_upto_region 8 with fail
    refine wl <| ZV (Z8 X.2.2) <| ZM (YZ rfl X.2.2 0 (decide_eq_true hx0)) <| wn ?_
    simp only [pu]
    obtain ⟨hdn, hx1, hx2⟩ := HX0.out hs0 hx0
    have CG : Calls Try.prog 63 #[.agg (ZU ad X.1.length kk X.2.1), .slice ta t.tr.length tk] V5 (vw V3.heap.size V5 G) := by
     rw [hx1] at SC ⊢
     rw [hx2, ← hG]
     exact nH A c t ad ta kk tk V3.heap.size V5 SC HS5.out bY.out hdn HV.out HNM.out
    have HCF := Z9 hdn.cf
    clear hG SC hdn
    go_upto_region 10 with fail
    refine wl <| ZI rfl ⟨g4, 0, none⟩ (.agg (ZU ad X.1.length kk X.2.1)) (ZQ vC) <| ZV (Z5 g6 5) <| ZI rfl ⟨g6, 5, none⟩ (.slice ta t.tr.length tk) (IY.ZN 5) <|
     Yl (fun v w' => ∃ ad kk, v = .tuple #[.agg (ZU ad G.1.length kk G.2.1), Z8 G.2.2] ∧ ZB w' V3.heap.size (.slice ad G.1.length kk) G.1 ∧ Below V5.heap.size V5 w') (CG.mono fun e w' q => by obtain ⟨ad, kk, h1, h2, h3⟩ := q; exact ⟨_, h1, ad, kk, rfl, h2, h3⟩) (fun vv V6 hq => ?_)
    obtain ⟨a6, k6, rfl, Ej, hb6⟩ := hq
    obtain ⟨Xy, dZ⟩ := ZJ (a' := a6) (n' := G.1.length) (k' := k6) (c' := G.2.1) (vC.below vC.lt hb6)
    have Oj : But g4 V6 (V6.setRow g4 (ZU a6 G.1.length k6 G.2.1)) := But.setRow _ _
    have iM : Hid (g4 < V3.heap.size ∧ g8 < V3.heap.size) := Z9 (by have := HG.out; have := HS3.out; have := eu.out; omega)
    have O7 := Z9 (ZT (nJ.out.trans (hb6.mono nJ.out.size)) HG.out.2.1 (ZU a6 G.1.length k6 G.2.1))
    have L8 := Zv Ej Oj iM.out.1
    have ad3 := (IY.below IY.lt hb6).but Oj HG.out.2.2.1
    have nG := (Kt.below Kt.lt hb6).but Oj HG.out.2.2.2.1
    generalize V6.setRow g4 (ZU a6 G.1.length k6 G.2.1) = V7 at *
    clear Ej hb6 Oj CG vC IY Kt
    simp only [pu]
    refine YT (.tuple #[.agg (ZU a6 G.1.length k6 G.2.1), Z8 G.2.2]) (.agg (ZU a6 G.1.length k6 G.2.1)) (Z8 G.2.2) <| Zt rfl (Xy) <| ZV (Z8 G.2.2) <| wn ?_
    simp only [pu]
    clear Xy
    by_cases hg0 : G.2.2 = 0
    ·have hgc := Rj.out hg0
     have hW : W64 (G.2.1 + t.Y6) := by rw [hgc]; exact HCF.out
     obtain ⟨V8, Vd, IX, hb8, XW⟩ := Zb (i := 1) (ty := 23) (v := Z7 (G.2.1 + t.Y6)) (cs' := ZU a6 G.1.length k6 (G.2.1 + t.Y6)) dZ O7.out HG.out.2.1 (by show 1 < 2; decide) rfl (by kernel_rfl) rfl
     have uH := Zv L8 XW iM.out.1
     obtain ⟨YJ, Vl⟩ := ZJ (a' := a6) (n' := G.1.length) (k' := k6) (c' := G.2.1 + t.Y6) (nG.but XW HG.out.2.2.2.1)
     have TL := Zv uH (But.setRow (g := g8) V8 (ZU a6 G.1.length k6 (G.2.1 + t.Y6))) iM.out.2
     have Ws := ZT hb8 HG.out.1 (ZU a6 G.1.length k6 (G.2.1 + t.Y6))
     have heq := HR4.out hs0 hf0 hx0
     rw [if_pos hg0, ← hgc] at heq
     have HE : Hid (Yx w R (.returned (.tuple #[.agg (ZU a6 G.1.length k6 (G.2.1 + t.Y6)), Z8 0])) (V8.setRow g8 (ZU a6 G.1.length k6 (G.2.1 + t.Y6)))) := Z9 (Yx.to heq (own_base TL HB3.out.size) Ws)
     generalize V8.setRow g8 (ZU a6 G.1.length k6 (G.2.1 + t.Y6)) = V9 at *
     clear XW L8 uH TL Ws heq nG hgc
     go_upto_region 11 with fail
     refine wl <| ZV (Z8 G.2.2) <| ZM (YZ rfl G.2.2 0 (decide_eq_true hg0)) <| wn ?_
     simp only [pu]
     go_upto_region 13 with fail
     refine wl <| ZV (Z5 g4 1) <| ZI rfl ⟨g4, 1, none⟩ (Z7 G.2.1) (dZ.ZN 1) <| ZV (Z5 g6 3) <| ZI rfl ⟨g6, 3, none⟩ (Z7 t.Y6) (ad3.ZN 3) <|
      YN (Z7 (G.2.1 + t.Y6)) (I7 rfl G.2.1 t.Y6 hW) <| ZV (Z5 g4 1) <| Zt rfl (Vd) <| wn ?_
     simp only [pu]
     go_upto_region 14 with fail
     refine wl <| ZI rfl ⟨g4, 0, none⟩ (.agg (ZU a6 G.1.length k6 (G.2.1 + t.Y6))) (ZQ IX) <| Zt rfl (YJ) <| ZV (Z8 0) <| wn ?_
     simp only [pu]
     go_wp2_with fail
     exact bodyPost_ret (ZP (p := 8) (q := 9) rfl (by kernel_rfl) (ZQ Vl) rfl) rfl HE.out
    ·go_upto_region 11 with fail
     refine wl <| ZV (Z8 G.2.2) <| ZM (YZ rfl G.2.2 0 (decide_eq_false hg0)) <| wn ?_
     simp only [pu]
     have heq := by have h := HR4.out hs0 hf0 hx0; rw [if_neg hg0] at h; exact h
     obtain ⟨hst, Vl⟩ := ZJ (a' := none) (n' := 0) (k' := 0) (c' := 0) nG
     have Ws := ZT O7.out HG.out.1 (ZU none 0 0 0)
     have HE : Hid (Yx w R (.returned (.tuple #[.agg (ZU none 0 0 0), Z8 G.2.2])) (V7.setRow g8 (ZU none 0 0 0))) := Z9 (by rw [heq]; exact Yx.err Ws)
     generalize V7.setRow g8 (ZU none 0 0 0) = V9 at *
     clear Ws heq
     go_upto_region 12 with fail
     refine wl <| ZG (.agg (ZU none 0 0 0)) (Z8 G.2.2) <| Zt rfl (hst) <| ZV (Z8 G.2.2) <| wn ?_
     simp only [pu]
     go_wp2_with fail
     exact bodyPost_ret (ZP (p := 8) (q := 9) rfl (by kernel_rfl) (ZQ Vl) rfl) rfl HE.out
   ·go_upto_region 8 with fail
    refine wl <| ZV (Z8 X.2.2) <| ZM (YZ rfl X.2.2 0 (decide_eq_false hx0)) <| wn ?_
    simp only [pu]
    have heq := HR3.out hs0 hf0 hx0
    obtain ⟨hst, Vl⟩ := ZJ (a' := none) (n' := 0) (k' := 0) (c' := 0) Kt
    have Ws := ZT nJ.out HG.out.1 (ZU none 0 0 0)
    have HE : Hid (Yx w R (.returned (.tuple #[.agg (ZU none 0 0 0), Z8 X.2.2])) (V5.setRow g8 (ZU none 0 0 0))) := Z9 (by rw [heq]; exact Yx.err Ws)
    generalize V5.setRow g8 (ZU none 0 0 0) = V9 at *
    clear Ws heq
    go_upto_region 9 with fail
    refine wl <| ZG (.agg (ZU none 0 0 0)) (Z8 X.2.2) <| Zt rfl (hst) <| ZV (Z8 X.2.2) <| wn ?_
    simp only [pu]
    go_wp2_with fail
    exact bodyPost_ret (ZP (p := 8) (q := 9) rfl (by kernel_rfl) (ZQ Vl) rfl) rfl HE.out
  ·go_upto_region 5 with fail
   refine wl <| ZV (Z8 fe) <| ZM (YZ rfl fe 0 (decide_eq_false hf0)) <| wn ?_
   simp only [pu]
   have heq := HR2.out hs0 hf0
   obtain ⟨hst, Vl⟩ := ZJ (a' := none) (n' := 0) (k' := 0) (c' := 0) vF.out
   have Ws := ZT HB3.out HG.out.1 (ZU none 0 0 0)
   have HE : Hid (Yx w R (.returned (.tuple #[.agg (ZU none 0 0 0), Z8 fe])) (V3.setRow g8 (ZU none 0 0 0))) := Z9 (by rw [heq]; exact Yx.err Ws)
   generalize V3.setRow g8 (ZU none 0 0 0) = V9 at *
   clear Ws heq
   go_upto_region 6 with fail
   refine wl <| ZG (.agg (ZU none 0 0 0)) (Z8 fe) <| Zt rfl (hst) <| ZV (Z8 fe) <| wn ?_
   simp only [pu]
   go_wp2_with fail
   exact bodyPost_ret (ZP (p := 8) (q := 9) rfl (by kernel_rfl) (ZQ Vl) rfl) rfl HE.out
 ·go_upto_region 2 with fail
  refine wl <| ZV (Z8 S.2) <| ZM (YZ rfl S.2 0 (decide_eq_false hs0)) <| wn ?_
  simp only [pu]
  have heq := HR1.out hs0
  obtain ⟨hst, Vl⟩ := ZJ (a' := none) (n' := 0) (k' := 0) (c' := 0) vG.out
  have Ws := ZT HB2.out HG.out.1 (ZU none 0 0 0)
  have HE : Hid (Yx w R (.returned (.tuple #[.agg (ZU none 0 0 0), Z8 S.2])) (V2.setRow g8 (ZU none 0 0 0))) := Z9 (by rw [heq]; exact Yx.err Ws)
  generalize V2.setRow g8 (ZU none 0 0 0) = V9 at *
  clear Ws heq
  go_upto_region 3 with fail
  refine wl <| ZG (.agg (ZU none 0 0 0)) (Z8 S.2) <| Zt rfl (hst) <| ZV (Z8 S.2) <| wn ?_
  simp only [pu]
  go_wp2_with fail
  exact bodyPost_ret (ZP (p := 8) (q := 9) rfl (by kernel_rfl) (ZQ Vl) rfl) rfl HE.out
end Go.Proofs.Ytnhlpahoomcgnaa.Lg
