/-
  Texts PV PX RF EN joined.
-/
import Derived.Test.YtnhlpahoomcgnaaJ5
import Derived.Test.YtnhlpahoomcgnaaJ1
set_option maxRecDepth 100000
set_option maxHeartbeats 8000000
set_option linter.unusedSimpArgs false
set_option linter.unusedVariables false
namespace Go.Proofs.Ytnhlpahoomcgnaa
attribute [local irreducible] wpList wpQuiet
open Go.RowKit
theorem VL (x : Zf) (a : Option Addr) (c : Nat) (w : World) (hR : Cs w a (SE x.tr)) (h2 : x.memo.size ≤ 140737488355328) :
  Calls Try.prog 70 #[.agg (Zu x a c)] w fun e w' => e = .returned (Z8 (X5 x)) ∧ Below w.heap.size w w' := by
 have hb0 : Below w.heap.size w (w.alloc (.cells (Zu x a c) 57)) := (Below.refl _ w).alloc (Nat.le_refl _) _
 have hX0 : Bx (w.alloc (.cells (Zu x a c) 57)) w.heap.size (Zu x a c) 57 := heap_alloc_last w _
 have HA := Z9 (hR.below hb0)
 have CN := Z9 (fun V => Vg x.snd V)
 have CM := Z9 (fun V => Dl x.memo V h2)
 have HV : Hid (X5 x = if isName (nums x.snd) = false then 10 else if x.Zk = 0 then 15 else if YE (nums x.memo) = false then 11 else if x.tr.length = 0 ∨ 16 < x.tr.length then 3 else VP x.tr) := Z9 rfl
 have HT := Z9 (fun j (hj : j < x.tr.length) V => Vg (tfa x.tr j).1 V)
 obtain ⟨snd, sq, Zk, Y6, memo, M⟩ := x
 simp only [Zu] at hb0 hX0 HA ⊢
 dsimp only at *
 have HO := Z9 (JY.zero M)
 generalize X5 _ = r at *
 generalize isName (nums snd) = t1 at *
 generalize YE (nums memo) = t2 at *
 obtain ⟨n, hn⟩ := ZR M.length
 have HN := Z9 hn
 rw [hn] at hb0 hX0 HA HV ⊢
 clear hR h2
 go_enter Try.func70, Try.ntmps70
 go_upto_region 1 with fail
 change Code.wp _ _ _ _ (w.alloc (.cells #[.string snd, Z7 sq, Z7 Zk, Z7 Y6, .string memo, .slice a n c] 57))
 generalize w.alloc (.cells #[.string snd, Z7 sq, Z7 Zk, Z7 Y6, .string memo, .slice a n c] 57) = W at *
 obtain ⟨g0, hg0⟩ := ZR w.heap.size
 have HB0 := Z9 hb0
 have Rj := Z9 (hX0.lt)
 have HGE : Hid (g0 ≤ w.heap.size ∧ w.heap.size ≤ g0) := Z9 ⟨by omega, by omega⟩
 rw [hg0] at hX0 Rj
 simp only [hg0]
 clear hb0 hg0 hn
 have tJ := CN.out W
 clear CN
 cases t1
 ·refine wl <| ZV (Z5 g0 0) <| ZI rfl ⟨g0, 0, none⟩ (.string snd) (hX0.ZN 0) <| Y2 ZY (fun w' => Below W.heap.size W w') (tJ) (fun V hV => ?_)
  simp only [pu]
  refine ZG Z4 Z4 <| wn ?_
  simp only [pu]
  have hX1 := hX0.below Rj.out hV
  have HB1 := Z9 (HB0.out.trans (hV.mono HB0.out.size))
  have HA1 := Z9 (HA.out.below hV)
  clear hV tJ hX0 HB0 HA Rj
  have HE : Hid (r = 10) := Z9 (by rw [HV.out]; rfl)
  clear HV
  go_upto_region 2 with fail
  refine wl <| ZV (Z8 10) <| wn ?_
  simp only [pu]
  go_wp2_with fail
  go_ret
  rw [HE.out]
  exact ⟨rfl, HB1.out⟩
 ·refine wl <| ZV (Z5 g0 0) <| ZI rfl ⟨g0, 0, none⟩ (.string snd) (hX0.ZN 0) <| Y2 Z4 (fun w' => Below W.heap.size W w') (tJ) (fun V hV => ?_)
  simp only [pu]
  refine ZG ZY ZY <| wn ?_
  simp only [pu]
  have hX1 := hX0.below Rj.out hV
  have HB1 := Z9 (HB0.out.trans (hV.mono HB0.out.size))
  have HA1 := Z9 (HA.out.below hV)
  clear hV tJ hX0 HB0 HA Rj
  go_upto_region 3 with fail
  by_cases TV : Zk = 0
  ·refine wl <| ZV (Z5 g0 2) <| ZI rfl ⟨g0, 2, none⟩ (Z7 Zk) (hX1.ZN 2) <| ZM (Wv rfl Zk (decide_eq_true TV)) <| ZV Z4 <| wn ?_
   simp only [pu]
   have HE : Hid (r = 15) := Z9 (by rw [HV.out]; rw [if_neg (by decide), if_pos TV])
   clear HV
   go_upto_region 4 with fail
   refine wl <| ZV (Z8 15) <| wn ?_
   simp only [pu]
   go_wp2_with fail
   go_ret
   rw [HE.out]
   exact ⟨rfl, HB1.out⟩
  ·refine wl <| ZV (Z5 g0 2) <| ZI rfl ⟨g0, 2, none⟩ (Z7 Zk) (hX1.ZN 2) <| ZM (Wv rfl Zk (decide_eq_false TV)) <| ZV ZY <| wn ?_
   simp only [pu]
   have bV := CM.out V
   clear CM
   go_upto_region 5 with fail
   cases t2
   ·refine wl <| ZV (Z5 g0 4) <| ZI rfl ⟨g0, 4, none⟩ (.string memo) (hX1.ZN 4) <| Y2 ZY (fun w' => Below V.heap.size V w') (bV) (fun U hV => ?_)
    simp only [pu]
    refine ZG Z4 Z4 <| wn ?_
    simp only [pu]
    have hX2 := hX1.below hX1.lt hV
    have HB2 := Z9 (HB1.out.trans (hV.mono HB1.out.size))
    have HA2 := Z9 (HA1.out.below hV)
    clear hV bV hX1 HB1 HA1
    have HE : Hid (r = 11) := Z9 (by rw [HV.out]; rw [if_neg (by decide), if_neg TV, if_pos rfl])
    clear HV
    go_upto_region 6 with fail
    refine wl <| ZV (Z8 11) <| wn ?_
    simp only [pu]
    go_wp2_with fail
    go_ret
    rw [HE.out]
    exact ⟨rfl, HB2.out⟩
   ·refine wl <| ZV (Z5 g0 4) <| ZI rfl ⟨g0, 4, none⟩ (.string memo) (hX1.ZN 4) <| Y2 Z4 (fun w' => Below V.heap.size V w') (bV) (fun U hV => ?_)
    simp only [pu]
    refine ZG ZY ZY <| wn ?_
    simp only [pu]
    have hX2 := hX1.below hX1.lt hV
    have HB2 := Z9 (HB1.out.trans (hV.mono HB1.out.size))
    have HA2 := Z9 (HA1.out.below hV)
    clear hV bV hX1 HB1 HA1
    go_upto_region 7 with fail
    rcases (show n = 0 ∨ 16 < n ∨ (0 < n ∧ n ≤ 16) by omega) with hc | hc | hc
    ·refine wl <| ZV (Z5 g0 5) <| ZI rfl ⟨g0, 5, none⟩ (.slice a n c) (hX2.ZN 5) <| ZV (Z8 n) <| ZM (ZC rfl (n) (1) dT) <|
      YX Z4 undef undef undef undef Z4 <| ZV Z4 <| wn ?_
     simp only [pu]
     have HE : Hid (r = 3) := Z9 (by rw [HV.out]; rw [if_neg (by decide), if_neg TV, if_neg (by decide), if_pos (.inl hc)])
     clear HV
     go_upto_region 8 with fail
     refine wl <| ZV (Z8 3) <| wn ?_
     simp only [pu]
     go_wp2_with fail
     go_ret
     rw [HE.out]
     exact ⟨rfl, HB2.out⟩
    ·refine wl <| ZV (Z5 g0 5) <| ZI rfl ⟨g0, 5, none⟩ (.slice a n c) (hX2.ZN 5) <| ZV (Z8 n) <| ZM (ZC rfl (n) (1) dF) <|
      ZG ZY (Z5 g0 5) <| ZI rfl ⟨g0, 5, none⟩ (.slice a n c) (hX2.ZN 5) <| ZV (Z8 n) <| ZM (Zl rfl (n) (16) dT) <| ZG Z4 Z4 <|
      wpList_nil ?_
     simp only [pu]
     have HE : Hid (r = 3) := Z9 (by rw [HV.out]; rw [if_neg (by decide), if_neg TV, if_neg (by decide), if_pos (.inr hc)])
     clear HV
     go_upto_region 8 with fail
     refine wl <| ZV (Z8 3) <| wn ?_
     simp only [pu]
     go_wp2_with fail
     go_ret
     rw [HE.out]
     exact ⟨rfl, HB2.out⟩
    ·refine wl <| ZV (Z5 g0 5) <| ZI rfl ⟨g0, 5, none⟩ (.slice a n c) (hX2.ZN 5) <| ZV (Z8 n) <| ZM (ZC rfl (n) (1) dF) <|
      ZG ZY (Z5 g0 5) <| ZI rfl ⟨g0, 5, none⟩ (.slice a n c) (hX2.ZN 5) <| ZV (Z8 n) <| ZM (Zl rfl (n) (16) dF) <|
      ZG ZY ZY <| wn ?_
     simp only [pu]
     have HE : Hid (r = VP M) := Z9 (by rw [HV.out, if_neg (by decide), if_neg TV, if_neg (by decide), if_neg (by omega)])
     clear HV
     go_upto_region 9 with fail
     refine wl <| ZV (Z5 g0 5) <| ZI rfl ⟨g0, 5, none⟩ (.slice a n c) (hX2.ZN 5) <| ZG (Z8 n) (Z8 0) <| wn ?_
     simp only [pu]
     have zf := Z9 hX2
     clear hX2
     go_wp2_with fail
     go_loopg [33] n (fun gg s33 wx => ∃ j : Nat, s33 = Z8 j ∧ j ≤ n ∧ Hid (JY M j) ∧ Hid (Below U.heap.size U wx) ∧ n - j = gg)
     case atStart => exact ⟨0, rfl, by omega, HO, Z9 (Below.refl _ _), by omega⟩
     case round =>
      obtain ⟨j, rfl, hj, HK, HB, hg⟩ := hrel
      clear HO
      by_cases hlt : j < n
      ·have HG : Hid (n - (j + 1) = gk - 1 ∧ 0 < gk ∧ j + 1 ≤ n) := Z9 ⟨by omega, by omega, by omega⟩
       have hjm : j < M.length := by rw [HN.out]; exact hlt
       obtain ⟨b, off, rfl, -, hrx⟩ := U5 (HA2.out.below HB.out) (k := j) hjm
       have Y0 := Z9 (UG hrx)
       have CT := Z9 (fun V => HT.out j hjm V)
       have xR := Z9 (HK.out.name hjm)
       have PK := Z9 (HK.out.zam hjm)
       have xQ := Z9 (HK.out.step hjm)
       generalize tfa M j = y at *
       obtain ⟨V2, hst, hb2, hbx⟩ := RX wr y
       have Wh := Z9 (HB.out.trans (hb2.mono HB.out.size))
       clear hrx hb2 HK HB hjm hg
       go_upto_region 10 with fail
       refine wl <| ZM (ZC rfl (j) (n) dT) <| wn ?_
       simp only [pu]
       go_upto_region 11 with fail
       refine wl <| YO (Z5 b (off + j * 2)) (Qw b off n c j hlt _ _ _ rfl (by kernel_rfl) (by kernel_rfl)) <| ZI rfl ⟨b, off + j * 2, none⟩ (.agg (Yv y)) (Y0.out) ?_
       simp only [pu]
       refine Zz rfl (some 4) rfl (Z5 wr.heap.size 0) (wr.alloc (.cells (Yv TK) 54)) (by kernel_rfl) ?_
       simp only [pu]
       refine Zt rfl (hst) <| wn ?_
       obtain ⟨g4, hg4⟩ := ZR wr.heap.size
       rw [hg4] at hbx ⊢
       clear hst hg4 Y0
       have tH := CT.out V2
       clear CT
       generalize isName (nums y.1) = ty at *
       go_upto_region 12 with fail
       cases ty
       ·refine wl <| ZV (Z5 g4 0) <| ZI rfl ⟨g4, 0, none⟩ (.string y.1) (hbx.ZN 0) <| Y2 ZY (fun w' => Below V2.heap.size V2 w') (tH) (fun V3 hV => ?_)
        simp only [pu]
        refine ZV Z4 <| wn ?_
        simp only [pu]
        have Sm := Z9 (Wh.out.trans (hV.mono Wh.out.size))
        have hby := hbx.below hbx.lt hV
        clear tH hV hbx Wh
        have HE2 : Hid (r = 10) := Z9 (by rw [HE.out]; exact xR.out rfl)
        have Zj := Z9 (HB2.out.trans (Sm.out.mono HB2.out.size))
        clear HE Sm xR PK xQ HB2
        go_upto_region 13 with fail
        refine wl <| ZV (Z8 10) <| wn ?_
        simp only [pu]
        go_wp2_with fail
        go_ret
        rw [HE2.out]
        exact ⟨rfl, Zj.out⟩
       ·refine wl <| ZV (Z5 g4 0) <| ZI rfl ⟨g4, 0, none⟩ (.string y.1) (hbx.ZN 0) <| Y2 Z4 (fun w' => Below V2.heap.size V2 w') (tH) (fun V3 hV => ?_)
        simp only [pu]
        refine ZV ZY <| wn ?_
        simp only [pu]
        have Sm := Z9 (Wh.out.trans (hV.mono Wh.out.size))
        have hby := hbx.below hbx.lt hV
        clear tH hV hbx Wh
        go_upto_region 14 with fail
        by_cases h0 : y.2 = 0
        ·refine wl <| ZV (Z5 g4 1) <| ZI rfl ⟨g4, 1, none⟩ (Z7 y.2) (hby.ZN 1) <| ZM (Wv rfl y.2 (decide_eq_true h0)) <| wn ?_
         simp only [pu]
         have HE2 : Hid (r = 12) := Z9 (by rw [HE.out]; exact PK.out rfl h0)
         have Zj := Z9 (HB2.out.trans (Sm.out.mono HB2.out.size))
         clear HE Sm xR PK xQ HB2
         go_upto_region 15 with fail
         refine wl <| ZV (Z8 12) <| wn ?_
         simp only [pu]
         go_wp2_with fail
         go_ret
         rw [HE2.out]
         exact ⟨rfl, Zj.out⟩
        ·refine wl <| ZV (Z5 g4 1) <| ZI rfl ⟨g4, 1, none⟩ (Z7 y.2) (hby.ZN 1) <| ZM (Wv rfl y.2 (decide_eq_false h0)) <| wn ?_
         simp only [pu]
         have HK9 := Z9 (xQ.out rfl h0)
         clear xR PK xQ hby
         go_upto_region 16 with fail
         refine wl <| YO (Z8 (j + 1 : Nat)) (add_one rfl j (by omega) (by kernel_rfl) _) <| ZV (Z8 (j + 1 : Nat)) <| wn ?_
         simp only [pu]
         go_wp2_with fail
         go_roundg (gk - 1)
         case measure => have := HG.out; omega
         case rel => exact ⟨j + 1, rfl, HG.out.2.2, HK9, Sm, HG.out.1⟩
      ·have HE2 : Hid (r = 0) := Z9 (by rw [HE.out]; exact HK.out.done (by rw [HN.out]; omega))
       have Zj := Z9 (HB2.out.trans (HB.out.mono HB2.out.size))
       clear HE HB HK HB2 hg
       go_upto_region 10 with fail
       refine wl <| ZM (ZC rfl (j) (n) dF) <| wn ?_
       simp only [pu]
       go_upto_region 17 with fail
       refine wl <| ZV (Z8 0) <| wn ?_
       simp only [pu]
       go_wp2_with fail
       go_ret
       rw [HE2.out]
       exact ⟨rfl, Zj.out⟩
end Go.Proofs.Ytnhlpahoomcgnaa
namespace Go.Proofs.Ytnhlpahoomcgnaa
open Go.RowKit
def iJ (w : World) (B : Nat) (L : List Int) (e : Ending) (w' : World) : Prop := ∃ v, e = .returned v ∧ Own w' B v L ∧ Below w.heap.size w w'
theorem WT {w : World} {g k : Nat} {x : Tf} (h : Bx w g (Yv x) k) : (Instr.loadAt 54 (Z5 g 0)).run Try.prog w = .ok (.agg (Yv x)) w :=
 UG fun j v hv => by
  rw [cell_of_row w g _ _ _ (0, 0) h]
  simpa [EU] using hv
end Go.Proofs.Ytnhlpahoomcgnaa
namespace Go.Proofs.Ytnhlpahoomcgnaa
attribute [local irreducible] wpList wpQuiet
open Go.RowKit
theorem ff {a b : Bool} (h : a = true → b = true) (hb : b = false) : a = false := by
 cases a
 ·rfl
 ·rw [h rfl] at hb; cases hb
structure KF (W : World) (B g5 : Nat) (y : Tf) (R3 : Value) (ps : List (Zp × Value)) (b0 b2 b3 b5 b6 b7 b8 b9 b10 b11 : Bool) (x35 x38 x39 x40 x41 x42 x3 : Value) (V : World) : Prop where
 o3 : b3 = true → b2 = true
 o5 : b6 = true → b5 = true
 o6 : b6 = true → b3 = true
 o7 : b7 = true → b6 = true
 o8 : b8 = true → b7 = true
 o9 : b9 = true → b8 = true
 o10 : b10 = true → b9 = true
 o11 : b11 = true → b10 = true
 o0 : b10 = true → b0 = true
 bel : Below B W V
 old : b10 = false → Below W.heap.size W V
 r35 : b3 = true → b6 = false → ∃ qs, YB V W.heap.size x35 qs ∧ qs.map Prod.fst = tF 1 y.1
 r38 : b6 = true → b7 = false → ∃ qs, YB V W.heap.size x38 qs ∧ qs.map Prod.fst = Ti y
 r39 : b7 = true → b9 = false → Own V W.heap.size x39 (msg (Ti y))
 v40 : b8 = true → ∃ a c, x39 = .slice a (msg (Ti y)).length c ∧ x40 = .agg (Yh (VZ y) a c)
 n41 : b9 = true → b10 = false → ∃ V0 a c, V = V0.alloc (.cells (Yh (VZ y) a c) 99) ∧ x41 = .slice (some ⟨V0.heap.size, 0, none⟩) 1 1 ∧ Below W.heap.size W V0 ∧ Own V0 W.heap.size (.slice a (msg (Ti y)).length c) (msg (Ti y))
 d42 : b10 = true → ∃ qs, YB V B x42 qs ∧ qs.map Prod.fst = ps.map Prod.fst ++ [VZ y]
 d3 : b11 = true → ∃ qs, YB V B x3 qs ∧ qs.map Prod.fst = ps.map Prod.fst ++ [VZ y]
 n3 : b11 = false → x3 = R3
section
variable {W : World} {B g5 : Nat} {y : Tf} {R3 : Value} {ps : List (Zp × Value)} {b0 b2 b3 b5 b6 b7 b8 b9 b10 b11 : Bool} {x35 x38 x39 x40 x41 x42 x3 : Value} {V : World}
theorem KF.init (hW : B ≤ W.heap.size) : KF W B g5 y R3 ps false false false false false false false false false false x35 x38 x39 x40 x41 x42 R3 W.drew :=
 ⟨(fun h => nomatch h), (fun h => nomatch h), (fun h => nomatch h), (fun h => nomatch h), (fun h => nomatch h), (fun h => nomatch h), (fun h => nomatch h), (fun h => nomatch h), (fun h => nomatch h), (Below.refl _ _).drew, fun _ => (Below.refl _ _).drew, (fun h => nomatch h), (fun h => nomatch h), (fun h => nomatch h), (fun h => nomatch h), (fun h => nomatch h), (fun h => nomatch h), (fun h => nomatch h), fun _ => rfl⟩
theorem KF.s0 (h : KF W B g5 y R3 ps false b2 b3 b5 b6 b7 b8 b9 b10 b11 x35 x38 x39 x40 x41 x42 x3 V) : b10 = false ∧ b11 = false ∧ x3 = R3 ∧ KF W B g5 y R3 ps true b2 b3 b5 b6 b7 b8 b9 b10 b11 x35 x38 x39 x40 x41 x42 x3 V := by
 have h10 := ff h.o0 rfl
 have h11 := ff h.o11 h10
 exact ⟨h10, h11, h.n3 h11, { h with o0 := fun _ => rfl }⟩
theorem KF.s3 (h : KF W B g5 y R3 ps b0 b2 false b5 b6 b7 b8 b9 b10 b11 x35 x38 x39 x40 x41 x42 x3 V) (hB : B ≤ W.heap.size) {v : Value} {V2 : World} {qs : List (Zp × Value)} (hr : YB V2 W.heap.size v qs) (hq : qs.map Prod.fst = tF 1 y.1) (h2' : true = true → b2 = true) (hb : Below W.heap.size V V2) : KF W B g5 y R3 ps b0 b2 true b5 b6 b7 b8 b9 b10 b11 v x38 x39 x40 x41 x42 x3 V2 := by
 have h6 := ff h.o6 rfl
 have h7 := ff h.o7 h6
 have h8 := ff h.o8 h7
 have h9 := ff h.o9 h8
 have h10 := ff h.o10 h9
 have h11 := ff h.o11 h10
 subst h6 h7 h8 h9 h10 h11
 have ho := (h.old rfl).trans hb
 exact ⟨h2', (fun h => nomatch h), fun _ => rfl, h.o7, h.o8, h.o9, h.o10, h.o11, h.o0, ho.mono hB, fun _ => ho, fun _ _ => ⟨qs, hr, hq⟩, (fun h => nomatch h), (fun h => nomatch h), (fun h => nomatch h), (fun h => nomatch h), (fun h => nomatch h), (fun h => nomatch h), h.n3⟩
theorem KF.s6 (h : KF W B g5 y R3 ps b0 b2 true b5 false b7 b8 b9 b10 b11 x35 x38 x39 x40 x41 x42 x3 V) (hB : B ≤ W.heap.size) {v : Value} {V2 : World} {qs : List (Zp × Value)} (hr : YB V2 W.heap.size v qs) (hq : qs.map Prod.fst = Ti y) (h5' : true = true → b5 = true) (hb : Below W.heap.size V V2) : KF W B g5 y R3 ps b0 b2 true b5 true b7 b8 b9 b10 b11 x35 v x39 x40 x41 x42 x3 V2 := by
 have h7 := ff h.o7 rfl
 have h8 := ff h.o8 h7
 have h9 := ff h.o9 h8
 have h10 := ff h.o10 h9
 have h11 := ff h.o11 h10
 subst h7 h8 h9 h10 h11
 have ho := (h.old rfl).trans hb
 exact ⟨h.o3, h5', fun _ => rfl, fun _ => rfl, h.o8, h.o9, h.o10, h.o11, h.o0, ho.mono hB, fun _ => ho, (fun _ h => nomatch h), fun _ _ => ⟨qs, hr, hq⟩, (fun h => nomatch h), (fun h => nomatch h), (fun h => nomatch h), (fun h => nomatch h), (fun h => nomatch h), h.n3⟩
theorem KF.s7 (h : KF W B g5 y R3 ps b0 b2 b3 b5 true false b8 b9 b10 b11 x35 x38 x39 x40 x41 x42 x3 V) (hB : B ≤ W.heap.size) {v : Value} {V2 : World} (hr : Own V2 W.heap.size v (msg (Ti y))) (hb : Below V.heap.size V V2) : KF W B g5 y R3 ps b0 b2 b3 b5 true true b8 b9 b10 b11 x35 x38 v x40 x41 x42 x3 V2 := by
 have h8 := ff h.o8 rfl
 have h9 := ff h.o9 h8
 have h10 := ff h.o10 h9
 have h11 := ff h.o11 h10
 subst h8 h9 h10 h11
 have ho := (h.old rfl).trans (hb.mono (h.old rfl).size)
 exact ⟨h.o3, h.o5, h.o6, fun _ => rfl, fun _ => rfl, h.o9, h.o10, h.o11, h.o0, ho.mono hB, fun _ => ho, (fun _ h => nomatch h), (fun _ h => nomatch h), fun _ _ => hr, (fun h => nomatch h), (fun h => nomatch h), (fun h => nomatch h), (fun h => nomatch h), h.n3⟩
theorem KF.s8 (h : KF W B g5 y R3 ps b0 b2 b3 b5 b6 true false b9 b10 b11 x35 x38 x39 x40 x41 x42 x3 V) : ∃ a c, x39 = .slice a (msg (Ti y)).length c ∧ KF W B g5 y R3 ps b0 b2 b3 b5 b6 true true b9 b10 b11 x35 x38 x39 (.agg (Yh (VZ y) a c)) x41 x42 x3 V := by
 have h9 := ff h.o9 rfl
 have h10 := ff h.o10 h9
 have h11 := ff h.o11 h10
 subst h9 h10 h11
 obtain ⟨a, c, e, -, -⟩ := (h.r39 rfl rfl).sl
 exact ⟨a, c, e, h.o3, h.o5, h.o6, h.o7, fun _ => rfl, fun _ => rfl, h.o10, h.o11, h.o0, h.bel, h.old, h.r35, h.r38, h.r39, fun _ => ⟨a, c, e, rfl⟩, (fun h => nomatch h), (fun h => nomatch h), (fun h => nomatch h), h.n3⟩
theorem KF.s9 (h : KF W B g5 y R3 ps b0 b2 b3 b5 b6 b7 true false b10 b11 x35 x38 x39 x40 x41 x42 x3 V) (hB : B ≤ W.heap.size) : ∃ a c, x40 = .agg (Yh (VZ y) a c) ∧ KF W B g5 y R3 ps b0 b2 b3 b5 b6 b7 true true b10 b11 x35 x38 x39 x40 (.slice (some ⟨V.heap.size, 0, none⟩) 1 1) x42 x3 (V.alloc (.cells (Yh (VZ y) a c) 99)) := by
 have h10 := ff h.o10 rfl
 have h11 := ff h.o11 h10
 subst h10 h11
 obtain ⟨a, c, e1, e2⟩ := h.v40 rfl
 have hb : Below V.heap.size V (V.alloc (.cells (Yh (VZ y) a c) 99)) := (Below.refl _ V).alloc (Nat.le_refl _) _
 have ho := (h.old rfl).trans (hb.mono (h.old rfl).size)
 have h7 := h.o8 rfl
 have h6 := h.o7 h7
 have h3 := h.o6 h6
 subst h3 h6 h7
 refine ⟨a, c, e2, h.o3, h.o5, h.o6, h.o7, h.o8, fun _ => rfl, fun _ => rfl, h.o11, h.o0, ho.mono hB, fun _ => ho, (fun _ h => nomatch h), (fun _ h => nomatch h), (fun _ h => nomatch h), h.v40, fun _ _ => ⟨V, a, c, rfl, rfl, h.old rfl, by rw [← e1]; exact h.r39 rfl rfl⟩, (fun h => nomatch h), (fun h => nomatch h), h.n3⟩
theorem KF.s10 (h : KF W B g5 y R3 ps true b2 b3 b5 b6 b7 b8 true false b11 x35 x38 x39 x40 x41 x42 x3 V) (hR : YB W B R3 ps) (hB : B ≤ W.heap.size) (hl : ps.length ≤ 100000) : ∃ a V2 v2, x41 = .slice a 1 1 ∧ (Builtin.append_ #[94, 94] 94 #[R3, x41]).run Try.prog V = .ok v2 V2 ∧ KF W B g5 y R3 ps true b2 b3 b5 b6 b7 b8 true true b11 x35 x38 x39 x40 x41 v2 x3 V2 := by
 have h11 := ff h.o11 rfl
 subst h11
 obtain ⟨V0, a, c, rfl, rfl, hb0, ho⟩ := h.n41 rfl rfl
 obtain ⟨a', c', e, hs, -⟩ := ho.sl
 simp only [Value.slice.injEq, true_and] at e
 obtain ⟨rfl, rfl⟩ := e
 obtain ⟨v2, V2, hap, hr2, hb2⟩ := Js (hR.below hb0) (Nat.le_trans hB hb0.size) (VZ y) a c ⟨a, c, rfl, hs, fun x hx => by
  refine ⟨?_, ?_, fun e => ?_⟩
  ·have := ho.lt x.block (by rw [hx]; rfl)
   omega
  ·have := ho.lt x.block (by rw [hx]; rfl)
   exact this.2
  ·have q1 := ho.lt x.block (by rw [hx]; rfl)
   have q2 := hR.1.lt x.block e
   omega⟩ hl
 have hc : (VZ y).bytes = msg (Ti y) := rfl
 refine ⟨_, V2, v2, rfl, hap, h.o3, h.o5, h.o6, h.o7, h.o8, h.o9, fun _ => rfl, fun _ => rfl, fun _ => rfl, (hb0.mono hB).trans hb2, (fun h => nomatch h), ?_, ?_, (fun _ h => nomatch h), h.v40, (fun _ h => nomatch h), fun _ => ⟨_, hr2, by rw [List.map_append]; rfl⟩, (fun h => nomatch h), h.n3⟩
 ·intro _ h6
  have := h.o7 (h.o8 (h.o9 rfl))
  rw [this] at h6
  cases h6
 ·intro _ h7
  have := h.o8 (h.o9 rfl)
  rw [this] at h7
  cases h7
theorem KF.s11 (h : KF W B g5 y R3 ps b0 b2 b3 b5 b6 b7 b8 b9 true false x35 x38 x39 x40 x41 x42 x3 V) : KF W B g5 y R3 ps b0 b2 b3 b5 b6 b7 b8 b9 true true x35 x38 x39 x40 x41 x42 x42 V :=
 ⟨h.o3, h.o5, h.o6, h.o7, h.o8, h.o9, h.o10, fun _ => rfl, h.o0, h.bel, h.old, h.r35, h.r38, h.r39, h.v40, h.n41, h.d42, h.d42, (fun h => nomatch h)⟩
end
theorem O6 (v : Value) (ps : List (Zp × Value)) (B : Nat) (k : Int) (s : ByteArray) (w : World) (h : YB w B v ps) (hB : B ≤ w.heap.size) (hl : ps.length ≤ 100000) : Calls Try.prog 42 #[v, Z8 k, .string s] w (PG w B ps (tF k s)) := Ll v ps B k s w h hB hl
theorem Qy (v : Value) (ps : List (Zp × Value)) (B : Nat) (k n : Int) (w : World) (h : YB w B v ps) (hB : B ≤ w.heap.size) (hl : ps.length ≤ 100000) : Calls Try.prog 43 #[v, Z8 k, Z7 n] w (PG w B ps (nF k n)) := Rx v ps B k n w h hB hl
def Gh (t : Zf) : List Zp := tF 1 t.snd ++ nF 2 t.sq ++ nF 3 t.Zk ++ nF 4 t.Y6 ++ tF 5 t.memo
def zH (t : Zf) (j : Nat) : List Zp := Gh t ++ (t.tr.take j).map VZ
theorem Dq (t : Zf) : zH t 0 = Gh t := by unfold zH; rw [List.take_zero, List.map_nil, List.append_nil]
theorem xX (t : Zf) (j : Nat) (h : t.tr.length ≤ j) : zH t j = JZ t := by unfold zH Gh JZ; rw [List.take_of_length_le h]; simp only [List.append_assoc]
theorem Dp (t : Zf) (j : Nat) (h : j < t.tr.length) : zH t (j + 1) = zH t j ++ [VZ (tfa t.tr j)] := by
 unfold zH
 rw [List.take_succ_eq_append_getElem h, List.map_append, ← List.append_assoc, List.map_cons, List.map_nil, XC h]
theorem Qx (k : Int) (s : ByteArray) : (tF k s).length ≤ 1 := by unfold tF; split <;> simp
theorem TW (k v : Int) : (nF k v).length ≤ 1 := by unfold nF; split <;> simp
theorem xW (t : Zf) (j : Nat) : (zH t j).length ≤ 5 + t.tr.length := by
 unfold zH Gh
 simp only [List.length_append, List.length_map, List.length_take]
 have a := Qx 1 t.snd
 have b := TW 2 t.sq
 have c := TW 3 t.Zk
 have d := TW 4 t.Y6
 have e := Qx 5 t.memo
 omega
theorem Hw {P : List (Zp × Value)} {M : List Zp} (e : P.map Prod.fst = M) (h : ∀ x, x ∈ M → Vf x) : ∀ p, p ∈ P → ES p.1.num p.1.kind p.1.val p.1.bytes.length ∧ W64 p.1.val := fun p hp => by
 have := h p.1 (by rw [← e]; exact List.mem_map_of_mem hp)
 exact ⟨this.1, this.2.1⟩
theorem Dt (x : Zf) (a : Option Addr) (c : Nat) (w : World) (hR : Cs w a (SE x.tr)) (hok : Gz x) :
  Calls Try.prog 28 #[.agg (Zu x a c)] w (iJ w w.heap.size (form x)) := by
 have hb0 : Below w.heap.size w (w.alloc (.cells (Zu x a c) 57)) := (Below.refl _ w).alloc (Nat.le_refl _) _
 have hX0 : Bx (w.alloc (.cells (Zu x a c) 57)) w.heap.size (Zu x a c) 57 := heap_alloc_last w _
 have HA := Z9 (hR.below hb0)
 have HWT := Z9 (fun j (hj : j < x.tr.length) => hok.tr (x := tfa x.tr j) (by rw [XC hj]; exact List.getElem_mem hj))
 have cO := Z9 hok.vf
 have zK : Hid ((msg (JZ x)).length ≤ 900000) := Z9 (by have := (QA x).1; have := hok.wt; unfold form at *; omega)
 have HST := Z9 (fun j hj => Dp x j hj)
 have HHD : Hid (Gh x = tF 1 x.snd ++ nF 2 x.sq ++ nF 3 x.Zk ++ nF 4 x.Y6 ++ tF 5 x.memo) := Z9 rfl
 have HZ := Z9 (Dq x)
 have FU := Z9 (fun j h => xX x j h)
 have tK := Z9 (xW x)
 have xU : Hid (x.tr.length ≤ 20000) := Z9 (by have := Hu x.tr; have := hok.wt; unfold FV at this; omega)
 have HFO : Hid (form x = msg (JZ x)) := Z9 rfl
 have uy := Z9 (Qx 1 x.snd)
 have HL2 := Z9 (TW 2 x.sq)
 have iI := Z9 (TW 3 x.Zk)
 have iH := Z9 (TW 4 x.Y6)
 have HT1 := Z9 (fun V (v : Value) ps B (h : YB V B v ps) (hB : B ≤ V.heap.size) hl => O6 v ps B 1 x.snd V h hB hl)
 have HN2 := Z9 (fun V (v : Value) ps B (h : YB V B v ps) (hB : B ≤ V.heap.size) hl => Qy v ps B 2 x.sq V h hB hl)
 have HN3 := Z9 (fun V (v : Value) ps B (h : YB V B v ps) (hB : B ≤ V.heap.size) hl => Qy v ps B 3 x.Zk V h hB hl)
 have HN4 := Z9 (fun V (v : Value) ps B (h : YB V B v ps) (hB : B ≤ V.heap.size) hl => Qy v ps B 4 x.Y6 V h hB hl)
 have bY := Z9 (fun V (v : Value) ps B (h : YB V B v ps) (hB : B ≤ V.heap.size) hl => O6 v ps B 5 x.memo V h hB hl)
 generalize Gh x = HD at *
 generalize form x = FO at *
 generalize zH x = TJ at *
 generalize JZ x = TXF at *
 obtain ⟨snd, sq, Zk, Y6, memo, M⟩ := x
 simp only [Zu] at hb0 hX0 HA ⊢
 dsimp only at *
 generalize tF 1 snd = l1 at *
 generalize nF 2 sq = l2 at *
 generalize nF 3 Zk = l3 at *
 generalize nF 4 Y6 = l4 at *
 generalize tF 5 memo = l5 at *
 obtain ⟨n, hn⟩ := ZR M.length
 have HN := Z9 hn
 rw [hn] at hb0 hX0 HA xU tK FU ⊢
 clear hR hok
 go_enter Try.func28, Try.ntmps28
 go_upto_region 1 with fail
 change Code.wp _ _ _ _ (w.alloc (.cells #[.string snd, Z7 sq, Z7 Zk, Z7 Y6, .string memo, .slice a n c] 57))
 generalize w.alloc (.cells #[.string snd, Z7 sq, Z7 Zk, Z7 Y6, .string memo, .slice a n c] 57) = W at *
 obtain ⟨g0, hg0⟩ := ZR w.heap.size
 have HB0 := Z9 hb0
 rw [hg0] at hX0
 simp only [hg0]
 have hgl := hX0.lt
 clear hb0 hg0 hn
 go_upto_region 1 with fail
 refine wl <| ZV (Z5 g0 0) <| ZI rfl ⟨g0, 0, none⟩ (.string snd) (hX0.ZN 0) <|
  Yl (fun v w' => ∃ qs, qs.map Prod.fst = List.map Prod.fst ([]) ++ l1 ∧ YB w' W.heap.size v qs ∧ Below W.heap.size W w') ((HT1.out W (.slice none 0 0) ([]) W.heap.size (YB.nil W W.heap.size) (Below.refl W.heap.size W).size (by simp)).mono fun e w' q => by obtain ⟨v, qs, h1, h2⟩ := q; exact ⟨v, h1, qs, h2⟩) (fun u1 V1 hq => ?_)
 simp only [pu]
 refine ZV (u1) <| wn ?_
 simp only [pu]
 obtain ⟨q0, hq0, hO0, hb0⟩ := hq
 have hB0 := (Below.refl W.heap.size W).trans hb0
 have hX1 := hX0.below hgl hb0
 rw [List.map_nil, List.nil_append] at hq0
 have hl0 : q0.length ≤ 100000 := by have := congrArg List.length hq0; simp only [List.length_map, List.length_append] at this; have := uy.out; have := HL2.out; have := iI.out; have := iH.out; omega
 clear hb0 hX0
 go_upto_region 2 with fail
 refine wl <| ZG (u1) (Z5 g0 1) <| ZI rfl ⟨g0, 1, none⟩ (Z7 sq) (hX1.ZN 1) <|
  Yl (fun v w' => ∃ qs, qs.map Prod.fst = List.map Prod.fst (q0) ++ l2 ∧ YB w' W.heap.size v qs ∧ Below W.heap.size V1 w') ((HN2.out V1 (u1) (q0) W.heap.size hO0 hB0.size hl0).mono fun e w' q => by obtain ⟨v, qs, h1, h2⟩ := q; exact ⟨v, h1, qs, h2⟩) (fun u2 V2 hq => ?_)
 simp only [pu]
 refine ZV (u2) <| wn ?_
 simp only [pu]
 obtain ⟨q1, hq1, hO1, hb1⟩ := hq
 have hB1 := hB0.trans hb1
 have hX2 := hX1.below hgl hb1
 rw [hq0] at hq1
 have hl1 : q1.length ≤ 100000 := by have := congrArg List.length hq1; simp only [List.length_map, List.length_append] at this; have := uy.out; have := HL2.out; have := iI.out; have := iH.out; omega
 clear hb1 hX1 hO0 hB0
 go_upto_region 3 with fail
 refine wl <| ZG (u2) (Z5 g0 2) <| ZI rfl ⟨g0, 2, none⟩ (Z7 Zk) (hX2.ZN 2) <|
  Yl (fun v w' => ∃ qs, qs.map Prod.fst = List.map Prod.fst (q1) ++ l3 ∧ YB w' W.heap.size v qs ∧ Below W.heap.size V2 w') ((HN3.out V2 (u2) (q1) W.heap.size hO1 hB1.size hl1).mono fun e w' q => by obtain ⟨v, qs, h1, h2⟩ := q; exact ⟨v, h1, qs, h2⟩) (fun u3 V3 hq => ?_)
 simp only [pu]
 refine ZV (u3) <| wn ?_
 simp only [pu]
 obtain ⟨q2, hq2, hO2, hb2⟩ := hq
 have hB2 := hB1.trans hb2
 have Vt := hX2.below hgl hb2
 rw [hq1] at hq2
 have hl2 : q2.length ≤ 100000 := by have := congrArg List.length hq2; simp only [List.length_map, List.length_append] at this; have := uy.out; have := HL2.out; have := iI.out; have := iH.out; omega
 clear hb2 hX2 hO1 hB1
 go_upto_region 4 with fail
 refine wl <| ZG (u3) (Z5 g0 3) <| ZI rfl ⟨g0, 3, none⟩ (Z7 Y6) (Vt.ZN 3) <|
  Yl (fun v w' => ∃ qs, qs.map Prod.fst = List.map Prod.fst (q2) ++ l4 ∧ YB w' W.heap.size v qs ∧ Below W.heap.size V3 w') ((HN4.out V3 (u3) (q2) W.heap.size hO2 hB2.size hl2).mono fun e w' q => by obtain ⟨v, qs, h1, h2⟩ := q; exact ⟨v, h1, qs, h2⟩) (fun u4 V4 hq => ?_)
 simp only [pu]
 refine ZV (u4) <| wn ?_
 simp only [pu]
 obtain ⟨q3, hq3, hO3, hb3⟩ := hq
 have hB3 := hB2.trans hb3
 have Xk := Vt.below hgl hb3
 rw [hq2] at hq3
 have hl3 : q3.length ≤ 100000 := by have := congrArg List.length hq3; simp only [List.length_map, List.length_append] at this; have := uy.out; have := HL2.out; have := iI.out; have := iH.out; omega
 clear hb3 Vt hO2 hB2
 go_upto_region 5 with fail
 refine wl <| ZG (u4) (Z5 g0 4) <| ZI rfl ⟨g0, 4, none⟩ (.string memo) (Xk.ZN 4) <|
  Yl (fun v w' => ∃ qs, qs.map Prod.fst = List.map Prod.fst (q3) ++ l5 ∧ YB w' W.heap.size v qs ∧ Below W.heap.size V4 w') ((bY.out V4 (u4) (q3) W.heap.size hO3 hB3.size hl3).mono fun e w' q => by obtain ⟨v, qs, h1, h2⟩ := q; exact ⟨v, h1, qs, h2⟩) (fun u5 V5 hq => ?_)
 simp only [pu]
 refine ZV (u5) <| wn ?_
 simp only [pu]
 obtain ⟨q4, hq4, hO4, hb4⟩ := hq
 have hB4 := hB3.trans hb4
 have MR := Xk.below hgl hb4
 rw [hq3] at hq4
 clear hb4 Xk hO3 hB3
 go_upto_region 6 with fail
 refine wl <| ZV (Z5 g0 5) <| ZI rfl ⟨g0, 5, none⟩ (.slice a n c) (MR.ZN 5) <| ZG (Z8 n) (Z8 0) <| wn ?_
 simp only [pu]
 have Pv := Z9 hB4
 have HQ5 : Hid (q4.map Prod.fst = TJ 0) := Z9 (by rw [hq4, HZ.out, HHD.out])
 have HO5 := Z9 hO4
 obtain ⟨p5, d5, rfl, -⟩ := HO5.out.form
 have hlw := HB0.out.size
 have HWW := Z9 hlw
 clear hO4 hB4 MR HT1 HN2 HN3 HN4 bY HHD HZ hq4 uy HL2 iI iH hlw hl0 hl1 hl2 hl3 hq0 hq1 hq2 hq3 hgl
 go_wp2_with fail
 go_loopg [3, 28] n (fun gg s3 s28 wx => ∃ (j : Nat) (p3 : Option Addr) (k3 d3 : Nat) (ps : List (Zp × Value)), s3 = .slice p3 k3 d3 ∧ s28 = Z8 j ∧ j ≤ n ∧ Hid (YB wx W.heap.size (.slice p3 k3 d3) ps) ∧ Hid (ps.map Prod.fst = TJ j) ∧ Hid (Below W.heap.size V5 wx) ∧ n - j = gg)
 case atStart => exact ⟨0, p5, _, d5, q4, rfl, rfl, by omega, HO5, HQ5, Z9 (Below.refl _ _), by omega⟩
 case round =>
  obtain ⟨j, p3, k3, d3, ps, rfl, rfl, hj, HO, HQ, HB, hg⟩ := hrel
  clear HO5 HQ5
  by_cases hlt : j < n
  ·have HG : Hid (n - (j + 1) = gk - 1 ∧ 0 < gk ∧ j + 1 ≤ n ∧ j + 1 ≤ 100000) := Z9 ⟨by omega, by omega, by omega, by have := xU.out; omega⟩
   have hjm : j < M.length := by rw [HN.out]; exact hlt
   have hA5 := HA.out.below (Pv.out.trans HB.out)
   obtain ⟨b, off, rfl, -, hrx⟩ := U5 hA5 (k := j) hjm
   have Y0 := Z9 (UG hrx)
   have hwt := HWT.out j hjm
   have iG := Z9 (HST.out j hjm)
   have iF : ps.length ≤ 100000 := by have := congrArg List.length HQ.out; rw [List.length_map] at this; have := tK.out j; have := xU.out; omega
   generalize tfa M j = y at *
   obtain ⟨V6, hst, hb6, hbx⟩ := RX wr y
   have Sm : Hid (W.heap.size ≤ wr.heap.size) := Z9 (Nat.le_trans (by have := Pv.out.size; omega) HB.out.size)
   have Xp := Z9 (HB.out.trans (hb6.mono Sm.out))
   have HO6 := Z9 (HO.out.below hb6)
   have zl : Hid (W.heap.size ≤ V6.heap.size) := Z9 (Nat.le_trans Sm.out hb6.size)
   clear hrx hb6 hjm hg HO HB HWT HST tK hA5
   go_upto_region 7 with fail
   refine wl <| ZM (ZC rfl (j) (n) dT) <| wn ?_
   simp only [pu]
   go_upto_region 8 with fail
   refine wl <| YO (Z5 b (off + j * 2)) (Qw b off n c j hlt _ _ _ rfl (by kernel_rfl) (by kernel_rfl)) <| ZI rfl ⟨b, off + j * 2, none⟩ (.agg (Yv y)) (Y0.out) ?_
   simp only [pu]
   refine Zz rfl (some 5) rfl (Z5 wr.heap.size 0) (wr.alloc (.cells (Yv TK) 54)) (by kernel_rfl) ?_
   simp only [pu]
   refine Zt rfl (hst) <| wn ?_
   obtain ⟨g4, hg4⟩ := ZR wr.heap.size
   rw [hg4] at hbx ⊢
   clear hst hg4 Y0
   have CT : ∀ V, Below V6.heap.size V6 V → Calls Try.prog 42 #[.slice none 0 0, Z8 1, .string y.1] V (PG V V6.heap.size [] (tF 1 y.1)) := fun V hV => Ll (.slice none 0 0) [] V6.heap.size 1 y.1 V (YB.nil V _) hV.size (Nat.zero_le _)
   have CN : ∀ V u qs, Below V6.heap.size V6 V → YB V V6.heap.size u qs → qs.map Prod.fst = tF 1 y.1 → Calls Try.prog 43 #[u, Z8 2, Z7 y.2] V (PG V V6.heap.size qs (nF 2 y.2)) := fun V u qs hV hu hq => Rx u qs V6.heap.size 2 y.2 V hu hV.size (by have := congrArg List.length hq; rw [List.length_map] at this; have := Qx 1 y.1; omega)
   have CM : ∀ V u qs, Below V6.heap.size V6 V → YB V V6.heap.size u qs → qs.map Prod.fst = Ti y → Calls Try.prog 44 #[u] V (fun e w' => ∃ v, e = .returned v ∧ Own w' V6.heap.size v (msg (Ti y)) ∧ Below V.heap.size V w') := fun V u qs hV hu hq => by
    obtain ⟨ua, uc, rfl, -, hfs⟩ := hu.fs
    have q1 := NP y
    have := Ru ua uc qs V hfs (Hw hq (Dn (by omega) hwt.2)) (by rw [hq]; omega) (by
     have := congrArg List.length hq
     rw [List.length_map] at this
     have := Qx 1 y.1
     have := TW 2 y.2
     unfold Ti at *
     rw [List.length_append] at *
     omega)
    rw [hq] at this
    exact this.mono fun e w' q => by
     obtain ⟨v, h1, h2, h3⟩ := q
     exact ⟨v, h1, h2.base hV.size, h3⟩
   have hX : ∀ V, Below V6.heap.size V6 V → Bx V g4 (Yv y) 54 := fun V hV => hbx.below hbx.lt hV
   have h0 := KF.init (g5 := g4) (y := y) (R3 := .slice p3 k3 d3) (ps := ps) (x35 := u35) (x38 := u38) (x39 := u39) (x40 := u40) (x41 := u41) (x42 := u42) zl.out
   clear hbx
   go_upto_region 9 with fail
   refine Y5 (fun listed Zr V => ∃ b0 b1 b2 b3 b4 b5 b6 b7 b8 b9 b10 b11 : Bool, ∃ x35 x38 x39 x40 x41 x42 x3 : Value, listed = #[b0, b1, b2, b3, b4, b5, b6, b7, b8, b9, b10, b11] ∧ Zr = { tmps := #[.agg #[.string snd, Z7 sq, Z7 Zk, Z7 Y6, .string memo, .slice (some ⟨b, off, none⟩) n c], Z5 g0 0, .slice none 0 0, x3, undef, Z5 g4 0, Z5 g0 0, .string snd, u1, u1, Z5 g0 1, Z7 sq, u2, u2, Z5 g0 2, Z7 Zk, u3, u3, Z5 g0 3, Z7 Y6, u4, u4, Z5 g0 4, .string memo, .slice p5 q4.length d5, Z5 g0 5, .slice (some ⟨b, off, none⟩) n c, Z8 n, Z8 j, Z4, Z5 b (off + j * 2), .agg (Yv y), (cond b0 (.slice p3 k3 d3) (u32)), (cond b1 (Z5 g4 0) (u33)), (cond b2 (.string y.1) (u34)), x35, (cond b4 (Z5 g4 1) (u36)), (cond b5 (Z7 y.2) (u37)), x38, x39, x40, x41, x42, u43, undef, undef], defers := [] } ∧ KF V6 W.heap.size g4 y (.slice p3 k3 d3) ps b0 b2 b3 b5 b6 b7 b8 b9 b10 b11 x35 x38 x39 x40 x41 x42 x3 V) (by kernel_rfl) (by kernel_rfl) ?_ ?_ ?_
   ·exact ⟨false, false, false, false, false, false, false, false, false, false, false, false, u35, u38, u39, u40, u41, u42, .slice p3 k3 d3, rfl, rfl, h0⟩
   ·intro i9 listed Zr V hi9 hr hJ
    obtain ⟨b0, b1, b2, b3, b4, b5, b6, b7, b8, b9, b10, b11, x35, x38, x39, x40, x41, x42, x3, rfl, rfl, hF⟩ := hJ
    have hi2 : i9 < 12 := hi9
    have hi3 : i9 = 0 ∨ i9 = 1 ∨ i9 = 2 ∨ i9 = 3 ∨ i9 = 4 ∨ i9 = 5 ∨ i9 = 6 ∨ i9 = 7 ∨ i9 = 8 ∨ i9 = 9 ∨ i9 = 10 ∨ i9 = 11 := by omega
    rcases hi3 with rfl | rfl | rfl | rfl | rfl | rfl | rfl | rfl | rfl | rfl | rfl | rfl
    ·obtain rfl : b0 = false := ZX hr
     obtain ⟨rfl, rfl, rfl, hF2⟩ := hF.s0
     refine ZO rfl (by kernel_rfl) (some 32) rfl (.slice p3 k3 d3) V (by kernel_rfl) ?_
     exact ⟨_, _, _, _, _, _, _, _, _, _, _, _, _, _, _, _, _, _, _, rfl, rfl, hF2⟩
    ·obtain rfl : b1 = false := ZX hr
     refine ZO rfl (by kernel_rfl) (some 33) rfl (Z5 g4 0) V (by kernel_rfl) ?_
     exact ⟨_, _, _, _, _, _, _, _, _, _, _, _, _, _, _, _, _, _, _, rfl, rfl, hF⟩
    ·obtain rfl : b2 = false := ZX hr
     obtain rfl : b1 = true := ZW hr 1
     have h10 := (ff hF.o10 (ff hF.o9 (ff hF.o8 (ff hF.o7 (ff hF.o6 (ff hF.o3 rfl))))))
     refine Y7 rfl (by kernel_rfl) (some 34) rfl 9 (.tmp 33) rfl ⟨g4, 0, none⟩ (.string y.1) (by kernel_rfl) ((hX V (hF.old h10)).ZN 0) ?_
     exact ⟨_, _, _, _, _, _, _, _, _, _, _, _, _, _, _, _, _, _, _, rfl, rfl, { hF with o3 := fun _ => rfl }⟩
    ·obtain rfl : b3 = false := ZX hr
     obtain rfl : b2 = true := ZW hr 2
     have h10 := (ff hF.o10 (ff hF.o9 (ff hF.o8 (ff hF.o7 (ff hF.o6 rfl)))))
     refine XD rfl (by kernel_rfl) (some 35) rfl 42 #[.slice none 0 0, Z8 1, .string y.1] (by kernel_rfl) ((CT V (hF.old h10)).mono ?_)
     rintro e V2 ⟨v, qs, rfl, hq, hr, hb⟩
     exact ⟨v, rfl, b0, b1, true, true, b4, b5, b6, b7, b8, b9, b10, b11, v, x38, x39, x40, x41, x42, x3, rfl, rfl, hF.s3 zl.out hr (by simpa using hq) (fun _ => rfl) hb⟩
    ·obtain rfl : b4 = false := ZX hr
     refine ZO rfl (by kernel_rfl) (some 36) rfl (Z5 g4 1) V (by kernel_rfl) ?_
     exact ⟨_, _, _, _, _, _, _, _, _, _, _, _, _, _, _, _, _, _, _, rfl, rfl, hF⟩
    ·obtain rfl : b5 = false := ZX hr
     obtain rfl : b4 = true := ZW hr 4
     have h10 := (ff hF.o10 (ff hF.o9 (ff hF.o8 (ff hF.o7 (ff hF.o5 rfl)))))
     refine Y7 rfl (by kernel_rfl) (some 37) rfl 23 (.tmp 36) rfl ⟨g4, 1, none⟩ (Z7 y.2) (by kernel_rfl) ((hX V (hF.old h10)).ZN 1) ?_
     exact ⟨_, _, _, _, _, _, _, _, _, _, _, _, _, _, _, _, _, _, _, rfl, rfl, { hF with o5 := fun _ => rfl }⟩
    ·obtain rfl : b6 = false := ZX hr
     obtain rfl : b3 = true := ZW hr 3
     obtain rfl : b5 = true := ZW hr 5
     have h10 := (ff hF.o10 (ff hF.o9 (ff hF.o8 (ff hF.o7 rfl))))
     obtain ⟨q35, ab4, iE⟩ := hF.r35 rfl rfl
     refine XD rfl (by kernel_rfl) (some 38) rfl 43 #[x35, Z8 2, Z7 y.2] (by kernel_rfl) ((CN V x35 q35 (hF.old h10) ab4 iE).mono ?_)
     rintro e V2 ⟨v, qs, rfl, hq, hr, hb⟩
     exact ⟨v, rfl, b0, b1, b2, true, b4, true, true, b7, b8, b9, b10, b11, x35, v, x39, x40, x41, x42, x3, rfl, rfl, hF.s6 zl.out hr (by rw [hq, iE]; rfl) (fun _ => rfl) hb⟩
    ·obtain rfl : b7 = false := ZX hr
     obtain rfl : b6 = true := ZW hr 6
     have h10 := (ff hF.o10 (ff hF.o9 (ff hF.o8 rfl)))
     obtain ⟨q38, ab5, ab6⟩ := hF.r38 rfl rfl
     refine XD rfl (by kernel_rfl) (some 39) rfl 44 #[x38] (by kernel_rfl) ((CM V x38 q38 (hF.old h10) ab5 ab6).mono ?_)
     rintro e V2 ⟨v, rfl, hO, hb⟩
     exact ⟨v, rfl, b0, b1, b2, b3, b4, b5, true, true, b8, b9, b10, b11, x35, x38, v, x40, x41, x42, x3, rfl, rfl, hF.s7 zl.out hO hb⟩
    ·obtain rfl : b8 = false := ZX hr
     obtain rfl : b7 = true := ZW hr 7
     obtain ⟨a9, c9, rfl, hF2⟩ := hF.s8
     refine ZO rfl (by kernel_rfl) (some 40) rfl (.agg (Yh (VZ y) a9 c9)) V (by kernel_rfl) ?_
     exact ⟨_, _, _, _, _, _, _, _, _, _, _, _, _, _, _, _, _, _, _, rfl, rfl, hF2⟩
    ·obtain rfl : b9 = false := ZX hr
     obtain rfl : b8 = true := ZW hr 8
     obtain ⟨a9, c9, rfl, hF2⟩ := hF.s9 zl.out
     refine Xw rfl (by kernel_rfl) (some 41) rfl 94 1 #[(0, .tmp 40)] rfl #[(0, .agg (Yh (VZ y) a9 c9))] (by kernel_rfl) (.slice (some ⟨V.heap.size, 0, none⟩) 1 1) _ (Qv (VZ y) a9 c9 V) ?_
     exact ⟨_, _, _, _, _, _, _, _, _, _, _, _, _, _, _, _, _, _, _, rfl, rfl, hF2⟩
    ·obtain rfl : b10 = false := ZX hr
     obtain rfl : b0 = true := ZW hr 0
     obtain rfl : b9 = true := ZW hr 9
     obtain ⟨a9, V2, v, -, hap, hF2⟩ := hF.s10 HO6.out zl.out iF
     refine XK rfl (by kernel_rfl) (some 42) rfl 94 rfl (.tmp 32) (.tmp 41) 94 rfl (.slice p3 k3 d3) x41 v V2 (by kernel_rfl) (by kernel_rfl) hap ?_
     exact ⟨true, b1, b2, b3, b4, b5, b6, b7, b8, true, true, b11, x35, x38, x39, x40, x41, v, x3, rfl, rfl, hF2⟩
    ·obtain rfl : b11 = false := ZX hr
     obtain rfl : b10 = true := ZW hr 10
     refine ZO rfl (by kernel_rfl) (some 3) rfl x42 V (by kernel_rfl) ?_
     exact ⟨_, _, _, _, _, _, _, _, _, _, _, _, _, _, _, _, _, _, _, rfl, rfl, hF.s11⟩
   ·intro Zr V hJ
    obtain ⟨b0, b1, b2, b3, b4, b5, b6, b7, b8, b9, b10, b11, x35, x38, x39, x40, x41, x42, x3, he, rfl, hF⟩ := hJ
    have he : (#[true, true, true, true, true, true, true, true, true, true, true, true] : Array Bool) = #[b0, b1, b2, b3, b4, b5, b6, b7, b8, b9, b10, b11] := he
    simp only [Array.mk.injEq, List.cons.injEq, and_true] at he
    obtain ⟨rfl, rfl, rfl, rfl, rfl, rfl, rfl, rfl, rfl, rfl, rfl, rfl⟩ := he
    simp only [cond_true]
    obtain ⟨qs, hrow, hqs⟩ := hF.d3 rfl
    have yc := Z9 (Xp.out.trans hF.bel)
    have HO8 := Z9 hrow
    obtain ⟨b8, d8, rfl, -⟩ := hrow.form
    have HQ8 : Hid (qs.map Prod.fst = TJ (j + 1)) := Z9 (by rw [hqs, HQ.out, iG.out])
    clear hF hrow hqs HQ iG h0 CT CN CM hX Xp HO6 hwt iF
    go_upto_region 10 with fail
    refine wl <| YO (Z8 (j + 1 : Nat)) (add_one rfl j (by have := HG.out; omega) (by kernel_rfl) _) <| ZV (Z8 (j + 1 : Nat)) <| wn ?_
    simp only [pu]
    go_wp2_with fail
    go_roundg (gk - 1)
    case measure => have := HG.out; omega
    case rel => exact ⟨j + 1, b8, _, d8, qs, rfl, rfl, HG.out.2.2.1, HO8, HQ8, yc, HG.out.1⟩
  ·have bW : ps.map Prod.fst = TXF := by rw [HQ.out, FU.out j (by omega)]
   obtain ⟨ua, uc, e3, -, hfs⟩ := HO.out.fs
   simp only [Value.slice.injEq] at e3
   obtain ⟨rfl, rfl, rfl⟩ := e3
   have CM := Ru p3 d3 ps wr hfs (Hw bW cO.out) (by rw [bW]; exact zK.out) (by have := congrArg List.length HQ.out; rw [List.length_map] at this; have := tK.out j; have := xU.out; omega)
   rw [bW] at CM
   have Sm : Hid (W.heap.size ≤ wr.heap.size) := Z9 (Nat.le_trans (by have := Pv.out.size; omega) HB.out.size)
   have ay := Z9 (Pv.out.trans HB.out)
   clear HO HQ HB hg FU HWT HST tK bW hfs cO zK
   go_upto_region 7 with fail
   refine wl <| ZM (ZC rfl (j) (n) dF) <| wn ?_
   simp only [pu]
   go_upto_region 11 with fail
   refine wl <| ZV (.slice p3 ps.length d3) <| Yl (fun v w' => Own w' wr.heap.size v (msg TXF) ∧ Below wr.heap.size wr w') CM (fun u9 V9 hq => ?_)
   simp only [pu]
   refine ZV (u9) <| wn ?_
   simp only [pu]
   have HE := Z9 (⟨u9, rfl, by rw [HFO.out]; exact hq.1.base (Nat.le_trans HB0.out.size Sm.out), HB0.out.trans ((ay.out.trans (hq.2.mono Sm.out)).mono HB0.out.size)⟩ : iJ w w.heap.size FO (.returned u9) V9)
   clear hq CM ay Sm HFO
   go_wp2_with fail
   go_ret
   exact HE.out
structure TxB (t : Zf) : Prop where
 sq : W64 t.sq
 Zk : W64 t.Zk
 Y6 : W64 t.Y6
 am : ∀ x, x ∈ t.tr → W64 x.2
 s1 : t.snd.size ≤ 140737488355328
 s2 : t.memo.size ≤ 140737488355328
 s3 : ∀ x, x ∈ t.tr → x.1.size ≤ 140737488355328
theorem Gz.b {t : Zf} (h : Gz t) : TxB t := ⟨h.sq, h.Zk, h.Y6, h.am, by have := h.wt; unfold FV at this; omega, by have := h.wt; unfold FV at this; omega, fun x hx => by have := (h.tr hx).1; omega⟩
def iK (w : World) (t : Zf) (e : Ending) (w' : World) : Prop := ∃ v, e = .returned (.tuple #[v, Z8 (Rn t).2]) ∧ Own w' w.heap.size v (Rn t).1 ∧ Below w.heap.size w w'
theorem Du {w : World} {g k : Nat} {x : Zf} {a : Option Addr} {c : Nat} (h : Bx w g (Zu x a c) k) : w.rangeAt g 0 (Zu x a c).toList := fun j v hv => by
 rw [cell_of_row w g _ _ _ (0, 0) h]
 simpa using hv
theorem Za {w : World} {g k : Nat} {x : Zf} {a : Option Addr} {c : Nat} (h : Bx w g (Zu x a c) k) : (Instr.loadAt 57 (Z5 g 0)).run Try.prog w = .ok (.agg (Zu x a c)) w :=
 run_loadAt_mid w g 0 57 _ _ (Du h) Try.underlying57 rfl (by kernel_rfl)
theorem YZ {ρ : Operand → Value} {o : Oper} {x y : Operand} (ho : o.op = .binOp .neq 36 x y 36) (a b : Int) {t : Bool} (ht : decide (a = b) = t) (hx : ρ x = Z8 a) (hy : ρ y = Z8 b) (w : World) : (execOp ρ o).run Try.prog w = .ok (.value (.bool (!t))) w := by
 have e : (a != b) = !t := by rw [← ht]; rfl
 unfold execOp
 simp only [ho, hx, hy]
 go_simp
theorem TG {ρ : Operand → Value} {o : Oper} {x y : Operand} (ho : o.op = .binOp .eql 36 x y 36) (a b : Int) {t : Bool} (ht : decide (a = b) = t) (hx : ρ x = Z8 a) (hy : ρ y = Z8 b) (w : World) : (execOp ρ o).run Try.prog w = .ok (.value (.bool t)) w := by
 have e : (a == b) = t := ht
 unfold execOp
 simp only [ho, hx, hy]
 go_simp
theorem JU (x : Zf) (a : Option Addr) (c : Nat) (w : World) (hR : Cs w a (SE x.tr)) (h2 : TxB x) :
  Calls Try.prog 15 #[.agg (Zu x a c)] w (iK w x) := by
 have hb0 : Below w.heap.size w (w.alloc (.cells (Zu x a c) 57)) := (Below.refl _ w).alloc (Nat.le_refl _) _
 have hX0 : Bx (w.alloc (.cells (Zu x a c) 57)) w.heap.size (Zu x a c) 57 := heap_alloc_last w _
 have HA := Z9 (hR.below hb0)
 have CV := Z9 (fun V (h1 : Cs V a (SE x.tr)) => NQ x a c V h1 h2.s1 h2.s2 h2.s3)
 have CW := Z9 (fun V (h1 : Cs V a (SE x.tr)) (hv : X5 x = 0) => have hok := (val_ok hv h2.sq h2.Zk h2.Y6 h2.am).1; Dt x a c V h1 hok)
 have Eo : Hid (X5 x ≠ 0 → Rn x = ([], X5 x)) := Z9 fun h => by unfold Rn; rw [if_pos h]
 have HE2 : Hid (X5 x = 0 → 4096 < (form x).length → Rn x = ([], 3)) := Z9 fun h h3 => by unfold Rn; rw [if_neg (by rw [h]; decide), if_pos h3]
 have ru : Hid (X5 x = 0 → ¬ 4096 < (form x).length → Rn x = (form x, 0)) := Z9 fun h h3 => by unfold Rn; rw [if_neg (by rw [h]; decide), if_neg h3]
 have l9 : Hid (∀ v V r, Rn x = r → Own V w.heap.size v r.1 → Below w.heap.size w V → iK w x (.returned (.tuple #[v, Z8 r.2])) V) := Z9 fun v V r h1 h3 h4 => ⟨v, by rw [h1], by rw [h1]; exact h3, h4⟩
 generalize Rn x = EX at *
 generalize X5 x = vx at *
 generalize form x = FO at *
 clear hR h2
 go_enter Try.func15, Try.ntmps15
 go_upto_region 1 with fail
 change Code.wp _ _ _ _ (w.alloc (.cells (Zu x a c) 57))
 generalize w.alloc (.cells (Zu x a c) 57) = W at *
 obtain ⟨g0, hg0⟩ := ZR w.heap.size
 have HB0 := Z9 hb0
 rw [hg0] at hX0
 simp only [hg0]
 have SS := CV.out W HA.out
 clear hb0 hg0 CV
 refine wl <| ZI rfl ⟨g0, 0, none⟩ (.agg (Zu x a c)) (Za hX0) <| Y2 (Z8 vx) (fun w' => Below W.heap.size W w') SS (fun V hV => ?_)
 simp only [pu]
 refine ZV (Z8 vx) <| wn ?_
 simp only [pu]
 have hX1 := hX0.below hX0.lt hV
 have HB1 := Z9 (HB0.out.trans (hV.mono HB0.out.size))
 have HA1 := Z9 (HA.out.below hV)
 clear hV SS hX0 HB0 HA
 go_upto_region 2 with fail
 by_cases hv : vx = 0
 ·have CWV := CW.out V HA1.out hv
  clear CW
  refine wl <| ZV (Z8 vx) <| ZM (YZ rfl vx 0 (decide_eq_true hv)) <| wn ?_
  simp only [pu]
  go_upto_region 4 with fail
  refine wl <| ZI rfl ⟨g0, 0, none⟩ (.agg (Zu x a c)) (Za hX1) <| Yl (fun v w' => Own w' V.heap.size v FO ∧ Below V.heap.size V w') CWV (fun u U hq => ?_)
  obtain ⟨hO, hb⟩ := hq
  obtain ⟨b5, d5, rfl, -, -⟩ := hO.sl
  simp only [pu]
  refine ZV (.slice b5 FO.length d5) <| wn ?_
  simp only [pu]
  have HB2 := Z9 (HB1.out.trans (hb.mono HB1.out.size))
  have HO := Z9 (hO.base HB1.out.size)
  clear hO hb CWV hX1 HA1 HB1
  go_upto_region 5 with fail
  by_cases hl : 4096 < FO.length
  ·have HE := Z9 (l9.out (.slice none 0 0) U _ (HE2.out hv hl) (Own.nil _ _) HB2.out)
   clear l9 Eo HE2 ru HO HB2
   refine wl <| ZG (.slice b5 FO.length d5) (Z8 FO.length) <| ZM (Zl rfl (FO.length) (4096) dT) <| wn ?_
   simp only [pu]
   go_upto_region 6 with fail
   refine wl <| ZG (.slice none 0 0) (Z8 3) <| wn ?_
   simp only [pu]
   go_wp2_with fail
   go_ret2
   exact HE.out
  ·have HE := Z9 (l9.out (.slice b5 FO.length d5) U _ (ru.out hv hl) HO.out HB2.out)
   clear l9 Eo HE2 ru HO HB2
   refine wl <| ZG (.slice b5 FO.length d5) (Z8 FO.length) <| ZM (Zl rfl (FO.length) (4096) dF) <| wn ?_
   simp only [pu]
   go_upto_region 7 with fail
   refine wl <| YT (.slice b5 FO.length d5) (.slice b5 FO.length d5) (Z8 0) <| wn ?_
   simp only [pu]
   go_wp2_with fail
   go_ret2
   exact HE.out
 ·have HE := Z9 (l9.out (.slice none 0 0) V _ (Eo.out hv) (Own.nil _ _) HB1.out)
  clear l9 Eo HE2 ru HA1 HB1 CW hX1
  refine wl <| ZV (Z8 vx) <| ZM (YZ rfl vx 0 (decide_eq_false hv)) <| wn ?_
  simp only [pu]
  go_upto_region 3 with fail
  refine wl <| YT (Z8 vx) (.slice none 0 0) (Z8 vx) <| wn ?_
  simp only [pu]
  go_wp2_with fail
  go_ret2
  exact HE.out
end Go.Proofs.Ytnhlpahoomcgnaa
