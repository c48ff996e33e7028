/-
  Texts QE FW FS FT joined.
-/
import Derived.Test.YtnhlpahoomcgnaaJ16
import Derived.Test.YtnhlpahoomcgnaaJ15
import Derived.Test.YtnhlpahoomcgnaaJ1
set_option maxRecDepth 100000
set_option maxHeartbeats 8000000
set_option linter.unusedSimpArgs false
set_option linter.unusedVariables false
namespace Go.Proofs.Ytnhlpahoomcgnaa.Lg
attribute [local irreducible] wpList wpQuiet
open Mo (Zd Zm YL YU)
open Go.RowKit
theorem vS {A : List Ac} {c price : Int} {L : List Int} (h : (MW A c L).2 ≠ 0) : Vq A c price L = ((A, c), YG (MW A c L).2) := by
 unfold MW at h ⊢
 by_cases h1 : Y8 A c ≠ 0
 ·rw [if_pos h1, fQ h1]
 ·rw [if_neg h1] at h ⊢
  exact fO (Decidable.not_not.1 h1) h
theorem nZ {A : List Ac} {c : Int} {L : List Int} (h : (MW A c L).2 = 0) : Y8 A c = 0 ∧ Zq L = MW A c L := by
 unfold MW at h ⊢
 by_cases h1 : Y8 A c ≠ 0
 ·rw [if_pos h1] at h; exact absurd h (by decide)
 ·rw [if_neg h1]; exact ⟨Decidable.not_not.1 h1, rfl⟩
structure PT (g11 g10 B : Nat) (lc : Array Value) (r : XZ) (v : Value) (Q : List Ac) (V : World) : Prop where
 x11 : Bx V g11 lc 33
 x10 : Bx V g10 (ZE r) 61
 row : ZB V B v Q
theorem PT.but {g11 g10 B g : Nat} {lc : Array Value} {r : XZ} {v : Value} {Q : List Ac} {V V2 : World} (h : PT g11 g10 B lc r v Q V) (hb : But g V V2) (h1 : g11 ≠ g) (h2 : g10 ≠ g) (hB : g < B) : PT g11 g10 B lc r v Q V2 := ⟨h.x11.but hb h1, h.x10.but hb h2, Zv h.row hb hB⟩
theorem PT.drew {g11 g10 B : Nat} {lc : Array Value} {r : XZ} {v : Value} {Q : List Ac} {V : World} (h : PT g11 g10 B lc r v Q V) : PT g11 g10 B lc r v Q V.drew := ⟨h.x11, h.x10, h.row⟩
theorem oI.own {w V : World} {la ad : Option Addr} {k : Nat} {A : List Ac} {X : (List Ac × Int) × XZ} {Q : List Ac} {d : Int} {r : XZ} {B : Nat} (h : X = ((Q, d), r)) (hr : ZB V B (.slice ad Q.length k) Q) (hB : w.heap.size ≤ B) (hb : Below w.heap.size w V) : oI w la A X (.returned (.tuple #[.agg (ZU ad Q.length k d), .agg (ZE r)])) V := by
 subst h
 obtain ⟨a9, c9, e9, h4, h5⟩ := Yj hr
 simp only [Value.slice.injEq, true_and] at e9
 obtain ⟨rfl, rfl⟩ := e9
 exact ⟨_, _, rfl, h4, h5, .inr fun x hx => Nat.le_trans hB (Nb hr x hx), hb⟩
theorem vW : QTx := by
 intro A c price L la ra lk rc w hL hlk hn hc hw hz hp hR hrc h8
 obtain ⟨hb0, Vt, Tm, qB⟩ := Xt w (ZU la A.length lk c) (ZU none 0 0 0) (ZE (YG 0)) 33 33 61
 have hA := hL.below hb0
 have hRW := ZH hR hb0
 have CD0 := fun V h hr => fA A c L la ra lk rc V h (by omega) hc hw hz hr hrc h8
 have kC := Z9 (fun V h => ac6 la lk A c V h hn)
 obtain ⟨X, hX⟩ := ZR (Vq A c price L)
 obtain ⟨D, hD⟩ := ZR (MW A c L)
 have H1 : Hid (D.2 ≠ 0 → X = ((A, c), YG D.2)) := Z9 fun h => by subst hD; rw [← hX]; exact vS h
 have H2 : Hid (D.2 = 0 → oH A c price D.1 ∧ (∀ x, x ∈ D.1.tr → isName (nums x.1) = true) ∧ X = (if (VT A c price D.1 L.length).2.2 = 0 then ((VT A c price D.1 L.length).1, (VT A c price D.1 L.length).2.1) else (A, c), ⟨(VT A c price D.1 L.length).2.2, D.1.snd, D.1.sq, D.1.Zk, Zm D.1.Y6 D.1.Zk⟩)) := Z9 fun h => by
  subst hD
  obtain ⟨e1, e2⟩ := nZ h
  rw [← e2] at h ⊢
  obtain ⟨d3, -, -, -⟩ := Jl (t := (Zq L).1) (fun x hx => h8 x hx) (by rw [← h])
  exact ⟨fP h8 e1 hw hc hp h, P8 d3, by rw [← hX]; exact nY e1 h⟩
 rw [hX]
 rw [hD] at CD0
 have HLW := Z9 hL
 clear hL hR h8 hX hD hz hw hc hp
 go_enter Try.func29, Try.ntmps29
 go_upto_region 1 with fail
 change Code.wp _ _ _ _ (((w.alloc (.cells (ZU la A.length lk c) 33)).alloc (.cells (ZU none 0 0 0) 33)).alloc (.cells (ZE (YG 0)) 61))
 generalize ((w.alloc (.cells (ZU la A.length lk c) 33)).alloc (.cells (ZU none 0 0 0) 33)).alloc (.cells (ZE (YG 0)) 61) = W at *
 obtain ⟨g3, hg3⟩ := ZR w.heap.size
 obtain ⟨g6, Vk⟩ := ZR (g3 + 1)
 obtain ⟨g7, yB⟩ := ZR (g6 + 1)
 have HB0 := Z9 hb0
 rw [show w.heap.size + 2 = g7 by omega] at qB
 rw [show w.heap.size + 1 = g6 by omega] at Tm
 have HG : Hid (w.heap.size ≤ g6 ∧ w.heap.size ≤ g7 ∧ g7 ≠ g6 ∧ g6 < W.heap.size ∧ g7 < W.heap.size) := Z9 ⟨by omega, by omega, by omega, Tm.lt, qB.lt⟩
 rw [hg3] at Vt
 simp only [hg3]
 simp only [Vk]
 simp only [yB]
 have Wu := Z9 Vt
 have VJ := Z9 Tm
 have MI := Z9 qB
 have HA := Z9 hA
 have CD := CD0 W hA hRW
 clear hb0 Vt Tm qB hA hRW hg3 Vk yB CD0
 refine wl <| ZI rfl ⟨g3, 0, none⟩ (.agg (ZU la A.length lk c)) (ZQ Wu.out) <| ZV (.slice ra L.length rc) <|
  Yl (fun v w' => ∃ a c, v = .tuple #[.agg (Zu D.1 a c), Z8 D.2] ∧ Yn w' W.heap.size (.slice a D.1.tr.length c) D.1.tr ∧ Below W.heap.size W w') (CD.mono fun e w' q => by obtain ⟨a, c, h1, h2⟩ := q; exact ⟨_, h1, a, c, rfl, h2⟩) (fun vv W2 hq => ?_)
 obtain ⟨ta, tk, rfl, hrt, hb2⟩ := hq
 obtain ⟨V3, hst3, hb3, nX⟩ := H6 W2 D.1 ta tk
 simp only [pu]
 refine YT (.tuple #[.agg (Zu D.1 ta tk), Z8 D.2]) (.agg (Zu D.1 ta tk)) (Z8 D.2) ?_
 simp only [pu]
 refine Zz rfl (some 8) rfl (Z5 W2.heap.size 0) (W2.alloc (.cells (Zu zX none 0) 57)) (by kernel_rfl) ?_
 simp only [pu]
 refine Zt rfl (hst3) <| ZV (Z8 D.2) <| wn ?_
 simp only [pu]
 have hb4 := hb2.trans (hb3.mono hb2.size)
 obtain ⟨g8, J3⟩ := ZR W2.heap.size
 rw [J3] at nX hst3 ⊢
 obtain ⟨a9, c9, e9, hct, -⟩ := Yj (own_below hrt hb3)
 simp only [Value.slice.injEq, true_and] at e9
 obtain ⟨rfl, rfl⟩ := e9
 have HCT := Z9 hct
 have vP := Z9 (Wu.out.below Wu.out.lt hb4)
 have Px := Z9 (VJ.out.below VJ.out.lt hb4)
 have Ae := Z9 (MI.out.below MI.out.lt hb4)
 have MN := Z9 nX
 have Wh := Z9 (HB0.out.trans (hb4.mono HB0.out.size))
 have Gp := Z9 (HA.out.below hb4)
 have bK : Hid (W.heap.size ≤ V3.heap.size) := Z9 hb4.size
 clear CD hst3 hb2 hb3 hb4 J3 nX hrt hct Wu VJ MI HA
 by_cases hd : D.2 = 0
 ·go_upto_region 2 with fail
  refine wl <| ZV (Z8 D.2) <| ZM (YZ rfl D.2 0 (decide_eq_true hd)) <| wn ?_
  simp only [pu]
  obtain ⟨eY, hnm, heq⟩ := H2.out hd
  obtain ⟨t, hdt⟩ := ZR D.1
  rw [hdt] at eY hnm heq MN HCT
  simp only [hdt]
  have CP := fun V => Mo.Bg t.Y6 t.Zk V eY.f eY.Zk
  have HCA := Z9 (fun V (hl : Cs V la (acc A)) (ht : Cs V ta (SE t.tr)) => vO A c price L.length t la ta lk tk V hl hlk ht eY hnm)
  generalize Zm t.Y6 t.Zk = pr at *
  generalize VT A c price t L.length = R at *
  have dA := Z9 heq
  clear eY hnm hdt hd H2 H1 heq
  go_upto_region 4 with fail
  have h0 := KT.start V3 ⟨0, t.snd, t.sq, t.Zk, pr⟩
  refine Y5 (fun listed Zr V => ∃ b0 b1 b2 b3 b4 b5 b6 b7 b8 b9 b10 b11 b12 b13 : Bool, ∃ x10 : Value, listed = #[b0, b1, b2, b3, b4, b5, b6, b7, b8, b9, b10, b11, b12, b13] ∧ Zr = { tmps := #[.agg (ZU la A.length lk c), Z7 price, .slice ra L.length rc, Z5 g3 0, undef, undef, Z5 g6 0, Z5 g7 0, Z5 g8 0, Z8 D.2, x10, undef, .tuple #[.agg (Zu t ta tk), Z8 D.2], .agg (ZU la A.length lk c), .slice ra L.length rc, .tuple #[.agg (Zu t ta tk), Z8 D.2], .agg (Zu t ta tk), Z8 D.2, Z8 D.2, ZY, undef, undef, undef, undef, (cond b0 (Z5 g8 0) undef), (cond b1 (.string t.snd) undef), (cond b2 (Z5 g8 1) undef), (cond b3 (Z7 t.sq) undef), (cond b4 (Z5 g8 2) undef), (cond b5 (Z7 t.Zk) undef), (cond b6 (Z5 g8 3) undef), (cond b7 (Z7 t.Y6) undef), (cond b8 (Z5 g8 2) undef), (cond b9 (Z7 t.Zk) undef), (cond b10 (Z7 pr) undef), (cond b11 (.agg (ZE ⟨0, t.snd, t.sq, t.Zk, pr⟩)) undef), undef, undef, undef, undef, undef, undef, undef, undef, undef, undef, undef, undef, undef, undef, undef, undef, undef], defers := [] } ∧ KT V3 ⟨0, t.snd, t.sq, t.Zk, pr⟩ b12 b13 x10 V) (by kernel_rfl) (by kernel_rfl) ?_ ?_ ?_
  ·exact ⟨_, _, _, _, _, _, _, _, _, _, _, _, _, _, _, rfl, rfl, h0⟩
  ·intro i9 listed Zr V hi9 hr hJ
   obtain ⟨b0, b1, b2, b3, b4, b5, b6, b7, b8, b9, b10, b11, b12, b13, x10, rfl, rfl, hF⟩ := hJ
   have hi2 : i9 < 14 := hi9
   have hi3 : i9 = 0 ∨ i9 = 1 ∨ i9 = 2 ∨ i9 = 3 ∨ i9 = 4 ∨ i9 = 5 ∨ i9 = 6 ∨ i9 = 7 ∨ i9 = 8 ∨ i9 = 9 ∨ i9 = 10 ∨ i9 = 11 ∨ i9 = 12 ∨ i9 = 13 := by omega
   rcases hi3 with rfl | rfl | rfl | rfl | rfl | rfl | rfl | rfl | rfl | rfl | rfl | rfl | rfl | rfl
   ·obtain rfl : b0 = false := ZX hr
    refine ZO rfl (by kernel_rfl) (some 24) rfl (Z5 g8 0) V (by kernel_rfl) ?_
    exact ⟨_, _, _, _, _, _, _, _, _, _, _, _, _, _, _, rfl, rfl, hF⟩
   ·obtain rfl : b1 = false := ZX hr
    obtain rfl : b0 = true := ZW hr 0
    refine Y7 rfl (by kernel_rfl) (some 25) rfl 9 (.tmp 24) rfl ⟨g8, 0, none⟩ (.string t.snd) (by kernel_rfl) ((MN.out.below MN.out.lt hF.bel).ZN 0) ?_
    exact ⟨_, _, _, _, _, _, _, _, _, _, _, _, _, _, _, rfl, rfl, hF⟩
   ·obtain rfl : b2 = false := ZX hr
    refine ZO rfl (by kernel_rfl) (some 26) rfl (Z5 g8 1) V (by kernel_rfl) ?_
    exact ⟨_, _, _, _, _, _, _, _, _, _, _, _, _, _, _, rfl, rfl, hF⟩
   ·obtain rfl : b3 = false := ZX hr
    obtain rfl : b2 = true := ZW hr 2
    refine Y7 rfl (by kernel_rfl) (some 27) rfl 23 (.tmp 26) rfl ⟨g8, 1, none⟩ (Z7 t.sq) (by kernel_rfl) ((MN.out.below MN.out.lt hF.bel).ZN 1) ?_
    exact ⟨_, _, _, _, _, _, _, _, _, _, _, _, _, _, _, rfl, rfl, hF⟩
   ·obtain rfl : b4 = false := ZX hr
    refine ZO rfl (by kernel_rfl) (some 28) rfl (Z5 g8 2) V (by kernel_rfl) ?_
    exact ⟨_, _, _, _, _, _, _, _, _, _, _, _, _, _, _, rfl, rfl, hF⟩
   ·obtain rfl : b5 = false := ZX hr
    obtain rfl : b4 = true := ZW hr 4
    refine Y7 rfl (by kernel_rfl) (some 29) rfl 23 (.tmp 28) rfl ⟨g8, 2, none⟩ (Z7 t.Zk) (by kernel_rfl) ((MN.out.below MN.out.lt hF.bel).ZN 2) ?_
    exact ⟨_, _, _, _, _, _, _, _, _, _, _, _, _, _, _, rfl, rfl, hF⟩
   ·obtain rfl : b6 = false := ZX hr
    refine ZO rfl (by kernel_rfl) (some 30) rfl (Z5 g8 3) V (by kernel_rfl) ?_
    exact ⟨_, _, _, _, _, _, _, _, _, _, _, _, _, _, _, rfl, rfl, hF⟩
   ·obtain rfl : b7 = false := ZX hr
    obtain rfl : b6 = true := ZW hr 6
    refine Y7 rfl (by kernel_rfl) (some 31) rfl 23 (.tmp 30) rfl ⟨g8, 3, none⟩ (Z7 t.Y6) (by kernel_rfl) ((MN.out.below MN.out.lt hF.bel).ZN 3) ?_
    exact ⟨_, _, _, _, _, _, _, _, _, _, _, _, _, _, _, rfl, rfl, hF⟩
   ·obtain rfl : b8 = false := ZX hr
    refine ZO rfl (by kernel_rfl) (some 32) rfl (Z5 g8 2) V (by kernel_rfl) ?_
    exact ⟨_, _, _, _, _, _, _, _, _, _, _, _, _, _, _, rfl, rfl, hF⟩
   ·obtain rfl : b9 = false := ZX hr
    obtain rfl : b8 = true := ZW hr 8
    refine Y7 rfl (by kernel_rfl) (some 33) rfl 23 (.tmp 32) rfl ⟨g8, 2, none⟩ (Z7 t.Zk) (by kernel_rfl) ((MN.out.below MN.out.lt hF.bel).ZN 2) ?_
    exact ⟨_, _, _, _, _, _, _, _, _, _, _, _, _, _, _, rfl, rfl, hF⟩
   ·obtain rfl : b10 = false := ZX hr
    obtain rfl : b7 = true := ZW hr 7
    obtain rfl : b9 = true := ZW hr 9
    refine XD rfl (by kernel_rfl) (some 34) rfl 47 #[Z7 t.Y6, Z7 t.Zk] (by kernel_rfl) ((CP V).mono fun e w' z => ?_)
    obtain ⟨rfl, n9, rfl⟩ := z
    exact ⟨_, rfl, _, _, _, _, _, _, _, _, _, _, _, _, _, _, _, rfl, rfl, hF.more ⟨rfl, rfl, rfl, Nat.le_refl _, fun _ _ => rfl⟩⟩
   ·obtain rfl : b11 = false := ZX hr
    obtain rfl : b1 = true := ZW hr 1
    obtain rfl : b3 = true := ZW hr 3
    obtain rfl : b5 = true := ZW hr 5
    obtain rfl : b10 = true := ZW hr 10
    refine ZO rfl (by kernel_rfl) (some 35) rfl (.agg (ZE ⟨0, t.snd, t.sq, t.Zk, pr⟩)) V (by kernel_rfl) ?_
    exact ⟨_, _, _, _, _, _, _, _, _, _, _, _, _, _, _, rfl, rfl, hF⟩
   ·obtain rfl : b12 = false := ZX hr
    refine ZO rfl (by kernel_rfl) (some 10) rfl (Z5 V.heap.size 0) (V.alloc (.cells (ZE (YG 0)) 61)) (by kernel_rfl) ?_
    exact ⟨_, _, _, _, _, _, _, _, _, _, _, _, _, _, _, rfl, rfl, hF.alloc⟩
   ·obtain rfl : b13 = false := ZX hr
    obtain rfl : b11 = true := ZW hr 11
    obtain rfl : b12 = true := ZW hr 12
    obtain ⟨g9, V2, rfl, hst, hF2⟩ := hF.store
    refine XI rfl (by kernel_rfl) rfl 61 (.tmp 10) (.tmp 35) rfl (Z5 g9 0) (.agg (ZE ⟨0, t.snd, t.sq, t.Zk, pr⟩)) (by kernel_rfl) (by kernel_rfl) _ hst ?_
    exact ⟨_, _, _, _, _, _, _, _, _, _, _, _, _, _, _, rfl, rfl, hF2⟩
  ·intro Zr V hJ
   obtain ⟨b0, b1, b2, b3, b4, b5, b6, b7, b8, b9, b10, b11, b12, b13, x10, he, rfl, hF⟩ := hJ
   have he : (#[true, true, true, true, true, true, true, true, true, true, true, true, true, true] : Array Bool) = #[b0, b1, b2, b3, b4, b5, b6, b7, b8, b9, b10, b11, b12, b13] := he
   simp only [Array.mk.injEq, List.cons.injEq, and_true] at he
   obtain ⟨rfl, rfl, rfl, rfl, rfl, rfl, rfl, rfl, rfl, rfl, rfl, rfl, rfl, rfl⟩ := he
   simp only [cond_true]
   obtain ⟨g10, rfl, RI, -, hbx⟩ := hF.box rfl
   have PI := Z9 (hbx rfl)
   have hbv := hF.bel
   have HB4 := Z9 (Wh.out.trans (hbv.mono Wh.out.size))
   have vN := Z9 (vP.out.below vP.out.lt hbv)
   have nV := Z9 (Px.out.below Px.out.lt hbv)
   have nU := Z9 (Ae.out.below Ae.out.lt hbv)
   have eX := Z9 (MN.out.below MN.out.lt hbv)
   have HA4 := Z9 (Gp.out.below hbv)
   have Fb : Hid (W.heap.size ≤ V.heap.size ∧ W.heap.size ≤ g10) := Z9 ⟨Nat.le_trans bK.out hbv.size, Nat.le_trans bK.out RI⟩
   have CA := HCA.out V HA4.out (HCT.out.below hbv)
   clear hF hbx hbv RI vP Px Ae MN Wh h0 CP HCA HCT Gp
   go_upto_region 5 with fail
   refine wl <| ZI rfl ⟨g3, 0, none⟩ (.agg (ZU la A.length lk c)) (ZQ vN.out) <| ZV (Z7 price) <| ZI rfl ⟨g8, 0, none⟩ (.agg (Zu t ta tk)) (Za eX.out) <| ZG (.slice ra L.length rc) (Z8 L.length) <|
    Yl (fun v w' => ∃ ad kk, v = .tuple #[.agg (ZU ad R.1.length kk R.2.1), Z8 R.2.2] ∧ ZB w' V.heap.size (.slice ad R.1.length kk) R.1 ∧ Below V.heap.size V w') (CA.mono fun e w' q => by obtain ⟨ad, kk, h1, h2, h3⟩ := q; exact ⟨_, h1, ad, kk, rfl, h2, h3⟩) (fun vv V5 hq => ?_)
   obtain ⟨ad, kk, rfl, SC, hb5⟩ := hq
   obtain ⟨V6, Xm, hb6, Uu⟩ := VE V5 ad R.1.length kk R.2.1
   simp only [pu]
   refine YT (.tuple #[.agg (ZU ad R.1.length kk R.2.1), Z8 R.2.2]) (.agg (ZU ad R.1.length kk R.2.1)) (Z8 R.2.2) ?_
   simp only [pu]
   refine Zz rfl (some 11) rfl (Z5 V5.heap.size 0) (V5.alloc (.cells (ZU none 0 0 0) 33)) (by kernel_rfl) ?_
   simp only [pu]
   refine Zt rfl (Xm) <| ZV (Z8 R.2.2) <| wn ?_
   simp only [pu]
   obtain ⟨g11, Oy⟩ := ZR V5.heap.size
   rw [Oy] at Uu ⊢
   have Vs := hb5.trans (hb6.mono hb5.size)
   have Vw : Hid (g11 ≠ g10 ∧ g10 ≠ g11 ∧ V.heap.size ≤ g11 ∧ g10 < V.heap.size) := Z9 (by have := PI.out.lt; have := hb5.size; omega)
   have nT := Z9 Uu
   have MB := Z9 (own_below SC hb6)
   have Xp := Z9 (HB4.out.trans (Vs.mono HB4.out.size))
   have ac7 := Z9 (vN.out.below vN.out.lt Vs)
   have nS := Z9 (nV.out.below nV.out.lt Vs)
   have nR := Z9 (nU.out.below nU.out.lt Vs)
   have Ad := Z9 (PI.out.below PI.out.lt Vs)
   have HA6 := Z9 (HA4.out.below Vs)
   have Gt : Hid (V.heap.size ≤ V6.heap.size ∧ g11 < V6.heap.size) := Z9 ⟨Vs.size, Uu.lt⟩
   clear CA SC Xm hb6 Uu hb5 Vs Oy vN nV nU eX PI HA4 HB4
   by_cases hr0 : R.2.2 = 0
   ·obtain ⟨Bs, hBs⟩ := ZR V.heap.size
    have nP : Hid (w.heap.size ≤ g10) := Z9 (Nat.le_trans HB0.out.size Fb.out.2)
    have HN : Hid (g6 ≠ g10 ∧ g7 ≠ g10 ∧ g10 < Bs) := Z9 (by have := HG.out; have := Fb.out; have := Vw.out; have := Gt.out; omega)
    have F7 : Hid (g11 ≠ g6 ∧ g10 ≠ g6 ∧ g6 < Bs) := Z9 (by have := HG.out; have := Fb.out; have := Vw.out; have := Gt.out; omega)
    have nO : Hid (g11 ≠ g7 ∧ g10 ≠ g7 ∧ g7 < Bs) := Z9 (by have := HG.out; have := Fb.out; have := Vw.out; have := Gt.out; omega)
    have HBs : Hid (w.heap.size ≤ Bs) := Z9 (by have := HB0.out.size; have := Fb.out; have := Gt.out; omega)
    rw [hBs] at MB
    clear hBs
    have nN : Hid (X = ((R.1, R.2.1), ⟨R.2.2, t.snd, t.sq, t.Zk, pr⟩)) := Z9 (by have h := dA.out; rw [if_pos hr0] at h; exact h)
    go_upto_region 6 with fail
    refine wl <| ZV (Z8 R.2.2) <| ZM (YZ rfl R.2.2 0 (decide_eq_true hr0)) <| wn ?_
    simp only [pu]
    obtain ⟨V9, YJ, Ky, Ws, YA⟩ := Zb (i := 0) (ty := 36) (v := Z8 R.2.2) (cs' := ZE ⟨R.2.2, t.snd, t.sq, t.Zk, pr⟩) Ad.out Xp.out nP.out (by show 0 < 5; decide) rfl (by kernel_rfl) rfl
    have Kw := nT.out.but YA Vw.out.1
    have nM := nS.out.but YA HN.out.1
    have nK := nR.out.but YA HN.out.2.1
    have TL := Zv MB.out YA HN.out.2.2
    have HPT : Hid (PT g11 g10 Bs (ZU ad R.1.length kk R.2.1) ⟨R.2.2, t.snd, t.sq, t.Zk, pr⟩ (.slice ad R.1.length kk) R.1 V9) := Z9 ⟨Kw, Ky, TL⟩
    clear Kw Ky TL YA
    go_upto_region 8 with fail
    refine wl <| ZG (Z8 R.2.2) (Z5 g10 0) <| Zt rfl (YJ) <| wn ?_
    simp only [pu]
    clear YJ
    go_upto_region 9 with fail
    have h0 : K8 w g6 g7 (PT g11 g10 Bs (ZU ad R.1.length kk R.2.1) ⟨R.2.2, t.snd, t.sq, t.Zk, pr⟩ (.slice ad R.1.length kk) R.1) (ZU ad R.1.length kk R.2.1) ⟨R.2.2, t.snd, t.sq, t.Zk, pr⟩ false false V9.drew := K8.start Ws HPT.out.drew nM nK
    generalize V = V4 at *
    refine Y5 (fun listed Zr V => ∃ b0 b1 b2 b3 : Bool, listed = #[b0, b1, b2, b3] ∧ Zr = { tmps := #[.agg (ZU la A.length lk c), Z7 price, .slice ra L.length rc, Z5 g3 0, undef, undef, Z5 g6 0, Z5 g7 0, Z5 g8 0, Z8 R.2.2, Z5 g10 0, Z5 g11 0, .tuple #[.agg (Zu t ta tk), Z8 D.2], .agg (ZU la A.length lk c), .slice ra L.length rc, .tuple #[.agg (Zu t ta tk), Z8 D.2], .agg (Zu t ta tk), Z8 D.2, Z8 D.2, ZY, undef, undef, undef, undef, Z5 g8 0, .string t.snd, Z5 g8 1, Z7 t.sq, Z5 g8 2, Z7 t.Zk, Z5 g8 3, Z7 t.Y6, Z5 g8 2, Z7 t.Zk, Z7 pr, .agg (ZE ⟨0, t.snd, t.sq, t.Zk, pr⟩), .tuple #[.agg (ZU ad R.1.length kk R.2.1), Z8 R.2.2], .agg (ZU la A.length lk c), Z7 price, .agg (Zu t ta tk), .slice ra L.length rc, Z8 L.length, .tuple #[.agg (ZU ad R.1.length kk R.2.1), Z8 R.2.2], .agg (ZU ad R.1.length kk R.2.1), Z8 R.2.2, Z8 R.2.2, ZY, undef, undef, Z8 R.2.2, Z5 g10 0, (cond b0 (.agg (ZU ad R.1.length kk R.2.1)) undef), (cond b1 (.agg (ZE ⟨R.2.2, t.snd, t.sq, t.Zk, pr⟩)) undef)], defers := [] } ∧ K8 w g6 g7 (PT g11 g10 Bs (ZU ad R.1.length kk R.2.1) ⟨R.2.2, t.snd, t.sq, t.Zk, pr⟩ (.slice ad R.1.length kk) R.1) (ZU ad R.1.length kk R.2.1) ⟨R.2.2, t.snd, t.sq, t.Zk, pr⟩ b2 b3 V) (by kernel_rfl) (by kernel_rfl) ?_ ?_ ?_
    ·exact ⟨_, _, _, _, rfl, rfl, h0⟩
    ·intro i9 listed Zr V hi9 hr hJ
     obtain ⟨b0, b1, b2, b3, rfl, rfl, hF⟩ := hJ
     have hi2 : i9 < 4 := hi9
     have hi3 : i9 = 0 ∨ i9 = 1 ∨ i9 = 2 ∨ i9 = 3 := by omega
     rcases hi3 with rfl | rfl | rfl | rfl
     ·obtain rfl : b0 = false := ZX hr
      refine Y7 rfl (by kernel_rfl) (some 51) rfl 33 (.tmp 11) rfl ⟨g11, 0, none⟩ (.agg (ZU ad R.1.length kk R.2.1)) (by kernel_rfl) (ZQ hF.p.x11) ?_
      exact ⟨_, _, _, _, rfl, rfl, hF⟩
     ·obtain rfl : b1 = false := ZX hr
      refine Y7 rfl (by kernel_rfl) (some 52) rfl 61 (.tmp 10) rfl ⟨g10, 0, none⟩ (.agg (ZE ⟨R.2.2, t.snd, t.sq, t.Zk, pr⟩)) (by kernel_rfl) (Xq hF.p.x10) ?_
      exact ⟨_, _, _, _, rfl, rfl, hF⟩
     ·obtain rfl : b2 = false := ZX hr
      obtain rfl : b0 = true := ZW hr 0
      obtain ⟨V2, hst, hF2⟩ := hF.st6 (fun V9 hb => hF.p.but hb F7.out.1 F7.out.2.1 F7.out.2.2) HG.out.1 HG.out.2.2.1
      refine XI rfl (by kernel_rfl) rfl 33 (.tmp 6) (.tmp 51) rfl (Z5 g6 0) (.agg (ZU ad R.1.length kk R.2.1)) (by kernel_rfl) (by kernel_rfl) _ hst ?_
      exact ⟨_, _, _, _, rfl, rfl, hF2⟩
     ·obtain rfl : b3 = false := ZX hr
      obtain rfl : b1 = true := ZW hr 1
      obtain ⟨V2, hst, hF2⟩ := hF.st7 (fun V9 hb => hF.p.but hb nO.out.1 nO.out.2.1 nO.out.2.2) HG.out.2.1 (fun e => HG.out.2.2.1 e.symm)
      refine XI rfl (by kernel_rfl) rfl 61 (.tmp 7) (.tmp 52) rfl (Z5 g7 0) (.agg (ZE ⟨R.2.2, t.snd, t.sq, t.Zk, pr⟩)) (by kernel_rfl) (by kernel_rfl) _ hst ?_
      exact ⟨_, _, _, _, rfl, rfl, hF2⟩
    ·intro Zr V hJ
     obtain ⟨b0, b1, b2, b3, he, rfl, hF⟩ := hJ
     have he : (#[true, true, true, true] : Array Bool) = #[b0, b1, b2, b3] := he
     simp only [Array.mk.injEq, List.cons.injEq, and_true] at he
     obtain ⟨rfl, rfl, rfl, rfl⟩ := he
     simp only [cond_true]
     go_wp2_with fail
     exact bodyPost_ret (TM rfl (by kernel_rfl) (ZQ hF.x6) (by kernel_rfl) (Xq hF.x7)) rfl (oI.own nN.out hF.p.row HBs.out hF.bel)
   ·have nN : Hid (X = ((A, c), ⟨R.2.2, t.snd, t.sq, t.Zk, pr⟩)) := Z9 (by have h := dA.out; rw [if_neg hr0] at h; exact h)
    go_upto_region 6 with fail
    refine wl <| ZV (Z8 R.2.2) <| ZM (YZ rfl R.2.2 0 (decide_eq_false hr0)) <| wn ?_
    simp only [pu]
    go_upto_region 7 with fail
    refine wl <| ZI rfl ⟨g3, 0, none⟩ (.agg (ZU la A.length lk c)) (ZQ ac7.out) <|
     Yl (fun v w' => ∃ ad kk, v = .agg (ZU ad A.length kk c) ∧ ZB w' V6.heap.size (.slice ad A.length kk) A ∧ Below V6.heap.size V6 w') ((kC.out V6 HA6.out).mono fun e w' q => by obtain ⟨ad, kk, h1, h2, h3⟩ := q; exact ⟨_, h1, ad, kk, rfl, h2, h3⟩) (fun vv V7 hq => ?_)
    obtain ⟨a7, k7, rfl, L8, hb7⟩ := hq
    obtain ⟨Vd, eU⟩ := ZJ (a' := a7) (n' := A.length) (k' := k7) (c' := c) (nT.out.below nT.out.lt hb7)
    have XW : But g11 V7 (V7.setRow g11 (ZU a7 A.length k7 c)) := But.setRow _ _
    have Fg := ZT (Xp.out.trans (hb7.mono Xp.out.size)) (Nat.le_trans HB0.out.size (Nat.le_trans Fb.out.1 Vw.out.2.2.1)) (ZU a7 A.length k7 c)
    have uH := Zv L8 XW Gt.out.2
    have ac8 := (nS.out.below nS.out.lt hb7).but XW (by have := HG.out; have := Fb.out; have := Vw.out; omega)
    have ac9 := (nR.out.below nR.out.lt hb7).but XW (by have := HG.out; have := Fb.out; have := Vw.out; omega)
    have eP := (Ad.out.below Ad.out.lt hb7).but XW Vw.out.2.1
    generalize V7.setRow g11 (ZU a7 A.length k7 c) = V8 at *
    clear L8 hb7 XW
    simp only [pu]
    refine Zt rfl (Vd) <| wn ?_
    clear Vd
    obtain ⟨Bs, hBs⟩ := ZR V6.heap.size
    have nP : Hid (w.heap.size ≤ g10) := Z9 (Nat.le_trans HB0.out.size Fb.out.2)
    have HN : Hid (g6 ≠ g10 ∧ g7 ≠ g10 ∧ g10 < Bs) := Z9 (by have := HG.out; have := Fb.out; have := Vw.out; have := Gt.out; omega)
    have F7 : Hid (g11 ≠ g6 ∧ g10 ≠ g6 ∧ g6 < Bs) := Z9 (by have := HG.out; have := Fb.out; have := Vw.out; have := Gt.out; omega)
    have nO : Hid (g11 ≠ g7 ∧ g10 ≠ g7 ∧ g7 < Bs) := Z9 (by have := HG.out; have := Fb.out; have := Vw.out; have := Gt.out; omega)
    have HBs : Hid (w.heap.size ≤ Bs) := Z9 (by have := HB0.out.size; have := Fb.out; have := Gt.out; omega)
    rw [hBs] at uH
    clear hBs
    obtain ⟨V9, YJ, Ky, Ws, YA⟩ := Zb (i := 0) (ty := 36) (v := Z8 R.2.2) (cs' := ZE ⟨R.2.2, t.snd, t.sq, t.Zk, pr⟩) eP Fg nP.out (by show 0 < 5; decide) rfl (by kernel_rfl) rfl
    have Kw := eU.but YA Vw.out.1
    have nM := ac8.but YA HN.out.1
    have nK := ac9.but YA HN.out.2.1
    have TL := Zv uH YA HN.out.2.2
    have HPT : Hid (PT g11 g10 Bs (ZU a7 A.length k7 c) ⟨R.2.2, t.snd, t.sq, t.Zk, pr⟩ (.slice a7 A.length k7) A V9) := Z9 ⟨Kw, Ky, TL⟩
    clear Kw Ky TL YA
    go_upto_region 8 with fail
    refine wl <| ZG (Z8 R.2.2) (Z5 g10 0) <| Zt rfl (YJ) <| wn ?_
    simp only [pu]
    clear YJ
    go_upto_region 9 with fail
    have h0 : K8 w g6 g7 (PT g11 g10 Bs (ZU a7 A.length k7 c) ⟨R.2.2, t.snd, t.sq, t.Zk, pr⟩ (.slice a7 A.length k7) A) (ZU a7 A.length k7 c) ⟨R.2.2, t.snd, t.sq, t.Zk, pr⟩ false false V9.drew := K8.start Ws HPT.out.drew nM nK
    generalize V = V4 at *
    refine Y5 (fun listed Zr V => ∃ b0 b1 b2 b3 : Bool, listed = #[b0, b1, b2, b3] ∧ Zr = { tmps := #[.agg (ZU la A.length lk c), Z7 price, .slice ra L.length rc, Z5 g3 0, undef, undef, Z5 g6 0, Z5 g7 0, Z5 g8 0, Z8 R.2.2, Z5 g10 0, Z5 g11 0, .tuple #[.agg (Zu t ta tk), Z8 D.2], .agg (ZU la A.length lk c), .slice ra L.length rc, .tuple #[.agg (Zu t ta tk), Z8 D.2], .agg (Zu t ta tk), Z8 D.2, Z8 D.2, ZY, undef, undef, undef, undef, Z5 g8 0, .string t.snd, Z5 g8 1, Z7 t.sq, Z5 g8 2, Z7 t.Zk, Z5 g8 3, Z7 t.Y6, Z5 g8 2, Z7 t.Zk, Z7 pr, .agg (ZE ⟨0, t.snd, t.sq, t.Zk, pr⟩), .tuple #[.agg (ZU ad R.1.length kk R.2.1), Z8 R.2.2], .agg (ZU la A.length lk c), Z7 price, .agg (Zu t ta tk), .slice ra L.length rc, Z8 L.length, .tuple #[.agg (ZU ad R.1.length kk R.2.1), Z8 R.2.2], .agg (ZU ad R.1.length kk R.2.1), Z8 R.2.2, Z8 R.2.2, Z4, .agg (ZU la A.length lk c), .agg (ZU a7 A.length k7 c), Z8 R.2.2, Z5 g10 0, (cond b0 (.agg (ZU a7 A.length k7 c)) undef), (cond b1 (.agg (ZE ⟨R.2.2, t.snd, t.sq, t.Zk, pr⟩)) undef)], defers := [] } ∧ K8 w g6 g7 (PT g11 g10 Bs (ZU a7 A.length k7 c) ⟨R.2.2, t.snd, t.sq, t.Zk, pr⟩ (.slice a7 A.length k7) A) (ZU a7 A.length k7 c) ⟨R.2.2, t.snd, t.sq, t.Zk, pr⟩ b2 b3 V) (by kernel_rfl) (by kernel_rfl) ?_ ?_ ?_
    ·exact ⟨_, _, _, _, rfl, rfl, h0⟩
    ·intro i9 listed Zr V hi9 hr hJ
     obtain ⟨b0, b1, b2, b3, rfl, rfl, hF⟩ := hJ
     have hi2 : i9 < 4 := hi9
     have hi3 : i9 = 0 ∨ i9 = 1 ∨ i9 = 2 ∨ i9 = 3 := by omega
     rcases hi3 with rfl | rfl | rfl | rfl
     ·obtain rfl : b0 = false := ZX hr
      refine Y7 rfl (by kernel_rfl) (some 51) rfl 33 (.tmp 11) rfl ⟨g11, 0, none⟩ (.agg (ZU a7 A.length k7 c)) (by kernel_rfl) (ZQ hF.p.x11) ?_
      exact ⟨_, _, _, _, rfl, rfl, hF⟩
     ·obtain rfl : b1 = false := ZX hr
      refine Y7 rfl (by kernel_rfl) (some 52) rfl 61 (.tmp 10) rfl ⟨g10, 0, none⟩ (.agg (ZE ⟨R.2.2, t.snd, t.sq, t.Zk, pr⟩)) (by kernel_rfl) (Xq hF.p.x10) ?_
      exact ⟨_, _, _, _, rfl, rfl, hF⟩
     ·obtain rfl : b2 = false := ZX hr
      obtain rfl : b0 = true := ZW hr 0
      obtain ⟨V2, hst, hF2⟩ := hF.st6 (fun V9 hb => hF.p.but hb F7.out.1 F7.out.2.1 F7.out.2.2) HG.out.1 HG.out.2.2.1
      refine XI rfl (by kernel_rfl) rfl 33 (.tmp 6) (.tmp 51) rfl (Z5 g6 0) (.agg (ZU a7 A.length k7 c)) (by kernel_rfl) (by kernel_rfl) _ hst ?_
      exact ⟨_, _, _, _, rfl, rfl, hF2⟩
     ·obtain rfl : b3 = false := ZX hr
      obtain rfl : b1 = true := ZW hr 1
      obtain ⟨V2, hst, hF2⟩ := hF.st7 (fun V9 hb => hF.p.but hb nO.out.1 nO.out.2.1 nO.out.2.2) HG.out.2.1 (fun e => HG.out.2.2.1 e.symm)
      refine XI rfl (by kernel_rfl) rfl 61 (.tmp 7) (.tmp 52) rfl (Z5 g7 0) (.agg (ZE ⟨R.2.2, t.snd, t.sq, t.Zk, pr⟩)) (by kernel_rfl) (by kernel_rfl) _ hst ?_
      exact ⟨_, _, _, _, rfl, rfl, hF2⟩
    ·intro Zr V hJ
     obtain ⟨b0, b1, b2, b3, he, rfl, hF⟩ := hJ
     have he : (#[true, true, true, true] : Array Bool) = #[b0, b1, b2, b3] := he
     simp only [Array.mk.injEq, List.cons.injEq, and_true] at he
     obtain ⟨rfl, rfl, rfl, rfl⟩ := he
     simp only [cond_true]
     go_wp2_with fail
     exact bodyPost_ret (TM rfl (by kernel_rfl) (ZQ hF.x6) (by kernel_rfl) (Xq hF.x7)) rfl (oI.own nN.out hF.p.row HBs.out hF.bel)
 ·have heq := Z9 (H1.out hd)
  go_upto_region 2 with fail
  refine wl <| ZV (Z8 D.2) <| ZM (YZ rfl D.2 0 (decide_eq_false hd)) <| wn ?_
  simp only [pu]
  go_upto_region 3 with fail
  refine wl <| ZI rfl ⟨g3, 0, none⟩ (.agg (ZU la A.length lk c)) (ZQ vP.out) <|
   Yl (fun v w' => ∃ ad kk, v = .agg (ZU ad A.length kk c) ∧ ZB w' V3.heap.size (.slice ad A.length kk) A ∧ Below V3.heap.size V3 w') ((kC.out V3 Gp.out).mono fun e w' q => by obtain ⟨ad, kk, h1, h2, h3⟩ := q; exact ⟨_, h1, ad, kk, rfl, h2, h3⟩) (fun vv V4 hq => ?_)
  obtain ⟨ad, kk, rfl, hr4, hb4⟩ := hq
  obtain ⟨hst5, IY⟩ := ZJ (a' := ad) (n' := A.length) (k' := kk) (c' := c) (Px.out.below Px.out.lt hb4)
  have Us : But g6 V4 (V4.setRow g6 (ZU ad A.length kk c)) := But.setRow _ _
  have nJ := ZT (Wh.out.trans (hb4.mono Wh.out.size)) HG.out.1 (ZU ad A.length kk c)
  have SC := Zv hr4 Us (Nat.lt_of_lt_of_le HG.out.2.2.2.1 bK.out)
  have eH := (Ae.out.below Ae.out.lt hb4).but Us HG.out.2.2.1
  generalize V4.setRow g6 (ZU ad A.length kk c) = V5 at *
  obtain ⟨Xm, ad1⟩ := XF (q := YG D.2) eH
  have XY : But g7 V5 (V5.setRow g7 (ZE (YG D.2))) := But.setRow _ _
  have hB6 := ZT nJ HG.out.2.1 (ZE (YG D.2))
  have Ej := Zv SC XY (Nat.lt_of_lt_of_le HG.out.2.2.2.2 bK.out)
  have ad2 := IY.but XY (fun e => HG.out.2.2.1 e.symm)
  have HE : Hid (oI w la A X (.returned (.tuple #[.agg (ZU ad A.length kk c), .agg (ZE (YG D.2))])) (V5.setRow g7 (ZE (YG D.2)))) := Z9 (oI.own heq.out Ej Wh.out.size hB6)
  generalize V5.setRow g7 (ZE (YG D.2)) = V6 at *
  clear hr4 hb4 Us nJ SC eH XY hB6 Ej IY
  simp only [pu]
  refine ZG (Z8 D.2) (.agg (ZE (YG D.2))) <| Zt rfl (hst5) <| Zt rfl (Xm) <| wn ?_
  simp only [pu]
  go_wp2_with fail
  exact bodyPost_ret (TM rfl (by kernel_rfl) (ZQ ad2) (by kernel_rfl) (Xq ad1)) rfl HE.out
theorem fH (a : Option Addr) (k : Nat) (A : List Ac) (c : Int) (w : World) (hR : Cs w a (acc A)) (hn : A.length ≤ 4398046511104) :
  Calls Try.prog 40 #[.agg (ZU a A.length k c)] w (fK w A c) := by
 obtain ⟨hb0, hX1, hX2⟩ := Zi w (ZU a A.length k c) (ZU none 0 0 0) 33 33
 have hA := hR.below hb0
 obtain ⟨n, hnn⟩ := ZR A.length
 have CC := fun V h => UO a k A V h hn
 have HN := Z9 hnn
 rw [hnn] at hb0 hX1 hX2 hA CC ⊢
 clear hR hn hnn
 go_enter Try.func40, Try.ntmps40
 go_upto_region 1 with fail
 change Code.wp _ _ _ _ ((w.alloc (.cells (ZU a n k c) 33)).alloc (.cells (ZU none 0 0 0) 33))
 generalize (w.alloc (.cells (ZU a n k c) 33)).alloc (.cells (ZU none 0 0 0) 33) = W at *
 obtain ⟨g1, hg1⟩ := ZR w.heap.size
 obtain ⟨g2, hg2⟩ := ZR (g1 + 1)
 have HB0 := Z9 hb0
 rw [show w.heap.size + 1 = g2 by omega] at hX2
 have HG : Hid (w.heap.size ≤ g1 ∧ w.heap.size ≤ g2 ∧ g1 ≠ g2 ∧ g2 ≠ g1 ∧ g1 < W.heap.size ∧ g2 < W.heap.size) := Z9 ⟨by omega, by omega, by omega, by omega, by rw [hg1] at hX1; exact hX1.lt, hX2.lt⟩
 rw [hg1] at hX1
 simp only [hg1]
 simp only [hg2]
 have XP := Z9 hX1
 have Yr := Z9 hX2
 have sS := CC W hA
 clear hb0 hX1 hX2 hA hg1 hg2 CC
 refine wl <| ZV (Z5 g1 0) <| ZI rfl ⟨g1, 0, none⟩ (.slice a n k) (XP.out.ZN 0) <| Yl (fun v w' => ZB w' W.heap.size v A ∧ Below W.heap.size W w') (sS.mono fun e w' q => by obtain ⟨v, h1, h2, h3⟩ := q; exact ⟨v, h1, h2, h3⟩) (fun vv V1 hq => ?_)
 obtain ⟨hr1, hb1⟩ := hq
 obtain ⟨ad, cd, rfl, -, -⟩ := hr1.cs
 rw [HN.out]
 rw [HN.out] at hr1
 obtain ⟨V2, hst2, ou, hb2, Vu⟩ := Zb (i := 0) (ty := 22) (v := .slice ad n cd) (cs' := ZU ad n cd c) (XP.out.below XP.out.lt hb1) (HB0.out.trans (hb1.mono HB0.out.size)) HG.out.1 (by show 0 < 2; decide) rfl (by kernel_rfl) rfl
 have hr2 := Zv hr1 Vu HG.out.2.2.2.2.1
 simp only [pu]
 refine ZV (Z5 g1 0) <| Zt rfl (hst2) <| wn ?_
 simp only [pu]
 have Py := (Yr.out.below Yr.out.lt hb1).but Vu HG.out.2.2.2.1
 obtain ⟨hst3, oq⟩ := ZJ (a' := ad) (n' := n) (k' := cd) (c' := c) Py
 have hr3 := Zv hr2 (But.setRow (g := g2) V2 (ZU ad n cd c)) HG.out.2.2.2.2.2
 have hb3 := ZT hb2 HG.out.2.1 (ZU ad n cd c)
 have HE : Hid (ZB (V2.setRow g2 (ZU ad n cd c)) w.heap.size (.slice ad n cd) A ∧ Below w.heap.size w (V2.setRow g2 (ZU ad n cd c))) := Z9 ⟨own_base hr3 HB0.out.size, hb3⟩
 generalize V2.setRow g2 (ZU ad n cd c) = V3 at *
 clear sS hr1 hb1 hst2 hb2 Vu hr2 Py hr3 hb3
 go_upto_region 2 with fail
 refine wl <| ZI rfl ⟨g1, 0, none⟩ (.agg (ZU ad n cd c)) (ZQ ou) <| Zt rfl (hst3) <| wn ?_
 simp only [pu]
 go_wp2_with fail
 exact bodyPost_ret (XJ rfl (by kernel_rfl) (ZQ oq)) rfl ⟨ad, cd, by rw [HN.out], by rw [HN.out]; exact HE.out.1, HE.out.2⟩
theorem fE (A : List Ac) (c p : Int) (E : List Bs) (la ra : Option Addr) (lk rc : Nat) (w : World) (hL : Cs w la (acc A)) (hlk : A.length ≤ lk) (hd : QZ A c) (hp : W64 p) (hE : MG w ra E) (hn : E.length ≤ 100000) :
    Calls Try.prog 26 #[.agg (ZU la A.length lk c), Z7 p, .slice ra E.length rc] w (fD w (Yu A c p (lsB E) E.length) (Ud A c p (lsB E) E.length)) := by
  obtain ⟨hb0, Vt, Tm⟩ := Zi w (ZU la A.length lk c) (ZU none 0 0 0) 33 33
  have CL := fH la lk A c _ (hL.below hb0) hd.n
  have TI := Z9 hn
  have mP := Z9 hp
  have vZ := Z9 hE
  have HRD : Hid (∀ j, j ≤ E.length → QZ (Yu A c p (lsB E) j).1 (Yu A c p (lsB E) j).2) := Z9 fun j hj => hd.run hp hE.all j (by rw [Yq]; exact hj)
  have yG : Hid (∀ j, j < E.length → Yu A c p (lsB E) (j + 1) = (Vq (Yu A c p (lsB E) j).1 (Yu A c p (lsB E) j).2 p (QI E j).2.2).1) := Z9 fun j hj => by rw [UQ (by rw [Yq]; exact hj), MZ hj]
  have HRR : Hid (∀ j, j < E.length → Ud A c p (lsB E) (j + 1) = Ud A c p (lsB E) j ++ [(Vq (Yu A c p (lsB E) j).1 (Yu A c p (lsB E) j).2 p (QI E j).2.2).2]) := Z9 fun j hj => by rw [Pq]; unfold Vj; rw [MZ hj]
  have HRL : Hid (∀ j, (Ud A c p (lsB E) j).length = j) := Z9 fun j => KH _ _ _ _ j
  have HR0 : Hid (Yu A c p (lsB E) 0 = (A, c) ∧ Ud A c p (lsB E) 0 = []) := Z9 ⟨rfl, rfl⟩
  generalize Yu A c p (lsB E) = U at *
  generalize Ud A c p (lsB E) = Q at *
  clear hL hd hp hE
  go_enter Try.func26, Try.ntmps26
  go_upto_region 1 with fail
  change Code.wp _ _ _ _ ((w.alloc (.cells (ZU la A.length lk c) 33)).alloc (.cells (ZU none 0 0 0) 33))
  generalize (w.alloc (.cells (ZU la A.length lk c) 33)).alloc (.cells (ZU none 0 0 0) 33) = W at *
  obtain ⟨g3, hg3⟩ := ZR w.heap.size
  obtain ⟨g6, Vk⟩ := ZR (g3 + 1)
  rw [hg3] at Vt
  rw [show w.heap.size + 1 = g6 by omega] at Tm
  have HG : Hid (w.heap.size ≤ g6 ∧ g6 < W.heap.size ∧ w.heap.size ≤ W.heap.size) := Z9 ⟨by omega, Tm.lt, hb0.size⟩
  simp only [hg3]
  simp only [Vk]
  have HB0 := Z9 hb0
  have Wu := Z9 Vt
  have VJ := Z9 Tm
  clear hb0 hg3 Vk Vt Tm
  refine wl <| ZI rfl ⟨g3, 0, none⟩ (.agg (ZU la A.length lk c)) (ZQ Wu.out) <|
    Yl (fun v w' => ∃ ad k, v = .agg (ZU ad A.length k c) ∧ ZB w' W.heap.size (.slice ad A.length k) A ∧ Below W.heap.size W w') (CL.mono fun e w' q => by obtain ⟨ad, k, h1, h2⟩ := q; exact ⟨_, h1, ad, k, rfl, h2⟩) (fun vv V1 hq => ?_)
  obtain ⟨a1, k1, rfl, hr1, hb1⟩ := hq
  obtain ⟨ad9, c9, e9, hc1, hk1⟩ := hr1.cs
  obtain ⟨rfl, -, rfl⟩ := by simpa only [Value.slice.injEq] using e9
  obtain ⟨hst1, hX1⟩ := ZJ (a' := a1) (n' := A.length) (k' := k1) (c' := c) (VJ.out.below VJ.out.lt hb1)
  have AO : But g6 V1 (V1.setRow g6 (ZU a1 A.length k1 c)) := But.setRow V1 (ZU a1 A.length k1 c)
  have I4 : acc A ≠ [] → ∀ x, a1 = some x → W.heap.size ≤ x.block := fun _ x hx => Nb hr1 x hx
  have hc2 := WZ hc1 AO (fun h x hx => by have := I4 h x hx; have := HG.out.2.1; omega)
  have hb2 := ZT (HB0.out.trans (hb1.mono HB0.out.size)) HG.out.1 (ZU a1 A.length k1 c)
  have hs2 : W.heap.size ≤ (V1.setRow g6 (ZU a1 A.length k1 c)).heap.size := by rw [size_setRow]; exact hb1.size
  simp only [pu]
  refine Zt rfl (hst1) <| wn ?_
  generalize V1.setRow g6 (ZU a1 A.length k1 c) = W1 at *
  have HB1 := Z9 hb2
  have XP := Z9 hX1
  have fG := Z9 hc2
  have AL := Z9 hs2
  have AB : Hid (acc A ≠ [] → ∀ x, a1 = some x → x.block ≠ g6 ∧ (Value.slice none 0 0).ownBlock ≠ some x.block) := Z9 fun h x hx => by
    have := I4 h x hx
    have := HG.out.2.1
    exact ⟨by omega, fun z => by cases z⟩
  have hk2 := hk1
  clear hst1 hX1 hc2 hb2 hs2 I4 AO hr1 hb1 hc1 hk1 HB0 Wu VJ CL e9
  go_upto_region 2 with fail
  refine wl <| YT (.slice ra E.length rc) (Z8 E.length) (Z8 0) <| wn ?_
  simp only [pu]
  go_wp2_with fail
  go_loopg [7, 15] E.length (fun gg s7 s15 wx => ∃ (j : Nat) (v7 : Value) (ad : Option Addr) (k : Nat), s7 = v7 ∧ s15 = Z8 j ∧ j ≤ E.length ∧ (U j).1.length ≤ k ∧ Hid (Cs wx ad (acc (U j).1)) ∧ Hid (acc (U j).1 ≠ [] → ∀ x, ad = some x → x.block ≠ g6 ∧ v7.ownBlock ≠ some x.block) ∧ Hid (Bx wx g6 (ZU ad (U j).1.length k (U j).2) 33) ∧ Hid (Wy wx W.heap.size v7 (Q j)) ∧ Hid (Below w.heap.size w wx) ∧ Hid (W.heap.size ≤ wx.heap.size) ∧ E.length - j = gg)
  case atStart => exact ⟨0, _, a1, k1, rfl, rfl, by omega, by rw [HR0.out.1]; exact hk2, by rw [HR0.out.1]; exact fG, by rw [HR0.out.1]; exact AB, by rw [HR0.out.1]; exact XP, Z9 (by rw [HR0.out.2]; exact Wy.nil _ _), HB1, AL, by omega⟩
  case round =>
    obtain ⟨j, v7, ad, k, rfl, rfl, hj, hk, HC, Vo, HX, HR, HB, H9, hg⟩ := hrel
    clear fG AB XP HB1 AL hk2
    have EO := TI.out
    by_cases hlt : j < E.length
    · skip
      obtain ⟨b, off, rfl, hld⟩ := (vZ.out.below HB.out).at hlt
      have Y0 := Z9 hld
      have AA := HRD.out j hj
      have vY := GU hlt
      have IZ := (Below.refl _ wr).alloc (Nat.le_refl _) (.cells (ZE (YG 0)) 61)
      have vX : Bx (wr.alloc (.cells (ZE (YG 0)) 61)) wr.heap.size (ZE (YG 0)) 61 := heap_alloc_last wr _
      have CT := vW (U j).1 (U j).2 p (QI E j).2.2 ad (QI E j).1 k (QI E j).2.1 _ (HC.out.below IZ) hk AA.n AA.cw AA.w AA.z mP.out (ZH (ZH (vZ.out.sl _ vY) HB.out) IZ) (vZ.out.le _ vY) (vZ.out.b _ vY)
      have vV := Z9 (yG.out j hlt)
      have HQS := Z9 (HRR.out j hlt)
      have HQL := Z9 (HRL.out j)
      generalize Vq (U j).1 (U j).2 p (QI E j).2.2 = X at *
      generalize QI E j = y at *
      have HG2 := Z9 hg
      obtain ⟨V0, hV0⟩ := ZR (wr.alloc (.cells (ZE (YG 0)) 61))
      rw [hV0] at CT IZ vX
      clear hld AA vY hg
      go_upto_region 3 with fail
      refine wl <| ZM (ZC rfl (j) (E.length) dT) <| wn ?_
      simp only [pu]
      go_upto_region 4 with fail
      refine wl <| YO (Z5 b (off + j * 1)) (Az b off E.length rc j hlt _ _ _ rfl (by kernel_rfl) (by kernel_rfl)) <| ZI rfl ⟨b, off + j * 1, none⟩ (.slice y.1 y.2.2.length y.2.1) (Y0.out) <| ZV (.slice y.1 y.2.2.length y.2.1) <| wn ?_
      simp only [pu]
      go_upto_region 5 with fail
      apply wp_region_lit
      refine Zz rfl (some 10) rfl (Z5 wr.heap.size 0) (wr.alloc (.cells (ZE (YG 0)) 61)) (by kernel_rfl) ?_
      simp only [pu]
      rw [hV0]
      apply wpList_nil
      obtain ⟨g10, RI⟩ := ZR wr.heap.size
      rw [RI] at vX ⊢
      have oz := Z9 vX
      have FW := Z9 IZ
      have vU : Hid (g6 < g10 ∧ W.heap.size ≤ g10) := Z9 ⟨by have := HG.out.2.1; have := H9.out; omega, by have := H9.out; omega⟩
      have HWR := Z9 RI
      clear vX IZ RI hV0
      go_upto_region 6 with fail
      refine wl <| ZI rfl ⟨g6, 0, none⟩ (.agg (ZU ad (U j).1.length k (U j).2)) (ZQ (HX.out.below HX.out.lt FW.out)) <| ZG (Z7 p) (.slice y.1 y.2.2.length y.2.1) <|
        Yl (fun v w' => ∃ aZ kZ, v = .tuple #[.agg (ZU aZ X.1.1.length kZ X.1.2), .agg (ZE X.2)] ∧ Cs w' aZ (acc X.1.1) ∧ X.1.1.length ≤ kZ ∧ ((aZ = ad ∧ X.1.1 = (U j).1) ∨ ∀ x, aZ = some x → V0.heap.size ≤ x.block) ∧ Below V0.heap.size V0 w') (CT.mono fun e w' q => by obtain ⟨aZ, kZ, h1, h2⟩ := q; exact ⟨_, h1, aZ, kZ, rfl, h2⟩) (fun vv V2 hq => ?_)
      obtain ⟨a2, k2, rfl, hct, hkt, hbl, hbt⟩ := hq
      have hbW := FW.out.trans (hbt.mono FW.out.size)
      have PD : acc X.1.1 ≠ [] → ∀ x, a2 = some x → x.block ≠ g6 ∧ u7.ownBlock ≠ some x.block ∧ x.block ≠ g10 := fun hne x hx => by
        rcases hbl with ⟨e1, e2⟩ | h9
        · rw [e1] at hx; rw [e2] at hne
          have h3 := Oz HC.out hne x hx
          exact ⟨(Vo.out hne x hx).1, (Vo.out hne x hx).2, by have := HWR.out; omega⟩
        · have h10 := h9 x hx
          have h11 := FW.out.size
          have h12 := HG.out.2.1
          have h13 := H9.out
          exact ⟨by omega, fun z => by have := (Aq HR.out _ z).2; omega, fun z => by have := oz.out.lt; omega⟩
      obtain ⟨hst3, RD⟩ := ZJ (a' := a2) (n' := X.1.1.length) (k' := k2) (c' := X.1.2) (HX.out.below HX.out.lt hbW)
      have XW : But g6 V2 (V2.setRow g6 (ZU a2 X.1.1.length k2 X.1.2)) := But.setRow V2 (ZU a2 X.1.1.length k2 X.1.2)
      have Aw := (oz.out.below oz.out.lt hbt).but XW (by have := vU.out.1; omega)
      have Au := WZ hct XW (fun h x hx => (PD h x hx).1)
      have fC := Zv (own_below HR.out hbW) XW HG.out.2.1
      have Fg := ZT (HB.out.trans (hbW.mono HB.out.size)) HG.out.1 (ZU a2 X.1.1.length k2 X.1.2)
      have hs8 : W.heap.size ≤ (V2.setRow g6 (ZU a2 X.1.1.length k2 X.1.2)).heap.size := by rw [size_setRow]; exact Nat.le_trans H9.out hbW.size
      generalize V2.setRow g6 (ZU a2 X.1.1.length k2 X.1.2) = V8 at *
      obtain ⟨Pz, KD⟩ := XF (q := X.2) Aw
      have YA : But g10 V8 (V8.setRow g10 (ZE X.2)) := But.setRow V8 (ZE X.2)
      have Vl := RD.but YA (by have := vU.out.1; omega)
      have lT := WZ Au YA (fun h x hx => (PD h x hx).2.2)
      have Ws := ZT (g := g10) Fg (by have := vU.out.1; have := HG.out.1; omega) (ZE X.2)
      have hR9 : Wy (V8.setRow g10 (ZE X.2)) W.heap.size u7 (Q j) := Ap fC YA (fun z => by have := (Aq HR.out _ z).2; have := HWR.out; omega)
      have hs9 : W.heap.size ≤ (V8.setRow g10 (ZE X.2)).heap.size := by rw [size_setRow]; exact hs8
      generalize V8.setRow g10 (ZE X.2) = V9 at *
      clear Aw RD Au fC Fg hs8 XW YA hbl hct hbt hbW CT
      simp only [pu]
      refine YT (.tuple #[.agg (ZU a2 X.1.1.length k2 X.1.2), .agg (ZE X.2)]) (.agg (ZU a2 X.1.1.length k2 X.1.2)) (.agg (ZE X.2)) <| Zt rfl (hst3) <| Zt rfl (Pz) <| wn ?_
      simp only [pu]
      obtain ⟨ao, co, rfl, hro, -⟩ := Yj hR9
      have hbu := Fe X.2 V9
      obtain ⟨a9, c9, Va, hap, hRa, hba, hgr, hob⟩ := Am hR9 hs9 X.2 (by rw [HQL.out]; omega)
      have hCa := Ak lT hgr (fun h x hx => (PD h x hx).2.1)
      have ac5 : acc X.1.1 ≠ [] → ∀ x, a2 = some x → x.block ≠ g6 ∧ (Value.slice a9 (Q j ++ [X.2]).length c9).ownBlock ≠ some x.block := fun hne x hx => ⟨(PD hne x hx).1, fun z => by
        rcases hob _ z with h | h
        · exact (PD hne x hx).2.1 h
        · have := Oz lT hne x hx; omega⟩
      obtain ⟨gz, hgz⟩ := ZR V9.heap.size
      rw [hgz] at hbu hap
      clear hgr hob lT PD
      go_upto_region 7 with fail
      refine wl <| ZV (.slice ao (Q j).length co) <| ZI rfl ⟨g10, 0, none⟩ (.agg (ZE X.2)) (Xq KD) ?_
      simp only [pu]
      refine Zh (by kernel_rfl) (some 28) rfl 43 1 #[(0, .tmp 27)] rfl #[(0, .agg (ZE X.2))] (by kernel_rfl) (.slice (some ⟨gz, 0, none⟩) 1 1) _ hbu ?_
      simp only [pu]
      refine Y4 rfl (some 29) rfl 43 rfl (.tmp 26) (.tmp 28) 43 rfl (.slice ao (Q j).length co) (.slice (some ⟨gz, 0, none⟩) 1 1) (.slice a9 (Q j ++ [X.2]).length c9) Va (by kernel_rfl) (by kernel_rfl) hap ?_
      simp only [pu]
      refine ZV (.slice a9 (Q j ++ [X.2]).length c9) <| wn ?_
      simp only [pu]
      clear hap hbu KD hR9 hro hgz
      go_upto_region 8 with fail
      refine wl <| YN (Z8 (j + 1 : Nat)) (ZK rfl j 1 (by omega)) <| ZV (Z8 (j + 1 : Nat)) <| wn ?_
      simp only [pu]
      go_wp2_with fail
      go_roundg (E.length - (j + 1))
      case measure => have := HG2.out; omega
      case rel => exact ⟨j + 1, _, a2, k2, rfl, rfl, hlt, by rw [vV.out]; exact hkt, Z9 (by rw [vV.out]; exact hCa), Z9 (by rw [vV.out]; exact ac5), Z9 (by rw [vV.out]; exact Vl.below HG.out.2.1 hba), Z9 (by rw [HQS.out]; exact hRa), Z9 (Ws.trans (hba.mono HG.out.2.2)), Z9 (Nat.le_trans hs9 hba.size), rfl⟩
    · skip
      obtain rfl : E.length = j := by omega
      obtain ⟨hst3, RD⟩ := ZJ (a' := ad) (n' := (U E.length).1.length) (k' := k) (c' := (U E.length).2) HX.out
      have XW := But.setRow (g := g6) wr (ZU ad (U E.length).1.length k (U E.length).2)
      have fC := Zv HR.out XW HG.out.2.1
      have Fg := ZT HB.out HG.out.1 (ZU ad (U E.length).1.length k (U E.length).2)
      have Au := WZ HC.out XW (fun h x hx => (Vo.out h x hx).1)
      have HE : Hid (fD w (U E.length) (Q E.length) (.returned (.tuple #[.agg (ZU ad (U E.length).1.length k (U E.length).2), u7])) (wr.setRow g6 (ZU ad (U E.length).1.length k (U E.length).2))) := Z9 ⟨ad, k, _, rfl, Au, hk, own_base fC HG.out.2.2, Fg⟩
      generalize wr.setRow g6 (ZU ad (U E.length).1.length k (U E.length).2) = V3 at *
      clear XW fC Fg Au
      go_upto_region 3 with fail
      refine wl <| ZM (ZC rfl (E.length) (E.length) dF) <| wn ?_
      simp only [pu]
      go_upto_region 9 with fail
      refine wl <| ZI rfl ⟨g6, 0, none⟩ (.agg (ZU ad (U E.length).1.length k (U E.length).2)) (ZQ HX.out) <| ZV (u7) <| Zt rfl (hst3) <| ZV (u7) <| wn ?_
      simp only [pu]
      go_wp2_with fail
      exact bodyPost_ret (ZP rfl (by kernel_rfl) (ZQ RD) rfl) rfl HE.out
end Go.Proofs.Ytnhlpahoomcgnaa.Lg
namespace Go.Proofs.Ytnhlpahoomcgnaa.Lg
open Mo (Zd Zm YL YU)
open Go.RowKit
def oC (w : World) (X : (List Ac × Int) × Nat × Int) (e : Ending) (w' : World) : Prop := ∃ ad k, e = .returned (.tuple #[.agg (ZU ad X.1.1.length k X.1.2), Z8 (X.2.1 : Int), Z8 X.2.2]) ∧ Cs w' ad (acc X.1.1) ∧ X.1.1.length ≤ k ∧ Below w.heap.size w w'
theorem WM {fn : Func} {tmps : Array Value} {w : World} {p ty g q1 q2 : Nat} {v u1 u2 : Value} (hr : fn.results = #[.cell p ty, .tmp q1, .tmp q2]) (h2 : tmps.getD p undef = Z5 g 0) (hl : (Instr.loadAt ty (Z5 g 0)).run Try.prog w = .ok v w) (h3 : tmps.getD q1 undef = u1) (h4 : tmps.getD q2 undef = u2) : (results fn tmps).run Try.prog w = .ok (.tuple #[v, u1, u2]) w := by
 unfold results
 rw [hr]
 have h2' : tmps[p]?.getD undef = Z5 g 0 := by simpa using h2
 have h3' : tmps[q1]?.getD undef = u1 := by simpa using h3
 have h4' : tmps[q2]?.getD undef = u2 := by simpa using h4
 have hl' := hl
 simp only [Instr.loadAt, Instr.sureAddr, Sem.run_bind, Sem.run_pure, Result.andThen_ok] at hl'
 simp [h2', h3', h4', asAddr, hl', Result.andThen]
theorem ac4 {A : List Ac} {c p : Int} {E : List Bs} {j : Nat} (h : j < E.length) : (Vq (Yu A c p (lsB E) j).1 (Yu A c p (lsB E) j).2 p (QI E j).2.2).2 = Vj A c p (lsB E) j := by unfold Vj; rw [MZ h]
end Go.Proofs.Ytnhlpahoomcgnaa.Lg
namespace Go.Proofs.Ytnhlpahoomcgnaa.Lg
attribute [local irreducible] wpList wpQuiet
open Mo (Zd Zm YL YU)
open Go.RowKit
theorem AP (A : List Ac) (c p : Int) (E : List Bs) (la ra : Option Addr) (lk rc : Nat) (w : World) (hL : Cs w la (acc A)) (hlk : A.length ≤ lk) (hd : QZ A c) (hp : W64 p) (hE : MG w ra E) (hn : E.length ≤ 100000) :
  Calls Try.prog 30 #[.agg (ZU la A.length lk c), Z7 p, .slice ra E.length rc] w (oC w (TF A c p (lsB E))) := by
 obtain ⟨hb0, Vt, Tm⟩ := Zi w (ZU la A.length lk c) (ZU none 0 0 0) 33 33
 obtain ⟨C, hC⟩ : ∃ C : Nat → Int, ∀ j, C j = (Vj A c p (lsB E) j).code := ⟨_, fun _ => rfl⟩
 have CL := fH la lk A c _ (hL.below hb0) hd.n
 have TI := Z9 hn
 have mP := Z9 hp
 have vZ := Z9 hE
 have HRD : Hid (∀ j, j ≤ E.length → QZ (Yu A c p (lsB E) j).1 (Yu A c p (lsB E) j).2) := Z9 fun j hj => hd.run hp hE.all j (by rw [Yq]; exact hj)
 have yG : Hid (∀ j, j < E.length → Yu A c p (lsB E) (j + 1) = (Vq (Yu A c p (lsB E) j).1 (Yu A c p (lsB E) j).2 p (QI E j).2.2).1) := Z9 fun j hj => by rw [UQ (by rw [Yq]; exact hj), MZ hj]
 have HRQ : Hid (∀ j, j < E.length → (Vq (Yu A c p (lsB E) j).1 (Yu A c p (lsB E) j).2 p (QI E j).2.2).2.code = C j) := Z9 fun j hj => by rw [ac4 hj, hC]
 have HR0 : Hid (Yu A c p (lsB E) 0 = (A, c)) := Z9 rfl
 have Tz : Hid (∀ i, i < E.length → (∀ j, j < i → C j = 0) → C i ≠ 0 → TF A c p (lsB E) = (([], 0), i, C i)) := Z9 fun i hi hb he => by rw [wH (by rw [Yq]; exact hi) (fun j hj => by rw [← hC]; exact hb j hj) (by rw [← hC]; exact he), hC]
 have HSO : Hid ((∀ j, j < E.length → C j = 0) → TF A c p (lsB E) = (Yu A c p (lsB E) E.length, 0, 0)) := Z9 fun hb => by rw [Ey (fun j hj => by rw [← hC]; exact hb j (by rw [Yq] at hj; exact hj)), Yq]
 generalize TF A c p (lsB E) = SX at *
 generalize Yu A c p (lsB E) = U at *
 clear hL hd hp hE hC
 go_enter Try.func30, Try.ntmps30
 go_upto_region 1 with fail
 change Code.wp _ _ _ _ ((w.alloc (.cells (ZU la A.length lk c) 33)).alloc (.cells (ZU none 0 0 0) 33))
 generalize (w.alloc (.cells (ZU la A.length lk c) 33)).alloc (.cells (ZU none 0 0 0) 33) = W at *
 obtain ⟨g3, hg3⟩ := ZR w.heap.size
 obtain ⟨g6, Vk⟩ := ZR (g3 + 1)
 rw [hg3] at Vt
 rw [show w.heap.size + 1 = g6 by omega] at Tm
 have HG : Hid (w.heap.size ≤ g6 ∧ g6 < W.heap.size ∧ w.heap.size ≤ W.heap.size) := Z9 ⟨by omega, Tm.lt, hb0.size⟩
 simp only [hg3]
 simp only [Vk]
 have HB0 := Z9 hb0
 have Wu := Z9 Vt
 have VJ := Z9 Tm
 clear hb0 hg3 Vk Vt Tm
 refine wl <| ZI rfl ⟨g3, 0, none⟩ (.agg (ZU la A.length lk c)) (ZQ Wu.out) <|
  Yl (fun v w' => ∃ ad k, v = .agg (ZU ad A.length k c) ∧ ZB w' W.heap.size (.slice ad A.length k) A ∧ Below W.heap.size W w') (CL.mono fun e w' q => by obtain ⟨ad, k, h1, h2⟩ := q; exact ⟨_, h1, ad, k, rfl, h2⟩) (fun vv V1 hq => ?_)
 obtain ⟨a1, k1, rfl, hr1, hb1⟩ := hq
 obtain ⟨ad9, c9, e9, hc1, hk1⟩ := hr1.cs
 obtain ⟨rfl, -, rfl⟩ := by simpa only [Value.slice.injEq] using e9
 obtain ⟨hst1, hX1⟩ := ZJ (a' := a1) (n' := A.length) (k' := k1) (c' := c) (VJ.out.below VJ.out.lt hb1)
 have AO : But g6 V1 (V1.setRow g6 (ZU a1 A.length k1 c)) := But.setRow V1 (ZU a1 A.length k1 c)
 have I4 : acc A ≠ [] → ∀ x, a1 = some x → x.block ≠ g6 := fun _ x hx => by have := Nb hr1 x hx; have := HG.out.2.1; omega
 have hc2 := WZ hc1 AO I4
 have hb2 := ZT (HB0.out.trans (hb1.mono HB0.out.size)) HG.out.1 (ZU a1 A.length k1 c)
 have hs2 : W.heap.size ≤ (V1.setRow g6 (ZU a1 A.length k1 c)).heap.size := by rw [size_setRow]; exact hb1.size
 simp only [pu]
 refine Zt rfl (hst1) <| wn ?_
 generalize V1.setRow g6 (ZU a1 A.length k1 c) = W1 at *
 have HB1 := Z9 hb2
 have XP := Z9 hX1
 have fG := Z9 hc2
 have AL := Z9 hs2
 have AB := Z9 I4
 have hk2 := hk1
 clear hst1 hX1 hc2 hb2 hs2 I4 AO hr1 hb1 hc1 hk1 HB0 Wu VJ CL e9
 go_upto_region 2 with fail
 refine wl <| YT (.slice ra E.length rc) (Z8 E.length) (Z8 0) <| wn ?_
 simp only [pu]
 go_wp2_with fail
 go_loopg [16] E.length (fun gg s16 wx => ∃ (j : Nat) (ad : Option Addr) (k : Nat), s16 = Z8 j ∧ j ≤ E.length ∧ (U j).1.length ≤ k ∧ Hid (∀ i, i < j → C i = 0) ∧ Hid (Cs wx ad (acc (U j).1)) ∧ Hid (acc (U j).1 ≠ [] → ∀ x, ad = some x → x.block ≠ g6) ∧ Hid (Bx wx g6 (ZU ad (U j).1.length k (U j).2) 33) ∧ Hid (Below w.heap.size w wx) ∧ Hid (W.heap.size ≤ wx.heap.size) ∧ E.length - j = gg)
 case atStart => exact ⟨0, a1, k1, rfl, by omega, by rw [HR0.out]; exact hk2, Z9 (fun i hi => absurd hi (Nat.not_lt_zero i)), by rw [HR0.out]; exact fG, by rw [HR0.out]; exact AB, by rw [HR0.out]; exact XP, HB1, AL, by omega⟩
 case round =>
  obtain ⟨j, ad, k, rfl, hj, hk, HCZ, HC, Vo, HX, HB, H9, hg⟩ := hrel
  clear fG AB XP HB1 AL hk2
  have EO := TI.out
  by_cases hlt : j < E.length
  ·obtain ⟨b, off, rfl, hld⟩ := (vZ.out.below HB.out).at hlt
   have Y0 := Z9 hld
   have AA := HRD.out j hj
   have vY := GU hlt
   have IZ := (Below.refl _ wr).alloc (Nat.le_refl _) (.cells (ZE (YG 0)) 61)
   have vX : Bx (wr.alloc (.cells (ZE (YG 0)) 61)) wr.heap.size (ZE (YG 0)) 61 := heap_alloc_last wr _
   have CT := vW (U j).1 (U j).2 p (QI E j).2.2 ad (QI E j).1 k (QI E j).2.1 _ (HC.out.below IZ) hk AA.n AA.cw AA.w AA.z mP.out (ZH (ZH (vZ.out.sl _ vY) HB.out) IZ) (vZ.out.le _ vY) (vZ.out.b _ vY)
   have vV := Z9 (yG.out j hlt)
   have HQC := Z9 (HRQ.out j hlt)
   generalize Vq (U j).1 (U j).2 p (QI E j).2.2 = X at *
   generalize QI E j = y at *
   have HG2 := Z9 hg
   obtain ⟨V0, hV0⟩ := ZR (wr.alloc (.cells (ZE (YG 0)) 61))
   rw [hV0] at CT IZ vX
   clear hld AA vY hg
   go_upto_region 3 with fail
   refine wl <| ZM (ZC rfl (j) (E.length) dT) <| wn ?_
   simp only [pu]
   go_upto_region 4 with fail
   refine wl <| ZV (Z8 j) <| YO (Z5 b (off + j * 1)) (Az b off E.length rc j hlt _ _ _ rfl (by kernel_rfl) (by kernel_rfl)) <| ZI rfl ⟨b, off + j * 1, none⟩ (.slice y.1 y.2.2.length y.2.1) (Y0.out) <| ZG (Z8 j) (.slice y.1 y.2.2.length y.2.1) <|
    wpList_nil ?_
   simp only [pu]
   go_upto_region 5 with fail
   apply wp_region_lit
   refine Zz rfl (some 11) rfl (Z5 wr.heap.size 0) (wr.alloc (.cells (ZE (YG 0)) 61)) (by kernel_rfl) ?_
   simp only [pu]
   rw [hV0]
   apply wpList_nil
   obtain ⟨g11, Oy⟩ := ZR wr.heap.size
   rw [Oy] at vX ⊢
   have oz := Z9 vX
   have FW := Z9 IZ
   have Vw : Hid (g6 < g11 ∧ W.heap.size ≤ g11 ∧ wr.heap.size = g11) := Z9 ⟨by have := HG.out.2.1; have := H9.out; omega, by have := H9.out; omega, Oy⟩
   clear vX IZ Oy hV0
   go_upto_region 6 with fail
   refine wl <| ZI rfl ⟨g6, 0, none⟩ (.agg (ZU ad (U j).1.length k (U j).2)) (ZQ (HX.out.below HX.out.lt FW.out)) <| ZG (Z7 p) (.slice y.1 y.2.2.length y.2.1) <|
    Yl (fun v w' => ∃ aZ kZ, v = .tuple #[.agg (ZU aZ X.1.1.length kZ X.1.2), .agg (ZE X.2)] ∧ Cs w' aZ (acc X.1.1) ∧ X.1.1.length ≤ kZ ∧ ((aZ = ad ∧ X.1.1 = (U j).1) ∨ ∀ x, aZ = some x → V0.heap.size ≤ x.block) ∧ Below V0.heap.size V0 w') (CT.mono fun e w' q => by obtain ⟨aZ, kZ, h1, h2⟩ := q; exact ⟨_, h1, aZ, kZ, rfl, h2⟩) (fun vv V2 hq => ?_)
   obtain ⟨a2, k2, rfl, hct, hkt, hbl, hbt⟩ := hq
   have hbW := FW.out.trans (hbt.mono FW.out.size)
   have PD : acc X.1.1 ≠ [] → ∀ x, a2 = some x → x.block ≠ g6 ∧ x.block ≠ g11 := fun hne x hx => by
    rcases hbl with ⟨e1, e2⟩ | h9
    ·rw [e1] at hx; rw [e2] at hne
     have h3 := Oz HC.out hne x hx
     exact ⟨Vo.out hne x hx, by have := Vw.out.2.2; omega⟩
    ·have h10 := h9 x hx
     have h12 := Vw.out.1
     have h14 := oz.out.lt
     exact ⟨by omega, by omega⟩
   obtain ⟨hst3, RD⟩ := ZJ (a' := a2) (n' := X.1.1.length) (k' := k2) (c' := X.1.2) (HX.out.below HX.out.lt hbW)
   have XW : But g6 V2 (V2.setRow g6 (ZU a2 X.1.1.length k2 X.1.2)) := But.setRow V2 (ZU a2 X.1.1.length k2 X.1.2)
   have Aw := (oz.out.below oz.out.lt hbt).but XW (by have := Vw.out.1; omega)
   have Au := WZ hct XW (fun h x hx => (PD h x hx).1)
   have Fg := ZT (HB.out.trans (hbW.mono HB.out.size)) HG.out.1 (ZU a2 X.1.1.length k2 X.1.2)
   have hs8 : W.heap.size ≤ (V2.setRow g6 (ZU a2 X.1.1.length k2 X.1.2)).heap.size := by rw [size_setRow]; exact Nat.le_trans H9.out hbW.size
   generalize V2.setRow g6 (ZU a2 X.1.1.length k2 X.1.2) = V8 at *
   obtain ⟨Pz, KD⟩ := XF (q := X.2) Aw
   have YA : But g11 V8 (V8.setRow g11 (ZE X.2)) := But.setRow V8 (ZE X.2)
   have Vl := RD.but YA (by have := Vw.out.1; omega)
   have lT := WZ Au YA (fun h x hx => (PD h x hx).2)
   have Ws := ZT (g := g11) Fg (by have := Vw.out.1; have := HG.out.1; omega) (ZE X.2)
   have hs9 : W.heap.size ≤ (V8.setRow g11 (ZE X.2)).heap.size := by rw [size_setRow]; exact hs8
   generalize V8.setRow g11 (ZE X.2) = V9 at *
   clear Aw RD Au Fg hs8 XW YA hbl hct hbt hbW CT
   simp only [pu]
   refine YT (.tuple #[.agg (ZU a2 X.1.1.length k2 X.1.2), .agg (ZE X.2)]) (.agg (ZU a2 X.1.1.length k2 X.1.2)) (.agg (ZE X.2)) <| Zt rfl (hst3) <| Zt rfl (Pz) <| wn ?_
   simp only [pu]
   have hcd : (Instr.loadAt 36 (Z5 g11 0)).run Try.prog V9 = .ok (Z8 X.2.code) V9 := KD.ZN 0
   clear hst3 Pz HC Vo HX HB H9 Y0
   by_cases hq0 : X.2.code = 0
   ·go_upto_region 7 with fail
    refine wl <| ZV (Z5 g11 0) <| ZI rfl ⟨g11, 0, none⟩ (Z8 X.2.code) (hcd) <| ZM (YZ rfl X.2.code 0 (decide_eq_true hq0)) <| wn ?_
    simp only [pu]
    go_upto_region 9 with fail
    refine wl <| YN (Z8 (j + 1 : Nat)) (ZK rfl j 1 (by omega)) <| ZV (Z8 (j + 1 : Nat)) <| wn ?_
    simp only [pu]
    clear hcd KD
    go_wp2_with fail
    go_roundg (E.length - (j + 1))
    case measure => have := HG2.out; omega
    case rel => exact ⟨j + 1, a2, k2, rfl, hlt, by rw [vV.out]; exact hkt, Z9 (fun i hi => by rcases Nat.lt_succ_iff_lt_or_eq.1 hi with h | h; exact HCZ.out i h; rw [h, ← HQC.out]; exact hq0), Z9 (by rw [vV.out]; exact lT), Z9 (by rw [vV.out]; exact fun h x hx => (PD h x hx).1), Z9 (by rw [vV.out]; exact Vl), Z9 Ws, Z9 hs9, rfl⟩
   ·go_upto_region 7 with fail
    refine wl <| ZV (Z5 g11 0) <| ZI rfl ⟨g11, 0, none⟩ (Z8 X.2.code) (hcd) <| ZM (YZ rfl X.2.code 0 (decide_eq_false hq0)) <| wn ?_
    simp only [pu]
    have hss := Tz.out j hlt HCZ.out (by rw [← HQC.out]; exact hq0)
    rw [← HQC.out] at hss
    obtain ⟨W0, hW0⟩ := ZR V9.drew
    have Uk : Bx W0 g6 (ZU a2 X.1.1.length k2 X.1.2) 33 := by rw [← hW0]; exact Vl
    have hcd0 : (Instr.loadAt 36 (Z5 g11 0)).run Try.prog W0 = .ok (Z8 X.2.code) W0 := by rw [← hW0]; exact Bx.load (w := V9.drew) (i := 0) (KD : Bx V9.drew g11 (ZE X.2) 61) rfl (by kernel_rfl)
    obtain ⟨hsS, hZ1⟩ := ZJ (a' := none) (n' := 0) (k' := 0) (c' := 0) Uk
    have hB1 : Below w.heap.size w (W0.setRow g6 (ZU none 0 0 0)) := ZT (by rw [← hW0]; exact Ws.drew) HG.out.1 (ZU none 0 0 0)
    have hcd1 : (Instr.loadAt 36 (Z5 g11 0)).run Try.prog (W0.setRow g6 (ZU none 0 0 0)) = .ok (Z8 X.2.code) (W0.setRow g6 (ZU none 0 0 0)) := Bx.load (i := 0) (Bx.but (w := W0) (by rw [← hW0]; exact KD) (But.setRow (g := g6) W0 _) (by have := Vw.out.1; omega)) rfl (by kernel_rfl)
    generalize W0.setRow g6 (ZU none 0 0 0) = W1 at *
    have h0 : V9.drew = cond false W1 W0 := hW0
    have HE : Hid (oC w SX (.returned (.tuple #[.agg (ZU none 0 0 0), Z8 j, Z8 X.2.code])) W1) := Z9 (by rw [hss]; exact ⟨none, 0, rfl, Cs.nil _ _, Nat.le_refl _, hB1⟩)
    clear hss hcd Vl KD Ws lT hB1 Uk
    go_upto_region 8 with fail
    refine Y5 (fun listed Zr V => ∃ b0 b1 b2 b3 b4 b5 b6 : Bool, listed = #[b0, b1, b2, b3, b4, b5, b6] ∧ Zr = { tmps := #[.agg (ZU la A.length lk c), Z7 p, .slice (some ⟨b, off, none⟩) E.length rc, Z5 g3 0, undef, undef, Z5 g6 0, (cond b5 (Z8 j) (u7)), (cond b6 (Z8 X.2.code) (u8)), Z8 j, .slice y.1 y.2.2.length y.2.1, Z5 g11 0, .agg (ZU la A.length lk c), .agg (ZU a1 A.length k1 c), .slice (some ⟨b, off, none⟩) E.length rc, Z8 E.length, Z8 j, Z4, Z8 j, Z5 b (off + j * 1), .slice y.1 y.2.2.length y.2.1, .tuple #[.agg (ZU a2 X.1.1.length k2 X.1.2), .agg (ZE X.2)], .agg (ZU ad (U j).1.length k (U j).2), Z7 p, .slice y.1 y.2.2.length y.2.1, .tuple #[.agg (ZU a2 X.1.1.length k2 X.1.2), .agg (ZE X.2)], .agg (ZU a2 X.1.1.length k2 X.1.2), .agg (ZE X.2), Z5 g11 0, Z8 X.2.code, Z4, (cond b0 (.agg (ZU none 0 0 0)) (u31)), (cond b1 (Z8 j) (u32)), (cond b2 (Z5 g11 0) (u33)), (cond b3 (Z8 X.2.code) (u34)), u35, undef], defers := [] } ∧ V = cond b4 W1 W0) (by kernel_rfl) (by kernel_rfl) ?_ ?_ ?_
    ·exact ⟨_, _, _, _, _, _, _, rfl, rfl, h0⟩
    ·intro i9 listed Zr V hi9 hr hJ
     obtain ⟨b0, b1, b2, b3, b4, b5, b6, rfl, rfl, hF⟩ := hJ
     have hi2 : i9 < 7 := hi9
     have hi3 : i9 = 0 ∨ i9 = 1 ∨ i9 = 2 ∨ i9 = 3 ∨ i9 = 4 ∨ i9 = 5 ∨ i9 = 6 := by omega
     rcases hi3 with rfl | rfl | rfl | rfl | rfl | rfl | rfl
     ·obtain rfl : b0 = false := ZX hr
      refine ZO rfl (by kernel_rfl) (some 31) rfl (.agg (ZU none 0 0 0)) V (by kernel_rfl) ?_
      exact ⟨_, _, _, _, _, _, _, rfl, rfl, hF⟩
     ·obtain rfl : b1 = false := ZX hr
      refine ZO rfl (by kernel_rfl) (some 32) rfl (Z8 j) V (by kernel_rfl) ?_
      exact ⟨_, _, _, _, _, _, _, rfl, rfl, hF⟩
     ·obtain rfl : b2 = false := ZX hr
      refine ZO rfl (by kernel_rfl) (some 33) rfl (Z5 g11 0) V (by kernel_rfl) ?_
      exact ⟨_, _, _, _, _, _, _, rfl, rfl, hF⟩
     ·obtain rfl : b3 = false := ZX hr
      obtain rfl : b2 = true := ZW hr 2
      refine Y7 rfl (by kernel_rfl) (some 34) rfl 36 (.tmp 33) rfl ⟨g11, 0, none⟩ (Z8 X.2.code) (by kernel_rfl) (by rw [hF]; cases b4; exact hcd0; exact hcd1) ?_
      exact ⟨_, _, _, _, _, _, _, rfl, rfl, hF⟩
     ·obtain rfl : b4 = false := ZX hr
      obtain rfl : b0 = true := ZW hr 0
      refine XI rfl (by kernel_rfl) rfl 33 (.tmp 6) (.tmp 31) rfl (Z5 g6 0) (.agg (ZU none 0 0 0)) (by kernel_rfl) (by kernel_rfl) W1 (by rw [show V = W0 from hF]; exact hsS) ?_
      exact ⟨_, _, _, _, _, _, _, rfl, rfl, rfl⟩
     ·obtain rfl : b5 = false := ZX hr
      obtain rfl : b1 = true := ZW hr 1
      obtain rfl : b4 = true := ZW hr 4
      refine ZO rfl (by kernel_rfl) (some 7) rfl (Z8 j) V (by kernel_rfl) ?_
      exact ⟨_, _, _, _, _, _, _, rfl, rfl, hF⟩
     ·obtain rfl : b6 = false := ZX hr
      obtain rfl : b3 = true := ZW hr 3
      obtain rfl : b5 = true := ZW hr 5
      refine ZO rfl (by kernel_rfl) (some 8) rfl (Z8 X.2.code) V (by kernel_rfl) ?_
      exact ⟨_, _, _, _, _, _, _, rfl, rfl, hF⟩
    ·intro Zr V hJ
     obtain ⟨b0, b1, b2, b3, b4, b5, b6, he, rfl, hF⟩ := hJ
     have he : (#[true, true, true, true, true, true, true] : Array Bool) = #[b0, b1, b2, b3, b4, b5, b6] := he
     simp only [Array.mk.injEq, List.cons.injEq, and_true] at he
     obtain ⟨rfl, rfl, rfl, rfl, rfl, rfl, rfl⟩ := he
     simp only [cond_true]
     have hVW : V = W1 := hF
     rw [hVW]
     clear hVW hF h0
     go_wp2_with fail
     exact bodyPost_ret (WM rfl (by kernel_rfl) (ZQ hZ1) rfl rfl) rfl HE.out
  ·obtain rfl : E.length = j := by omega
   have hss := HSO.out HCZ.out
   obtain ⟨hst3, RD⟩ := ZJ (a' := ad) (n' := (U E.length).1.length) (k' := k) (c' := (U E.length).2) HX.out
   have XW := But.setRow (g := g6) wr (ZU ad (U E.length).1.length k (U E.length).2)
   have Fg := ZT HB.out HG.out.1 (ZU ad (U E.length).1.length k (U E.length).2)
   have Au := WZ HC.out XW Vo.out
   have HE : Hid (oC w SX (.returned (.tuple #[.agg (ZU ad (U E.length).1.length k (U E.length).2), Z8 0, Z8 0])) (wr.setRow g6 (ZU ad (U E.length).1.length k (U E.length).2))) := Z9 (by rw [hss]; exact ⟨ad, k, rfl, Au, hk, Fg⟩)
   generalize wr.setRow g6 (ZU ad (U E.length).1.length k (U E.length).2) = V3 at *
   clear XW Fg Au hss
   go_upto_region 3 with fail
   refine wl <| ZM (ZC rfl (E.length) (E.length) dF) <| wn ?_
   simp only [pu]
   go_upto_region 10 with fail
   refine wl <| ZI rfl ⟨g6, 0, none⟩ (.agg (ZU ad (U E.length).1.length k (U E.length).2)) (ZQ HX.out) <| Zt rfl (hst3) <| ZG (Z8 0) (Z8 0) <| wn ?_
   simp only [pu]
   go_wp2_with fail
   exact bodyPost_ret (WM rfl (by kernel_rfl) (ZQ RD) rfl rfl) rfl HE.out
end Go.Proofs.Ytnhlpahoomcgnaa.Lg
