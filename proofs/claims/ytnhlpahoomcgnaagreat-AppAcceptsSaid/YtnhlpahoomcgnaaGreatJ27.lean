/-
  Texts joined.
-/
import Derived.Test.YtnhlpahoomcgnaaGreatJ26
set_option maxRecDepth 100000
set_option maxHeartbeats 8000000
set_option linter.unusedSimpArgs false
set_option linter.unusedVariables false
namespace Go.Proofs.YtnhlpahoomcgnaaGreat.Lg
attribute [local irreducible] wpList wpQuiet
open Mo (YU Y9 Ym Yz)
open Go.RowKit
theorem cu (D:X0)(l0 l1 l2:Lo)(R:List Int)(ra:Option Addr)(rc:Nat)(w:World)(hI:XR w D l0 l1 l2)(hW:Uh D)(hR:Sl w ra rc R)(hrc:R.length<=rc)(h8:∀ y,y∈R->W8 y) :
  Calls Tryz.prog 12 #[.agg (ZM D l0 l1 l2),.slice ra R.length rc] w (fun e w'=>e=.returned (.agg (ZI (Pq D R)))/\Below w.heap.size w w'):=by
 obtain⟨hb0,hX2,YA⟩:=Zk w (ZM D l0 l1 l2) (ZI (YR 0)) 31 40;have hR0:=ZK hR hb0;have CT:=fun V hl hr=>NU D.k.1 D.k.2 D.p R l1.a ra l1.k rc V hl hI.k.le hW.k.n hW.k.cw hW.k.w hW.k.z hW.p hr hrc h8;have P6:Hid (Pq D R=(WZ D.k.1 D.k.2 D.p R).2):=Z9 rfl;generalize WZ D.k.1 D.k.2 D.p R=X at *
 rw[P6.out];clear hR h8 hrc P6;go_enter Tryz.func12,Tryz.ntmps12;go_upto_region 1 with fail;change Code.wp _ _ _ _ ((w.alloc (.cells (ZM D l0 l1 l2) 31)).alloc (.cells (ZI (YR 0)) 40));generalize (w.alloc (.cells (ZM D l0 l1 l2) 31)).alloc (.cells (ZI (YR 0)) 40)=W at *
 obtain⟨g2,hg2⟩:=ZR w.heap.size;obtain⟨g4,hg4⟩:=ZR (g2+1);have HB0:=Z9 hb0;rw[show w.heap.size+1=g4 by omega] at YA;have HG:Hid (w.heap.size<=g2/\w.heap.size<=g4/\g2≠g4/\g4≠g2):=Z9 (by omega);rw[hg2] at hX2;simp only[hg2];simp only[hg4];have YK:=Z9 hX2;have YV:=Z9 YA;have HI:=Z9 (hI.below hb0);clear hb0 hg2 hg4 hX2 YA hI;have MX:=CT W HI.out.k.cs hR0;clear CT hR0 hW;refine wl<|ZV (Z5 g2 2)<|ZL rfl ⟨g2,2,none⟩ (.agg (ZU l1.a D.k.1.length l1.k D.k.2)) (DR YK.out)<|ZV (Z5 g2 7)<|ZL rfl ⟨g2,7,none⟩ (Z4 D.p) (YK.out.ZP 7)<|ZV (.slice ra R.length rc) <|
  Yi (fun v w'=>∃ aZ kZ,v=.tuple #[.agg (ZU aZ X.1.1.length kZ X.1.2),.agg (ZI X.2)]/\Cs w' aZ (acc X.1.1)/\X.1.1.length<=kZ/\((aZ=l1.a/\X.1.1=D.k.1)∨∀ x,aZ=some x->W.heap.size<=x.block)/\Below W.heap.size W w') (MX.mono fun e w' q=>by obtain⟨ad,k,h1,h2⟩:=q; exact⟨_,h1,ad,k,rfl,h2⟩) (fun vv W1 hq=>?_)
 obtain⟨ad,k,rfl,hcs,hk,-,hb1⟩:=hq;obtain⟨Va,Vb,Vc,Oq,hlt,hs6,hs7,hb7,hx4,hx5⟩:=JW W1 ad X.1.1.length k X.1.2 X.2;refine Yr (.tuple #[.agg (ZU ad X.1.1.length k X.1.2),.agg (ZI X.2)]) (.agg (ZU ad X.1.1.length k X.1.2)) (.agg (ZI X.2)) ?_;refine Zy rfl (some 5) rfl (Z5 W1.heap.size 0) (W1.alloc (.cells (ZU none 0 0 0) 29)) (by kernel_rfl) ?_;simp only[pu];rw[Oq];refine Zy rfl (some 6) rfl (Z5 Va.heap.size 0) (Va.alloc (.cells (ZI (YR 0)) 40)) (by kernel_rfl) ?_;refine Zu rfl (hs6)<|Zu rfl (hs7)<|wn ?_;have TK:=hb1.trans (hb7.mono hb1.size);obtain⟨YT,WJ⟩:=XY (q:=X.2) (YV.out.below YV.out.lt TK);have HE:Hid (Below w.heap.size w (Vc.setRow g4 (ZI X.2))):=Z9 (ZQ (HB0.out.trans (TK.mono HB0.out.size)) HG.out.2.1 _);obtain⟨g6,WG⟩:=ZR Va.heap.size;rw[WG] at hx5 ⊢;generalize Vc.setRow g4 (ZI X.2)=V9 at *
 clear hcs hb1 Oq hs6 hs7 hb7 hx4 TK WG MX;go_upto_region 2 with fail;refine wl<|ZL rfl ⟨g6,0,none⟩ (.agg (ZI X.2)) (Yg hx5)<|Zu rfl (YT)<|wn ?_;simp only[pu];go_wp2_with fail;exact bodyPost_ret (YB rfl (by kernel_rfl) (Yg WJ)) rfl ⟨rfl,HE.out⟩
theorem lJ (D:X0)(l0 l1 l2:Lo)(R:List Int)(ra:Option Addr)(rc:Nat)(w:World)(hI:XR w D l0 l1 l2)(hW:Uh D)(hR:Sl w ra rc R)(hrc:R.length<=rc)(h8:∀ y,y∈R->W8 y) :
  Calls Tryz.prog 14 #[.agg (ZM D l0 l1 l2),.slice ra R.length rc] w (kQ w (Pv D R)):=by
 obtain⟨hb0,hX2,YA⟩:=Zk w (ZM D l0 l1 l2) #[.slice none 0 0,Z4 0,.slice none 0 0,Z4 0,.slice none 0 0,Z4 0,ZY,Z4 0] 31 31;have hR0:=ZK hR hb0;have CT:=fun V hl hr=>NU D.k.1 D.k.2 D.p R l1.a ra l1.k rc V hl hI.k.le hW.k.n hW.k.cw hW.k.w hW.k.z hW.p hr hrc h8;have HA:=Z9 (hW.acc h8);have P6:Hid ({ D with k:=(WZ D.k.1 D.k.2 D.p R).1 }=Pv D R):=Z9 rfl;generalize Pv D R=D2 at *
 generalize WZ D.k.1 D.k.2 D.p R=X at *
 clear hR h8 hrc;go_enter Tryz.func14,Tryz.ntmps14;go_upto_region 1 with fail;change Code.wp _ _ _ _ ((w.alloc (.cells (ZM D l0 l1 l2) 31)).alloc (.cells #[.slice none 0 0,Z4 0,.slice none 0 0,Z4 0,.slice none 0 0,Z4 0,ZY,Z4 0] 31));generalize (w.alloc (.cells (ZM D l0 l1 l2) 31)).alloc (.cells #[.slice none 0 0,Z4 0,.slice none 0 0,Z4 0,.slice none 0 0,Z4 0,ZY,Z4 0] 31)=W at *
 obtain⟨g2,hg2⟩:=ZR w.heap.size;obtain⟨g4,hg4⟩:=ZR (g2+1);have HB0:=Z9 hb0;rw[show w.heap.size+1=g4 by omega] at YA;have HG:Hid (w.heap.size<=g2/\w.heap.size<=g4/\g2≠g4/\g4≠g2):=Z9 (by omega);rw[hg2] at hX2;simp only[hg2];simp only[hg4];have YK:=Z9 hX2;have YV:=Z9 YA;have HI:=Z9 (hI.below hb0);clear hb0 hg2 hg4 hX2 YA hI;have MX:=CT W HI.out.k.cs hR0;clear CT hR0 hW;refine wl<|ZV (Z5 g2 2)<|ZL rfl ⟨g2,2,none⟩ (.agg (ZU l1.a D.k.1.length l1.k D.k.2)) (DR YK.out)<|ZV (Z5 g2 7)<|ZL rfl ⟨g2,7,none⟩ (Z4 D.p) (YK.out.ZP 7)<|ZV (.slice ra R.length rc) <|
  Yi (fun v w'=>∃ aZ kZ,v=.tuple #[.agg (ZU aZ X.1.1.length kZ X.1.2),.agg (ZI X.2)]/\Cs w' aZ (acc X.1.1)/\X.1.1.length<=kZ/\((aZ=l1.a/\X.1.1=D.k.1)∨∀ x,aZ=some x->W.heap.size<=x.block)/\Below W.heap.size W w') (MX.mono fun e w' q=>by obtain⟨ad,k,h1,h2⟩:=q; exact⟨_,h1,ad,k,rfl,h2⟩) (fun vv W1 hq=>?_)
 obtain⟨ad,k,rfl,hcs,hk,-,hb1⟩:=hq;obtain⟨V2,hst2,hY2,hb2,XE⟩:=NR (i:=2) (a:=ad) (n:=X.1.1.length) (k:=k) (c:=X.1.2) (cs':=ZM { D with k:=X.1 } l0 ⟨ad,k⟩ l2) (YK.out.below YK.out.lt hb1) rfl (by decide) (HB0.out.trans (hb1.mono HB0.out.size)) HG.out.1 rfl;have h2:=(HI.out.below hb1).st (YK.out.below YK.out.lt hb1) rfl XE;have hI2:XR V2 { D with k:=X.1 } l0 ⟨ad,k⟩ l2:=⟨h2.c,(SK.mk (l:=⟨ad,k⟩) hcs hk).st (YK.out.below YK.out.lt hb1) rfl XE,h2.n⟩;have QM:=(YV.out.below YV.out.lt hb1).but XE HG.out.2.2.2;refine WL (.tuple #[.agg (ZU ad X.1.1.length k X.1.2),.agg (ZI X.2)]) (.agg (ZU ad X.1.1.length k X.1.2)) (.agg (ZI X.2)) (Z5 g2 2)<|Zu rfl (hst2)<|wn ?_;simp only[pu];obtain⟨l3,hl3⟩:=ZR (Lo.mk ad k);rw[P6.out,hl3] at hI2 hY2;clear hst2 hcs hk hb1 XE h2 hl3 MX HI YK;obtain⟨V9,YT,WJ,Yb,YM⟩:=TI (D:=D2) (l0:=l0) (l1:=l3) (l2:=l2) QM rfl hb2 HG.out.2.1;have HE:Hid (kQ w D2 (.returned (.agg (ZM D2 l0 l3 l2))) V9):=Z9 ⟨_,rfl,l0,l3,l2,rfl,hI2.st QM rfl YM,Yb⟩;go_upto_region 2 with fail;refine wl<|ZL rfl ⟨g2,0,none⟩ (.agg (ZM D2 l0 l3 l2)) (YE hY2)<|Zu rfl (YT)<|wn ?_;simp only[pu];go_wp2_with fail;exact bodyPost_ret (YB rfl (by kernel_rfl) (YE WJ)) rfl HE.out
theorem xM (D:X0)(l0 l1 l2:Lo)(E:List Bs)(ra:Option Addr)(rc:Nat)(w:World)(hI:XR w D l0 l1 l2)(hW:Uh D)(hE:PE w ra E)(hn:E.length<=100000) :
  Calls Tryz.prog 25 #[.agg (ZM D l0 l1 l2),.slice ra E.length rc] w (fun e w'=>e=.returned (.bool (Px D (lsB E)))/\Below w.heap.size w w'):=by
 have hb0:Below w.heap.size w (w.alloc (.cells (ZM D l0 l1 l2) 31)):=(Below.refl _ w).alloc (Nat.le_refl _) _;have hX2:Bx (w.alloc (.cells (ZM D l0 l1 l2) 31)) w.heap.size (ZM D l0 l1 l2) 31:=heap_alloc_last w _;have CT:=fun V hl he=>Ah D.c.1 D.c.2 D.p E l0.a ra l0.k rc V hl hI.c.le hW.c hW.p he hn;have hE0:=hE.below hb0;have P6:Hid (decide ((VD D.c.1 D.c.2 D.p (lsB E)).2.2=0)=Px D (lsB E)):=Z9 rfl;generalize Px D (lsB E)=t9 at *
 generalize VD D.c.1 D.c.2 D.p (lsB E)=X at *
 clear hE hn;go_enter Tryz.func25,Tryz.ntmps25;go_upto_region 1 with fail;change Code.wp _ _ _ _ (w.alloc (.cells (ZM D l0 l1 l2) 31));generalize w.alloc (.cells (ZM D l0 l1 l2) 31)=W at *
 obtain⟨g2,hg2⟩:=ZR w.heap.size;have HB0:=Z9 hb0;have HG:Hid (w.heap.size<=g2):=Z9 (by omega);rw[hg2] at hX2;simp only[hg2];have YK:=Z9 hX2;have HI:=Z9 (hI.below hb0);clear hb0 hg2 hX2 hI;have MX:=CT W HI.out.c.cs hE0;clear CT hE0 hW;refine wl<|ZV (Z5 g2 0)<|ZL rfl ⟨g2,0,none⟩ (.agg (ZU l0.a D.c.1.length l0.k D.c.2)) (JY YK.out)<|ZV (Z5 g2 7)<|ZL rfl ⟨g2,7,none⟩ (Z4 D.p) (YK.out.ZP 7)<|ZV (.slice ra E.length rc) <|
  Yi (fun v w'=>∃ ad k,v=.tuple #[.agg (ZU ad X.1.1.length k X.1.2),Z8 X.2.1,Z8 X.2.2]/\Below W.heap.size W w') (MX.mono fun e w' q=>by obtain⟨ad,k,h1,h2,h3,h4⟩:=q; exact⟨_,h1,ad,k,rfl,h4⟩) (fun vv W1 hq=>?_)
 obtain⟨ad,k,rfl,hb1⟩:=hq;obtain⟨V2,hst2,hb2,hx2⟩:=UU W1 ad X.1.1.length k X.1.2;refine WL (.tuple #[.agg (ZU ad X.1.1.length k X.1.2),Z8 X.2.1,Z8 X.2.2]) (.agg (ZU ad X.1.1.length k X.1.2)) (Z8 X.2.1) (Z8 X.2.2) ?_;refine Zy rfl (some 5) rfl (Z5 W1.heap.size 0) (W1.alloc (.cells (ZU none 0 0 0) 29)) (by kernel_rfl) ?_;refine Zu rfl (hst2)<|ZA (Z8 X.2.1) (Z8 X.2.2)<|wn ?_;simp only[pu];have HE:Hid (Below w.heap.size w V2):=Z9 ((HB0.out.trans (hb1.mono HB0.out.size)).trans (hb2.mono (HB0.out.trans (hb1.mono HB0.out.size)).size));obtain⟨g5,hg5⟩:=ZR W1.heap.size;rw[hg5];have ht9:=P6.out;clear hst2 hb1 hb2 hx2 hg5 MX HI YK;go_upto_region 2 with fail;refine wl<|ZV (Z8 X.2.2)<|Yy (.bool t9) (Uw rfl X.2.2 0 ht9)<|ZV (.bool t9)<|wn ?_;simp only[pu];go_wp2_with fail;go_ret;exact⟨rfl,HE.out⟩
theorem bZ (D:X0)(l0 l1 l2:Lo)(w:World)(hI:XR w D l0 l1 l2)(hW:Uh D) :
  Calls Tryz.prog 16 #[.agg (ZM D l0 l1 l2)] w (kQ w (Nu D)):=by
 obtain⟨hb0,hX2,YA⟩:=Zk w (ZM D l0 l1 l2) #[.slice none 0 0,Z4 0,.slice none 0 0,Z4 0,.slice none 0 0,Z4 0,ZY,Z4 0] 31 31;have HA:=Z9 hW.rst;have P6:Hid ({ D with k:=D.c }=Nu D):=Z9 rfl;generalize Nu D=D2 at *
 clear hW;go_enter Tryz.func16,Tryz.ntmps16;go_upto_region 1 with fail;change Code.wp _ _ _ _ ((w.alloc (.cells (ZM D l0 l1 l2) 31)).alloc (.cells #[.slice none 0 0,Z4 0,.slice none 0 0,Z4 0,.slice none 0 0,Z4 0,ZY,Z4 0] 31));generalize (w.alloc (.cells (ZM D l0 l1 l2) 31)).alloc (.cells #[.slice none 0 0,Z4 0,.slice none 0 0,Z4 0,.slice none 0 0,Z4 0,ZY,Z4 0] 31)=W at *
 obtain⟨g2,hg2⟩:=ZR w.heap.size;obtain⟨g4,hg4⟩:=ZR (g2+1);have HB0:=Z9 hb0;rw[show w.heap.size+1=g4 by omega] at YA;have HG:Hid (w.heap.size<=g2/\w.heap.size<=g4/\g2≠g4/\g4≠g2):=Z9 (by omega);rw[hg2] at hX2;simp only[hg2];simp only[hg4];have YK:=Z9 hX2;have YV:=Z9 YA;have HI:=Z9 (hI.below hb0);clear hb0 hg2 hg4 hX2 YA hI;obtain⟨V2,hst2,hY2,hb2,XE⟩:=NR (i:=2) (a:=l0.a) (n:=D.c.1.length) (k:=l0.k) (c:=D.c.2) (cs':=ZM { D with k:=D.c } l0 l0 l2) YK.out rfl (by decide) HB0.out HG.out.1 rfl;have h2:=HI.out.st YK.out rfl XE;have hI2:XR V2 { D with k:=D.c } l0 l0 l2:=⟨h2.c,h2.c,h2.n⟩;have QM:=YV.out.but XE HG.out.2.2.2;refine wl<|ZV (Z5 g2 0)<|ZL rfl ⟨g2,0,none⟩ (.agg (ZU l0.a D.c.1.length l0.k D.c.2)) (JY YK.out)<|ZV (Z5 g2 2)<|Zu rfl (hst2)<|wn ?_;simp only[pu];rw[P6.out] at hI2 hY2;clear hst2 XE h2 HI YK;obtain⟨V9,YT,WJ,Yb,YM⟩:=TI (D:=D2) (l0:=l0) (l1:=l0) (l2:=l2) QM rfl hb2 HG.out.2.1;have dD:=XR.st hI2 QM rfl YM;have HE:Hid (kQ w D2 (.returned (.agg (ZM D2 l0 l0 l2))) V9):=Z9 ⟨_,rfl,l0,l0,l2,rfl,dD,Yb⟩;go_upto_region 2 with fail;refine wl<|ZL rfl ⟨g2,0,none⟩ (.agg (ZM D2 l0 l0 l2)) (YE hY2)<|Zu rfl (YT)<|wn ?_;simp only[pu];go_wp2_with fail;exact bodyPost_ret (YB rfl (by kernel_rfl) (YE WJ)) rfl HE.out
theorem kF (D:X0)(l0 l1 l2:Lo)(E:List Bs)(ra:Option Addr)(rc:Nat)(w:World)(hI:XR w D l0 l1 l2)(hW:Uh D)(hE:PE w ra E)(hn:E.length<=100000) :
  Calls Tryz.prog 23 #[.agg (ZM D l0 l1 l2),.slice ra E.length rc] w (Dq w (Xv D (lsB E))):=by
 obtain⟨hb0,hX2,YA⟩:=Zk w (ZM D l0 l1 l2) #[.slice none 0 0,Z4 0,.slice none 0 0,Z4 0,.slice none 0 0,Z4 0,ZY,Z4 0] 31 31;have CT:=fun V hl he=>eG D.c.1 D.c.2 D.p E l0.a ra l0.k rc V hl hI.c.le hW.c hW.p he hn;have hE0:=hE.below hb0;have HA:=Z9 (hW.fin hE.all);have HD:Hid ({ D with n:=YP D.c.1 D.c.2 D.p (lsB E) E.length,o:=true }=Qa D (lsB E)):=Z9 (by unfold Qa; rw[Yn]);have WW:Hid (D.o=true->Xv D (lsB E)=(Ua,[],9)):=Z9 fun h=>by unfold Xv; rw[if_pos h]
 have YK:Hid (¬ D.o=true->512<E.length->Xv D (lsB E)=(Ua,[],3)):=Z9 fun h h2=>by unfold Xv; rw[if_neg h,if_pos (by rw[Yn]; exact h2)]
 have XD:Hid (¬ D.o=true->¬ 512<E.length->Xv D (lsB E)=(Qa D (lsB E),UW D.c.1 D.c.2 D.p (lsB E) E.length,0)):=Z9 fun h h2=>by unfold Xv JF; rw[if_neg h,if_neg (by rw[Yn]; exact h2),Yn]
 generalize Xv D (lsB E)=X at *
 generalize Qa D (lsB E)=D2 at *
 generalize YP D.c.1 D.c.2 D.p (lsB E) E.length=U at *
 generalize UW D.c.1 D.c.2 D.p (lsB E) E.length=Q at *
 have UN:=WW;have TG:=YK;have HQ3:=XD;clear hE WW YK XD;go_enter Tryz.func23,Tryz.ntmps23;go_upto_region 1 with fail;change Code.wp _ _ _ _ ((w.alloc (.cells (ZM D l0 l1 l2) 31)).alloc (.cells #[.slice none 0 0,Z4 0,.slice none 0 0,Z4 0,.slice none 0 0,Z4 0,ZY,Z4 0] 31));generalize (w.alloc (.cells (ZM D l0 l1 l2) 31)).alloc (.cells #[.slice none 0 0,Z4 0,.slice none 0 0,Z4 0,.slice none 0 0,Z4 0,ZY,Z4 0] 31)=W at *
 obtain⟨g2,hg2⟩:=ZR w.heap.size;obtain⟨g4,hg4⟩:=ZR (g2+1);have HB0:=Z9 hb0;rw[show w.heap.size+1=g4 by omega] at YA;have HG:Hid (w.heap.size<=g2/\w.heap.size<=g4/\g2≠g4/\g4≠g2):=Z9 (by omega);rw[hg2] at hX2;simp only[hg2];simp only[hg4];have YK:=Z9 hX2;have YV:=Z9 YA;have HI:=Z9 (hI.below hb0);clear hb0 hg2 hg4 hX2 YA hI;have MX:=CT W HI.out.c.cs hE0;have HNE:=Z9 hn;clear CT hE0 hW hn;by_cases ho:D.o=true
 ·have HO:=Z9 ho;clear ho;go_upto_region 1 with fail;refine wl<|ZV (Z5 g2 6)<|ZL rfl ⟨g2,6,none⟩ ZW (U6 (i:=6) YK.out (congrArg (fun z=>some (Value.bool z)) HO.out))<|wn ?_;simp only[pu];obtain⟨V9,YT,WJ,Yb,YM⟩:=TI (D:=Ua) (l0:=Yc) (l1:=Yc) (l2:=Yc) YV.out rfl HB0.out HG.out.2.1;have HE:Hid (Dq w X (.returned (.tuple #[.agg (ZM Ua Yc Yc Yc),.slice none 0 0,Z8 9])) V9):=Z9 (by rw[UN.out HO.out]; exact⟨Yc,Yc,Yc,_,rfl,XR.z V9,Wq.nil _ _,Yb⟩);clear Yb YM;go_upto_region 2 with fail;refine wl<|ZV (.agg (ZM Ua Yc Yc Yc))<|Zu rfl (YT)<|ZA (.slice none 0 0) (Z8 9)<|wn ?_;simp only[pu];go_wp2_with fail;exact bodyPost_ret (X5 rfl (by kernel_rfl) (YE WJ) rfl rfl) rfl HE.out
 ·have Na:=Z9 ho;have HO:Hid (D.o=false):=Z9 (by simpa using ho);clear ho;go_upto_region 1 with fail;refine wl<|ZV (Z5 g2 6)<|ZL rfl ⟨g2,6,none⟩ ZY (U6 (i:=6) YK.out (congrArg (fun z=>some (Value.bool z)) HO.out))<|wn ?_;simp only[pu];by_cases hlen:512<E.length
  ·go_upto_region 3 with fail;refine wl<|ZA (.slice ra E.length rc) (Z8 E.length)<|ZJ (Zo rfl E.length 512 dT)<|wn ?_;simp only[pu];have HL5:=Z9 hlen;clear hlen;obtain⟨V9,YT,WJ,Yb,YM⟩:=TI (D:=Ua) (l0:=Yc) (l1:=Yc) (l2:=Yc) YV.out rfl HB0.out HG.out.2.1;have HE:Hid (Dq w X (.returned (.tuple #[.agg (ZM Ua Yc Yc Yc),.slice none 0 0,Z8 3])) V9):=Z9 (by rw[TG.out Na.out HL5.out]; exact⟨Yc,Yc,Yc,_,rfl,XR.z V9,Wq.nil _ _,Yb⟩);clear Yb YM;go_upto_region 4 with fail;refine wl<|ZV (.agg (ZM Ua Yc Yc Yc))<|Zu rfl (YT)<|ZA (.slice none 0 0) (Z8 3)<|wn ?_;simp only[pu];go_wp2_with fail;exact bodyPost_ret (X5 rfl (by kernel_rfl) (YE WJ) rfl rfl) rfl HE.out
  ·go_upto_region 3 with fail;refine wl<|ZA (.slice ra E.length rc) (Z8 E.length)<|ZJ (Zo rfl E.length 512 dF)<|wn ?_;simp only[pu];have HL5:=Z9 hlen;clear hlen;go_upto_region 5 with fail;refine wl<|ZV (Z5 g2 0)<|ZL rfl ⟨g2,0,none⟩ (.agg (ZU l0.a D.c.1.length l0.k D.c.2)) (JY YK.out)<|ZV (Z5 g2 7)<|ZL rfl ⟨g2,7,none⟩ (Z4 D.p) (YK.out.ZP 7) <|
    ZV (.slice ra E.length rc)<|Yi (fun v w'=>∃ ad k r,v=.tuple #[.agg (ZU ad U.1.length k U.2),r]/\Cs w' ad (acc U.1)/\U.1.length<=k/\Wq w' W.heap.size r Q/\Below W.heap.size W w') (MX.mono fun e w' q=>by obtain⟨ad,k,r,h1,h2⟩:=q; exact⟨_,h1,ad,k,r,rfl,h2⟩) (fun vv W1 hq=>?_)
   obtain⟨ad,k,r,rfl,hcs,hk,hrr,hb1⟩:=hq;obtain⟨V2,hst2,hb2,hx2⟩:=UU W1 ad U.1.length k U.2;refine Yr (.tuple #[.agg (ZU ad U.1.length k U.2),r]) (.agg (ZU ad U.1.length k U.2)) (r) ?_;refine Zy rfl (some 7) rfl (Z5 W1.heap.size 0) (W1.alloc (.cells (ZU none 0 0 0) 29)) (by kernel_rfl) ?_;refine Zu rfl (hst2)<|ZV (r)<|wn ?_;simp only[pu];obtain⟨g7,RF⟩:=ZR W1.heap.size;have JR:=hb1.trans (hb2.mono hb1.size);have dG:=YK.out.below YK.out.lt JR;obtain⟨V3,hst3,Qj,hb3,Vg⟩:=NR (i:=4) (a:=ad) (n:=U.1.length) (k:=k) (c:=U.2) (cs':=ZM { D with n:=U } l0 l1 ⟨ad,k⟩) dG rfl (by decide) (HB0.out.trans (JR.mono HB0.out.size)) HG.out.1 rfl;obtain⟨V4,UZ,zO,hb4,Ut⟩:=Zn (i:=6) (ty:=4) (v:=ZW) (cs':=ZM { D with n:=U,o:=true } l0 l1 ⟨ad,k⟩) Qj hb3 HG.out.1 (by show 6<8; decide) rfl (by kernel_rfl) rfl;have h3:=(HI.out.below JR).st dG rfl Vg;have h4:SK V3 ⟨ad,k⟩ U.1:=(SK.below (SK.mk (l:=⟨ad,k⟩) hcs hk) hb2).st dG rfl Vg;have hI4:XR V4 { D with n:=U,o:=true } l0 l1 ⟨ad,k⟩:=⟨h3.c.st Qj rfl Ut,h3.k.st Qj rfl Ut,h4.st Qj rfl Ut⟩;have lT:=((YV.out.below YV.out.lt JR).but Vg HG.out.2.2.2).but Ut HG.out.2.2.2;have hr4:Wq V4 W.heap.size r Q:=Zt (Zt (own_below hrr hb2) Vg YK.out.lt) Ut YK.out.lt;have hx7:=ZN hx2;rw[RF] at hx7 ⊢;obtain⟨l3,hl3⟩:=ZR (Lo.mk ad k);rw[HD.out,hl3] at hI4 zO;clear hst2 hcs hk hrr hb1 hb2 hx2 JR dG Qj hb3 Vg Ut h3 h4 RF hl3 MX;go_upto_region 6 with fail;refine wl<|ZL rfl ⟨g7,0,none⟩ (.agg (ZU ad U.1.length k U.2)) (hx7)<|ZV (Z5 g2 4)<|Zu rfl (hst3)<|ZV (Z5 g2 6)<|Zu rfl (UZ)<|wn ?_;simp only[pu];clear hst3 UZ hx7 HI YK;obtain⟨V9,YT,WJ,Yb,YM⟩:=TI (D:=D2) (l0:=l0) (l1:=l1) (l2:=l3) lT rfl hb4 HG.out.2.1;have dD:=XR.st hI4 lT rfl YM;have Rx:Wq V9 W.heap.size r Q:=Zt hr4 YM YV.out.lt;have HE:Hid (Dq w X (.returned (.tuple #[.agg (ZM D2 l0 l1 l3),r,Z8 0])) V9):=Z9 (by rw[HQ3.out Na.out HL5.out]; exact⟨l0,l1,l3,r,rfl,dD,own_base Rx HB0.out.size,Yb⟩);clear hr4 Rx Yb YM dD hI4;go_upto_region 7 with fail;refine wl<|ZL rfl ⟨g2,0,none⟩ (.agg (ZM D2 l0 l1 l3)) (YE zO)<|ZV (r)<|Zu rfl (YT)<|ZA (r) (Z8 0)<|wn ?_;simp only[pu];go_wp2_with fail;exact bodyPost_ret (X5 rfl (by kernel_rfl) (YE WJ) rfl rfl) rfl HE.out
theorem tK (D:X0)(l0 l1 l2:Lo)(w:World)(hI:XR w D l0 l1 l2)(hW:Uh D) :
  Calls Tryz.prog 20 #[.agg (ZM D l0 l1 l2)] w (JA w (Ue D)):=by
 obtain⟨hb0,hX2,YA⟩:=Zk w (ZM D l0 l1 l2) #[.slice none 0 0,Z4 0,.slice none 0 0,Z4 0,.slice none 0 0,Z4 0,ZY,Z4 0] 31 31;have HA:=Z9 hW.com;have UN:Hid (D.o=true->Ue D=(Jm D,0)):=Z9 fun h=>by unfold Ue; rw[if_pos h]
 have TG:Hid (¬ D.o=true->Ue D=(Ua,9)):=Z9 fun h=>by unfold Ue; rw[if_neg h]
 have HD:Hid (⟨D.n,D.n,([],0),false,D.p⟩=Jm D):=Z9 rfl;generalize Ue D=X at *
 generalize Jm D=D2 at *
 clear hW;go_enter Tryz.func20,Tryz.ntmps20;go_upto_region 1 with fail;change Code.wp _ _ _ _ ((w.alloc (.cells (ZM D l0 l1 l2) 31)).alloc (.cells #[.slice none 0 0,Z4 0,.slice none 0 0,Z4 0,.slice none 0 0,Z4 0,ZY,Z4 0] 31));generalize (w.alloc (.cells (ZM D l0 l1 l2) 31)).alloc (.cells #[.slice none 0 0,Z4 0,.slice none 0 0,Z4 0,.slice none 0 0,Z4 0,ZY,Z4 0] 31)=W at *
 obtain⟨g2,hg2⟩:=ZR w.heap.size;obtain⟨g4,hg4⟩:=ZR (g2+1);have HB0:=Z9 hb0;rw[show w.heap.size+1=g4 by omega] at YA;have HG:Hid (w.heap.size<=g2/\w.heap.size<=g4/\g2≠g4/\g4≠g2):=Z9 (by omega);rw[hg2] at hX2;simp only[hg2];simp only[hg4];have YK:=Z9 hX2;have YV:=Z9 YA;have HI:=Z9 (hI.below hb0);clear hb0 hg2 hg4 hX2 YA hI;by_cases ho:D.o=true
 ·have HO:=Z9 ho;clear ho;go_upto_region 1 with fail;refine wl<|ZV (Z5 g2 6)<|ZL rfl ⟨g2,6,none⟩ ZW (U6 (i:=6) YK.out (congrArg (fun z=>some (Value.bool z)) HO.out))<|ZV ZY<|wn ?_;simp only[pu];have hI2:XR W ⟨D.n,D.n,([],0),false,D.p⟩ l2 l2 Yc:=⟨HI.out.n,HI.out.n,SK.nil W⟩;have hd2:=HD.out;rw[HD.out] at hI2;obtain⟨V9,YT,WJ,Yb,YM⟩:=TI (D:=D2) (l0:=l2) (l1:=l2) (l2:=Yc) YV.out rfl HB0.out HG.out.2.1;have HE:Hid (JA w X (.returned (.tuple #[.agg (ZM D2 l2 l2 Yc),Z8 0])) V9):=Z9 (by rw[UN.out HO.out]; exact⟨l2,l2,Yc,rfl,hI2.st YV.out rfl YM,Yb⟩);go_upto_region 3 with fail;refine wl<|ZV (Z5 g2 4)<|ZL rfl ⟨g2,4,none⟩ (.agg (ZU l2.a D.n.1.length l2.k D.n.2)) (vC YK.out)<|ZV (Z5 g2 4)<|ZL rfl ⟨g2,4,none⟩ (.agg (ZU l2.a D.n.1.length l2.k D.n.2)) (vC YK.out) <|
   ZV (Z5 g2 7)<|ZL rfl ⟨g2,7,none⟩ (Z4 D.p) (YK.out.ZP 7)<|YG (.agg (ZM D2 l2 l2 Yc)) (by rw[<- hd2]; kernel_rfl)<|Zu rfl (YT)<|ZV (Z8 0)<|wn ?_
  simp only[pu];go_wp2_with fail;exact bodyPost_ret (ZO rfl (by kernel_rfl) (YE WJ) rfl) rfl HE.out
 ·have Na:=Z9 ho;have HO:Hid (D.o=false):=Z9 (by simpa using ho);clear ho;go_upto_region 1 with fail;refine wl<|ZV (Z5 g2 6)<|ZL rfl ⟨g2,6,none⟩ ZY (U6 (i:=6) YK.out (congrArg (fun z=>some (Value.bool z)) HO.out))<|ZV ZW<|wn ?_;simp only[pu];obtain⟨V9,YT,WJ,Yb,YM⟩:=TI (D:=Ua) (l0:=Yc) (l1:=Yc) (l2:=Yc) YV.out rfl HB0.out HG.out.2.1;have HE:Hid (JA w X (.returned (.tuple #[.agg (ZM Ua Yc Yc Yc),Z8 9])) V9):=Z9 (by rw[TG.out Na.out]; exact⟨Yc,Yc,Yc,rfl,XR.z V9,Yb⟩);clear Yb YM;go_upto_region 2 with fail;refine wl<|ZV (.agg (ZM Ua Yc Yc Yc))<|Zu rfl (YT)<|ZV (Z8 9)<|wn ?_;simp only[pu];go_wp2_with fail;exact bodyPost_ret (ZO rfl (by kernel_rfl) (YE WJ) rfl) rfl HE.out
theorem RH.run {A:List Ac}{c p:Int}{Ls:List (List Int)}(h:RH A c)(hp:W64 p)(h8:∀ L,L∈Ls->∀ y,y∈L->W8 y):∀ j,j<=Ls.length->RH (YP A c p Ls j).1 (YP A c p Ls j).2
 | 0,_=>h
 | j+1,hj=>by
  rw[Xb hj];refine(RH.run h hp h8 j (by omega)).tx hp (h8 _ ?_);rw[List.getD_eq_getElem?_getD,List.getElem?_eq_getElem hj];exact List.getElem_mem hj
structure Qv (D:X0):Prop where
 c:RH D.c.1 D.c.2
 k:RH D.k.1 D.k.2
 n:RH D.n.1 D.n.2
 p0:0<=D.p
 p3:D.p<=3
theorem Qv.p {D:X0}(h:Qv D):W64 D.p:=⟨h.p0,by have:=h.p3; omega⟩
theorem Qv.w {D:X0}(h:Qv D):Uh D:=⟨h.c.d,h.k.d,h.n.d,h.p⟩
theorem Qv.z:Qv Ua:=⟨RH.nil,RH.nil,RH.nil,by decide,by decide⟩
theorem Qv.fin {D:X0}{Ls:List (List Int)}(h:Qv D)(h8:∀ L,L∈Ls->∀ y,y∈L->W8 y):Qv (Qa D Ls):=⟨h.c,h.k,h.c.run h.p h8 _ (Nat.le_refl _),h.p0,h.p3⟩
theorem Qv.com {D:X0}(h:Qv D):Qv (Jm D):=⟨h.n,h.n,RH.nil,h.p0,h.p3⟩
theorem Qv.Xv {D:X0}{Ls:List (List Int)}(h:Qv D)(h8:∀ L,L∈Ls->∀ y,y∈L->W8 y):Qv (Xv D Ls).1:=by
 unfold Lg.Xv
 split
 ·exact Qv.z
 ·split
  ·exact Qv.z
  ·exact h.fin h8
theorem Qv.Ue {D:X0}(h:Qv D):Qv (Ue D).1:=by
 unfold Lg.Ue
 split
 ·exact h.com
 ·exact Qv.z
theorem XR.ns {w w':World}{D:X0}{l0 l1 l2:Lo}{g c k:Nat}{a:Option Addr}{L:List Int}(h:XR w D l0 l1 l2)(hn:NS w g a c L k)(hb:But g w w'):XR w' D l0 l1 l2:=by
 obtain⟨N,hN,hx,-⟩:=hn;exact h.st hx rfl hb
theorem FM {w:World}{g c k m:Nat}{a:Option Addr}{L:List Int}{D:X0}{l0 l1 l2:Lo}(h:NS w g a c L k)(hl:L.length<=100000)(hk:k<=5000)(hI:XR w D l0 l1 l2)(hQ:Qv D)(hm:m<=6) :
  Calls Tryz.prog 21 #[Z5 g 0,.agg (ZM D l0 l1 l2),Z8 m] w (ao0 w g a c L k m):=by
 have hh:=h;obtain⟨N,hN,hx,-⟩:=hh;exact dB h hl hk hI.c.cs hI.c.le (hI.c.box hx rfl) hQ.c hQ.p hm
theorem cZ {w:World}{g c k:Nat}{a:Option Addr}{L:List Int}{D:X0}{l0 l1 l2:Lo}{p:Int}(h:NS w g a c L k)(hl:L.length<=100000)(hk:k<=9000)(hI:XR w D l0 l1 l2)(hQ:Qv D) :
  Calls Tryz.prog 9 #[Z5 g 0,.agg (ZU l1.a D.k.1.length l1.k D.k.2),Z4 p] w (aA6 w g a c L k):=by
 have hh:=h;obtain⟨N,hN,hx,-⟩:=hh;exact Ak h hl hk hI.k.cs (hI.k.box hx rfl) hQ.k.q (by have:=hQ.k.n; omega)
def MkA (w:World)(g:Nat)(a:Option Addr)(c:Nat)(L:List Int)(k:Nat)(e:Ending)(w':World):Prop:=∃ D l0 l1 l2,e=.returned (.agg (ZM D l0 l1 l2))/\XR w' D l0 l1 l2/\Qv D/\D.n=([],0)/\D.o=false/\NS w' g a c L (k+110)/\But g w w'
theorem cO {w:World}{g c k:Nat}{a:Option Addr}{L:List Int}(h:NS w g a c L k)(hl:L.length<=100000)(hk:k<=5000) :
  Calls Tryz.prog 30 #[Z5 g 0] w (MkA w g a c L k):=
 (al8 h hl hk).mono fun e w' q=>by
  obtain⟨v,p,q2,q3,rfl,⟨x0,x1,la,lk2,y0,y1,y2,B2,c2,rfl,-,hk2,hkl,hkq,-,⟨ca,lk,B,cc,rfl,rfl,hcs,hlk,hlq,-⟩,rfl,rfl,rfl⟩,hp0,hp3,hns,hbt⟩:=q;exact⟨⟨(B,cc),(B2,c2),([],0),false,p⟩,⟨ca,lk⟩,⟨la,lk2⟩,Yc,rfl,⟨⟨hcs,hlk⟩,⟨hk2,hkl⟩,SK.nil _⟩,⟨hlq,hkq,RH.nil,hp0,hp3⟩,rfl,rfl,hns,hbt⟩
def aF0 (w:World)(a:Option Addr)(c:Nat)(L:List Int)(e:Ending)(w':World):Prop:=∃ D l0 l1 l2 v E gs,e=.returned (.tuple #[.agg (ZM D l0 l1 l2),v,Z5 gs 0])/\XR w' D l0 l1 l2/\Qv D/\D.n=([],0)/\D.o=false/\OA w' (gs+1) v E/\E.length<=5/\NS w' gs a c L 411/\w.heap.size<=gs/\Below w.heap.size w w'/\∀ q,v.ownBlock=some q->kL q D l0 l1 l2
structure KM (w:World)(gs g2 g6:Nat)(a:Option Addr)(c:Nat)(L:List Int)(D:X0)(l0 l1 l2:Lo)(b3 b5 b6:Bool)(x14:Value)(V:World):Prop where
 bel:Below w.heap.size w V
 ns:NS V gs a c L (cond b3 411 110)
 ai:XR V D l0 l1 l2
 bx:Bx V g6 (ZM D l0 l1 l2) 31
 b2:Bx V g2 (cond b5 (ZM D l0 l1 l2) #[.slice none 0 0,Z4 0,.slice none 0 0,Z4 0,.slice none 0 0,Z4 0,ZY,Z4 0]) 31
 rw:b3=true->∃ E,OA V (gs+1) x14 E/\E.length<=5/\∀ q,x14.ownBlock=some q->kL q D l0 l1 l2
 o6:b6=true->b3=true
section
variable {w : World} {gs g2 g6 : Nat} {a : Option Addr} {c : Nat} {L : List Int} {D : X0} {l0 l1 l2 : Lo} {b3 b5 b6 : Bool} {x14 : Value} {V : World}
theorem KM.raw (h:KM w gs g2 g6 a c L D l0 l1 l2 false b5 b6 x14 V)(hg:w.heap.size<=gs)(h2:g2≠gs)(h6:g6≠gs){V2:World}{v:Value}{E:List Bs}(hr:OA V2 V.heap.size v E)(h5:E.length<=5)(hn:NS V2 gs a c L (110+301))(hb:But gs V V2):KM w gs g2 g6 a c L D l0 l1 l2 true b5 b6 v V2:=
 ⟨h.bel.trans (hb.1.mono hg),hn,h.ai.ns h.ns hb,h.bx.but hb h6,h.b2.but hb h2,fun _=>⟨E,hr.base h.ns.lt,h5,fun q hq=>by
  rcases hr.own.2 with⟨e,-⟩ | ⟨q2,cap,cur,e,hB,-⟩
  ·rw[e] at hq; cases hq
  ·rw[e] at hq; simp only[Value.ownBlock,Option.some.injEq] at hq; exact h.ai.new (by omega)⟩,fun _=>rfl⟩
theorem KM.st (h:KM w gs g2 g6 a c L D l0 l1 l2 b3 false b6 x14 V)(hg:w.heap.size<=g2)(h2:g2<gs)(h6:g6≠g2)(ha:L≠[]->∀ x,a=some x->x.block<w.heap.size):∃ V2,(Instr.storeAt 31 (Z5 g2 0) (.agg (ZM D l0 l1 l2))).run Tryz.prog V=.ok () V2/\KM w gs g2 g6 a c L D l0 l1 l2 b3 true b6 x14 V2:=by
 have hx:=h.b2;simp only[cond_false] at hx;obtain⟨V2,hst,hY,hb,hbt⟩:=TI (D:=D) (l0:=l0) (l1:=l1) (l2:=l2) hx rfl h.bel hg;obtain⟨N,n1,n2,n3,n4⟩:=h.ns;refine⟨V2,hst,hb,⟨N,n1,n2.but hbt (by omega),O1 n3 hbt (fun e x hx=>by have:=ha e x hx; omega),n4⟩,h.ai.st hx rfl hbt,h.bx.but hbt h6,hY,fun e=>?_,h.o6⟩;obtain⟨E,hr,h5,h6⟩:=h.rw e;exact⟨E,hr.but hbt (by omega),h5,h6⟩
end
theorem LW (a:Option Addr)(c:Nat)(L:List Int)(w:World)(hL:Cs w a (XL L))(hl:L.length<=100000) :
  Calls Tryz.prog 8 #[.slice a L.length c] w (aF0 w a c L):=by
 have hb0:Below w.heap.size w (w.alloc (.cells #[.slice none 0 0,Z4 0,.slice none 0 0,Z4 0,.slice none 0 0,Z4 0,ZY,Z4 0] 31)):=(Below.refl _ w).alloc (Nat.le_refl _) _;have hX0:Bx (w.alloc (.cells #[.slice none 0 0,Z4 0,.slice none 0 0,Z4 0,.slice none 0 0,Z4 0,ZY,Z4 0] 31)) w.heap.size #[.slice none 0 0,Z4 0,.slice none 0 0,Z4 0,.slice none 0 0,Z4 0,ZY,Z4 0] 31:=heap_alloc_last w _;have HAB:Hid (L≠[]->∀ x,a=some x->x.block<w.heap.size):=Z9 fun hne x hx=>by
  have:=WM hL (by cases L with | nil=>exact absurd rfl hne | cons y r=>simp[XL]) x hx;exact this
 have CF:=gW a L.length c (w.alloc (.cells #[.slice none 0 0,Z4 0,.slice none 0 0,Z4 0,.slice none 0 0,Z4 0,ZY,Z4 0] 31));have hL0:=hL.below hb0;go_enter Tryz.func8,Tryz.ntmps8;go_upto_region 1 with fail;change Code.wp _ _ _ _ (w.alloc (.cells #[.slice none 0 0,Z4 0,.slice none 0 0,Z4 0,.slice none 0 0,Z4 0,ZY,Z4 0] 31));generalize w.alloc (.cells #[.slice none 0 0,Z4 0,.slice none 0 0,Z4 0,.slice none 0 0,Z4 0,ZY,Z4 0] 31)=W at *
 obtain⟨g2,hg2⟩:=ZR w.heap.size;obtain⟨gs,hgs⟩:=ZR W.heap.size;have HG:Hid (w.heap.size<=g2/\g2<gs/\w.heap.size<=gs):=Z9 (by have:=hX0.lt; omega);have hb1:Below W.heap.size W (W.alloc (.cells #[.slice a L.length c,Z8 0] 74)):=(Below.refl _ W).alloc (Nat.le_refl _) _;have hX1:Bx (W.alloc (.cells #[.slice a L.length c,Z8 0] 74)) W.heap.size #[.slice a L.length c,Z8 0] 74:=heap_alloc_last W _;have hns:NS (W.alloc (.cells #[.slice a L.length c,Z8 0] 74)) W.heap.size a c L 0:=⟨0,Nat.le_refl _,hX1,hL0.below hb1,fun hne x hx=>by have:=HAB.out hne x hx; have:=hb0.size; omega⟩;rw[hgs] at CF hns;rw[hg2] at hX0;simp only[hg2];have hX2:=hX0.below hX0.lt hb1;have hbw:=hb0.trans (hb1.mono hb0.size);generalize W.alloc (.cells #[.slice a L.length c,Z8 0] 74)=W1 at *
 have CA:=cO hns hl (by omega);clear hb0 hb1 hX0 hX1 hL0 hg2 hgs hns;refine wl<|ZV (.slice a L.length c)<|YS (Z5 gs 0) (fun w'=>w'=W1) CF (fun V9 Xo=>?_);subst Xo;refine ZV (Z5 gs 0)<|wn ?_;simp only[pu];go_upto_region 2 with fail;refine wl<|ZV (Z5 gs 0) <|
  Yi (fun v w'=>∃ D l0 l1 l2,v=.agg (ZM D l0 l1 l2)/\XR w' D l0 l1 l2/\Qv D/\D.n=([],0)/\D.o=false/\NS w' gs a c L (0+110)/\But gs V9 w') (CA.mono fun e w' q=>by obtain⟨D,l0,l1,l2,h1,h2⟩:=q; exact⟨_,h1,D,l0,l1,l2,rfl,h2⟩) (fun vv W2 hq=>?_)
 obtain⟨D,l0,l1,l2,rfl,hai,hQ,hDn,uj,hns,hbt⟩:=hq;obtain⟨V4,UZ,hb4,zO⟩:=Xm W2 D l0 l1 l2;refine Zy rfl (some 6) rfl (Z5 W2.heap.size 0) (W2.alloc (.cells (#[.slice none 0 0,Z4 0,.slice none 0 0,Z4 0,.slice none 0 0,Z4 0,ZY,Z4 0]) 31)) (by kernel_rfl) ?_;refine Zu rfl (UZ)<|wn ?_;obtain⟨g6,WG⟩:=ZR W2.heap.size;have HG6:Hid (g2≠gs/\g6≠gs/\g6≠g2):=Z9 (by have:=hns.lt; have:=HG.out; omega);have hsb:=hX2.but hbt HG6.out.1;have hbw2:=hbw.trans (hbt.1.mono HG.out.2.2);rw[WG] at zO ⊢;have HQ:=Z9 hQ;have lu:=Z9 hDn;have HDO:=Z9 uj;have h0:KM w gs g2 g6 a c L D l0 l1 l2 false false false undef V4.drew:=⟨(hbw2.trans (hb4.mono hbw2.size)).drew,(hns.below hb4:NS V4 gs a c L 110),hai.below (hb4.drew),zO,hsb.below hsb.lt hb4.drew,(fun e=>nomatch e),fun e=>nomatch e⟩;clear CA CF UZ hb4 zO hai hns hbt hsb hbw hbw2 hX2 hQ hDn uj WG;go_upto_region 3 with fail;refine Zw (fun listed ZG V=>∃ b0 b1 b2 b3 b4 b5 b6 b7:Bool,∃ x14:Value,listed=#[b0,b1,b2,b3,b4,b5,b6,b7]/\ZG={ tmps:=#[.slice a L.length c,undef,Z5 g2 0,(cond b6 (x14) (.slice none 0 0)),(cond b7 (Z5 gs 0) (.pointer none)),Z5 gs 0,Z5 g6 0,.slice a L.length c,Z5 gs 0,Z5 gs 0,.agg (ZM D l0 l1 l2),(cond b0 (.agg (ZM D l0 l1 l2)) undef),(cond b1 (Z5 gs 0) undef),(cond b2 (.agg (ZM D l0 l1 l2)) undef),x14,(cond b4 (Z5 gs 0) undef)],defers:=[] }/\KM w gs g2 g6 a c L D l0 l1 l2 b3 b5 b6 x14 V) (by kernel_rfl) (by kernel_rfl) ?_ ?_ ?_
 ·exact⟨_,_,_,_,_,_,_,_,_,rfl,rfl,h0⟩
 ·intro i9 listed ZG V hi9 hr hJ;obtain⟨b0,b1,b2,b3,b4,b5,b6,b7,x14,rfl,rfl,hF⟩:=hJ;have hi2:i9<8:=hi9;have hi3:i9=0∨i9=1∨i9=2∨i9=3∨i9=4∨i9=5∨i9=6∨i9=7:=by omega
  rcases hi3 with rfl | rfl | rfl | rfl | rfl | rfl | rfl | rfl
  ·obtain rfl:b0=false:=Z7 hr;refine ZE rfl (by kernel_rfl) (some 11) rfl 31 (.tmp 6) rfl ⟨g6,0,none⟩ (.agg (ZM D l0 l1 l2)) (by kernel_rfl) (YE hF.bx) ?_;exact⟨_,_,_,_,_,_,_,_,_,rfl,rfl,hF⟩
  ·obtain rfl:b1=false:=Z7 hr;refine ZT rfl (by kernel_rfl) (some 12) rfl (Z5 gs 0) V (by kernel_rfl) ?_;exact⟨_,_,_,_,_,_,_,_,_,rfl,rfl,hF⟩
  ·obtain rfl:b2=false:=Z7 hr;refine ZE rfl (by kernel_rfl) (some 13) rfl 31 (.tmp 6) rfl ⟨g6,0,none⟩ (.agg (ZM D l0 l1 l2)) (by kernel_rfl) (YE hF.bx) ?_;exact⟨_,_,_,_,_,_,_,_,_,rfl,rfl,hF⟩
  ·obtain rfl:b3=false:=Z7 hr;obtain rfl:b1=true:=ZX hr 1;obtain rfl:b2=true:=ZX hr 2;obtain rfl:b6=false:=ff hF.o6 rfl;refine Zc rfl (by kernel_rfl) (some 14) rfl 21 #[Z5 gs 0,.agg (ZM D l0 l1 l2),Z8 5] (by kernel_rfl) ((FM (m:=5) hF.ns hl (by simp only[cond_false]; omega) hF.ai HQ.out (by decide)).mono fun e w' z=>?_);obtain⟨v,E,rfl,hr,h5,hn,hb⟩:=z;exact⟨_,rfl,_,_,_,_,_,_,_,_,_,rfl,rfl,hF.raw HG.out.2.2 HG6.out.1 HG6.out.2.1 hr h5 hn hb⟩
  ·obtain rfl:b4=false:=Z7 hr;refine ZT rfl (by kernel_rfl) (some 15) rfl (Z5 gs 0) V (by kernel_rfl) ?_;exact⟨_,_,_,_,_,_,_,_,_,rfl,rfl,hF⟩
  ·obtain rfl:b5=false:=Z7 hr;obtain rfl:b0=true:=ZX hr 0;obtain⟨V2,hst,hF2⟩:=hF.st HG.out.1 HG.out.2.1 HG6.out.2.2 HAB.out;refine Zf rfl (by kernel_rfl) rfl 31 (.tmp 2) (.tmp 11) rfl (Z5 g2 0) (.agg (ZM D l0 l1 l2)) (by kernel_rfl) (by kernel_rfl) _ hst ?_;exact⟨_,_,_,_,_,_,_,_,_,rfl,rfl,hF2⟩
  ·obtain rfl:b6=false:=Z7 hr;obtain rfl:b3=true:=ZX hr 3;refine ZT rfl (by kernel_rfl) (some 3) rfl x14 V (by kernel_rfl) ?_;exact⟨_,_,_,_,_,_,_,_,_,rfl,rfl,{ hF with o6:=fun _=>rfl }⟩
  ·obtain rfl:b7=false:=Z7 hr;obtain rfl:b4=true:=ZX hr 4;refine ZT rfl (by kernel_rfl) (some 4) rfl (Z5 gs 0) V (by kernel_rfl) ?_;exact⟨_,_,_,_,_,_,_,_,_,rfl,rfl,hF⟩
 ·intro ZG V hJ;obtain⟨b0,b1,b2,b3,b4,b5,b6,b7,x14,he,rfl,hF⟩:=hJ;have he:(#[true,true,true,true,true,true,true,true]:Array Bool)=#[b0,b1,b2,b3,b4,b5,b6,b7]:=he;simp only[Array.mk.injEq,List.cons.injEq,and_true] at he;obtain⟨rfl,rfl,rfl,rfl,rfl,rfl,rfl,rfl⟩:=he;simp only[cond_true];obtain⟨E,hr,h5,hon⟩:=hF.rw rfl;have hbx:=hF.b2;simp only[cond_true] at hbx;have hn:=hF.ns;simp only[cond_true] at hn;have HE:Hid (aF0 w a c L (.returned (.tuple #[.agg (ZM D l0 l1 l2),x14,Z5 gs 0])) V):=Z9 ⟨D,l0,l1,l2,x14,E,gs,rfl,hF.ai,HQ.out,lu.out,HDO.out,hr,h5,hn,HG.out.2.2,hF.bel,hon⟩;clear hF hr hn hon;go_wp2_with fail;exact bodyPost_ret (X5 rfl (by kernel_rfl) (YE hbx) rfl rfl) rfl HE.out
end Go.Proofs.YtnhlpahoomcgnaaGreat.Lg
namespace Go.Proofs.YtnhlpahoomcgnaaGreat.Lg
open Mo (YU Y9 Ym Yz)
open Go.RowKit
theorem zN {w:World}{B:Nat}{v:Value}{A:List Bs}(h:w.ownsRow B 23 1 v A.length (RJ A))(pa:Option Addr)(cp:Nat)(M:List Bs)(hP:Cs w pa (RJ M))(hB:B<=w.heap.size)(hl:(A.length+M.length)*24<=140737488355328) :
  ∃ a c V2,(Builtin.append_ #[32,32] 32 #[v,.slice pa M.length cp]).run Tryz.prog w=.ok (.slice a (A++M).length c) V2/\V2.ownsRow B 23 1 (.slice a (A++M).length c) (A++M).length (RJ (A++M))/\Below B w V2:=by
 obtain⟨v2,V2,hr,hO,hb,-,-⟩:=VF (P:=Tryz.prog) (t:=32) (e:=23) (m:=M.length) (s:=1) (bytes:=24) Tryz.underlying32 Oo (by kernel_rfl) (by omega) h pa cp (RJ M) hP (by rw[Iq,Nat.mul_one]) (Ip M) hB (by omega) hl;have hO2:V2.ownsRow B 23 1 v2 (A++M).length (RJ (A++M)):=by rw[List.length_append,show RJ (A++M)=RJ A++RJ M by unfold RJ; rw[List.map_append]]; exact hO
 obtain⟨a,c,e,-,-⟩:=Yq hO2;subst e;exact⟨a,c,V2,hr,hO2,hb⟩
theorem xJ (a b:Option Addr)(n m c d:Nat)(V:World):(Instr.buildSlice 32 2 #[(0,.slice a n c),(1,.slice b m d)]).run Tryz.prog V=.ok (.slice (some ⟨V.heap.size,0,none⟩) 2 2) (V.alloc (.cells #[.slice a n c,.slice b m d] 23)):=by
 obtain⟨i0,hi,hz0,hz1,hz2⟩:=info_parts Oo;refine run_buildSlice V 32 23 2 _ #[.slice a n c,.slice b m d] i0 _ Tryz.underlying32 hi hz0 (by rw[hz1]; omega) (by rw[hz1]; omega) ?_;rw[hz1];kernel_rfl
theorem ab6 (w:World):(Instr.buildSlice 32 0 #[]).run Tryz.prog w=.ok (.slice (some ⟨w.heap.size,0,none⟩) 0 0) (w.alloc (.cells #[] 23)):=Om Tryz.underlying32 Oo w
theorem kG {w0 w:World}{B c:Nat}{a a1 a2:Option Addr}{A M:List Bs}(hO:w.ownsRow B 23 1 (.slice a (A++M).length c) (A++M).length (RJ (A++M)))(hA:PE w0 a1 A)(hM:PE w0 a2 M)(hb:Below w0.heap.size w0 w):PE w a (A++M):=by
 obtain⟨a9,c9,e9,h9,-⟩:=Yq hO;simp only[Value.slice.injEq] at e9;obtain⟨rfl,-,rfl⟩:=e9;have h:∀ e,e∈A++M->Sl w e.1 e.2.1 e.2.2/\e.2.2.length<=e.2.1/\∀ y,y∈e.2.2->W8 y:=fun e he=>by
  rcases List.mem_append.1 he with h | h
  ·exact⟨ZK (hA.sl e h) hb,hA.le e h,hA.b e h⟩
  ·exact⟨ZK (hM.sl e h) hb,hM.le e h,hM.b e h⟩
 exact⟨h9,fun e he=>(h e he).1,fun e he=>(h e he).2.1,fun e he=>(h e he).2.2⟩
theorem ab9 {ρ:Operand->Value}{o:Oper}{x y:Operand}(ho:o.op=.binOp .neq 4 x y 4)(a:Bool)(hx:ρ x=.bool a)(hy:ρ y=.bool a)(w:World):(execOp ρ o).run Tryz.prog w=.ok (.value ZY) w:=by
 unfold execOp;simp only[ho,hx,hy];cases a <;> go_simp
theorem lI {ρ:Operand->Value}{o:Oper}{x y:Operand}(ho:o.op=.binOp .neq 40 x y 40)(r:XO)(hx:ρ x=.agg (ZI r))(hy:ρ y=.agg (ZI r))(w:World):(execOp ρ o).run Tryz.prog w=.ok (.value ZY) w:=by
 unfold execOp;simp only[ho,hx,hy];go_simp
theorem FK (R:List XO)(a1 a2:Option Addr)(c1 c2:Nat)(w:World)(h1:Cs w a1 (QN R))(h2:Cs w a2 (QN R))(hn:R.length<=4398046511104) :
  Calls Tryz.prog 26 #[.slice a1 R.length c1,.slice a2 R.length c2] w fun e w'=>e=.returned ZW/\Below w.heap.size w w':=by
 have HA1:=Z9 h1;have HA2:=Z9 h2;obtain⟨n,hnn⟩:=ZR R.length;have HN:=Z9 hnn;rw[hnn] at hn ⊢;clear hnn h1 h2;go_enter Tryz.func26,Tryz.ntmps26;go_upto_region 1 with fail;refine wl<|WL (.slice a1 n c1) (Z8 n) (.slice a2 n c2) (Z8 n)<|ZJ (Fq rfl n n (decide_eq_true rfl))<|wn ?_;simp only[pu];go_upto_region 3 with fail;refine wl<|Yr (.slice a1 n c1) (Z8 n) (Z8 0)<|wn ?_;simp only[pu];go_wp2_with fail;go_loopg [13] n (fun gg s13 wx=>∃ j:Nat,s13=Z8 j/\j<=n/\Hid (Below w.heap.size w wx)/\n-j=gg)
 case atStart=>exact⟨0,rfl,by omega,Z9 (Below.refl _ _),by omega⟩
 case round=>
  obtain⟨j,rfl,hj,HB,hg⟩:=hrel;by_cases hlt:j<n
  ·have HG:Hid (n-(j+1)=gk-1/\0<gk/\j+1<=n/\j+1<=4398046511104):=Z9 ⟨by omega,by omega,by omega,by omega⟩;have hjm:j<R.length:=(by rw[HN.out]; exact hlt);obtain⟨b1,o1,rfl,-,hr1⟩:=JV (HA1.out.below HB.out) (k:=j) hjm;obtain⟨b2,o2,rfl,-,hr2⟩:=JV (HA2.out.below HB.out) (k:=j) hjm;have sQ:Hid ((Instr.loadAt 40 (Z5 b1 (o1+j*5))).run Tryz.prog wr.drew=.ok (.agg (ZI (CQ R j))) wr.drew):=Z9 (Gh (w:=wr.drew) hr1);have HL2:Hid ((Instr.loadAt 40 (Z5 b2 (o2+j*5))).run Tryz.prog wr.drew=.ok (.agg (ZI (CQ R j))) wr.drew):=Z9 (Gh (w:=wr.drew) hr2);have Zl:=Z9 HB.out.drew;generalize CQ R j=y at *
   clear hr1 hr2 hjm hg HB;go_upto_region 4 with fail;refine wl<|ZJ (Zv rfl (j) (n) dT)<|wn ?_;simp only[pu];go_upto_region 5 with fail;refine wl<|ZA (Z8 j) (Z8 j)<|wn ?_;simp only[pu];go_upto_region 6 with fail;refine ZH (C:=fun U=>U=wr.drew) (by kernel_rfl) (by kernel_rfl) (rfl) ?_;refine gy (.slice (some ⟨b1,o1,none⟩) n c1)<|gy (Z8 j)<|XU (Z5 b1 (o1+j*5)) (fun U hU=>Af b1 o1 n c1 j hlt _ _ _ rfl (by kernel_rfl) (by kernel_rfl))<|Vy rfl ⟨b1,o1+j*5,none⟩ (.agg (ZI y)) (fun U hU=>by rw[hU]; exact sQ.out) <|
     gy (.slice (some ⟨b2,o2,none⟩) n c2)<|gy (Z8 j)<|XU (Z5 b2 (o2+j*5)) (fun U hU=>Af b2 o2 n c2 j hlt _ _ _ rfl (by kernel_rfl) (by kernel_rfl))<|Vy rfl ⟨b2,o2+j*5,none⟩ (.agg (ZI y)) (fun U hU=>by rw[hU]; exact HL2.out) <|
     XU ZY (fun U hU=>lI rfl y (by kernel_rfl) (by kernel_rfl) _) ?_
   simp only[pu];apply wpQuiet_nil;intro U hU;subst hU;clear sQ HL2;go_upto_region 8 with fail;refine wl<|Yy (Z8 (j+1:Nat)) (ZF rfl j 1 (by have:=HG.out; omega))<|ZV (Z8 (j+1:Nat))<|wn ?_;simp only[pu];go_wp2_with fail;go_roundg (gk-1)
   case measure=>have:=HG.out; omega
   case rel=>exact⟨j+1,rfl,HG.out.2.2.1,Zl,HG.out.1⟩
  ·have Zl:=HB;clear HB hg;go_upto_region 4 with fail;refine wl<|ZJ (Zv rfl (j) (n) dF)<|wn ?_;simp only[pu];go_upto_region 9 with fail;refine wl<|ZV ZW<|wn ?_;simp only[pu];go_wp2_with fail;go_ret;exact⟨rfl,Zl.out⟩
end Go.Proofs.YtnhlpahoomcgnaaGreat.Lg
