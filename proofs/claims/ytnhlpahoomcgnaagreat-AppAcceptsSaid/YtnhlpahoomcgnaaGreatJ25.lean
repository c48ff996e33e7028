/-
  Texts joined.
-/
import Derived.Test.YtnhlpahoomcgnaaGreatJ24
set_option maxRecDepth 100000
set_option maxHeartbeats 8000000
set_option linter.unusedSimpArgs false
set_option linter.unusedVariables false
namespace Go.Proofs.YtnhlpahoomcgnaaGreat.Lg
attribute [local irreducible] wpList wpQuiet
open Mo (YU Y9 Ym Yz)
open Go.RowKit
def Dq (w:World)(X:X0×List XO×Int)(e:Ending)(w':World):Prop:=∃ m0 m1 m2 r,e=.returned (.tuple #[.agg (ZM X.1 m0 m1 m2),r,Z8 X.2.2])/\XR w' X.1 m0 m1 m2/\Wq w' w.heap.size r X.2.1/\Below w.heap.size w w'
def JA (w:World)(X:X0×Int)(e:Ending)(w':World):Prop:=∃ m0 m1 m2,e=.returned (.tuple #[.agg (ZM X.1 m0 m1 m2),Z8 X.2])/\XR w' X.1 m0 m1 m2/\Below w.heap.size w w'
def JB (A:List Ac)(p:Int):X0×Int:=if (WC A).2=0 then (Cb (WC A).1 p,0) else (Ua,(WC A).2)
theorem MQ (D:X0)(l0 l1 l2:Lo)(E:List Bs)(ra:Option Addr)(rc:Nat)(w:World)(hI:XR w D l0 l1 l2)(hW:Uh D)(hE:PE w ra E)(hn:E.length<=100000) :
  Calls Tryz.prog 22 #[.agg (ZM D l0 l1 l2),.slice ra E.length rc] w (Dq w (Xv D (lsB E))):=by
 obtain⟨hb0,hX2,YA⟩:=Zk w (ZM D l0 l1 l2) #[.slice none 0 0,Z4 0,.slice none 0 0,Z4 0,.slice none 0 0,Z4 0,ZY,Z4 0] 31 31;have CT:=fun V hl he=>aB9 D.c.1 D.c.2 D.p E l0.a ra l0.k rc V hl hI.c.le hW.c hW.p he hn;have hE0:=hE.below hb0;have HA:=Z9 (hW.fin hE.all);have HD:Hid ({ D with n:=YP D.c.1 D.c.2 D.p (lsB E) E.length,o:=true }=Qa D (lsB E)):=Z9 (by unfold Qa; rw[Yn]);have WW:Hid (D.o=true->Xv D (lsB E)=(Ua,[],9)):=Z9 fun h=>by unfold Xv; rw[if_pos h]
 have YK:Hid (¬ D.o=true->512<E.length->Xv D (lsB E)=(Ua,[],3)):=Z9 fun h h2=>by unfold Xv; rw[if_neg h,if_pos (by rw[Yn]; exact h2)]
 have XD:Hid (¬ D.o=true->¬ 512<E.length->Xv D (lsB E)=(Qa D (lsB E),UW D.c.1 D.c.2 D.p (lsB E) E.length,0)):=Z9 fun h h2=>by unfold Xv JF; rw[if_neg h,if_neg (by rw[Yn]; exact h2),Yn]
 generalize Xv D (lsB E)=X at *
 generalize Qa D (lsB E)=D2 at *
 generalize YP D.c.1 D.c.2 D.p (lsB E) E.length=U at *
 generalize UW D.c.1 D.c.2 D.p (lsB E) E.length=Q at *
 have UN:=WW;have TG:=YK;have HQ3:=XD;clear hE WW YK XD;go_enter Tryz.func22,Tryz.ntmps22;go_upto_region 1 with fail;change Code.wp _ _ _ _ ((w.alloc (.cells (ZM D l0 l1 l2) 31)).alloc (.cells #[.slice none 0 0,Z4 0,.slice none 0 0,Z4 0,.slice none 0 0,Z4 0,ZY,Z4 0] 31));generalize (w.alloc (.cells (ZM D l0 l1 l2) 31)).alloc (.cells #[.slice none 0 0,Z4 0,.slice none 0 0,Z4 0,.slice none 0 0,Z4 0,ZY,Z4 0] 31)=W at *
 obtain⟨g2,hg2⟩:=ZR w.heap.size;obtain⟨g4,hg4⟩:=ZR (g2+1);have HB0:=Z9 hb0;rw[show w.heap.size+1=g4 by omega] at YA;have HG:Hid (w.heap.size<=g2/\w.heap.size<=g4/\g2≠g4/\g4≠g2):=Z9 (by omega);rw[hg2] at hX2;simp only[hg2];simp only[hg4];have YK:=Z9 hX2;have YV:=Z9 YA;have HI:=Z9 (hI.below hb0);clear hb0 hg2 hg4 hX2 YA hI;have MX:=CT W HI.out.c.cs hE0;have HNE:=Z9 hn;clear CT hE0 hW hn;by_cases ho:D.o=true
 ·have HO:=Z9 ho;clear ho;go_upto_region 1 with fail;refine wl<|ZV (Z5 g2 6)<|ZL rfl ⟨g2,6,none⟩ ZW (U6 (i:=6) YK.out (congrArg (fun z=>some (Value.bool z)) HO.out))<|ZV ZW<|wn ?_;simp only[pu];obtain⟨V9,YT,WJ,Yb,YM⟩:=TI (D:=Ua) (l0:=Yc) (l1:=Yc) (l2:=Yc) YV.out rfl HB0.out HG.out.2.1;have HE:Hid (Dq w X (.returned (.tuple #[.agg (ZM Ua Yc Yc Yc),.slice none 0 0,Z8 9])) V9):=Z9 (by rw[UN.out HO.out]; exact⟨Yc,Yc,Yc,_,rfl,XR.z V9,Wq.nil _ _,Yb⟩);clear Yb YM;go_upto_region 2 with fail;refine wl<|ZV (.agg (ZM Ua Yc Yc Yc))<|Zu rfl (YT)<|ZA (.slice none 0 0) (Z8 9)<|wn ?_;simp only[pu];go_wp2_with fail;exact bodyPost_ret (X5 rfl (by kernel_rfl) (YE WJ) rfl rfl) rfl HE.out
 ·have Na:=Z9 ho;have HO:Hid (D.o=false):=Z9 (by simpa using ho);clear ho;go_upto_region 1 with fail;refine wl<|ZV (Z5 g2 6)<|ZL rfl ⟨g2,6,none⟩ ZY (U6 (i:=6) YK.out (congrArg (fun z=>some (Value.bool z)) HO.out))<|ZV ZY<|wn ?_;simp only[pu];by_cases hlen:512<E.length
  ·go_upto_region 3 with fail;refine wl<|ZA (.slice ra E.length rc) (Z8 E.length)<|ZJ (Zo rfl E.length 512 dT)<|ZV ZW<|wn ?_;simp only[pu];have HL5:=Z9 hlen;clear hlen;obtain⟨V9,YT,WJ,Yb,YM⟩:=TI (D:=Ua) (l0:=Yc) (l1:=Yc) (l2:=Yc) YV.out rfl HB0.out HG.out.2.1;have HE:Hid (Dq w X (.returned (.tuple #[.agg (ZM Ua Yc Yc Yc),.slice none 0 0,Z8 3])) V9):=Z9 (by rw[TG.out Na.out HL5.out]; exact⟨Yc,Yc,Yc,_,rfl,XR.z V9,Wq.nil _ _,Yb⟩);clear Yb YM;go_upto_region 4 with fail;refine wl<|ZV (.agg (ZM Ua Yc Yc Yc))<|Zu rfl (YT)<|ZA (.slice none 0 0) (Z8 3)<|wn ?_;simp only[pu];go_wp2_with fail;exact bodyPost_ret (X5 rfl (by kernel_rfl) (YE WJ) rfl rfl) rfl HE.out
  ·go_upto_region 3 with fail;refine wl<|ZA (.slice ra E.length rc) (Z8 E.length)<|ZJ (Zo rfl E.length 512 dF)<|ZV ZY<|wn ?_;simp only[pu];have HL5:=Z9 hlen;clear hlen;go_upto_region 5 with fail;refine wl<|ZV (Z5 g2 0)<|ZL rfl ⟨g2,0,none⟩ (.agg (ZU l0.a D.c.1.length l0.k D.c.2)) (JY YK.out)<|ZV (Z5 g2 7)<|ZL rfl ⟨g2,7,none⟩ (Z4 D.p) (YK.out.ZP 7) <|
    ZV (.slice ra E.length rc)<|Yi (fun v w'=>∃ ad k r,v=.tuple #[.agg (ZU ad U.1.length k U.2),r]/\Cs w' ad (acc U.1)/\U.1.length<=k/\Wq w' W.heap.size r Q/\Below W.heap.size W w') (MX.mono fun e w' q=>by obtain⟨ad,k,r,h1,h2⟩:=q; exact⟨_,h1,ad,k,r,rfl,h2⟩) (fun vv W1 hq=>?_)
   obtain⟨ad,k,r,rfl,hcs,hk,hrr,hb1⟩:=hq;obtain⟨V2,hst2,hb2,hx2⟩:=UU W1 ad U.1.length k U.2;refine Yr (.tuple #[.agg (ZU ad U.1.length k U.2),r]) (.agg (ZU ad U.1.length k U.2)) (r) ?_;refine Zy rfl (some 7) rfl (Z5 W1.heap.size 0) (W1.alloc (.cells (ZU none 0 0 0) 29)) (by kernel_rfl) ?_;refine Zu rfl (hst2)<|ZV (r)<|wn ?_;simp only[pu];obtain⟨g7,RF⟩:=ZR W1.heap.size;have JR:=hb1.trans (hb2.mono hb1.size);have dG:=YK.out.below YK.out.lt JR;obtain⟨V3,hst3,Qj,hb3,Vg⟩:=NR (i:=4) (a:=ad) (n:=U.1.length) (k:=k) (c:=U.2) (cs':=ZM { D with n:=U } l0 l1 ⟨ad,k⟩) dG rfl (by decide) (HB0.out.trans (JR.mono HB0.out.size)) HG.out.1 rfl;obtain⟨V4,UZ,zO,hb4,Ut⟩:=Zn (i:=6) (ty:=4) (v:=ZW) (cs':=ZM { D with n:=U,o:=true } l0 l1 ⟨ad,k⟩) Qj hb3 HG.out.1 (by show 6<8; decide) rfl (by kernel_rfl) rfl;have h3:=(HI.out.below JR).st dG rfl Vg;have h4:SK V3 ⟨ad,k⟩ U.1:=(SK.below (SK.mk (l:=⟨ad,k⟩) hcs hk) hb2).st dG rfl Vg;have hI4:XR V4 { D with n:=U,o:=true } l0 l1 ⟨ad,k⟩:=⟨h3.c.st Qj rfl Ut,h3.k.st Qj rfl Ut,h4.st Qj rfl Ut⟩;have lT:=((YV.out.below YV.out.lt JR).but Vg HG.out.2.2.2).but Ut HG.out.2.2.2;have hr4:Wq V4 W.heap.size r Q:=Zt (Zt (own_below hrr hb2) Vg YK.out.lt) Ut YK.out.lt;have hx7:=ZN hx2;rw[RF] at hx7 ⊢;obtain⟨l3,hl3⟩:=ZR (Lo.mk ad k);rw[HD.out,hl3] at hI4 zO;clear hst2 hcs hk hrr hb1 hb2 hx2 JR dG Qj hb3 Vg Ut h3 h4 RF hl3 MX;go_upto_region 6 with fail;refine wl<|ZL rfl ⟨g7,0,none⟩ (.agg (ZU ad U.1.length k U.2)) (hx7)<|ZV (Z5 g2 4)<|Zu rfl (hst3)<|ZV (Z5 g2 6)<|Zu rfl (UZ)<|wn ?_;simp only[pu];clear hst3 UZ hx7 HI YK;go_upto_region 7 with fail;refine wl<|ZL rfl ⟨g2,0,none⟩ (.agg (ZM D2 l0 l1 l3)) (YE zO)<|Yi (bF V4 D2) (OD D2 l0 l1 l3 V4 hI4 HA.out) (fun vv W3 hq=>?_);obtain⟨m0,m1,m2,rfl,kM,hbp⟩:=hq;have hx4:=Bx.below lT (Bx.lt lT) hbp;obtain⟨V9,YT,WJ,Yb,YM⟩:=TI (D:=D2) (l0:=m0) (l1:=m1) (l2:=m2) hx4 rfl (Below.trans hb4 (hbp.mono (Below.size hb4))) HG.out.2.1;have dD:=kM.st hx4 rfl YM;have Rx:Wq V9 W.heap.size r Q:=Zt (own_below hr4 hbp) YM YV.out.lt;have HE:Hid (Dq w X (.returned (.tuple #[.agg (ZM D2 m0 m1 m2),r,Z8 0])) V9):=Z9 (by rw[HQ3.out Na.out HL5.out]; exact⟨m0,m1,m2,r,rfl,dD,own_base Rx HB0.out.size,Yb⟩);clear hr4 Rx hbp Yb YM kM dD hI4 zO;refine ZV (r)<|Zu rfl (YT)<|ZA (r) (Z8 0)<|wn ?_;simp only[pu];go_wp2_with fail;exact bodyPost_ret (X5 rfl (by kernel_rfl) (YE WJ) rfl rfl) rfl HE.out
theorem LP (D:X0)(l0 l1 l2:Lo)(w:World)(hI:XR w D l0 l1 l2)(hW:Uh D) :
  Calls Tryz.prog 19 #[.agg (ZM D l0 l1 l2)] w (JA w (Ue D)):=by
 obtain⟨hb0,hX2,YA⟩:=Zk w (ZM D l0 l1 l2) #[.slice none 0 0,Z4 0,.slice none 0 0,Z4 0,.slice none 0 0,Z4 0,ZY,Z4 0] 31 31;have HA:=Z9 hW.com;have UN:Hid (D.o=true->Ue D=(Jm D,0)):=Z9 fun h=>by unfold Ue; rw[if_pos h]
 have TG:Hid (¬ D.o=true->Ue D=(Ua,9)):=Z9 fun h=>by unfold Ue; rw[if_neg h]
 have HD:Hid (⟨D.n,D.n,([],0),false,D.p⟩=Jm D):=Z9 rfl;generalize Ue D=X at *
 generalize Jm D=D2 at *
 clear hW;go_enter Tryz.func19,Tryz.ntmps19;go_upto_region 1 with fail;change Code.wp _ _ _ _ ((w.alloc (.cells (ZM D l0 l1 l2) 31)).alloc (.cells #[.slice none 0 0,Z4 0,.slice none 0 0,Z4 0,.slice none 0 0,Z4 0,ZY,Z4 0] 31));generalize (w.alloc (.cells (ZM D l0 l1 l2) 31)).alloc (.cells #[.slice none 0 0,Z4 0,.slice none 0 0,Z4 0,.slice none 0 0,Z4 0,ZY,Z4 0] 31)=W at *
 obtain⟨g2,hg2⟩:=ZR w.heap.size;obtain⟨g4,hg4⟩:=ZR (g2+1);have HB0:=Z9 hb0;rw[show w.heap.size+1=g4 by omega] at YA;have HG:Hid (w.heap.size<=g2/\w.heap.size<=g4/\g2≠g4/\g4≠g2):=Z9 (by omega);rw[hg2] at hX2;simp only[hg2];simp only[hg4];have YK:=Z9 hX2;have YV:=Z9 YA;have HI:=Z9 (hI.below hb0);clear hb0 hg2 hg4 hX2 YA hI;by_cases ho:D.o=true
 ·have HO:=Z9 ho;clear ho;go_upto_region 1 with fail;refine wl<|ZV (Z5 g2 6)<|ZL rfl ⟨g2,6,none⟩ ZW (U6 (i:=6) YK.out (congrArg (fun z=>some (Value.bool z)) HO.out))<|ZV ZY<|wn ?_;simp only[pu];have hI2:XR W ⟨D.n,D.n,([],0),false,D.p⟩ l2 l2 Yc:=⟨HI.out.n,HI.out.n,SK.nil W⟩;have hd2:=HD.out;rw[HD.out] at hI2;go_upto_region 3 with fail;refine wl<|ZV (Z5 g2 4)<|ZL rfl ⟨g2,4,none⟩ (.agg (ZU l2.a D.n.1.length l2.k D.n.2)) (vC YK.out)<|ZV (Z5 g2 4)<|ZL rfl ⟨g2,4,none⟩ (.agg (ZU l2.a D.n.1.length l2.k D.n.2)) (vC YK.out) <|
   ZV (Z5 g2 7)<|ZL rfl ⟨g2,7,none⟩ (Z4 D.p) (YK.out.ZP 7)<|YG (.agg (ZM D2 l2 l2 Yc)) (by rw[<- hd2]; kernel_rfl)<|Yi (bF W D2) (OD D2 l2 l2 Yc W hI2 HA.out) (fun vv W3 hq=>?_)
  obtain⟨m0,m1,m2,rfl,kM,hbp⟩:=hq;have hx4:=Bx.below YV.out (Bx.lt YV.out) hbp;obtain⟨V9,YT,WJ,Yb,YM⟩:=TI (D:=D2) (l0:=m0) (l1:=m1) (l2:=m2) hx4 rfl (HB0.out.trans (hbp.mono HB0.out.size)) HG.out.2.1;have HE:Hid (JA w X (.returned (.tuple #[.agg (ZM D2 m0 m1 m2),Z8 0])) V9):=Z9 (by rw[UN.out HO.out]; exact⟨m0,m1,m2,rfl,kM.st hx4 rfl YM,Yb⟩);refine Zu rfl (YT)<|ZV (Z8 0)<|wn ?_;simp only[pu];go_wp2_with fail;exact bodyPost_ret (ZO rfl (by kernel_rfl) (YE WJ) rfl) rfl HE.out
 ·have Na:=Z9 ho;have HO:Hid (D.o=false):=Z9 (by simpa using ho);clear ho;go_upto_region 1 with fail;refine wl<|ZV (Z5 g2 6)<|ZL rfl ⟨g2,6,none⟩ ZY (U6 (i:=6) YK.out (congrArg (fun z=>some (Value.bool z)) HO.out))<|ZV ZW<|wn ?_;simp only[pu];obtain⟨V9,YT,WJ,Yb,YM⟩:=TI (D:=Ua) (l0:=Yc) (l1:=Yc) (l2:=Yc) YV.out rfl HB0.out HG.out.2.1;have HE:Hid (JA w X (.returned (.tuple #[.agg (ZM Ua Yc Yc Yc),Z8 9])) V9):=Z9 (by rw[TG.out Na.out]; exact⟨Yc,Yc,Yc,rfl,XR.z V9,Yb⟩);clear Yb YM;go_upto_region 2 with fail;refine wl<|ZV (.agg (ZM Ua Yc Yc Yc))<|Zu rfl (YT)<|ZV (Z8 9)<|wn ?_;simp only[pu];go_wp2_with fail;exact bodyPost_ret (ZO rfl (by kernel_rfl) (YE WJ) rfl) rfl HE.out
theorem ac3 (A:List Ac)(a:Option Addr)(k:Nat)(p:Int)(w:World)(hR:Cs w a (acc A))(hn:A.length<=4398046511104)(hw:Vj A)(hz:∀ x,x∈A->x.1.size<=140737488355328)(hp:W64 p) :
  Calls Tryz.prog 27 #[.slice a A.length k,Z4 p] w (JA w (JB A p)):=by
 have hb0:Below w.heap.size w (w.alloc (.cells #[.slice none 0 0,Z4 0,.slice none 0 0,Z4 0,.slice none 0 0,Z4 0,ZY,Z4 0] 31)):=(Below.refl _ w).alloc (Nat.le_refl _) _;have hX0:Bx (w.alloc (.cells #[.slice none 0 0,Z4 0,.slice none 0 0,Z4 0,.slice none 0 0,Z4 0,ZY,Z4 0] 31)) w.heap.size #[.slice none 0 0,Z4 0,.slice none 0 0,Z4 0,.slice none 0 0,Z4 0,ZY,Z4 0] 31:=heap_alloc_last w _;have CG:=xG a k A (w.alloc (.cells #[.slice none 0 0,Z4 0,.slice none 0 0,Z4 0,.slice none 0 0,Z4 0,ZY,Z4 0] 31)) (hR.below hb0) hn hw hz;have e1:Nl A=((WC A).1,0,(WC A).2):=rfl;rw[e1] at CG;have HA:Hid ((WC A).2=0->Uh (Cb (WC A).1 p)):=Z9 fun h=>Uh.ini (RH.d ⟨(yX h).1,rH hw,Xq⟩) hp;have UN:Hid ((WC A).2=0->JB A p=(Cb (WC A).1 p,0)):=Z9 fun h=>by unfold JB; rw[if_pos h]
 have TG:Hid (¬ (WC A).2=0->JB A p=(Ua,(WC A).2)):=Z9 fun h=>by unfold JB; rw[if_neg h]
 generalize JB A p=Z at *
 generalize WC A=X at *
 have HD:Hid (⟨(X.1,0),(X.1,0),([],0),false,p⟩=Cb X.1 p):=Z9 rfl;generalize Cb X.1 p=D2 at *
 clear hR hn hw hz e1;go_enter Tryz.func27,Tryz.ntmps27;go_upto_region 1 with fail;change Code.wp _ _ _ _ (w.alloc (.cells #[.slice none 0 0,Z4 0,.slice none 0 0,Z4 0,.slice none 0 0,Z4 0,ZY,Z4 0] 31));generalize w.alloc (.cells #[.slice none 0 0,Z4 0,.slice none 0 0,Z4 0,.slice none 0 0,Z4 0,ZY,Z4 0] 31)=W at *
 obtain⟨g4,hg4⟩:=ZR w.heap.size;have HB0:=Z9 hb0;have HG:Hid (w.heap.size<=g4):=Z9 (by omega);rw[hg4] at hX0;simp only[hg4];clear hb0 hg4;refine wl<|ZV (.slice a A.length k) <|
  Yi (fun v w'=>∃ ad kk,v=.tuple #[.agg (ZU ad X.1.length kk 0),Z8 X.2]/\Zi w' W.heap.size (.slice ad X.1.length kk) X.1/\Below W.heap.size W w') (CG.mono fun e w' q=>by obtain⟨ad,kk,h1,h2⟩:=q; exact⟨_,h1,ad,kk,rfl,h2⟩) (fun vv W1 hq=>?_)
 obtain⟨ad,kk,rfl,hrow,hb1⟩:=hq;obtain⟨V2,hst2,hb2,hY2⟩:=UU W1 ad X.1.length kk 0;refine Yr (.tuple #[.agg (ZU ad X.1.length kk 0),Z8 X.2]) (.agg (ZU ad X.1.length kk 0)) (Z8 X.2) ?_;refine Zy rfl (some 6) rfl (Z5 W1.heap.size 0) (W1.alloc (.cells (ZU none 0 0 0) 29)) (by kernel_rfl) ?_;refine Zu rfl (hst2)<|ZV (Z8 X.2)<|wn ?_;simp only[pu];obtain⟨g6,WG⟩:=ZR W1.heap.size;have hb3:=hb1.trans (hb2.mono hb1.size);have hX2:=hX0.below hX0.lt hb3;obtain⟨a9,c9,e9,hcs,hk⟩:=Zi.cs (own_below hrow hb2:Zi V2 _ _ X.1);obtain⟨rfl,-,rfl⟩:=by simpa only[Value.slice.injEq] using e9
 have HL:Hid (SK V2 ⟨ad,kk⟩ X.1):=Z9 ⟨hcs,hk⟩;rw[WG] at hY2 hst2 ⊢;have hbw:=HB0.out.trans (hb3.mono HB0.out.size);clear CG hst2 hrow hb1 hb2 WG hcs hk e9 hb3 hX0;by_cases he:X.2=0
 ·go_upto_region 2 with fail;refine wl<|ZV (Z8 X.2)<|ZJ (YX rfl X.2 0 (decide_eq_true he))<|wn ?_;simp only[pu];have P6:=Z9 he;clear he;obtain⟨l3,hl3⟩:=ZR (Lo.mk ad kk);have hl:=HL.out;rw[hl3] at hl;have hI2:XR V2 ⟨(X.1,0),(X.1,0),([],0),false,p⟩ l3 l3 Yc:=⟨hl,hl,SK.nil V2⟩;rw[HD.out] at hI2;have hd2:ZM D2 ⟨ad,kk⟩ ⟨ad,kk⟩ Yc=ZM D2 l3 l3 Yc:=by rw[hl3]
  have hd3:=HD.out;clear hl hl3;go_upto_region 4 with fail;refine wl<|ZL rfl ⟨g6,0,none⟩ (.agg (ZU ad X.1.length kk 0)) (ZN hY2)<|ZL rfl ⟨g6,0,none⟩ (.agg (ZU ad X.1.length kk 0)) (ZN hY2)<|ZV (Z4 p)<|YG (.agg (ZM D2 l3 l3 Yc)) (by rw[<- hd2,<- hd3]; kernel_rfl) <|
   Yi (bF V2 D2) (OD D2 l3 l3 Yc V2 hI2 (HA.out P6.out)) (fun vv W3 hq=>?_)
  obtain⟨m0,m1,m2,rfl,kM,hbp⟩:=hq;have hx4:=Bx.below hX2 (Bx.lt hX2) hbp;obtain⟨V9,YT,WJ,Yb,YM⟩:=TI (D:=D2) (l0:=m0) (l1:=m1) (l2:=m2) hx4 rfl (hbw.trans (hbp.mono hbw.size)) HG.out;have HE:Hid (JA w Z (.returned (.tuple #[.agg (ZM D2 m0 m1 m2),Z8 0])) V9):=Z9 (by rw[UN.out P6.out]; exact⟨m0,m1,m2,rfl,kM.st hx4 rfl YM,Yb⟩);refine Zu rfl (YT)<|ZV (Z8 0)<|wn ?_;simp only[pu];go_wp2_with fail;exact bodyPost_ret (ZO rfl (by kernel_rfl) (YE WJ) rfl) rfl HE.out
 ·go_upto_region 2 with fail;refine wl<|ZV (Z8 X.2)<|ZJ (YX rfl X.2 0 (decide_eq_false he))<|wn ?_;simp only[pu];obtain⟨V9,YT,WJ,Yb,YM⟩:=TI (D:=Ua) (l0:=Yc) (l1:=Yc) (l2:=Yc) hX2 rfl hbw HG.out;have HE:Hid (JA w Z (.returned (.tuple #[.agg (ZM Ua Yc Yc Yc),Z8 X.2])) V9):=Z9 (by rw[TG.out he]; exact⟨Yc,Yc,Yc,rfl,XR.z V9,Yb⟩);clear Yb YM he;go_upto_region 3 with fail;refine wl<|ZA (.agg (ZM Ua Yc Yc Yc)) (Z8 X.2)<|Zu rfl (YT)<|ZV (Z8 X.2)<|wn ?_;simp only[pu];go_wp2_with fail;exact bodyPost_ret (ZO rfl (by kernel_rfl) (YE WJ) rfl) rfl HE.out
end Go.Proofs.YtnhlpahoomcgnaaGreat.Lg
namespace Go.Proofs.YtnhlpahoomcgnaaGreat.Lg
open Mo (YU Y9 Ym Yz)
open Go.RowKit
def kU:Y8:=⟨UY,0,300,0,WE,[(Tm,5)]⟩
def kA:List Ac:=[(UY,1000,0)]
def kB:List Ac:=[(UY,995,1),(Tm,5,0)]
theorem tC:Xu kU=0:=by
 unfold Xu kU;simp only[ar6,jV,ar7,SC]
 decide
theorem aG2:W64 5:=k_w 5 (by decide)
theorem ac5:Dh kU:=(val_ok tC (k_w 0 (by decide)) (k_w 300 (by decide)) (k_w 0 (by decide)) (fun x hx=>by
 have e:x=(Tm,5):=by simpa [kU] using hx
 rw[e]; exact aG2)).1
theorem zI:(form kU).length=17:=by decide +kernel
theorem ap7:Rn kU=(form kU,0):=by unfold Rn; rw[if_neg (by rw[tC]; decide),if_neg (by rw[zI]; decide)]
theorem bD:Zj (form kU)=(kU,0):=jU ac5 tC (by rw[zI]; decide) (by decide)
theorem aG3:YD kA 0=0:=by decide +kernel
theorem aG4:YD kB 0=0:=by decide +kernel
theorem aG5:Yp kA 0 kU 17=0:=by decide +kernel
theorem ar8:Yp kB 0 kU 17=14:=by decide +kernel
theorem aG6:Yl kA kU=kB:=by decide +kernel
theorem ar9:Y9 kU.YZ kU.Zp=0:=by decide +kernel
def r1:XO:=⟨0,UY,0,300,0⟩
def r2:XO:=⟨14,UY,0,300,0⟩
theorem zH:WZ kA 0 0 (form kU)=((kB,0),r1):=by
 unfold WZ;rw[bD,zI];simp only[ar9];rw[if_neg (by rw[aG3]; decide),if_neg (by decide),if_neg (by rw[show((17:Nat):Int)=17 from rfl,aG5]; decide),aG6];rfl
theorem as1:WZ kB 0 0 (form kU)=((kB,0),r2):=by
 unfold WZ;rw[bD,zI];simp only[ar9];rw[if_neg (by rw[aG4]; decide),if_neg (by decide),if_pos (by rw[show((17:Nat):Int)=17 from rfl,ar8]; decide),show((17:Nat):Int)=17 from rfl,ar8];rfl
theorem aG7:YP kA 0 0 [form kU] 1=(kB,0):=by rw[Xb (by decide),xI]; exact congrArg (·.1) zH
theorem as2:VE kA 0 0 [form kU] 0=r1:=congrArg (·.2) zH
theorem aG8:UW kA 0 0 [form kU] 1=[r1]:=by rw[Ol,as2]; rfl
theorem ac4:Pm kA 0:=⟨by decide,Xq,LJ fun x hx=>by
 have e:x=(UY,1000,0):=by simpa [kA] using hx
 rw[e]; exact⟨k_w 1000 (by decide),k_w 0 (by decide)⟩,fun x hx=>by
 have e:x=(UY,1000,0):=by simpa [kA] using hx
 rw[e]; exact Nat.le_trans (show UY.size<=3 by decide) (by decide)⟩
theorem aG9:WC kA=(kA,0):=by decide +kernel
def D1:X0:=Cb kA 0
def D2:X0:=⟨(kA,0),(kB,0),([],0),false,0⟩
def D3:X0:=⟨(kA,0),(kB,0),(kB,0),true,0⟩
def D4:X0:=⟨(kB,0),(kB,0),([],0),false,0⟩
theorem ap5:Uh D1:=Uh.ini ac4 Xq
theorem ap1:JB kA 0=(D1,0):=by unfold JB; rw[aG9]; rfl
theorem bI:Pv D1 (form kU)=D2:=by
 have h:(WZ kA 0 0 (form kU)).1=(kB,0):=congrArg (·.1) zH;unfold Pv;exact congrArg (fun z=>(⟨(kA,0),z,([],0),false,0⟩:X0)) h
theorem ac1:∀ y,y∈form kU->W8 y:=Tj ac5.vf
theorem ap6:Uh D2:=by rw[<- bI]; exact ap5.acc ac1
theorem aF9:Pq D1 (form kU)=r1:=congrArg (·.2) zH
theorem aG0:Pq D2 (form kU)=r2:=congrArg (·.2) as1
theorem bH:Xv D2 [form kU]=(D3,[r1],0):=by
 unfold Xv;rw[if_neg (by decide),if_neg (by decide)];have h1:Qa D2 [form kU]=D3:=congrArg (fun z=>(⟨(kA,0),(kB,0),z,true,0⟩:X0)) aG7;have h2:JF D2 [form kU]=[r1]:=aG8;rw[h1,h2]
theorem aG1:Uh D3:=by
 have h:=ap6.Xv (Ls:=[form kU]) (fun L hL=>by rw[List.mem_singleton.1 hL]; exact ac1);rw[bH] at h;exact h
theorem ac0:Xv D3 []=(Ua,[],9):=by unfold Xv; rw[if_pos (show D3.o=true from rfl)]
theorem ap2:Ue D3=(D4,0):=by unfold Ue; rw[if_pos (show D3.o=true from rfl)]; rfl
theorem ap3:Nu D2=D1:=rfl
theorem ap4:Px D2 [form kU]=true:=by
 unfold Px;have h:VD kA 0 0 [form kU]=(YP kA 0 0 [form kU] 1,0,0):=LH fun j hj=>by
  obtain rfl:j=0:=by have:j<1:=hj; omega
  rw[as2]; rfl
 have h2:(VD D2.c.1 D2.c.2 D2.p [form kU]).2.2=0:=by
  show(VD kA 0 0 [form kU]).2.2=0;rw[h]
 exact decide_eq_true h2
end Go.Proofs.YtnhlpahoomcgnaaGreat.Lg
namespace Go.Proofs.YtnhlpahoomcgnaaGreat.Lg
attribute [local irreducible] wpList wpQuiet
open Mo (YU Y9 Ym Yz)
open Go.RowKit
theorem ab4 {ρ:Operand->Value}{o:Oper}{x y:Operand}(ho:o.op=.binOp .eql 4 x y 4)(a:Bool)(hx:ρ x=.bool a)(hy:ρ y=.bool a)(w:World):(execOp ρ o).run Tryz.prog w=.ok (.value ZW) w:=by
 unfold execOp;simp only[ho,hx,hy];cases a <;> go_simp
theorem LQ (D:X0)(l0 l1 l2 m0 m1 m2:Lo)(w:World)(hI:XR w D l0 l1 l2)(hJ:XR w D m0 m1 m2)(hW:Uh D) :
  Calls Tryz.prog 13 #[.agg (ZM D l0 l1 l2),.agg (ZM D m0 m1 m2)] w fun e w'=>e=.returned ZW/\Below w.heap.size w w':=by
 obtain⟨hb0,hX2,YA⟩:=Zk w (ZM D l0 l1 l2) (ZM D m0 m1 m2) 31 31;have hJ:=hJ.below hb0;have Ig:=Z9 (fun(V:World) (h1:Cs V l0.a (acc D.c.1)) h2=>Vh D.c.1 D.c.2 l0.a m0.a l0.k m0.k V h1 h2 hW.c.n);have Vx:=Z9 (fun(V:World) (h1:Cs V l1.a (acc D.k.1)) h2=>Vh D.k.1 D.k.2 l1.a m1.a l1.k m1.k V h1 h2 hW.k.n);have HS2:=Z9 (fun(V:World) (h1:Cs V l2.a (acc D.n.1)) h2=>Vh D.n.1 D.n.2 l2.a m2.a l2.k m2.k V h1 h2 hW.n.n);clear hW;go_enter Tryz.func13,Tryz.ntmps13;go_upto_region 1 with fail;change Code.wp _ _ _ _ ((w.alloc (.cells (ZM D l0 l1 l2) 31)).alloc (.cells (ZM D m0 m1 m2) 31));generalize (w.alloc (.cells (ZM D l0 l1 l2) 31)).alloc (.cells (ZM D m0 m1 m2) 31)=W at *
 obtain⟨g2,hg2⟩:=ZR w.heap.size;obtain⟨g4,hg4⟩:=ZR (g2+1);have HB0:=Z9 hb0;rw[show w.heap.size+1=g4 by omega] at YA;rw[hg2] at hX2;simp only[hg2];simp only[hg4];have YK:=Z9 hX2;have YV:=Z9 YA;have HI:=Z9 (hI.below hb0);have HJ:=Z9 hJ;clear hb0 hg2 hg4 hX2 YA hI hJ;have C0:=Ig.out W HI.out.c.cs HJ.out.c.cs;have VI:=Z9 (Below.refl W.heap.size W);refine wl<|ZV (Z5 g2 0)<|ZL rfl ⟨g2,0,none⟩ (.agg (ZU l0.a D.c.1.length l0.k D.c.2)) (JY (YK.out.below YK.out.lt VI.out))<|ZV (Z5 g4 0) <|
  ZL rfl ⟨g4,0,none⟩ (.agg (ZU m0.a D.c.1.length m0.k D.c.2)) (JY (YV.out.below YV.out.lt VI.out))<|YS ZW (fun w'=>Below W.heap.size W w') (C0) (fun V1 hq=>?_)
 have VI:=Z9 hq;have C1:=Vx.out V1 (HI.out.k.cs.below hq) (HJ.out.k.cs.below hq);clear hq;refine ZA ZW (Z5 g2 2)<|ZL rfl ⟨g2,2,none⟩ (.agg (ZU l1.a D.k.1.length l1.k D.k.2)) (DR (YK.out.below YK.out.lt VI.out))<|ZV (Z5 g4 2) <|
  ZL rfl ⟨g4,2,none⟩ (.agg (ZU m1.a D.k.1.length m1.k D.k.2)) (DR (YV.out.below YV.out.lt VI.out))<|YS ZW (fun w'=>Below V1.heap.size V1 w') (C1) (fun V2 hq=>?_)
 have VI:=Z9 (VI.out.trans (hq.mono VI.out.size));have C2:=HS2.out V2 (HI.out.n.cs.below VI.out) (HJ.out.n.cs.below VI.out);clear hq;refine Yr ZW ZW (Z5 g2 4)<|ZL rfl ⟨g2,4,none⟩ (.agg (ZU l2.a D.n.1.length l2.k D.n.2)) (vC (YK.out.below YK.out.lt VI.out))<|ZV (Z5 g4 4) <|
  ZL rfl ⟨g4,4,none⟩ (.agg (ZU m2.a D.n.1.length m2.k D.n.2)) (vC (YV.out.below YV.out.lt VI.out))<|YS ZW (fun w'=>Below V2.heap.size V2 w') (C2) (fun V3 hq=>?_)
 have VI:=Z9 (VI.out.trans (hq.mono VI.out.size));have HE:=Z9 (HB0.out.trans (VI.out.mono HB0.out.size));clear hq;refine Yr ZW ZW (Z5 g2 6)<|ZL rfl ⟨g2,6,none⟩ (.bool D.o) ((YK.out.below YK.out.lt VI.out).ZP 6)<|ZV (Z5 g4 6) <|
  ZL rfl ⟨g4,6,none⟩ (.bool D.o) ((YV.out.below YV.out.lt VI.out).ZP 6)<|Yy ZW (ab4 rfl D.o)<|Yr ZW ZW (Z5 g2 7) <|
  ZL rfl ⟨g2,7,none⟩ (Z4 D.p) ((YK.out.below YK.out.lt VI.out).ZP 7)<|ZV (Z5 g4 7)<|ZL rfl ⟨g4,7,none⟩ (Z4 D.p) ((YV.out.below YV.out.lt VI.out).ZP 7) <|
  ZJ (J3 rfl D.p D.p (decide_eq_true rfl))<|ZA ZW ZW<|wn ?_
 simp only[pu];go_wp2_with fail;go_ret;exact⟨rfl,HE.out⟩
def aE3 (w:World)(la:Option Addr)(A:List Ac)(X:List Ac×Int)(e:Ending)(w':World):Prop:=∃ ad k,e=.returned (.agg (ZU ad X.1.length k X.2))/\Cs w' ad (acc X.1)/\X.1.length<=k/\((ad=la/\X.1=A)∨∀ x,ad=some x->w.heap.size<=x.block)/\Below w.heap.size w w'
theorem uV (A:List Ac)(c p:Int)(L:List Int)(la ra:Option Addr)(lk rc:Nat)(w:World)(hL:Cs w la (acc A))(hlk:A.length<=lk)(hd:Pm A c)(hp:W64 p)(hR:Sl w ra rc L)(hrc:L.length<=rc)(h8:∀ y,y∈L->W8 y) :
  Calls Tryz.prog 36 #[.agg (ZU la A.length lk c),Z4 p,.slice ra L.length rc] w (aE3 w la A (WZ A c p L).1):=by
 obtain⟨hb0,Wj,WX⟩:=Zk w (ZU la A.length lk c) (ZU none 0 0 0) 29 29;have CT:=NU A c p L la ra lk rc _ (hL.below hb0) hlk hd.n hd.cw hd.w hd.z hp (ZK hR hb0) hrc h8;have Dj:=Z9 (WM hL);generalize WZ A c p L=X at *
 clear hL hd hp hR hrc h8 hlk;go_enter Tryz.func36,Tryz.ntmps36;go_upto_region 1 with fail;change Code.wp _ _ _ _ ((w.alloc (.cells (ZU la A.length lk c) 29)).alloc (.cells (ZU none 0 0 0) 29));generalize (w.alloc (.cells (ZU la A.length lk c) 29)).alloc (.cells (ZU none 0 0 0) 29)=W at *
 obtain⟨g3,hg3⟩:=ZR w.heap.size;obtain⟨g6,WG⟩:=ZR (g3+1);rw[hg3] at Wj;rw[show w.heap.size+1=g6 by omega] at WX;have HG:Hid (w.heap.size<=g6/\g6<W.heap.size):=Z9 ⟨by omega,WX.lt⟩;simp only[hg3];simp only[WG];have HB0:=Z9 hb0;have XD:=Z9 Wj;have XQ:=Z9 WX;clear hb0 hg3 WG Wj WX;refine wl<|ZL rfl ⟨g3,0,none⟩ (.agg (ZU la A.length lk c)) (ZN XD.out)<|ZA (Z4 p) (.slice ra L.length rc) <|
  Yi (fun v w'=>∃ aZ kZ,v=.tuple #[.agg (ZU aZ X.1.1.length kZ X.1.2),.agg (ZI X.2)]/\Cs w' aZ (acc X.1.1)/\X.1.1.length<=kZ/\((aZ=la/\X.1.1=A)∨∀ x,aZ=some x->W.heap.size<=x.block)/\Below W.heap.size W w') (CT.mono fun e w' q=>by obtain⟨aZ,kZ,h1,h2⟩:=q; exact⟨_,h1,aZ,kZ,rfl,h2⟩) (fun vv V2 hq=>?_)
 obtain⟨a2,k2,rfl,hct,hkt,hbl,hbt⟩:=hq;obtain⟨Va,Vb,Vc,Oq,hlt2,hs6,hs7,hb7,hx4,-⟩:=JW V2 a2 X.1.1.length k2 X.1.2 X.2;refine Yr (.tuple #[.agg (ZU a2 X.1.1.length k2 X.1.2),.agg (ZI X.2)]) (.agg (ZU a2 X.1.1.length k2 X.1.2)) (.agg (ZI X.2)) ?_;refine Zy rfl (some 7) rfl (Z5 V2.heap.size 0) (V2.alloc (.cells (ZU none 0 0 0) 29)) (by kernel_rfl) ?_;simp only[pu];rw[Oq];refine Zy rfl (some 8) rfl (Z5 Va.heap.size 0) (Va.alloc (.cells (ZI (YR 0)) 40)) (by kernel_rfl) ?_;refine Zu rfl (hs6)<|Zu rfl (hs7)<|wn ?_;have Yb:=hbt.trans (hb7.mono hbt.size);obtain⟨g7,RF⟩:=ZR V2.heap.size;obtain⟨g8,Nh⟩:=ZR Va.heap.size;rw[RF] at hx4 ⊢;obtain⟨hst3,Wy⟩:=ZC (a':=a2) (n':=X.1.1.length) (k':=k2) (c':=X.1.2) (XQ.out.below XQ.out.lt Yb);have Yk:But g6 Vc (Vc.setRow g6 (ZU a2 X.1.1.length k2 X.1.2)):=But.setRow Vc (ZU a2 X.1.1.length k2 X.1.2);have Nw:=YF (hct.below hb7) Yk (Ad hbl Dj.out HG.out.1 HG.out.2);have Nv:=ZQ (HB0.out.trans (Yb.mono HB0.out.size)) HG.out.1 (ZU a2 X.1.1.length k2 X.1.2);have HE:Hid (aE3 w la A X.1 (.returned (.agg (ZU a2 X.1.1.length k2 X.1.2))) (Vc.setRow g6 (ZU a2 X.1.1.length k2 X.1.2))):=Z9 ⟨a2,k2,rfl,Nw,hkt,hbl.imp id (fun h9 x hx=>Nat.le_trans HB0.out.size (h9 x hx)),Nv⟩;generalize Vc.setRow g6 (ZU a2 X.1.1.length k2 X.1.2)=V3 at *
 clear Oq hs6 hs7 hct hbl hbt hb7 Yb Yk Nw Nv RF Nh CT;go_upto_region 2 with fail;refine wl<|ZL rfl ⟨g7,0,none⟩ (.agg (ZU a2 X.1.1.length k2 X.1.2)) (ZN hx4)<|Zu rfl (hst3)<|wn ?_;simp only[pu];go_wp2_with fail;exact bodyPost_ret (YB rfl (by kernel_rfl) (ZN Wy)) rfl HE.out
theorem uU {w w':World}{B g c k:Nat}{a:Option Addr}{L:List Int}(h:NS w g a c L k)(hb:Below B w w')(hg:g<B)(ha:L≠[]->∀ x,a=some x->x.block<B):NS w' g a c L k:=by
 obtain⟨N,h1,h2,h3,h4⟩:=h;refine⟨N,h1,h2.below hg hb,fun j v hj=>?_,h4⟩;obtain⟨b,off,e,hlt,hc⟩:=h3 j v hj;have hne:L≠[]:=fun z=>by rw[z] at hj; simp[XL] at hj
 exact⟨b,off,e,Nat.lt_of_lt_of_le hlt hb.size,(hb.cell (p:=⟨b,off+j,none⟩) (ha hne ⟨b,off,none⟩ e:b<B)).trans hc⟩
structure OA (w:World)(B:Nat)(v:Value)(E:List Bs):Prop where
 own:w.ownsRow B 23 1 v E.length (RJ E)
 rw:∀ e,e∈E->Rw w B e.1 e.2.1 e.2.2
 ap:∀ e,e∈E->e.2.2≠[]->∀ x,e.1=some x->v.ownBlock≠some x.block
theorem Iq (E:List Bs):(RJ E).length=E.length:=by simp[RJ]
theorem Ip (E:List Bs):∀ u∈RJ E,u.oneCell'=true:=fun u hu=>by
 obtain⟨x,-,rfl⟩:=List.mem_map.1 hu;rfl
theorem OA.nil (w:World)(B:Nat):OA w B (.slice none 0 0) []:=⟨World.ownsRow_nil _ _ _ _,(fun e he=>by cases he),fun e he=>by cases he⟩
theorem OA.below {w w':World}{B:Nat}{v:Value}{E:List Bs}(h:OA w B v E)(hb:Below w.heap.size w w'):OA w' B v E:=⟨own_below h.own hb,fun e he=>(h.rw e he).below hb,h.ap⟩
theorem OA.but {w w':World}{B g:Nat}{v:Value}{E:List Bs}(h:OA w B v E)(hb:But g w w')(hg:g<B):OA w' B v E:=⟨Zt h.own hb hg,fun e he=>(h.rw e he).but hb hg,h.ap⟩
theorem OA.base {w:World}{B B2:Nat}{v:Value}{E:List Bs}(h:OA w B2 v E)(hB:B<=B2):OA w B v E:=⟨own_base h.own hB,fun e he=>(h.rw e he).base hB,h.ap⟩
theorem OA.bM {w:World}{B:Nat}{v:Value}{E:List Bs}(h:OA w B v E):∃ a c,v=.slice a E.length c/\PE w a E/\E.length<=c:=by
 obtain⟨a,c,e,h1,h2⟩:=Yq h.own;exact⟨a,c,e,⟨h1,fun e he=>(h.rw e he).sl,fun e he=>(h.rw e he).le,fun e he=>(h.rw e he).b⟩,h2⟩
theorem Oo:(Tryz.prog.info? 23).map (fun i=>(i.zero,i.size,i.bytes))=some (some (.slice none 0 0),1,24):=by kernel_rfl
theorem LK (a:Option Addr)(n c:Nat)(V:World):(Instr.buildSlice 32 1 #[(0,.slice a n c)]).run Tryz.prog V=.ok (.slice (some ⟨V.heap.size,0,none⟩) 1 1) (V.alloc (.cells #[.slice a n c] 23)):=by
 obtain⟨i0,hi,hz0,hz1,hz2⟩:=info_parts Oo;refine run_buildSlice V 32 23 1 _ #[.slice a n c] i0 _ Tryz.underlying32 hi hz0 (by rw[hz1]; omega) (by rw[hz1]; omega) ?_;rw[hz1];kernel_rfl
theorem OC {w w':World}{row:Option Nat}{a:Option Addr}{c:Nat}{L:List Int}(h:Sl w a c L)(hg:w.grownBy w' row)(hn:L≠[]->∀ x,a=some x->row≠some x.block):Sl w' a c L:=by
 rcases h with h | ⟨x,rfl,hx⟩
 ·exact .inl h
 ·refine .inr ⟨x,rfl,fun k hk=>?_⟩;obtain⟨b,off,rfl,hc⟩:=hx k hk;refine⟨b,off,rfl,?_⟩;rw[<- hc];exact World.cell?_of_block (hg.block b (World.block_lt_of_cell? w (⟨b,off+k,none⟩:Addr) hc) (fun q=>hn (fun z=>by rw[z] at hk; cases hk) _ rfl q.symm))
theorem an9 {w:World}{B:Nat}{v:Value}{A:List Bs}(h:OA w B v A)(pa:Option Addr)(cp:Nat)(M:List Bs)(hP:Cs w pa (RJ M))(hM:∀ e,e∈M->Rw w B e.1 e.2.1 e.2.2)(hap:∀ e,e∈M->e.2.2≠[]->∀ x,e.1=some x->v.ownBlock≠some x.block)(hB:B<=w.heap.size)(hl:(A.length+M.length)*24<=140737488355328) :
  ∃ a c V2,(Builtin.append_ #[32,32] 32 #[v,.slice pa M.length cp]).run Tryz.prog w=.ok (.slice a (A++M).length c) V2/\OA V2 B (.slice a (A++M).length c) (A++M)/\Below B w V2/\w.grownBy V2 v.ownBlock/\((Value.slice a (A++M).length c).ownBlock=v.ownBlock∨(Value.slice a (A++M).length c).ownBlock=some w.heap.size):=by
 obtain⟨v2,V2,hr,hO,hb,hg,hat⟩:=VF (P:=Tryz.prog) (t:=32) (e:=23) (m:=M.length) (s:=1) (bytes:=24) Tryz.underlying32 Oo (by kernel_rfl) (by omega) h.own pa cp (RJ M) hP (by rw[Iq,Nat.mul_one]) (Ip M) hB (by omega) hl;have hO2:V2.ownsRow B 23 1 v2 (A++M).length (RJ (A++M)):=by rw[List.length_append,show RJ (A++M)=RJ A++RJ M by unfold RJ; rw[List.map_append]]; exact hO
 obtain⟨a,c,e,-,-⟩:=Yq hO2;subst e;have hR:∀ e,e∈A++M->Rw w B e.1 e.2.1 e.2.2/\(e.2.2≠[]->∀ x,e.1=some x->v.ownBlock≠some x.block):=fun e he=>by
  rcases List.mem_append.1 he with h1 | h1
  ·exact⟨h.rw e h1,h.ap e h1⟩
  ·exact⟨hM e h1,hap e h1⟩
 refine⟨a,c,V2,hr,⟨hO2,fun e he=>?_,fun e he hne x hx=>?_⟩,hb,hg,hat⟩
 ·obtain⟨r1,r2⟩:=hR e he;exact⟨OC r1.sl hg r2,r1.le,r1.b,r1.n,r1.o⟩
 ·obtain⟨r1,r2⟩:=hR e he;rcases hat with h1 | h1
  ·rw[h1]; exact r2 hne x hx
  ·rw[h1];intro q;obtain⟨b,off,e2,hlt,-⟩:=EK r1.sl (k:=0) (List.length_pos_iff.2 hne);rw[hx] at e2;cases e2;simp only[Option.some.injEq] at q;omega
def ao0 (w:World)(g:Nat)(a:Option Addr)(c:Nat)(L:List Int)(k m:Nat)(e:Ending)(w':World):Prop:=∃ v E,e=.returned v/\OA w' w.heap.size v E/\E.length<=m/\NS w' g a c L (k+301)/\But g w w'
theorem lQ {w:World}{g:Nat}{y0 y1 y2 z0 z1:Value}{a:Option Addr}{n k:Nat}{c p:Int}(h:Bx w g #[.slice a n k,Z4 c,z0,z1,y0,y1,y2,Z4 p] 31):(Instr.loadAt 29 (Z5 g 0)).run Tryz.prog w=.ok (.agg (ZU a n k c)) w:=
 run_loadAt_mid w g 0 29 [.slice a n k,Z4 c] _ (Bx.two h 0 _ _ rfl rfl) Tryz.underlying29 rfl (by kernel_rfl)
theorem dB {w:World}{g c k ck m:Nat}{a ca:Option Addr}{L:List Int}{C0:List Ac}{cc p:Int}{y0 y1 y2 z0 z1:Value}(h:NS w g a c L k)(hl:L.length<=100000)(hk:k<=5000)(hrow:Cs w ca (acc C0))(hck:C0.length<=ck)(hrg:acc C0≠[]->∀ x,ca=some x->x.block≠g)(hq:RH C0 cc)(hp:W64 p)(hm:m<=6) :
  Calls Tryz.prog 21 #[Z5 g 0,.agg #[.slice ca (List.length C0) ck,Z4 cc,z0,z1,y0,y1,y2,Z4 p],Z8 m] w (ao0 w g a c L k m):=by
 have hb0:Below w.heap.size w (w.alloc (.cells #[.slice ca (List.length C0) ck,Z4 cc,z0,z1,y0,y1,y2,Z4 p] 31)):=(Below.refl _ w).alloc (Nat.le_refl _) _;have hX0:Bx (w.alloc (.cells #[.slice ca (List.length C0) ck,Z4 cc,z0,z1,y0,y1,y2,Z4 p] 31)) w.heap.size #[.slice ca (List.length C0) ck,Z4 cc,z0,z1,y0,y1,y2,Z4 p] 31:=heap_alloc_last w _;have Xn:=Z9 h.lt;have HAB:=Z9 (fun h1 x hx=>h.ab h1 x hx);have hns0:=h.below hb0;have hrow0:=hrow.below hb0;have HCO:=Z9 (WM hrow);have kP:=Z9 hp;clear h hrow hp;go_enter Tryz.func21,Tryz.ntmps21;go_upto_region 1 with fail;change Code.wp _ _ _ _ (w.alloc (.cells #[.slice ca (List.length C0) ck,Z4 cc,z0,z1,y0,y1,y2,Z4 p] 31));generalize w.alloc (.cells #[.slice ca (List.length C0) ck,Z4 cc,z0,z1,y0,y1,y2,Z4 p] 31)=W at *
 obtain⟨g4,hg4⟩:=ZR w.heap.size;obtain⟨V2,hst,hb2,Wy⟩:=UU W ca (List.length C0) ck cc;have HB2:=Z9 (hb0.trans (hb2.mono hb0.size));rw[hg4] at hX0;simp only[hg4];have YA:=hX0.below hX0.lt hb2;have Ur:=hns0.below hb2;have hrow2:=hrow0.below hb2;obtain⟨g8,Nh⟩:=ZR W.heap.size;rw[Nh] at Wy;have HG:Hid (w.heap.size=g4/\g4<g8/\g<g4/\g8<V2.heap.size):=Z9 ⟨hg4,by have:=hX0.lt; omega,by have:=Xn.out; omega,Wy.lt⟩;refine wl<|ZV (.slice none 0 0)<|wn ?_;simp only[pu];go_upto_region 2 with fail;refine wl<|ZV (Z5 g4 0)<|ZL rfl ⟨g4,0,none⟩ (.agg (ZU ca (List.length C0) ck cc)) (lQ hX0) ?_;refine Zy rfl (some 8) rfl (Z5 W.heap.size 0) (W.alloc (.cells (ZU none 0 0 0) 29)) (by kernel_rfl) ?_;refine Zu rfl (hst)<|wn ?_;rw[Nh];obtain⟨v9,hv9,CN⟩:=X4 Ur hl (by omega) (m+1:Nat) (by omega) (by omega);clear hb0 hst hb2 hX0 hns0 hrow0 hg4 Nh;go_upto_region 3 with fail;refine wl<|ZA (Z5 g 0) (Z8 m)<|Yy (Z8 (m+1:Nat)) (ZF rfl m 1 (by omega))<|YS (Z8 v9) (fun w'=>NS w' g a c L (k+1)/\But g V2 w') CN (fun V3 hq=>?_);obtain⟨aE4,Vg⟩:=hq;refine ZV (Z8 v9)<|wn ?_;simp only[pu];obtain⟨B0,hB0⟩:=ZR V2.heap.size;have MK:Hid (g8<B0/\w.heap.size<=B0/\B0<=V3.heap.size):=Z9 ⟨by have:=HG.out.2.2.2; omega,by have:=HB2.out.size; omega,by have:=Vg.1.size; omega⟩;have kV:Hid (NS V3 g a c L (k+1+50*(6-v9))):=Z9 (aE4.mono (by omega));have JZ:=Z9 (YA.but Vg (by have:=HG.out; omega));have zZ:=Z9 (Wy.but Vg (by have:=HG.out; omega));have HC3:=Z9 (YF hrow2 Vg hrg);have JE:=Z9 ((But.of_below HB2.out (Nat.le_of_lt Xn.out)).trans Vg);have aE5:Hid (acc C0≠[]->∀ x,ca=some x->x.block≠g/\x.block≠g8/\(Value.slice none 0 0).ownBlock≠some x.block):=Z9 fun hne x hx=>⟨hrg hne x hx,by have:=HCO.out hne x hx; have:=HG.out; omega,fun z=>by cases z⟩;have HQ3:=Z9 hq;clear CN aE4 Vg YA Wy Ur hrow2 hB0 HB2 hq hrg;go_wp2_with fail;go_loopg [7,9,10] v9 (fun gg s7 s9 s10 wx=>∃ (i:Nat) (v7:Value) (E:List Bs) (B:List Ac) (co:Int) (ra:Option Addr) (rc:Nat),s7=v7/\s9=Z8 i/\i<=6/\E.length+i<=m/\B.length<=rc/\Hid (RH B co)/\Hid (OA wx B0 v7 E)/\Hid (NS wx g a c L (k+1+50*(6-i)))/\Hid (But g w wx)/\Hid (Bx wx g4 #[.slice ca (List.length C0) ck,Z4 cc,z0,z1,y0,y1,y2,Z4 p] 31)/\Hid (Bx wx g8 (ZU ra B.length rc co) 29)/\Hid (Cs wx ra (acc B))/\Hid (acc B≠[]->∀ x,ra=some x->x.block≠g/\x.block≠g8/\v7.ownBlock≠some x.block)/\Hid (B0<=wx.heap.size)/\i=gg)
 case atStart=>exact⟨v9,_,[],C0,cc,ca,ck,rfl,rfl,by omega,by simp only[List.length_nil]; omega,hck,HQ3,Z9 (OA.nil _ _),kV,JE,JZ,zZ,HC3,aE5,Z9 MK.out.2.2,rfl⟩
 case round=>
  obtain⟨i,v7,E,B,co,ra,rc,rfl,rfl,kE,hEi,hrc,HQ,HE,BK,Pz,YV,TS,HC,Vp,uK,hgi⟩:=hrel;clear kV JZ zZ HC3 JE aE5 HQ3 hck;have ug:=Z9 hgi;clear hgi;by_cases hlt:0<i
  ·go_upto_region 4 with fail;refine wl<|ZV (Z8 i)<|ZJ (Zo rfl (i) (0) dT)<|wn ?_;simp only[pu];have CR:=Ak (rc:=rc) (co:=co) (p:=p) BK.out hl (by omega) HC.out (fun hne x hx=>(Vp.out hne x hx).1) HQ.out.q (by have:=HQ.out.n; omega);go_upto_region 6 with fail;refine wl<|ZV (Z5 g 0)<|ZL rfl ⟨g8,0,none⟩ (.agg (ZU ra B.length rc co)) (ZN TS.out)<|ZV (Z5 g4 7)<|ZL rfl ⟨g4,7,none⟩ (Z4 p) (YV.out.ZP 7) <|
    Yi (fun v w'=>∃ b d R,v=.slice b (List.length R) d/\Rw w' wr.heap.size b d R/\NS w' g a c L (k+1+50*(6-i)+45)/\But g wr w') (CR.mono fun e w' q=>by obtain⟨b,d,R,h1,h2⟩:=q; exact⟨_,h1,b,d,R,rfl,h2⟩) (fun vv V4 hq=>?_)
   obtain⟨b,d,R,rfl,hrw,aE6,Ut⟩:=hq;refine ZV (.slice b R.length d)<|wn ?_;simp only[pu];have zM:=Z9 (HE.out.but Ut (by have:=HG.out; have:=MK.out; omega));have HB4:=Z9 (Pz.out.trans Ut);have ao1:=Z9 (YV.out.but Ut (by have:=HG.out; omega));have uZ:=Z9 (TS.out.but Ut (by have:=HG.out; omega));have HC4:=Z9 (YF HC.out Ut (fun hne x hx=>(Vp.out hne x hx).1));have ao2:Hid (B0<=V4.heap.size):=Z9 (Nat.le_trans uK.out Ut.1.size);have HN4:=Z9 aE6;have HR4:=Z9 (hrw.base uK.out);have jv:Hid (R≠[]->∀ x,b=some x->u7.ownBlock≠some x.block):=Z9 fun hne x hx z=>by
    have h1:=hrw.o hne x hx;rcases HE.out.own.2 with⟨e,-⟩ | ⟨q,cap,cur,e,-,hh,-⟩
    ·rw[e] at z; cases z
    ·rw[e] at z; simp only[Value.ownBlock,Option.some.injEq] at z; have:=(Array.getElem?_eq_some_iff.1 hh).1; omega
   obtain⟨a7,c7,rfl,-,-⟩:=zM.out.bM;clear CR hrw aE6 Ut HE BK Pz YV TS HC uK;go_upto_region 7 with fail;go_cut [33] (fun s33 wx=>∃ tb:Bool,s33=.bool tb/\Hid (tb=true->0<E.length)/\Hid (Rw wx B0 b d R/\(R≠[]->∀ x,b=some x->(Value.slice a7 E.length c7).ownBlock≠some x.block)/\OA wx B0 (.slice a7 E.length c7) E/\NS wx g a c L (k+1+50*(6-i)+46)/\But g w wx/\Bx wx g4 #[.slice ca (List.length C0) ck,Z4 cc,z0,z1,y0,y1,y2,Z4 p] 31/\Bx wx g8 (ZU ra B.length rc co) 29/\Cs wx ra (acc B)/\B0<=wx.heap.size))
   case first=>
    by_cases hE0:0<E.length
    ·obtain⟨v8,hv8,CN⟩:=X4 HN4.out hl (by omega) 9 (by decide) (by decide);obtain⟨tb,htb⟩:=ZR (decide ((v8:Int)=0));refine wl<|ZA (.slice a7 E.length c7) (Z8 E.length)<|ZJ (Zo rfl E.length 0 dT)<|ZA ZW (Z5 g 0) <|
      YS (Z8 v8) (fun w'=>NS w' g a c L (k+1+50*(6-i)+45+1)/\But g V4 w') CN (fun V5 hq=>?_)
     obtain⟨JD,Xp⟩:=hq;refine Yy (.bool tb) (ZB rfl v8 0 htb)<|ZV (.bool tb)<|wn ?_;simp only[pu];go_wp2_with fail;go_meet;exact⟨tb,rfl,Z9 fun _=>hE0,Z9 ⟨HR4.out.but Xp (by have:=HG.out; have:=MK.out; omega),jv.out,zM.out.but Xp (by have:=HG.out; have:=MK.out; omega),JD,HB4.out.trans Xp,ao1.out.but Xp (by have:=HG.out; omega),uZ.out.but Xp (by have:=HG.out; omega),YF HC4.out Xp (fun hne x hx=>(Vp.out hne x hx).1),Nat.le_trans ao2.out Xp.1.size⟩⟩
    ·refine wl<|ZA (.slice a7 E.length c7) (Z8 E.length)<|ZJ (Zo rfl E.length 0 dF)<|SG ZY undef undef undef ZY<|wn ?_;simp only[pu];go_wp2_with fail;go_meet;exact⟨false,rfl,Z9 (fun e=>nomatch e),Z9 ⟨HR4.out,jv.out,zM.out,HN4.out.mono (by omega),HB4.out,ao1.out,uZ.out,HC4.out,ao2.out⟩⟩
   case rest=>
    obtain⟨tb,rfl,P6,HM⟩:=hcut;clear zM HB4 ao1 uZ HC4 ao2 HN4 HR4 jv;generalize wc=V5 at *
    go_upto_if 33 with fail;go_cut [10] (fun s10 wx=>∃ (b:Option Addr) (d:Nat) (R:List Int),s10=.slice b (List.length R) d/\Hid (Rw wx B0 b d R/\(R≠[]->∀ x,b=some x->(Value.slice a7 E.length c7).ownBlock≠some x.block)/\OA wx B0 (.slice a7 E.length c7) E/\NS wx g a c L (k+1+50*(6-i)+47)/\But g w wx/\Bx wx g4 #[.slice ca (List.length C0) ck,Z4 cc,z0,z1,y0,y1,y2,Z4 p] 31/\Bx wx g8 (ZU ra B.length rc co) 29/\Cs wx ra (acc B)/\B0<=wx.heap.size))
    case first=>
     obtain⟨oL,hRa,hE,hns,hbt,hx4,hx8,hcs,hbs⟩:=HM.out;cases tb
     ·go_wp2_with fail;go_meet;exact⟨b,d,R,rfl,Z9 ⟨oL,hRa,hE,hns.mono (Nat.le_succ _),hbt,hx4,hx8,hcs,hbs⟩⟩
     ·have hE0:=P6.out rfl;obtain⟨v6,hv6,CN⟩:=X4 hns hl (by omega) E.length (by omega) (by omega);have h6E:v6<E.length:=(by omega);go_upto_region 8 with fail;refine wl<|WL (.slice a7 E.length c7) (Z5 g 0) (.slice a7 E.length c7) (Z8 E.length)<|YS (Z8 v6) (fun w'=>NS w' g a c L (k+1+50*(6-i)+46+1)/\But g V5 w') CN (fun V6 hq=>?_);obtain⟨CO,XW⟩:=hq;have xO:=hE.but XW (by have:=HG.out; have:=MK.out; omega);obtain⟨a8,c8,e8,hbe,-⟩:=xO.bM;obtain⟨rfl,-,rfl⟩:=(by simpa only[Value.slice.injEq] using e8);obtain⟨ob,off,rfl,hld⟩:=hbe.at h6E;have hm6:=UE h6E;refine YG (Z5 ob (off+v6*1)) (PI ob off E.length c7 v6 h6E _ _ _ rfl (by kernel_rfl) (by kernel_rfl))<|ZL rfl ⟨ob,off+v6*1,none⟩ (.slice (VO E v6).1 (VO E v6).2.2.length (VO E v6).2.1) (hld) <|
       ZV (.slice (VO E v6).1 (VO E v6).2.2.length (VO E v6).2.1)<|wn ?_
      simp only[pu];go_wp2_with fail;go_meet;exact⟨(VO E v6).1,(VO E v6).2.1,(VO E v6).2.2,rfl,Z9 ⟨xO.rw _ hm6,xO.ap _ hm6,xO,CO,hbt.trans XW,hx4.but XW (by have:=HG.out; omega),hx8.but XW (by have:=HG.out; omega),YF hcs XW (fun hne x hx=>(Vp.out hne x hx).1),Nat.le_trans hbs XW.1.size⟩⟩
    case rest=>
     clear HM P6;obtain⟨b,d,R,rfl,HM⟩:=hcut;obtain⟨oL,hRa,hE,hns,hbt,hx4,hx8,hcs,hbs⟩:=HM.out;have aM6:=Z9 (WM hcs);obtain⟨gz,hgz⟩:=ZR wc.heap.size;have hbu:=LK b R.length d wc;have Yb:Below wc.heap.size wc (wc.alloc (.cells #[.slice b R.length d] 23)):=(Below.refl _ wc).alloc (Nat.le_refl _) _;have hcz:Cs (wc.alloc (.cells #[.slice b R.length d] 23)) (some ⟨wc.heap.size,0,none⟩) (RJ [(b,d,R)]):=Cs.block (t:=23) (fr:=(0,0)) (heap_alloc_last wc _);obtain⟨a9,c9,Va,hap,hEa,hba,hgr,hat⟩:=an9 (hE.below Yb) (some ⟨wc.heap.size,0,none⟩) 1 [(b,d,R)] hcz (fun e he=>by rw[List.mem_singleton.1 he]; exact oL.below Yb) (fun e he=>by rw[List.mem_singleton.1 he]; exact hRa) (Nat.le_trans hbs Yb.size) (by simp only[List.length_cons,List.length_nil]; omega);have aE7:=(World.grownBy_alloc wc _ _:wc.grownBy _ (Value.slice a7 E.length c7).ownBlock).trans hgr;have hcs2:=SI hcs aE7 (fun hne x hx=>(Vp.out hne x hx).2.2);have TK:=(Yb.mono hbs).trans hba;have lN:Rw Va B0 b d R:=hEa.rw (b,d,R) (by simp);have Ui:acc B≠[]->∀ x,ra=some x->x.block≠g/\x.block≠g8/\(Value.slice a9 (E++[(b,d,R)]).length c9).ownBlock≠some x.block:=fun hne x hx=>⟨(Vp.out hne x hx).1,(Vp.out hne x hx).2.1,fun z=>by
      rcases hat with h | h
      ·rw[h] at z; exact(Vp.out hne x hx).2.2 z
      ·rw[h] at z;have h1:=aM6.out hne x hx;have h2:=Yb.size;simp only[Option.some.injEq] at z;omega⟩
     have Ur:=uU hns TK (by have:=HG.out; have:=MK.out; omega) (fun h5 x hx=>by have:=HAB.out h5 x hx; have:=MK.out; omega);have dA:=hx4.below (by have:=HG.out; have:=MK.out; omega:g4<B0) TK;have dw:=hx8.below MK.out.1 TK;have XE:=hbt.more (TK.mono MK.out.2.1) (Nat.le_of_lt Xn.out);have ao3:=Nat.le_trans hbs TK.size;rw[hgz] at hbu hap;clear HM hcs hgr aE7 hat Yb hba hcz hE oL hRa hns hbt hx4 hx8 hbs;go_upto_region 9 with fail;refine wl<|ZA (.slice a7 E.length c7) (.slice b R.length d) ?_;refine Zr (by kernel_rfl) (some 43) rfl 32 1 #[(0,.tmp 42)] rfl #[(0,.slice b R.length d)] (by kernel_rfl) (.slice (some ⟨gz,0,none⟩) 1 1) _ hbu ?_;refine Zh rfl (some 44) rfl 32 rfl (.tmp 41) (.tmp 43) 32 rfl (.slice a7 E.length c7) (.slice (some ⟨gz,0,none⟩) 1 1) (.slice a9 (E++[(b,d,R)]).length c9) Va (by kernel_rfl) (by kernel_rfl) hap ?_;refine ZV (.slice a9 (E++[(b,d,R)]).length c9)<|wn ?_;simp only[pu];have CA:=uV B co p R ra b rc d Va hcs2 hrc HQ.out.d kP.out lN.sl lN.le lN.b;have Ux:=Z9 (HQ.out.tx kP.out lN.b);generalize (WZ B co p R).1=X at *
     have Ur:=Ur.mono (show _<=k+1+50*(6-(i-1)) by omega);have hE1:(E++[(b,d,R)]).length+(i-1)<=m:=(by simp only[List.length_append,List.length_cons,List.length_nil]; omega);generalize E++[(b,d,R)]=E2 at *
     clear hap hbu hgz;go_upto_region 10 with fail;refine wl<|ZL rfl ⟨g8,0,none⟩ (.agg (ZU ra B.length rc co)) (ZN dw)<|ZV (Z5 g4 7)<|ZL rfl ⟨g4,7,none⟩ (Z4 p) (dA.ZP 7)<|ZV (.slice b R.length d) <|
      Yi (fun v w'=>∃ ad kk,v=.agg (ZU ad X.1.length kk X.2)/\Cs w' ad (acc X.1)/\X.1.length<=kk/\((ad=ra/\X.1=B)∨∀ x,ad=some x->Va.heap.size<=x.block)/\Below Va.heap.size Va w') (CA.mono fun e w' q=>by obtain⟨ad,kk,h1,h2⟩:=q; exact⟨_,h1,ad,kk,rfl,h2⟩) (fun vv Vb hq=>?_)
     obtain⟨a2,k2,rfl,hct,hkt,hbl,hbb⟩:=hq;obtain⟨hst3,aE8⟩:=ZC (a':=a2) (n':=X.1.length) (k':=k2) (c':=X.2) (dw.below dw.lt hbb);refine Zu rfl (hst3)<|wn ?_;have Yk:But g8 Vb (Vb.setRow g8 (ZU a2 X.1.length k2 X.2)):=But.setRow Vb (ZU a2 X.1.length k2 X.2);have ao4:acc X.1≠[]->∀ x,a2=some x->x.block≠g/\x.block≠g8/\(Value.slice a9 E2.length c9).ownBlock≠some x.block:=fun hne x hx=>by
      rcases hbl with⟨e1,e2⟩ | h9
      ·rw[e1] at hx; rw[e2] at hne; exact Ui hne x hx
      ·have h10:=h9 x hx;have h11:=HG.out;have h12:=MK.out;refine⟨by omega,by omega,fun z=>?_⟩;rcases hEa.own.2 with⟨e,-⟩ | ⟨q,cap,cur,e,-,hh,-⟩
       ·rw[e] at z; cases z
       ·rw[e] at z; simp only[Value.ownBlock,Option.some.injEq] at z; have:=(Array.getElem?_eq_some_iff.1 hh).1; omega
     have HC1:=Z9 (YF hct Yk (fun hne x hx=>(ao4 hne x hx).2.1));have Fv:=Z9 ((hEa.below hbb).but Yk MK.out.1);have jq:=Z9 ((Ur.below hbb).but Yk (by have:=HG.out; omega) (fun h5 x hx=>by have:=HAB.out h5 x hx; have:=HG.out; omega));have HB1:=Z9 (But.VG (XE.more (hbb.mono (Nat.le_trans MK.out.2.1 ao3)) (Nat.le_of_lt Xn.out)) Yk (by have:=HG.out; omega) (by have:=HG.out; omega));have F8:=Z9 ((dA.below dA.lt hbb).but Yk (by have:=HG.out; omega));have Vx:Hid (B0<=(Vb.setRow g8 (ZU a2 X.1.length k2 X.2)).heap.size):=Z9 (by rw[size_setRow]; exact Nat.le_trans ao3 hbb.size);have aM7:=Z9 aE8;have Ai:=Z9 ao4;generalize Vb.setRow g8 (ZU a2 X.1.length k2 X.2)=V1 at *
     clear CA hct hbl hbb Yk hEa Ur XE dA dw ao3 hcs2 Ui ao4 aE8 hst3 TK lN HQ;go_upto_region 5 with fail;refine wl<|ZV (Z8 i)<|Yy (Z8 (i-1:Nat)) (RI rfl i hlt (by omega))<|ZV (Z8 (i-1:Nat))<|wn ?_;simp only[pu];have aO8:=ug;go_wp2_with fail;go_roundg (i-1)
     case measure=>have:=ug.out; omega
     case rel=>exact⟨i-1,_,E2,X.1,X.2,a2,k2,rfl,rfl,by omega,hE1,hkt,Ux,Fv,jq,HB1,F8,aM7,HC1,Ai,Vx,rfl⟩
  ·go_upto_region 4 with fail;refine wl<|ZV (Z8 i)<|ZJ (Zo rfl (i) (0) dF)<|wn ?_;simp only[pu];have HF:Hid (ao0 w g a c L k m (.returned u7) wr):=Z9 ⟨_,E,rfl,HE.out.base MK.out.2.1,by omega,BK.out.mono (by omega),Pz.out⟩;clear HE BK Pz YV TS HC Vp HQ;go_upto_region 11 with fail;refine wl<|ZA (u7) (u7)<|wn ?_;simp only[pu];go_wp2_with fail;go_ret;exact HF.out
end Go.Proofs.YtnhlpahoomcgnaaGreat.Lg
namespace Go.Proofs.YtnhlpahoomcgnaaGreat
open Go.RowKit
section
variable {P : Program} {Q : Exit -> Act -> World -> Prop} {ops : Array Oper}
def UO (n k:Nat):Array Bool:=(List.replicate k true++List.replicate (n-k) false).toArray
def Dp (ops:Array Oper)(j:Nat):List Nat:=((ops[j]?).map fun o=>(o.after.toList.filter fun e=>Region.binds .any e).map fun e=>e.on).getD []
def F6 (ops:Array Oper):Nat->List Nat->List Nat
 | 0,l=>l
 | j+1,l=>F6 ops j (bif l.contains j then Dp ops j++l else l)
def lM (ops:Array Oper)(k m:Nat):Bool:=decide (0<m) && decide (k+m<=ops.size) && ((List.range m).all fun i=>(F6 ops (k+m) [k+m-1]).contains (k+i)) && ((List.range (ops.size-(k+m))).all fun i=>(Dp ops (k+m+i)).any fun d=>decide (k+m-1<=d))
def Shut (ops:Array Oper)(listed:Array Bool):Prop:=∀ i,listed.getD i false=true->∀ d,d∈Dp ops i->listed.getD d false=true
theorem Dn {listed:Array Bool}(hs:Shut ops listed):∀ (n:Nat) (l:List Nat),(∀ x,x∈l->listed.getD x false=true)->∀ x,x∈F6 ops n l->listed.getD x false=true
 | 0,l,h=>h
 | j+1,l,h=>by
  unfold F6;refine Dn hs j _ ?_;cases hc:l.contains j
  ·exact h
  ·intro x hx;rcases List.mem_append.1 hx with h1 | h1
   ·exact hs j (h j (by simpa using hc)) x h1
   ·exact h x h1
theorem JQ {i:Nat}{listed:Array Bool}(h:i∈Region.ready .any ops listed):∀ d,d∈Dp ops i->listed.getD d false=true:=fun d hd=>by
 obtain⟨-,o,ho,hall⟩:=mem_ready.1 h;unfold Dp at hd;rw[ho] at hd;simp only[Option.map_some,Option.getD_some,List.mem_map,List.mem_filter] at hd;obtain⟨e,⟨h1,h2⟩,rfl⟩:=hd;exact hall e (by simpa using h1) h2
theorem OB (listed:Array Bool)(i j:Nat):(listed.setIfInBounds i true).getD j false=true↔listed.getD j false=true∨(j=i/\i<listed.size):=by
 simp only[Array.getD_eq_getD_getElem?,Array.getElem?_setIfInBounds];by_cases h:i=j
 ·subst h;by_cases h2:i<listed.size
  ·simp[h2]
  ·simp[h2]
 ·rw[if_neg h];constructor
  ·exact .inl
  ·rintro (h1 | ⟨h1,-⟩)
   ·exact h1
   ·exact absurd h1.symm h
theorem Shut.set {i:Nat}{listed:Array Bool}(hs:Shut ops listed)(h:i∈Region.ready .any ops listed):Shut ops (listed.setIfInBounds i true):=fun j hj d hd=>by
 refine(OB _ _ _).2 (.inl ?_);rcases (OB _ _ _).1 hj with h1 | ⟨rfl,-⟩
 ·exact hs j h1 d hd
 ·exact JQ h d hd
structure aE9 (ops:Array Oper)(k m:Nat)(listed:Array Bool):Prop where
 sz:listed.size=ops.size
 lo:∀ i,i<k->listed.getD i false=true
 hi:∀ i,k+m<=i->listed.getD i false=false
 sh:Shut ops listed
theorem Qw {n k i:Nat}(hk:k<=n):(UO n k).getD i false=decide (i<k):=by
 unfold UO;rw[Array.getD_eq_getD_getElem?];simp only[List.getElem?_toArray];by_cases h:i<k
 ·rw[List.getElem?_append_left (by simpa using h),List.getElem?_replicate,if_pos h,decide_eq_true h];rfl
 ·rw[List.getElem?_append_right (by simpa using h),List.getElem?_replicate,decide_eq_false h]
  split <;> rfl
theorem lK {n k:Nat}{listed:Array Bool}(hk:k<=n)(hs:listed.size=n)(h:∀ i,i<n->listed.getD i false=decide (i<k)):listed=UO n k:=by
 have hu:(UO n k).size=n:=by unfold UO; simp; omega
 apply Array.ext
 ·rw[hs,hu]
 ·intro i h1 h2;have e1:=h i (by omega);have e2:=Qw (n:=n) (k:=k) (i:=i) hk;rw[<- e2] at e1;simpa [Array.getD,h1,h2] using e1
def dh (P:Program)(ops:Array Oper)(Q:Exit->Act->World->Prop)(listed:Array Bool)(a:Act)(w:World):Prop:=Shut ops listed->∀ fuel,listed.count false<=fuel->wpAny P .any ops Q fuel listed a w
theorem Wi {id:Nat}{a:Act}{w:World}(hm:P.follows .mixedOrders=true)(h:dh P ops Q (UO ops.size 0) a { w with drawn:=w.drawn+1 }):(Code.region id ops true).wp P Q a w:=by
 refine wp_region_any hm ?_;have e:UO ops.size 0=Array.replicate ops.size false:=by
  unfold UO;apply Array.ext
  ·simp
  ·intro i h1 h2;simp
 rw[e] at h;refine h (fun i hi=>?_) _ (by rw[Array.count_replicate]; simp);exfalso;rw[Array.getD_eq_getD_getElem?,Array.getElem?_replicate] at hi
 split at hi <;> simp at hi
theorem Rt {a:Act}{w:World}(hb:Q .normal a w):dh P ops Q (UO ops.size ops.size) a w:=fun _ fuel _=>by
 have hr:Region.ready .any ops (UO ops.size ops.size)=[]:=by
  rw[List.eq_nil_iff_forall_not_mem];intro j hj;obtain⟨h1,o,ho,-⟩:=mem_ready.1 hj;have hjs:j<ops.size:=(Array.getElem?_eq_some_iff.1 ho).1;have h2:=Qw (n:=ops.size) (k:=ops.size) (i:=j) (Nat.le_refl _);rw[decide_eq_true hjs] at h2;simp only[Array.getD] at h1 h2
  split at h1
  ·rename_i h3
   rw[dif_pos h3] at h2;rw[h2] at h1;cases h1
  ·cases h1
 cases fuel with
 | zero=>exact⟨hr,hb⟩
 | succ n=>exact⟨fun _=>hb,fun i hi=>by rw[hr] at hi; cases hi⟩
theorem YL (k m:Nat)(J:Array Bool->Act->World->Prop){a:Act}{w:World}(hb:nY ops=true)(hc:lM ops k m=true)(h0:J (UO ops.size k) a w)
  (hstep:∀ i listed a w,k<=i->i<k+m->i∈Region.ready .any ops listed->J listed a w->wpOp P ops Q i (J (listed.setIfInBounds i true)) a w)
  (hend:∀ a w,J (UO ops.size (k+m)) a w->dh P ops Q (UO ops.size (k+m)) a w):dh P ops Q (UO ops.size k) a w:=by
 unfold lM at hc;simp only[Bool.and_eq_true,decide_eq_true_eq] at hc;obtain⟨⟨⟨hm,hn⟩,hr⟩,hl⟩:=hc;have full:∀ listed,aE9 ops k m listed->listed.getD (k+m-1) false=true->listed=UO ops.size (k+m):=fun listed hI hlast=>by
  refine lK hn hI.sz fun i hi=>?_;by_cases h1:i<k+m
  ·rw[decide_eq_true h1];by_cases h2:i<k
   ·exact hI.lo i h2
   ·have h3:=List.all_eq_true.1 hr (i-k) (List.mem_range.2 (by omega));rw[show k+(i-k)=i by omega] at h3;exact Dn hI.sh (k+m) [k+m-1] (fun x hx=>by rw[List.mem_singleton.1 hx]; exact hlast) i (by simpa using h3)
  ·rw[decide_eq_false h1];exact hI.hi i (by omega)
 have key:∀ (fuel:Nat) (listed:Array Bool) (a:Act) (w:World),aE9 ops k m listed->listed.count false<=fuel->J listed a w->wpAny P .any ops Q fuel listed a w:=by
  intro fuel;induction fuel with
  | zero=>
   intro listed a w hI hcnt hJ;by_cases hlast:listed.getD (k+m-1) false=true
   ·have e:=full listed hI hlast;subst e;exact hend a w hJ hI.sh 0 hcnt
   ·exfalso;have hlt:k+m-1<listed.size:=(by rw[hI.sz]; omega);have h3:false ∉ listed:=Array.count_eq_zero.1 (by omega);refine h3 ?_;simp only[Array.getD,hlt,dif_pos] at hlast;have h4:listed[k+m-1]=false:=(by simpa using hlast);exact h4 ▸ Array.getElem_mem hlt
  | succ fuel ih=>
   intro listed a w hI hcnt hJ;by_cases hlast:listed.getD (k+m-1) false=true
   ·have e:=full listed hI hlast;subst e;exact hend a w hJ hI.sh _ hcnt
   ·refine⟨fun h=>?_,fun i hi=>?_⟩
    ·exfalso;have e:=Kt hb hI.sz h;rw[e,Array.getD_eq_getD_getElem?,Array.getElem?_replicate,if_pos (by omega)] at hlast;exact hlast rfl
    ·obtain⟨h1,o,ho,-⟩:=mem_ready.1 hi;have his:i<ops.size:=(Array.getElem?_eq_some_iff.1 ho).1;have hil:i<listed.size:=(by rw[hI.sz]; exact his);have hf:listed[i]=false:=by
      simp only[Array.getD,hil,dif_pos] at h1;exact h1
     have hk:k<=i:=by
      rcases Nat.lt_or_ge i k with h | h
      ·have h2:=hI.lo i h;simp only[Array.getD,hil,dif_pos] at h2;have h5:listed[i]=true:=h2;rw[hf] at h5;cases h5
      ·exact h
     have hkm:i<k+m:=by
      rcases Nat.lt_or_ge i (k+m) with h | h
      ·exact h
      ·exfalso;have h2:=List.all_eq_true.1 hl (i-(k+m)) (List.mem_range.2 (by omega));rw[show k+m+(i-(k+m))=i by omega] at h2;obtain⟨d,hd,h3⟩:=List.any_eq_true.1 h2;have h4:=JQ hi d hd;have h5:k+m-1<=d:=of_decide_eq_true h3;rcases Nat.lt_or_ge d (k+m) with h6 | h6
       ·rw[show d=k+m-1 by omega] at h4;exact hlast h4
       ·rw[hI.hi d h6] at h4;cases h4
     refine wpOp_mono (fun a' w' hJ'=>ih _ a' w' ⟨by rw[Array.size_setIfInBounds]; exact hI.sz,fun j hj=>(OB _ _ _).2 (.inl (hI.lo j hj)),fun j hj=>?_,hI.sh.set hi⟩ ?_ hJ') (hstep i listed a w hk hkm hi hJ)
     ·cases hg:(listed.setIfInBounds i true).getD j false
      ·rfl
      ·rcases (OB _ _ _).1 hg with h2 | ⟨h2,-⟩
       ·rw[hI.hi j hj] at h2; cases h2
       ·omega
     ·rw[Array.setIfInBounds_def,dif_pos hil,Array.count_set,hf];have:0<listed.count false:=Array.count_pos_iff.2 (hf ▸ Array.getElem_mem hil);simp;omega
 intro hsh fuel hcnt;exact key fuel _ a w ⟨by unfold UO; simp; omega,fun i hi=>by rw[Qw (by omega)]; exact decide_eq_true hi,fun i hi=>by rw[Qw (by omega)]; exact decide_eq_false (by omega),hsh⟩ hcnt h0
end
end Go.Proofs.YtnhlpahoomcgnaaGreat
