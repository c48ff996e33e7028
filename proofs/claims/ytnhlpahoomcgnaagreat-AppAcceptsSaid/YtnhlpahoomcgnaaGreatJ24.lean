/-
  Texts joined.
-/
import Derived.Test.YtnhlpahoomcgnaaGreatJ23
set_option maxRecDepth 100000
set_option maxHeartbeats 8000000
set_option linter.unusedSimpArgs false
set_option linter.unusedVariables false
namespace Go.Proofs.YtnhlpahoomcgnaaGreat.Lg
attribute [local irreducible] wpList wpQuiet
open Mo (YU Y9 Ym Yz)
open Go.RowKit
theorem mY (A:List Ac)(c p:Int)(E:List Bs)(la ra:Option Addr)(lk rc:Nat)(w:World)(hL:Cs w la (acc A))(hlk:A.length<=lk)(hd:Pm A c)(hp:W64 p)(hE:PE w ra E)(hn:E.length<=100000) :
  Calls Tryz.prog 39 #[.agg (ZU la A.length lk c),Z4 p,.slice ra E.length rc] w (vw w (VD A c p (lsB E))):=by
 obtain⟨hb0,Wj,WX⟩:=Zk w (ZU la A.length lk c) (ZU none 0 0 0) 29 29;obtain⟨C,hC⟩:∃ C:Nat->Int,∀ j,C j=(VE A c p (lsB E) j).code:=⟨_,fun _=>rfl⟩;have CL:=aB7 la lk A c _ (hL.below hb0) hd.n;have U5:=Z9 hn;have kP:=Z9 hp;have MS:=Z9 hE;have HRD:Hid (∀ j,j<=E.length->Pm (YP A c p (lsB E) j).1 (YP A c p (lsB E) j).2):=Z9 fun j hj=>hd.run hp hE.all j (by rw[Yn]; exact hj);have Jc:Hid (∀ j,j<E.length->YP A c p (lsB E) (j+1)=(WZ (YP A c p (lsB E) j).1 (YP A c p (lsB E) j).2 p (VO E j).2.2).1):=Z9 fun j hj=>by rw[Xb (by rw[Yn]; exact hj),QO hj]
 have HRQ:Hid (∀ j,j<E.length->(WZ (YP A c p (lsB E) j).1 (YP A c p (lsB E) j).2 p (VO E j).2.2).2.code=C j):=Z9 fun j hj=>by rw[aB8 hj,hC]
 have HR0:Hid (YP A c p (lsB E) 0=(A,c)):=Z9 rfl;have P8:Hid (∀ i,i<E.length->(∀ j,j<i->C j=0)->C i≠0->VD A c p (lsB E)=(([],0),i,C i)):=Z9 fun i hi hb he=>by rw[Gp (by rw[Yn]; exact hi) (fun j hj=>by rw[<- hC]; exact hb j hj) (by rw[<- hC]; exact he),hC]
 have HSO:Hid ((∀ j,j<E.length->C j=0)->VD A c p (lsB E)=(YP A c p (lsB E) E.length,0,0)):=Z9 fun hb=>by rw[LH (fun j hj=>by rw[<- hC]; exact hb j (by rw[Yn] at hj; exact hj)),Yn]
 generalize VD A c p (lsB E)=SX at *
 generalize YP A c p (lsB E)=U at *
 clear hL hd hp hE hC;go_enter Tryz.func39,Tryz.ntmps39;go_upto_region 1 with fail;change Code.wp _ _ _ _ ((w.alloc (.cells (ZU la A.length lk c) 29)).alloc (.cells (ZU none 0 0 0) 29));generalize (w.alloc (.cells (ZU la A.length lk c) 29)).alloc (.cells (ZU none 0 0 0) 29)=W at *
 obtain⟨g3,hg3⟩:=ZR w.heap.size;obtain⟨g6,WG⟩:=ZR (g3+1);rw[hg3] at Wj;rw[show w.heap.size+1=g6 by omega] at WX;have HG:Hid (w.heap.size<=g6/\g6<W.heap.size/\w.heap.size<=W.heap.size):=Z9 ⟨by omega,WX.lt,hb0.size⟩;simp only[hg3];simp only[WG];have HB0:=Z9 hb0;have XD:=Z9 Wj;have XQ:=Z9 WX;clear hb0 hg3 WG Wj WX;refine wl<|ZL rfl ⟨g3,0,none⟩ (.agg (ZU la A.length lk c)) (ZN XD.out) <|
  Yi (fun v w'=>∃ ad k,v=.agg (ZU ad A.length k c)/\Zi w' W.heap.size (.slice ad A.length k) A/\Below W.heap.size W w') (CL.mono fun e w' q=>by obtain⟨ad,k,h1,h2⟩:=q; exact⟨_,h1,ad,k,rfl,h2⟩) (fun vv V1 hq=>?_)
 obtain⟨a1,k1,rfl,hr1,hb1⟩:=hq;obtain⟨ad9,c9,e9,hc1,hk1⟩:=hr1.cs;obtain⟨rfl,-,rfl⟩:=by simpa only[Value.slice.injEq] using e9
 obtain⟨hst1,hX1⟩:=ZC (a':=a1) (n':=A.length) (k':=k1) (c':=c) (XQ.out.below XQ.out.lt hb1);have Gl:But g6 V1 (V1.setRow g6 (ZU a1 A.length k1 c)):=But.setRow V1 (ZU a1 A.length k1 c);have Aj:acc A≠[]->∀ x,a1=some x->x.block≠g6:=fun _ x hx=>by have:=J4 hr1 x hx; have:=HG.out.2.1; omega
 have hc2:=YF hc1 Gl Aj;have hb2:=ZQ (HB0.out.trans (hb1.mono HB0.out.size)) HG.out.1 (ZU a1 A.length k1 c);have hs2:W.heap.size<=(V1.setRow g6 (ZU a1 A.length k1 c)).heap.size:=by rw[size_setRow]; exact hb1.size
 refine Zu rfl (hst1)<|wn ?_;generalize V1.setRow g6 (ZU a1 A.length k1 c)=W1 at *
 have HB1:=Z9 hb2;have WW:=Z9 hX1;have HC1:=Z9 hc2;have mX:=Z9 hs2;have Ai:=Z9 Aj;have hk2:=hk1;clear hst1 hX1 hc2 hb2 hs2 Aj Gl hr1 hb1 hc1 hk1 HB0 XD XQ CL e9;go_upto_region 2 with fail;refine wl<|Yr (.slice ra E.length rc) (Z8 E.length) (Z8 0)<|wn ?_;simp only[pu];go_wp2_with fail;go_loopg [16] E.length (fun gg s16 wx=>∃ (j:Nat) (ad:Option Addr) (k:Nat),s16=Z8 j/\j<=E.length/\(U j).1.length<=k/\Hid (∀ i,i<j->C i=0)/\Hid (Cs wx ad (acc (U j).1))/\Hid (acc (U j).1≠[]->∀ x,ad=some x->x.block≠g6)/\Hid (Bx wx g6 (ZU ad (U j).1.length k (U j).2) 29)/\Hid (Below w.heap.size w wx)/\Hid (W.heap.size<=wx.heap.size)/\E.length-j=gg)
 case atStart=>exact⟨0,a1,k1,rfl,by omega,by rw[HR0.out]; exact hk2,Z9 (fun i hi=>absurd hi (Nat.not_lt_zero i)),by rw[HR0.out]; exact HC1,by rw[HR0.out]; exact Ai,by rw[HR0.out]; exact WW,HB1,mX,by omega⟩
 case round=>
  obtain⟨j,ad,k,rfl,hj,hk,HCZ,HC,Vp,HX,HB,Ho,hg⟩:=hrel;clear HC1 Ai WW HB1 mX hk2;have zo:=U5.out;by_cases hlt:j<E.length
  ·obtain⟨b,off,rfl,hld⟩:=(MS.out.below HB.out).at hlt;have YO:=Z9 hld;have JX:=HRD.out j hj;have LZ:=UE hlt;have TK:=(Below.refl _ wr).alloc (Nat.le_refl _) (.cells (ZI (YR 0)) 40);have eY:Bx (wr.alloc (.cells (ZI (YR 0)) 40)) wr.heap.size (ZI (YR 0)) 40:=heap_alloc_last wr _;have CT:=eX (U j).1 (U j).2 p (VO E j).2.2 ad (VO E j).1 k (VO E j).2.1 _ (HC.out.below TK) hk JX.n JX.cw JX.w JX.z kP.out (ZK (ZK (MS.out.sl _ LZ) HB.out) TK) (MS.out.le _ LZ) (MS.out.b _ LZ);have Gj:=Z9 (Jc.out j hlt);have eU:=Z9 (HRQ.out j hlt);generalize WZ (U j).1 (U j).2 p (VO E j).2.2=X at *
   generalize VO E j=y at *
   have HG2:=Z9 hg;obtain⟨V0,hV0⟩:=ZR (wr.alloc (.cells (ZI (YR 0)) 40));rw[hV0] at CT TK eY;clear hld JX LZ hg;go_upto_region 3 with fail;refine wl<|ZJ (Zv rfl (j) (E.length) dT)<|wn ?_;simp only[pu];go_upto_region 4 with fail;refine wl<|ZV (Z8 j)<|YG (Z5 b (off+j*1)) (PI b off E.length rc j hlt _ _ _ rfl (by kernel_rfl) (by kernel_rfl))<|ZL rfl ⟨b,off+j*1,none⟩ (.slice y.1 y.2.2.length y.2.1) (YO.out)<|ZA (Z8 j) (.slice y.1 y.2.2.length y.2.1) <|
    wpList_nil ?_
   simp only[pu];go_upto_region 5 with fail;apply wp_region_lit;refine Zy rfl (some 11) rfl (Z5 wr.heap.size 0) (wr.alloc (.cells (ZI (YR 0)) 40)) (by kernel_rfl) ?_;simp only[pu];rw[hV0];apply wpList_nil;obtain⟨g11,QS⟩:=ZR wr.heap.size;rw[QS] at eY ⊢;have HXR:=Z9 eY;have wH:=Z9 TK;have RN:Hid (g6<g11/\W.heap.size<=g11/\wr.heap.size=g11):=Z9 ⟨by have:=HG.out.2.1; have:=Ho.out; omega,by have:=Ho.out; omega,QS⟩;clear eY TK QS hV0;go_upto_region 6 with fail;refine wl<|ZL rfl ⟨g6,0,none⟩ (.agg (ZU ad (U j).1.length k (U j).2)) (ZN (HX.out.below HX.out.lt wH.out))<|ZA (Z4 p) (.slice y.1 y.2.2.length y.2.1) <|
    Yi (fun v w'=>∃ aZ kZ,v=.tuple #[.agg (ZU aZ X.1.1.length kZ X.1.2),.agg (ZI X.2)]/\Cs w' aZ (acc X.1.1)/\X.1.1.length<=kZ/\((aZ=ad/\X.1.1=(U j).1)∨∀ x,aZ=some x->V0.heap.size<=x.block)/\Below V0.heap.size V0 w') (CT.mono fun e w' q=>by obtain⟨aZ,kZ,h1,h2⟩:=q; exact⟨_,h1,aZ,kZ,rfl,h2⟩) (fun vv V2 hq=>?_)
   obtain⟨a2,k2,rfl,hct,hkt,hbl,hbt⟩:=hq;have hbW:=wH.out.trans (hbt.mono wH.out.size);have Ui:acc X.1.1≠[]->∀ x,a2=some x->x.block≠g6/\x.block≠g11:=fun hne x hx=>by
    rcases hbl with⟨e1,e2⟩ | h9
    ·rw[e1] at hx; rw[e2] at hne;have h3:=WM HC.out hne x hx;exact⟨Vp.out hne x hx,by have:=RN.out.2.2; omega⟩
    ·have h10:=h9 x hx;have h12:=RN.out.1;have h14:=HXR.out.lt;exact⟨by omega,by omega⟩
   obtain⟨hst3,Wy⟩:=ZC (a':=a2) (n':=X.1.1.length) (k':=k2) (c':=X.1.2) (HX.out.below HX.out.lt hbW);have Yk:But g6 V2 (V2.setRow g6 (ZU a2 X.1.1.length k2 X.1.2)):=But.setRow V2 (ZU a2 X.1.1.length k2 X.1.2);have mW:=(HXR.out.below HXR.out.lt hbt).but Yk (by have:=RN.out.1; omega);have Nw:=YF hct Yk (fun h x hx=>(Ui h x hx).1);have Nv:=ZQ (HB.out.trans (hbW.mono HB.out.size)) HG.out.1 (ZU a2 X.1.1.length k2 X.1.2);have hs8:W.heap.size<=(V2.setRow g6 (ZU a2 X.1.1.length k2 X.1.2)).heap.size:=(by rw[size_setRow]; exact Nat.le_trans Ho.out hbW.size);generalize V2.setRow g6 (ZU a2 X.1.1.length k2 X.1.2)=V8 at *
   obtain⟨UZ,DN⟩:=XY (q:=X.2) mW;have YM:But g11 V8 (V8.setRow g11 (ZI X.2)):=But.setRow V8 (ZI X.2);have SY:=Wy.but YM (by have:=RN.out.1; omega);have hC9:=YF Nw YM (fun h x hx=>(Ui h x hx).2);have Tt:=ZQ (g:=g11) Nv (by have:=RN.out.1; have:=HG.out.1; omega) (ZI X.2);have hs9:W.heap.size<=(V8.setRow g11 (ZI X.2)).heap.size:=(by rw[size_setRow]; exact hs8);generalize V8.setRow g11 (ZI X.2)=V9 at *
   clear mW Wy Nw Nv hs8 Yk YM hbl hct hbt hbW CT;refine Yr (.tuple #[.agg (ZU a2 X.1.1.length k2 X.1.2),.agg (ZI X.2)]) (.agg (ZU a2 X.1.1.length k2 X.1.2)) (.agg (ZI X.2))<|Zu rfl (hst3)<|Zu rfl (UZ)<|wn ?_;simp only[pu];have hcd:(Instr.loadAt 38 (Z5 g11 0)).run Tryz.prog V9=.ok (Z8 X.2.code) V9:=DN.ZP 0;clear hst3 UZ HC Vp HX HB Ho YO;by_cases hq0:X.2.code=0
   ·go_upto_region 7 with fail;refine wl<|ZV (Z5 g11 0)<|ZL rfl ⟨g11,0,none⟩ (Z8 X.2.code) (hcd)<|ZJ (YX rfl X.2.code 0 (decide_eq_true hq0))<|wn ?_;simp only[pu];go_upto_region 9 with fail;refine wl<|Yy (Z8 (j+1:Nat)) (ZF rfl j 1 (by omega))<|ZV (Z8 (j+1:Nat))<|wn ?_;simp only[pu];clear hcd DN;go_wp2_with fail;go_roundg (E.length-(j+1))
    case measure=>have:=HG2.out; omega
    case rel=>exact⟨j+1,a2,k2,rfl,hlt,by rw[Gj.out]; exact hkt,Z9 (fun i hi=>by rcases Nat.lt_succ_iff_lt_or_eq.1 hi with h | h; exact HCZ.out i h; rw[h,<- eU.out]; exact hq0),Z9 (by rw[Gj.out]; exact hC9),Z9 (by rw[Gj.out]; exact fun h x hx=>(Ui h x hx).1),Z9 (by rw[Gj.out]; exact SY),Z9 Tt,Z9 hs9,rfl⟩
   ·go_upto_region 7 with fail;refine wl<|ZV (Z5 g11 0)<|ZL rfl ⟨g11,0,none⟩ (Z8 X.2.code) (hcd)<|ZJ (YX rfl X.2.code 0 (decide_eq_false hq0))<|wn ?_;simp only[pu];have hss:=P8.out j hlt HCZ.out (by rw[<- eU.out]; exact hq0);rw[<- eU.out] at hss;obtain⟨W0,hW0⟩:=ZR V9.drew;have Ti:Bx W0 g6 (ZU a2 X.1.1.length k2 X.1.2) 29:=(by rw[<- hW0]; exact SY);have hcd0:(Instr.loadAt 38 (Z5 g11 0)).run Tryz.prog W0=.ok (Z8 X.2.code) W0:=(by rw[<- hW0]; exact Bx.load (w:=V9.drew) (i:=0) (DN:Bx V9.drew g11 (ZI X.2) 40) rfl (by kernel_rfl));obtain⟨hsS,hZ1⟩:=ZC (a':=none) (n':=0) (k':=0) (c':=0) Ti;have hB1:Below w.heap.size w (W0.setRow g6 (ZU none 0 0 0)):=ZQ (by rw[<- hW0]; exact Tt.drew) HG.out.1 (ZU none 0 0 0);have hcd1:(Instr.loadAt 38 (Z5 g11 0)).run Tryz.prog (W0.setRow g6 (ZU none 0 0 0))=.ok (Z8 X.2.code) (W0.setRow g6 (ZU none 0 0 0)):=Bx.load (i:=0) (Bx.but (w:=W0) (by rw[<- hW0]; exact DN) (But.setRow (g:=g6) W0 _) (by have:=RN.out.1; omega)) rfl (by kernel_rfl);generalize W0.setRow g6 (ZU none 0 0 0)=W1 at *
    have h0:V9.drew=cond false W1 W0:=hW0;have HE:Hid (vw w SX (.returned (.tuple #[.agg (ZU none 0 0 0),Z8 j,Z8 X.2.code])) W1):=Z9 (by rw[hss]; exact⟨none,0,rfl,Cs.nil _ _,Nat.le_refl _,hB1⟩);clear hss hcd SY DN Tt hC9 hB1 Ti;go_upto_region 8 with fail;refine Zw (fun listed ZG V=>∃ b0 b1 b2 b3 b4 b5 b6:Bool,listed=#[b0,b1,b2,b3,b4,b5,b6]/\ZG={ tmps:=#[.agg (ZU la A.length lk c),Z4 p,.slice (some ⟨b,off,none⟩) E.length rc,Z5 g3 0,undef,undef,Z5 g6 0,(cond b5 (Z8 j) (u7)),(cond b6 (Z8 X.2.code) (u8)),Z8 j,.slice y.1 y.2.2.length y.2.1,Z5 g11 0,.agg (ZU la A.length lk c),.agg (ZU a1 A.length k1 c),.slice (some ⟨b,off,none⟩) E.length rc,Z8 E.length,Z8 j,ZW,Z8 j,Z5 b (off+j*1),.slice y.1 y.2.2.length y.2.1,.tuple #[.agg (ZU a2 X.1.1.length k2 X.1.2),.agg (ZI X.2)],.agg (ZU ad (U j).1.length k (U j).2),Z4 p,.slice y.1 y.2.2.length y.2.1,.tuple #[.agg (ZU a2 X.1.1.length k2 X.1.2),.agg (ZI X.2)],.agg (ZU a2 X.1.1.length k2 X.1.2),.agg (ZI X.2),Z5 g11 0,Z8 X.2.code,ZW,(cond b0 (.agg (ZU none 0 0 0)) (u31)),(cond b1 (Z8 j) (u32)),(cond b2 (Z5 g11 0) (u33)),(cond b3 (Z8 X.2.code) (u34)),u35,undef],defers:=[] }/\V=cond b4 W1 W0) (by kernel_rfl) (by kernel_rfl) ?_ ?_ ?_
    ·exact⟨_,_,_,_,_,_,_,rfl,rfl,h0⟩
    ·intro i9 listed ZG V hi9 hr hJ;obtain⟨b0,b1,b2,b3,b4,b5,b6,rfl,rfl,hF⟩:=hJ;have hi2:i9<7:=hi9;have hi3:i9=0∨i9=1∨i9=2∨i9=3∨i9=4∨i9=5∨i9=6:=(by omega);rcases hi3 with rfl | rfl | rfl | rfl | rfl | rfl | rfl
     ·obtain rfl:b0=false:=Z7 hr;refine ZT rfl (by kernel_rfl) (some 31) rfl (.agg (ZU none 0 0 0)) V (by kernel_rfl) ?_;exact⟨_,_,_,_,_,_,_,rfl,rfl,hF⟩
     ·obtain rfl:b1=false:=Z7 hr;refine ZT rfl (by kernel_rfl) (some 32) rfl (Z8 j) V (by kernel_rfl) ?_;exact⟨_,_,_,_,_,_,_,rfl,rfl,hF⟩
     ·obtain rfl:b2=false:=Z7 hr;refine ZT rfl (by kernel_rfl) (some 33) rfl (Z5 g11 0) V (by kernel_rfl) ?_;exact⟨_,_,_,_,_,_,_,rfl,rfl,hF⟩
     ·obtain rfl:b3=false:=Z7 hr;obtain rfl:b2=true:=ZX hr 2;refine ZE rfl (by kernel_rfl) (some 34) rfl 38 (.tmp 33) rfl ⟨g11,0,none⟩ (Z8 X.2.code) (by kernel_rfl) (by rw[hF]; cases b4; exact hcd0; exact hcd1) ?_;exact⟨_,_,_,_,_,_,_,rfl,rfl,hF⟩
     ·obtain rfl:b4=false:=Z7 hr;obtain rfl:b0=true:=ZX hr 0;refine Zf rfl (by kernel_rfl) rfl 29 (.tmp 6) (.tmp 31) rfl (Z5 g6 0) (.agg (ZU none 0 0 0)) (by kernel_rfl) (by kernel_rfl) W1 (by rw[show V=W0 from hF]; exact hsS) ?_;exact⟨_,_,_,_,_,_,_,rfl,rfl,rfl⟩
     ·obtain rfl:b5=false:=Z7 hr;obtain rfl:b1=true:=ZX hr 1;obtain rfl:b4=true:=ZX hr 4;refine ZT rfl (by kernel_rfl) (some 7) rfl (Z8 j) V (by kernel_rfl) ?_;exact⟨_,_,_,_,_,_,_,rfl,rfl,hF⟩
     ·obtain rfl:b6=false:=Z7 hr;obtain rfl:b3=true:=ZX hr 3;obtain rfl:b5=true:=ZX hr 5;refine ZT rfl (by kernel_rfl) (some 8) rfl (Z8 X.2.code) V (by kernel_rfl) ?_;exact⟨_,_,_,_,_,_,_,rfl,rfl,hF⟩
    ·intro ZG V hJ;obtain⟨b0,b1,b2,b3,b4,b5,b6,he,rfl,hF⟩:=hJ;have he:(#[true,true,true,true,true,true,true]:Array Bool)=#[b0,b1,b2,b3,b4,b5,b6]:=he;simp only[Array.mk.injEq,List.cons.injEq,and_true] at he;obtain⟨rfl,rfl,rfl,rfl,rfl,rfl,rfl⟩:=he;simp only[cond_true];have hVW:V=W1:=hF;rw[hVW];clear hVW hF h0;go_wp2_with fail;exact bodyPost_ret (X5 rfl (by kernel_rfl) (ZN hZ1) rfl rfl) rfl HE.out
  ·obtain rfl:E.length=j:=(by omega);have hss:=HSO.out HCZ.out;obtain⟨hst3,Wy⟩:=ZC (a':=ad) (n':=(U E.length).1.length) (k':=k) (c':=(U E.length).2) HX.out;have Yk:=But.setRow (g:=g6) wr (ZU ad (U E.length).1.length k (U E.length).2);have Nv:=ZQ HB.out HG.out.1 (ZU ad (U E.length).1.length k (U E.length).2);have Nw:=YF HC.out Yk Vp.out;have HE:Hid (vw w SX (.returned (.tuple #[.agg (ZU ad (U E.length).1.length k (U E.length).2),Z8 0,Z8 0])) (wr.setRow g6 (ZU ad (U E.length).1.length k (U E.length).2))):=Z9 (by rw[hss]; exact⟨ad,k,rfl,Nw,hk,Nv⟩);generalize wr.setRow g6 (ZU ad (U E.length).1.length k (U E.length).2)=V3 at *
   clear Yk Nv Nw hss;go_upto_region 3 with fail;refine wl<|ZJ (Zv rfl (E.length) (E.length) dF)<|wn ?_;simp only[pu];go_upto_region 10 with fail;refine wl<|ZL rfl ⟨g6,0,none⟩ (.agg (ZU ad (U E.length).1.length k (U E.length).2)) (ZN HX.out)<|Zu rfl (hst3)<|ZA (Z8 0) (Z8 0)<|wn ?_;simp only[pu];go_wp2_with fail;exact bodyPost_ret (X5 rfl (by kernel_rfl) (ZN Wy) rfl rfl) rfl HE.out
end Go.Proofs.YtnhlpahoomcgnaaGreat.Lg
namespace Go.Proofs.YtnhlpahoomcgnaaGreat.Lg
open Mo (YU Y9 Ym Yz)
open Go.RowKit
structure X0 where
 c:List Ac×Int
 k:List Ac×Int
 n:List Ac×Int
 o:Bool
 p:Int
structure Lo where
 a:Option Addr
 k:Nat
abbrev ZM (D:X0)(l0 l1 l2:Lo):Array Value:=#[.slice l0.a D.c.1.length l0.k,Z4 D.c.2,.slice l1.a D.k.1.length l1.k,Z4 D.k.2,.slice l2.a D.n.1.length l2.k,Z4 D.n.2,.bool D.o,Z4 D.p]
def Ua:X0:=⟨([],0),([],0),([],0),false,0⟩
def Yc:Lo:=⟨none,0⟩
def Cb (X:List Ac)(p:Int):X0:=⟨(X,0),(X,0),([],0),false,p⟩
def Pv (D:X0)(R:List Int):X0:={ D with k:=(WZ D.k.1 D.k.2 D.p R).1 }
def Pq (D:X0)(R:List Int):XO:=(WZ D.k.1 D.k.2 D.p R).2
def Qa (D:X0)(Ls:List (List Int)):X0:={ D with n:=YP D.c.1 D.c.2 D.p Ls Ls.length,o:=true }
def JF (D:X0)(Ls:List (List Int)):List XO:=UW D.c.1 D.c.2 D.p Ls Ls.length
def Jm (D:X0):X0:=⟨D.n,D.n,([],0),false,D.p⟩
def Nu (D:X0):X0:={ D with k:=D.c }
def Xv (D:X0)(Ls:List (List Int)):X0×List XO×Int:=if D.o=true then (Ua,[],9) else if 512<Ls.length then (Ua,[],3) else (Qa D Ls,JF D Ls,0)
def Ue (D:X0):X0×Int:=if D.o=true then (Jm D,0) else (Ua,9)
def Px (D:X0)(Ls:List (List Int)):Bool:=decide ((VD D.c.1 D.c.2 D.p Ls).2.2=0)
structure SK (w:World)(l:Lo)(X:List Ac):Prop where
 cs:Cs w l.a (acc X)
 le:X.length<=l.k
structure XR (w:World)(D:X0)(l0 l1 l2:Lo):Prop where
 c:SK w l0 D.c.1
 k:SK w l1 D.k.1
 n:SK w l2 D.n.1
structure Uh (D:X0):Prop where
 c:Pm D.c.1 D.c.2
 k:Pm D.k.1 D.k.2
 n:Pm D.n.1 D.n.2
 p:W64 D.p
theorem Pm.nil:Pm [] 0:=⟨by simp,Xq,LJ fun x hx=>(by cases hx),fun x hx=>by cases hx⟩
theorem Uh.z:Uh Ua:=⟨Pm.nil,Pm.nil,Pm.nil,Xq⟩
theorem Uh.ini {X:List Ac}{p:Int}(h:Pm X 0)(hp:W64 p):Uh (Cb X p):=⟨h,h,Pm.nil,hp⟩
theorem Uh.acc {D:X0}{R:List Int}(h:Uh D)(h8:∀ y,y∈R->W8 y):Uh (Pv D R):=⟨h.c,h.k.tx h.p h8,h.n,h.p⟩
theorem Uh.fin {D:X0}{Ls:List (List Int)}(h:Uh D)(h8:∀ L,L∈Ls->∀ y,y∈L->W8 y):Uh (Qa D Ls):=⟨h.c,h.k,h.c.run h.p h8 _ (Nat.le_refl _),h.p⟩
theorem Uh.com {D:X0}(h:Uh D):Uh (Jm D):=⟨h.n,h.n,Pm.nil,h.p⟩
theorem Uh.rst {D:X0}(h:Uh D):Uh (Nu D):=⟨h.c,h.c,h.n,h.p⟩
theorem Uh.Xv {D:X0}{Ls:List (List Int)}(h:Uh D)(h8:∀ L,L∈Ls->∀ y,y∈L->W8 y):Uh (Xv D Ls).1:=by
 unfold Lg.Xv
 split
 ·exact Uh.z
 ·split
  ·exact Uh.z
  ·exact h.fin h8
theorem SK.below {w w':World}{l:Lo}{X:List Ac}(h:SK w l X)(hb:Below w.heap.size w w'):SK w' l X:=⟨h.cs.below hb,h.le⟩
theorem XR.below {w w':World}{D:X0}{l0 l1 l2:Lo}(h:XR w D l0 l1 l2)(hb:Below w.heap.size w w'):XR w' D l0 l1 l2:=⟨h.c.below hb,h.k.below hb,h.n.below hb⟩
theorem SK.nil (w:World):SK w Yc []:=⟨Cs.nil _ _,Nat.le_refl _⟩
theorem XR.z (w:World):XR w Ua Yc Yc Yc:=⟨SK.nil w,SK.nil w,SK.nil w⟩
def LoN (g:Nat)(l:Lo)(X:List Ac):Prop:=acc X≠[]->∀ x,l.a=some x->x.block≠g
structure kL (g:Nat)(D:X0)(l0 l1 l2:Lo):Prop where
 c:LoN g l0 D.c.1
 k:LoN g l1 D.k.1
 n:LoN g l2 D.n.1
theorem SK.but {w w':World}{g:Nat}{l:Lo}{X:List Ac}(h:SK w l X)(hb:But g w w')(hn:LoN g l X):SK w' l X:=⟨YF h.cs hb hn,h.le⟩
theorem XR.but {w w':World}{g:Nat}{D:X0}{l0 l1 l2:Lo}(h:XR w D l0 l1 l2)(hb:But g w w')(hn:kL g D l0 l1 l2):XR w' D l0 l1 l2:=⟨h.c.but hb hn.c,h.k.but hb hn.k,h.n.but hb hn.n⟩
theorem SK.new {w:World}{g:Nat}{l:Lo}{X:List Ac}(h:SK w l X)(hg:w.heap.size<=g):LoN g l X:=fun hne x hx=>by
 have:=WM h.cs hne x hx;omega
theorem XR.new {w:World}{g:Nat}{D:X0}{l0 l1 l2:Lo}(h:XR w D l0 l1 l2)(hg:w.heap.size<=g):kL g D l0 l1 l2:=⟨h.c.new hg,h.k.new hg,h.n.new hg⟩
def noS (cs:Array Value):Bool:=cs.toList.all fun v=>match v with | .string _=>false | _=>true
theorem mZ:∀ {X:List Ac},acc X≠[]->∃ s,(acc X)[0]?=some (.string s)
 | [],h=>absurd rfl h
 | x::_,_=>⟨x.1,rfl⟩
theorem SK.box {w:World}{g t:Nat}{cs:Array Value}{l:Lo}{X:List Ac}(h:SK w l X)(hx:Bx w g cs t)(hs:noS cs=true):LoN g l X:=fun hne x hx2 hg=>by
 obtain⟨s,h0⟩:=mZ hne;obtain⟨b,off,e,-,hc⟩:=h.cs _ _ h0;rw[hx2] at e;cases e;subst hg;rw[cell_of_row w _ _ _ t (0,0) hx] at hc;have hm:Value.string s∈cs.toList:=by
  rw[<- Array.mem_def];exact Array.mem_of_getElem? hc
 have:=List.all_eq_true.1 hs _ hm;simp at this
theorem XR.box {w:World}{g t:Nat}{cs:Array Value}{D:X0}{l0 l1 l2:Lo}(h:XR w D l0 l1 l2)(hx:Bx w g cs t)(hs:noS cs=true):kL g D l0 l1 l2:=⟨h.c.box hx hs,h.k.box hx hs,h.n.box hx hs⟩
theorem SK.st {w w':World}{g t:Nat}{cs:Array Value}{l:Lo}{X:List Ac}(h:SK w l X)(hx:Bx w g cs t)(hs:noS cs=true)(hb:But g w w'):SK w' l X:=h.but hb (h.box hx hs)
theorem XR.st {w w':World}{g t:Nat}{cs:Array Value}{D:X0}{l0 l1 l2:Lo}(h:XR w D l0 l1 l2)(hx:Bx w g cs t)(hs:noS cs=true)(hb:But g w w'):XR w' D l0 l1 l2:=h.but hb (h.box hx hs)
theorem Iz (D:X0)(l0 l1 l2:Lo):noS (ZM D l0 l1 l2)=true:=rfl
def bF (w:World)(D':X0)(v:Value)(w':World):Prop:=∃ m0 m1 m2,v=.agg (ZM D' m0 m1 m2)/\XR w' D' m0 m1 m2/\Below w.heap.size w w'
def kQ (w:World)(D':X0)(e:Ending)(w':World):Prop:=∃ v,e=.returned v/\bF w D' v w'
theorem fA (D:X0)(l0 l1 l2:Lo):(ZM D l0 l1 l2).all (·.oneCell')=true:=by simp[Value.oneCell']
section
variable {w w0 : World} {g B : Nat} {D : X0} {l0 l1 l2 : Lo}
theorem JY (h:Bx w g (ZM D l0 l1 l2) 31):(Instr.loadAt 29 (Z5 g 0)).run Tryz.prog w=.ok (.agg (ZU l0.a D.c.1.length l0.k D.c.2)) w:=
 run_loadAt_mid w g 0 29 [.slice l0.a D.c.1.length l0.k,Z4 D.c.2] _ (Bx.two h 0 _ _ rfl rfl) Tryz.underlying29 rfl (by kernel_rfl)
theorem DR (h:Bx w g (ZM D l0 l1 l2) 31):(Instr.loadAt 29 (Z5 g 2)).run Tryz.prog w=.ok (.agg (ZU l1.a D.k.1.length l1.k D.k.2)) w:=
 run_loadAt_mid w g 2 29 [.slice l1.a D.k.1.length l1.k,Z4 D.k.2] _ (Bx.two h 2 _ _ rfl rfl) Tryz.underlying29 rfl (by kernel_rfl)
theorem vC (h:Bx w g (ZM D l0 l1 l2) 31):(Instr.loadAt 29 (Z5 g 4)).run Tryz.prog w=.ok (.agg (ZU l2.a D.n.1.length l2.k D.n.2)) w:=
 run_loadAt_mid w g 4 29 [.slice l2.a D.n.1.length l2.k,Z4 D.n.2] _ (Bx.two h 4 _ _ rfl rfl) Tryz.underlying29 rfl (by kernel_rfl)
theorem YE (h:Bx w g (ZM D l0 l1 l2) 31):(Instr.loadAt 31 (Z5 g 0)).run Tryz.prog w=.ok (.agg (ZM D l0 l1 l2)) w:=
 run_loadAt_mid w g 0 31 (ZM D l0 l1 l2).toList _ (fun j v hv=>by
  rw[cell_of_row w g _ _ _ (0,0) h];simpa using hv) Tryz.underlying31 rfl (by kernel_rfl)
theorem TI {cs:Array Value}(h:Bx w g cs 31)(hz:cs.size=8)(hb:Below B w0 w)(hg:B<=g):∃ V2,(Instr.storeAt 31 (Z5 g 0) (.agg (ZM D l0 l1 l2))).run Tryz.prog w=.ok () V2/\Bx V2 g (ZM D l0 l1 l2) 31/\Below B w0 V2/\But g w V2:=
 ⟨_,Ya h hz (fA _ _ _ _) (by kernel_rfl),h.set,ZQ hb hg _,But.setRow _ _⟩
theorem Xm (V:World)(D:X0)(l0 l1 l2:Lo):∃ V2,(Instr.storeAt 31 (Z5 V.heap.size 0) (.agg (ZM D l0 l1 l2))).run Tryz.prog (V.alloc (.cells #[.slice none 0 0,Z4 0,.slice none 0 0,Z4 0,.slice none 0 0,Z4 0,ZY,Z4 0] 31))=.ok () V2/\Below V.heap.size V V2/\Bx V2 V.heap.size (ZM D l0 l1 l2) 31:=by
 obtain⟨V2,h1,h2,h3,-⟩:=TI (D:=D) (l0:=l0) (l1:=l1) (l2:=l2) (heap_alloc_last V _:Bx (V.alloc (.cells #[.slice none 0 0,Z4 0,.slice none 0 0,Z4 0,.slice none 0 0,Z4 0,ZY,Z4 0] 31)) V.heap.size #[.slice none 0 0,Z4 0,.slice none 0 0,Z4 0,.slice none 0 0,Z4 0,ZY,Z4 0] 31) rfl ((Below.refl _ V).alloc (Nat.le_refl _) _) (Nat.le_refl _);exact⟨V2,h1,h3,h2⟩
theorem NR {cs cs':Array Value}{i:Nat}{a:Option Addr}{n k:Nat}{c:Int}(h:Bx w g cs 31)(hz:cs.size=8)(hi:i+1<8)(hb:Below B w0 w)(hg:B<=g)(hc:(cs.setIfInBounds i (.slice a n k)).setIfInBounds (i+1) (Z4 c)=cs'):∃ V2,(Instr.storeAt 29 (Z5 g i) (.agg (ZU a n k c))).run Tryz.prog w=.ok () V2/\Bx V2 g cs' 31/\Below B w0 V2/\But g w V2:=by
 have hst:=run_storeAt_mid (P:=Tryz.prog) w g i 29 (ZU a n k c) (fun j hj=>by
  have hj4:j<2:=hj;refine⟨?_,frozen_of_row w g _ _ 31 h⟩;rw[cell_of_row w g _ _ 31 (0,0) h,Array.getElem?_eq_getElem (by rw[hz]; omega)];rfl) (by kernel_rfl) (by simp[Value.oneCell'])
 exact⟨_,hst,hc ▸ (h.Bo (i:=i) (.slice a n k)).Bo (i:=i+1) (Z4 c),hb.trans (Us hg _ _ _),Q9 _ _ _⟩
theorem U6 {i:Nat}{cs:Array Value}{b:Bool}(h:Bx w g cs 31)(hv:cs[i]?=some (.bool b)):(Instr.loadAt 4 (Z5 g i)).run Tryz.prog w=.ok (.bool b) w:=h.load hv (by kernel_rfl)
end
end Go.Proofs.YtnhlpahoomcgnaaGreat.Lg
namespace Go.Proofs.YtnhlpahoomcgnaaGreat.Lg
attribute [local irreducible] wpList wpQuiet
open Mo (YU Y9 Ym Yz)
open Go.RowKit
theorem an8:(Tryz.prog.info? 92).map (fun i=>(i.zero,i.size,i.bytes))=some (some (.pointer none),1,8):=by kernel_rfl
theorem lS (x y z:Option Addr)(V:World):(Instr.buildSlice 93 3 #[(0,.pointer x),(1,.pointer y),(2,.pointer z)]).run Tryz.prog V=.ok (.slice (some ⟨V.heap.size,0,none⟩) 3 3) (V.alloc (.cells #[.pointer x,.pointer y,.pointer z] 92)):=by
 obtain⟨i0,hi,hz0,hz1,hz2⟩:=info_parts an8;refine run_buildSlice V 93 92 3 _ #[.pointer x,.pointer y,.pointer z] i0 _ Tryz.underlying93 hi hz0 (by rw[hz1]; omega) (by rw[hz1]; omega) ?_;rw[hz1];kernel_rfl
theorem zU (b n c k:Nat)(hk:k<n)(V:World)(ρ:Operand->Value)(o:Oper){x y:Operand}(ho:o.op=.indexAddr 93 x y)(hx:ρ x=.slice (some ⟨b,0,none⟩) n c)(hy:ρ y=Z8 k):(execOp ρ o).run Tryz.prog V=.ok (.value (Z5 b k)) V:=by
 have hs:(sizeOf (Tryz.prog.elem 93)).run Tryz.prog V=.ok 1 V:=by kernel_rfl
 have hlm:(k:Int)<(n:Int):=by omega
 unfold execOp;simp only[ho,hx,hy];go_simp
abbrev F7 (g:Nat):Array Value:=#[Z5 g 0,Z5 g 2,Z5 g 4]
structure KP (w W:World)(g1 g2 g8:Nat)(D:X0)(m0 m1 m2:Lo)(V:World):Prop where
 bel:Below w.heap.size w V
 wle:W.heap.size<=V.heap.size
 bx:Bx V g1 (ZM D m0 m1 m2) 31
 b2:Bx V g2 #[.slice none 0 0,Z4 0,.slice none 0 0,Z4 0,.slice none 0 0,Z4 0,ZY,Z4 0] 31
 b8:Bx V g8 (F7 g1) 92
 ai:XR V D m0 m1 m2
theorem KP.up0 {w W V V1:World}{g1 g2 g8:Nat}{D:X0}{m0 m1 m2:Lo}(h:KP w W g1 g2 g8 D m0 m1 m2 V)(hG:w.heap.size<=g1/\g2≠g1/\g8≠g1){m:Lo}(hr:Zi V1 V.heap.size (.slice m.a D.c.1.length m.k) D.c.1)(hb:Below V.heap.size V V1):∃ V2,(Instr.storeAt 26 (Z5 g1 0) (.slice m.a D.c.1.length m.k)).run Tryz.prog V1=.ok () V2/\KP w W g1 g2 g8 D m m1 m2 V2:=by
 obtain⟨ad,cd,e,hc,hk⟩:=hr.cs;obtain⟨rfl,-,rfl⟩:=by simpa only[Value.slice.injEq] using e
 have hx1:=h.bx.below h.bx.lt hb;obtain⟨V2,hst,hx,hb2,hbt⟩:=Zn (i:=0) (ty:=26) (v:=.slice m.a D.c.1.length m.k) (cs':=ZM D m m1 m2) hx1 (h.bel.trans (hb.mono h.bel.size)) hG.1 (by show 0<8; decide) rfl (by kernel_rfl) rfl;have h9:=(h.ai.below hb).st hx1 (Iz _ _ _ _) hbt;exact⟨V2,hst,hb2,Nat.le_trans h.wle (Nat.le_trans hb.size hbt.1.size),hx,(h.b2.below h.b2.lt hb).but hbt hG.2.1,(h.b8.below h.b8.lt hb).but hbt hG.2.2,⟨(SK.mk hc hk).st hx1 (Iz _ _ _ _) hbt,h9.k,h9.n⟩⟩
theorem KP.up2 {w W V V1:World}{g1 g2 g8:Nat}{D:X0}{m0 m1 m2:Lo}(h:KP w W g1 g2 g8 D m0 m1 m2 V)(hG:w.heap.size<=g1/\g2≠g1/\g8≠g1){m:Lo}(hr:Zi V1 V.heap.size (.slice m.a D.k.1.length m.k) D.k.1)(hb:Below V.heap.size V V1):∃ V2,(Instr.storeAt 26 (Z5 g1 2) (.slice m.a D.k.1.length m.k)).run Tryz.prog V1=.ok () V2/\KP w W g1 g2 g8 D m0 m m2 V2:=by
 obtain⟨ad,cd,e,hc,hk⟩:=hr.cs;obtain⟨rfl,-,rfl⟩:=by simpa only[Value.slice.injEq] using e
 have hx1:=h.bx.below h.bx.lt hb;obtain⟨V2,hst,hx,hb2,hbt⟩:=Zn (i:=2) (ty:=26) (v:=.slice m.a D.k.1.length m.k) (cs':=ZM D m0 m m2) hx1 (h.bel.trans (hb.mono h.bel.size)) hG.1 (by show 2<8; decide) rfl (by kernel_rfl) rfl;have h9:=(h.ai.below hb).st hx1 (Iz _ _ _ _) hbt;exact⟨V2,hst,hb2,Nat.le_trans h.wle (Nat.le_trans hb.size hbt.1.size),hx,(h.b2.below h.b2.lt hb).but hbt hG.2.1,(h.b8.below h.b8.lt hb).but hbt hG.2.2,⟨h9.c,(SK.mk hc hk).st hx1 (Iz _ _ _ _) hbt,h9.n⟩⟩
theorem KP.up4 {w W V V1:World}{g1 g2 g8:Nat}{D:X0}{m0 m1 m2:Lo}(h:KP w W g1 g2 g8 D m0 m1 m2 V)(hG:w.heap.size<=g1/\g2≠g1/\g8≠g1){m:Lo}(hr:Zi V1 V.heap.size (.slice m.a D.n.1.length m.k) D.n.1)(hb:Below V.heap.size V V1):∃ V2,(Instr.storeAt 26 (Z5 g1 4) (.slice m.a D.n.1.length m.k)).run Tryz.prog V1=.ok () V2/\KP w W g1 g2 g8 D m0 m1 m V2:=by
 obtain⟨ad,cd,e,hc,hk⟩:=hr.cs;obtain⟨rfl,-,rfl⟩:=by simpa only[Value.slice.injEq] using e
 have hx1:=h.bx.below h.bx.lt hb;obtain⟨V2,hst,hx,hb2,hbt⟩:=Zn (i:=4) (ty:=26) (v:=.slice m.a D.n.1.length m.k) (cs':=ZM D m0 m1 m) hx1 (h.bel.trans (hb.mono h.bel.size)) hG.1 (by show 4<8; decide) rfl (by kernel_rfl) rfl;have h9:=(h.ai.below hb).st hx1 (Iz _ _ _ _) hbt;exact⟨V2,hst,hb2,Nat.le_trans h.wle (Nat.le_trans hb.size hbt.1.size),hx,(h.b2.below h.b2.lt hb).but hbt hG.2.1,(h.b8.below h.b8.lt hb).but hbt hG.2.2,⟨h9.c,h9.k,(SK.mk hc hk).st hx1 (Iz _ _ _ _) hbt⟩⟩
theorem OD (D:X0)(l0 l1 l2:Lo)(w:World)(hI:XR w D l0 l1 l2)(hW:Uh D) :
  Calls Tryz.prog 33 #[.agg (ZM D l0 l1 l2)] w (kQ w D):=by
 obtain⟨hb0,hX1,hX2⟩:=Zk w (ZM D l0 l1 l2) #[.slice none 0 0,Z4 0,.slice none 0 0,Z4 0,.slice none 0 0,Z4 0,ZY,Z4 0] 31 31;have hI0:=hI.below hb0;have CC0:=fun V m (h:SK V m D.c.1)=>QL m.a m.k D.c.1 V h.cs hW.c.n;have CC1:=fun V m (h:SK V m D.k.1)=>QL m.a m.k D.k.1 V h.cs hW.k.n;have CC2:=fun V m (h:SK V m D.n.1)=>QL m.a m.k D.n.1 V h.cs hW.n.n;clear hI hW;go_enter Tryz.func33,Tryz.ntmps33;go_upto_region 1 with fail;change Code.wp _ _ _ _ ((w.alloc (.cells (ZM D l0 l1 l2) 31)).alloc (.cells #[.slice none 0 0,Z4 0,.slice none 0 0,Z4 0,.slice none 0 0,Z4 0,ZY,Z4 0] 31));generalize (w.alloc (.cells (ZM D l0 l1 l2) 31)).alloc (.cells #[.slice none 0 0,Z4 0,.slice none 0 0,Z4 0,.slice none 0 0,Z4 0,ZY,Z4 0] 31)=W0 at *
 obtain⟨g1,hg1⟩:=ZR w.heap.size;obtain⟨g2,hg2⟩:=ZR (g1+1);rw[show w.heap.size+1=g2 by omega] at hX2;rw[hg1] at hX1;have hb8:Below W0.heap.size W0 (W0.alloc (.cells (F7 g1) 92)):=(Below.refl _ W0).alloc (Nat.le_refl _) _;have Wy:Bx (W0.alloc (.cells (F7 g1) 92)) W0.heap.size (F7 g1) 92:=heap_alloc_last W0 _;have hbu:=lS (some ⟨g1,0,none⟩) (some ⟨g1,2,none⟩) (some ⟨g1,4,none⟩) W0;obtain⟨W,hW⟩:=ZR (W0.alloc (.cells (F7 g1) 92));rw[hW] at hb8 Wy;change (_=Result.ok _ (W0.alloc (.cells (F7 g1) 92))) at hbu;rw[hW] at hbu;obtain⟨g8,Nh⟩:=ZR W0.heap.size;have HG:Hid (w.heap.size<=g1/\g2≠g1/\g8≠g1):=Z9 ⟨by omega,by omega,by have:=hX1.lt; omega⟩;rw[Nh] at Wy hbu;have HG2:Hid (w.heap.size<=g2):=Z9 (by omega);simp only[hg1];simp only[hg2];have HK0:Hid (KP w W g1 g2 g8 D l0 l1 l2 W):=Z9 ⟨hb0.trans (hb8.mono hb0.size),Nat.le_refl _,hX1.below hX1.lt hb8,hX2.below hX2.lt hb8,Wy,hI0.below hb8⟩;clear hb0 hX1 hX2 hI0 hb8 Wy hW hg1 hg2 Nh;refine wl<|Yr (Z5 g1 0) (Z5 g1 2) (Z5 g1 4) ?_;refine Zr (by kernel_rfl) (some 8) rfl 93 3 #[(0,.tmp 5),(1,.tmp 6),(2,.tmp 7)] rfl #[(0,Z5 g1 0),(1,Z5 g1 2),(2,Z5 g1 4)] (by kernel_rfl) (.slice (some ⟨g8,0,none⟩) 3 3) _ hbu ?_;refine ZA (Z8 3) (Z8 0)<|wn ?_;simp only[pu];clear hbu;go_wp2_with fail;go_loopg [10] 3 (fun gg s10 wx=>∃ (i:Nat) (m0 m1 m2:Lo),s10=Z8 i/\i<=3/\Hid (KP w W g1 g2 g8 D m0 m1 m2 wx)/\3-i=gg)
 case atStart=>exact⟨0,l0,l1,l2,rfl,by omega,HK0,by omega⟩
 case round=>
  obtain⟨i,m0,m1,m2,rfl,hi,HK,hg⟩:=hrel;clear HK0;have ug:=Z9 hg;clear hg;by_cases hlt:i<3
  ·go_upto_region 2 with fail;refine wl<|ZJ (Zv rfl (i) (3) dT)<|wn ?_;simp only[pu];rcases (show i=0∨i=1∨i=2 by omega) with hi0 | hi0 | hi0
   ·have hcl:(F7 g1)[i]?=some (Z5 g1 0):=(by rw[hi0]; rfl);have YO:=Z9 ((HK.out.b8.load hcl (by kernel_rfl):(Instr.loadAt 92 (Z5 g8 i)).run Tryz.prog wr=.ok (Z5 g1 0) wr));have CT:=CC0 wr m0 HK.out.ai.c;have HI0:=Z9 hi0;clear hcl hi0;go_upto_region 3 with fail;refine wl<|YG (Z5 g8 i) (zU g8 3 3 i hlt _ _ _ rfl (by kernel_rfl) (by kernel_rfl))<|ZL rfl ⟨g8,i,none⟩ (Z5 g1 0) (YO.out)<|ZV (Z5 g1 0)<|wn ?_;simp only[pu];go_upto_region 4 with fail;refine wl<|WL (Z5 g1 0) (Z5 g1 0) (Z5 g1 0) (Z5 g1 0)<|ZL rfl ⟨g1,0,none⟩ (.slice m0.a D.c.1.length m0.k) (HK.out.bx.ZP 0) <|
     Yi (fun v w'=>∃ ad cd,v=.slice ad D.c.1.length cd/\Zi w' wr.heap.size (.slice ad D.c.1.length cd) D.c.1/\Below wr.heap.size wr w') (CT.mono fun e w' q=>by obtain⟨v,h1,h2,h3⟩:=q; obtain⟨ad,cd,rfl,-,-⟩:=h2.cs; exact⟨_,h1,ad,cd,rfl,h2,h3⟩) (fun vv V1 hq=>?_)
    obtain⟨ad,cd,rfl,hr,hb⟩:=hq;obtain⟨V2,hst,hK2⟩:=HK.out.up0 HG.out (m:=⟨ad,cd⟩) hr hb;have Ju:=Z9 hK2;clear hr hb hK2;refine ZA (Z5 g1 0) (Z5 g1 0)<|Zu rfl (hst)<|wn ?_;simp only[pu];clear hst CT YO;go_upto_region 5 with fail;refine wl<|Yy (Z8 (i+1:Nat)) (ZF rfl i 1 (by omega))<|ZV (Z8 (i+1:Nat))<|wn ?_;simp only[pu];go_wp2_with fail;go_roundg (3-(i+1))
    case measure=>have:=ug.out; omega
    case rel=>exact⟨i+1,⟨ad,cd⟩,m1,m2,rfl,hlt,Ju,rfl⟩
   ·have hcl:(F7 g1)[i]?=some (Z5 g1 2):=(by rw[hi0]; rfl);have YO:=Z9 ((HK.out.b8.load hcl (by kernel_rfl):(Instr.loadAt 92 (Z5 g8 i)).run Tryz.prog wr=.ok (Z5 g1 2) wr));have CT:=CC1 wr m1 HK.out.ai.k;have HI0:=Z9 hi0;clear hcl hi0;go_upto_region 3 with fail;refine wl<|YG (Z5 g8 i) (zU g8 3 3 i hlt _ _ _ rfl (by kernel_rfl) (by kernel_rfl))<|ZL rfl ⟨g8,i,none⟩ (Z5 g1 2) (YO.out)<|ZV (Z5 g1 2)<|wn ?_;simp only[pu];go_upto_region 4 with fail;refine wl<|WL (Z5 g1 2) (Z5 g1 2) (Z5 g1 2) (Z5 g1 2)<|ZL rfl ⟨g1,2,none⟩ (.slice m1.a D.k.1.length m1.k) (HK.out.bx.ZP 2) <|
     Yi (fun v w'=>∃ ad cd,v=.slice ad D.k.1.length cd/\Zi w' wr.heap.size (.slice ad D.k.1.length cd) D.k.1/\Below wr.heap.size wr w') (CT.mono fun e w' q=>by obtain⟨v,h1,h2,h3⟩:=q; obtain⟨ad,cd,rfl,-,-⟩:=h2.cs; exact⟨_,h1,ad,cd,rfl,h2,h3⟩) (fun vv V1 hq=>?_)
    obtain⟨ad,cd,rfl,hr,hb⟩:=hq;obtain⟨V2,hst,hK2⟩:=HK.out.up2 HG.out (m:=⟨ad,cd⟩) hr hb;have Ju:=Z9 hK2;clear hr hb hK2;refine ZA (Z5 g1 2) (Z5 g1 2)<|Zu rfl (hst)<|wn ?_;simp only[pu];clear hst CT YO;go_upto_region 5 with fail;refine wl<|Yy (Z8 (i+1:Nat)) (ZF rfl i 1 (by omega))<|ZV (Z8 (i+1:Nat))<|wn ?_;simp only[pu];go_wp2_with fail;go_roundg (3-(i+1))
    case measure=>have:=ug.out; omega
    case rel=>exact⟨i+1,m0,⟨ad,cd⟩,m2,rfl,hlt,Ju,rfl⟩
   ·have hcl:(F7 g1)[i]?=some (Z5 g1 4):=(by rw[hi0]; rfl);have YO:=Z9 ((HK.out.b8.load hcl (by kernel_rfl):(Instr.loadAt 92 (Z5 g8 i)).run Tryz.prog wr=.ok (Z5 g1 4) wr));have CT:=CC2 wr m2 HK.out.ai.n;have HI0:=Z9 hi0;clear hcl hi0;go_upto_region 3 with fail;refine wl<|YG (Z5 g8 i) (zU g8 3 3 i hlt _ _ _ rfl (by kernel_rfl) (by kernel_rfl))<|ZL rfl ⟨g8,i,none⟩ (Z5 g1 4) (YO.out)<|ZV (Z5 g1 4)<|wn ?_;simp only[pu];go_upto_region 4 with fail;refine wl<|WL (Z5 g1 4) (Z5 g1 4) (Z5 g1 4) (Z5 g1 4)<|ZL rfl ⟨g1,4,none⟩ (.slice m2.a D.n.1.length m2.k) (HK.out.bx.ZP 4) <|
     Yi (fun v w'=>∃ ad cd,v=.slice ad D.n.1.length cd/\Zi w' wr.heap.size (.slice ad D.n.1.length cd) D.n.1/\Below wr.heap.size wr w') (CT.mono fun e w' q=>by obtain⟨v,h1,h2,h3⟩:=q; obtain⟨ad,cd,rfl,-,-⟩:=h2.cs; exact⟨_,h1,ad,cd,rfl,h2,h3⟩) (fun vv V1 hq=>?_)
    obtain⟨ad,cd,rfl,hr,hb⟩:=hq;obtain⟨V2,hst,hK2⟩:=HK.out.up4 HG.out (m:=⟨ad,cd⟩) hr hb;have Ju:=Z9 hK2;clear hr hb hK2;refine ZA (Z5 g1 4) (Z5 g1 4)<|Zu rfl (hst)<|wn ?_;simp only[pu];clear hst CT YO;go_upto_region 5 with fail;refine wl<|Yy (Z8 (i+1:Nat)) (ZF rfl i 1 (by omega))<|ZV (Z8 (i+1:Nat))<|wn ?_;simp only[pu];go_wp2_with fail;go_roundg (3-(i+1))
    case measure=>have:=ug.out; omega
    case rel=>exact⟨i+1,m0,m1,⟨ad,cd⟩,rfl,hlt,Ju,rfl⟩
  ·go_upto_region 2 with fail;refine wl<|ZJ (Zv rfl (i) (3) dF)<|wn ?_;simp only[pu];obtain⟨V3,hst3,Qj,hb3,Vg⟩:=TI (D:=D) (l0:=m0) (l1:=m1) (l2:=m2) HK.out.b2 rfl HK.out.bel HG2.out;have HE:Hid (kQ w D (.returned (.agg (ZM D m0 m1 m2))) V3):=Z9 ⟨_,rfl,m0,m1,m2,rfl,HK.out.ai.st HK.out.b2 rfl Vg,hb3⟩;clear hb3 Vg;go_upto_region 6 with fail;refine wl<|ZL rfl ⟨g1,0,none⟩ (.agg (ZM D m0 m1 m2)) (YE HK.out.bx)<|Zu rfl (hst3)<|wn ?_;simp only[pu];go_wp2_with fail;exact bodyPost_ret (YB rfl (by kernel_rfl) (YE Qj)) rfl HE.out
theorem MP (D:X0)(l0 l1 l2:Lo)(R:List Int)(ra:Option Addr)(rc:Nat)(w:World)(hI:XR w D l0 l1 l2)(hW:Uh D)(hR:Sl w ra rc R)(hrc:R.length<=rc)(h8:∀ y,y∈R->W8 y) :
  Calls Tryz.prog 11 #[.agg (ZM D l0 l1 l2),.slice ra R.length rc] w (fun e w'=>e=.returned (.agg (ZI (Pq D R)))/\Below w.heap.size w w'):=by
 obtain⟨hb0,hX2,YA⟩:=Zk w (ZM D l0 l1 l2) (ZI (YR 0)) 31 40;have hR0:=ZK hR hb0;have CT:=fun V hl hr=>eX D.k.1 D.k.2 D.p R l1.a ra l1.k rc V hl hI.k.le hW.k.n hW.k.cw hW.k.w hW.k.z hW.p hr hrc h8;have P6:Hid (Pq D R=(WZ D.k.1 D.k.2 D.p R).2):=Z9 rfl;generalize WZ D.k.1 D.k.2 D.p R=X at *
 rw[P6.out];clear hR h8 hrc P6;go_enter Tryz.func11,Tryz.ntmps11;go_upto_region 1 with fail;change Code.wp _ _ _ _ ((w.alloc (.cells (ZM D l0 l1 l2) 31)).alloc (.cells (ZI (YR 0)) 40));generalize (w.alloc (.cells (ZM D l0 l1 l2) 31)).alloc (.cells (ZI (YR 0)) 40)=W at *
 obtain⟨g2,hg2⟩:=ZR w.heap.size;obtain⟨g4,hg4⟩:=ZR (g2+1);have HB0:=Z9 hb0;rw[show w.heap.size+1=g4 by omega] at YA;have HG:Hid (w.heap.size<=g2/\w.heap.size<=g4/\g2≠g4/\g4≠g2):=Z9 (by omega);rw[hg2] at hX2;simp only[hg2];simp only[hg4];have YK:=Z9 hX2;have YV:=Z9 YA;have HI:=Z9 (hI.below hb0);clear hb0 hg2 hg4 hX2 YA hI;have MX:=CT W HI.out.k.cs hR0;clear CT hR0 hW;refine wl<|ZV (Z5 g2 2)<|ZL rfl ⟨g2,2,none⟩ (.agg (ZU l1.a D.k.1.length l1.k D.k.2)) (DR YK.out)<|ZV (Z5 g2 7)<|ZL rfl ⟨g2,7,none⟩ (Z4 D.p) (YK.out.ZP 7)<|ZV (.slice ra R.length rc) <|
  Yi (fun v w'=>∃ aZ kZ,v=.tuple #[.agg (ZU aZ X.1.1.length kZ X.1.2),.agg (ZI X.2)]/\Cs w' aZ (acc X.1.1)/\X.1.1.length<=kZ/\((aZ=l1.a/\X.1.1=D.k.1)∨∀ x,aZ=some x->W.heap.size<=x.block)/\Below W.heap.size W w') (MX.mono fun e w' q=>by obtain⟨ad,k,h1,h2⟩:=q; exact⟨_,h1,ad,k,rfl,h2⟩) (fun vv W1 hq=>?_)
 obtain⟨ad,k,rfl,hcs,hk,-,hb1⟩:=hq;obtain⟨Va,Vb,Vc,Oq,hlt,hs6,hs7,hb7,hx4,hx5⟩:=JW W1 ad X.1.1.length k X.1.2 X.2;refine Yr (.tuple #[.agg (ZU ad X.1.1.length k X.1.2),.agg (ZI X.2)]) (.agg (ZU ad X.1.1.length k X.1.2)) (.agg (ZI X.2)) ?_;refine Zy rfl (some 5) rfl (Z5 W1.heap.size 0) (W1.alloc (.cells (ZU none 0 0 0) 29)) (by kernel_rfl) ?_;simp only[pu];rw[Oq];refine Zy rfl (some 6) rfl (Z5 Va.heap.size 0) (Va.alloc (.cells (ZI (YR 0)) 40)) (by kernel_rfl) ?_;refine Zu rfl (hs6)<|Zu rfl (hs7)<|wn ?_;have TK:=hb1.trans (hb7.mono hb1.size);obtain⟨YT,WJ⟩:=XY (q:=X.2) (YV.out.below YV.out.lt TK);have HE:Hid (Below w.heap.size w (Vc.setRow g4 (ZI X.2))):=Z9 (ZQ (HB0.out.trans (TK.mono HB0.out.size)) HG.out.2.1 _);obtain⟨g6,WG⟩:=ZR Va.heap.size;rw[WG] at hx5 ⊢;generalize Vc.setRow g4 (ZI X.2)=V9 at *
 clear hcs hb1 Oq hs6 hs7 hb7 hx4 TK WG MX;go_upto_region 2 with fail;refine wl<|ZL rfl ⟨g6,0,none⟩ (.agg (ZI X.2)) (Yg hx5)<|Zu rfl (YT)<|wn ?_;simp only[pu];go_wp2_with fail;exact bodyPost_ret (YB rfl (by kernel_rfl) (Yg WJ)) rfl ⟨rfl,HE.out⟩
theorem FI (D:X0)(l0 l1 l2:Lo)(R:List Int)(ra:Option Addr)(rc:Nat)(w:World)(hI:XR w D l0 l1 l2)(hW:Uh D)(hR:Sl w ra rc R)(hrc:R.length<=rc)(h8:∀ y,y∈R->W8 y) :
  Calls Tryz.prog 10 #[.agg (ZM D l0 l1 l2),.slice ra R.length rc] w (kQ w (Pv D R)):=by
 obtain⟨hb0,hX2,YA⟩:=Zk w (ZM D l0 l1 l2) #[.slice none 0 0,Z4 0,.slice none 0 0,Z4 0,.slice none 0 0,Z4 0,ZY,Z4 0] 31 31;have hR0:=ZK hR hb0;have CT:=fun V hl hr=>eX D.k.1 D.k.2 D.p R l1.a ra l1.k rc V hl hI.k.le hW.k.n hW.k.cw hW.k.w hW.k.z hW.p hr hrc h8;have HA:=Z9 (hW.acc h8);have P6:Hid ({ D with k:=(WZ D.k.1 D.k.2 D.p R).1 }=Pv D R):=Z9 rfl;generalize Pv D R=D2 at *
 generalize WZ D.k.1 D.k.2 D.p R=X at *
 clear hR h8 hrc;go_enter Tryz.func10,Tryz.ntmps10;go_upto_region 1 with fail;change Code.wp _ _ _ _ ((w.alloc (.cells (ZM D l0 l1 l2) 31)).alloc (.cells #[.slice none 0 0,Z4 0,.slice none 0 0,Z4 0,.slice none 0 0,Z4 0,ZY,Z4 0] 31));generalize (w.alloc (.cells (ZM D l0 l1 l2) 31)).alloc (.cells #[.slice none 0 0,Z4 0,.slice none 0 0,Z4 0,.slice none 0 0,Z4 0,ZY,Z4 0] 31)=W at *
 obtain⟨g2,hg2⟩:=ZR w.heap.size;obtain⟨g4,hg4⟩:=ZR (g2+1);have HB0:=Z9 hb0;rw[show w.heap.size+1=g4 by omega] at YA;have HG:Hid (w.heap.size<=g2/\w.heap.size<=g4/\g2≠g4/\g4≠g2):=Z9 (by omega);rw[hg2] at hX2;simp only[hg2];simp only[hg4];have YK:=Z9 hX2;have YV:=Z9 YA;have HI:=Z9 (hI.below hb0);clear hb0 hg2 hg4 hX2 YA hI;have MX:=CT W HI.out.k.cs hR0;clear CT hR0 hW;refine wl<|ZV (Z5 g2 2)<|ZL rfl ⟨g2,2,none⟩ (.agg (ZU l1.a D.k.1.length l1.k D.k.2)) (DR YK.out)<|ZV (Z5 g2 7)<|ZL rfl ⟨g2,7,none⟩ (Z4 D.p) (YK.out.ZP 7)<|ZV (.slice ra R.length rc) <|
  Yi (fun v w'=>∃ aZ kZ,v=.tuple #[.agg (ZU aZ X.1.1.length kZ X.1.2),.agg (ZI X.2)]/\Cs w' aZ (acc X.1.1)/\X.1.1.length<=kZ/\((aZ=l1.a/\X.1.1=D.k.1)∨∀ x,aZ=some x->W.heap.size<=x.block)/\Below W.heap.size W w') (MX.mono fun e w' q=>by obtain⟨ad,k,h1,h2⟩:=q; exact⟨_,h1,ad,k,rfl,h2⟩) (fun vv W1 hq=>?_)
 obtain⟨ad,k,rfl,hcs,hk,-,hb1⟩:=hq;obtain⟨V2,hst2,hY2,hb2,XE⟩:=NR (i:=2) (a:=ad) (n:=X.1.1.length) (k:=k) (c:=X.1.2) (cs':=ZM { D with k:=X.1 } l0 ⟨ad,k⟩ l2) (YK.out.below YK.out.lt hb1) rfl (by decide) (HB0.out.trans (hb1.mono HB0.out.size)) HG.out.1 rfl;have h2:=(HI.out.below hb1).st (YK.out.below YK.out.lt hb1) rfl XE;have hI2:XR V2 { D with k:=X.1 } l0 ⟨ad,k⟩ l2:=⟨h2.c,(SK.mk (l:=⟨ad,k⟩) hcs hk).st (YK.out.below YK.out.lt hb1) rfl XE,h2.n⟩;have QM:=(YV.out.below YV.out.lt hb1).but XE HG.out.2.2.2;refine WL (.tuple #[.agg (ZU ad X.1.1.length k X.1.2),.agg (ZI X.2)]) (.agg (ZU ad X.1.1.length k X.1.2)) (.agg (ZI X.2)) (Z5 g2 2)<|Zu rfl (hst2)<|wn ?_;simp only[pu];obtain⟨l3,hl3⟩:=ZR (Lo.mk ad k);rw[P6.out,hl3] at hI2 hY2;clear hst2 hcs hk hb1 XE h2 hl3 MX HI YK;go_upto_region 2 with fail;refine wl<|ZL rfl ⟨g2,0,none⟩ (.agg (ZM D2 l0 l3 l2)) (YE hY2)<|Yi (bF V2 D2) (OD D2 l0 l3 l2 V2 hI2 HA.out) (fun vv W3 hq=>?_);obtain⟨m0,m1,m2,rfl,kM,hbp⟩:=hq;have hx4:=Bx.below QM (Bx.lt QM) hbp;obtain⟨V9,YT,WJ,Yb,YM⟩:=TI (D:=D2) (l0:=m0) (l1:=m1) (l2:=m2) hx4 rfl (hb2.trans (hbp.mono hb2.size)) HG.out.2.1;have HE:Hid (kQ w D2 (.returned (.agg (ZM D2 m0 m1 m2))) V9):=Z9 ⟨_,rfl,m0,m1,m2,rfl,kM.st hx4 rfl YM,Yb⟩;refine Zu rfl (YT)<|wn ?_;go_wp2_with fail;exact bodyPost_ret (YB rfl (by kernel_rfl) (YE WJ)) rfl HE.out
theorem Ot (D:X0)(l0 l1 l2:Lo)(E:List Bs)(ra:Option Addr)(rc:Nat)(w:World)(hI:XR w D l0 l1 l2)(hW:Uh D)(hE:PE w ra E)(hn:E.length<=100000) :
  Calls Tryz.prog 24 #[.agg (ZM D l0 l1 l2),.slice ra E.length rc] w (fun e w'=>e=.returned (.bool (Px D (lsB E)))/\Below w.heap.size w w'):=by
 have hb0:Below w.heap.size w (w.alloc (.cells (ZM D l0 l1 l2) 31)):=(Below.refl _ w).alloc (Nat.le_refl _) _;have hX2:Bx (w.alloc (.cells (ZM D l0 l1 l2) 31)) w.heap.size (ZM D l0 l1 l2) 31:=heap_alloc_last w _;have CT:=fun V hl he=>mY D.c.1 D.c.2 D.p E l0.a ra l0.k rc V hl hI.c.le hW.c hW.p he hn;have hE0:=hE.below hb0;have P6:Hid (decide ((VD D.c.1 D.c.2 D.p (lsB E)).2.2=0)=Px D (lsB E)):=Z9 rfl;generalize Px D (lsB E)=t9 at *
 generalize VD D.c.1 D.c.2 D.p (lsB E)=X at *
 clear hE hn;go_enter Tryz.func24,Tryz.ntmps24;go_upto_region 1 with fail;change Code.wp _ _ _ _ (w.alloc (.cells (ZM D l0 l1 l2) 31));generalize w.alloc (.cells (ZM D l0 l1 l2) 31)=W at *
 obtain⟨g2,hg2⟩:=ZR w.heap.size;have HB0:=Z9 hb0;have HG:Hid (w.heap.size<=g2):=Z9 (by omega);rw[hg2] at hX2;simp only[hg2];have YK:=Z9 hX2;have HI:=Z9 (hI.below hb0);clear hb0 hg2 hX2 hI;have MX:=CT W HI.out.c.cs hE0;clear CT hE0 hW;refine wl<|ZV (Z5 g2 0)<|ZL rfl ⟨g2,0,none⟩ (.agg (ZU l0.a D.c.1.length l0.k D.c.2)) (JY YK.out)<|ZV (Z5 g2 7)<|ZL rfl ⟨g2,7,none⟩ (Z4 D.p) (YK.out.ZP 7)<|ZV (.slice ra E.length rc) <|
  Yi (fun v w'=>∃ ad k,v=.tuple #[.agg (ZU ad X.1.1.length k X.1.2),Z8 X.2.1,Z8 X.2.2]/\Below W.heap.size W w') (MX.mono fun e w' q=>by obtain⟨ad,k,h1,h2,h3,h4⟩:=q; exact⟨_,h1,ad,k,rfl,h4⟩) (fun vv W1 hq=>?_)
 obtain⟨ad,k,rfl,hb1⟩:=hq;obtain⟨V2,hst2,hb2,hx2⟩:=UU W1 ad X.1.1.length k X.1.2;refine WL (.tuple #[.agg (ZU ad X.1.1.length k X.1.2),Z8 X.2.1,Z8 X.2.2]) (.agg (ZU ad X.1.1.length k X.1.2)) (Z8 X.2.1) (Z8 X.2.2) ?_;refine Zy rfl (some 5) rfl (Z5 W1.heap.size 0) (W1.alloc (.cells (ZU none 0 0 0) 29)) (by kernel_rfl) ?_;refine Zu rfl (hst2)<|ZA (Z8 X.2.1) (Z8 X.2.2)<|wn ?_;simp only[pu];have HE:Hid (Below w.heap.size w V2):=Z9 ((HB0.out.trans (hb1.mono HB0.out.size)).trans (hb2.mono (HB0.out.trans (hb1.mono HB0.out.size)).size));obtain⟨g5,hg5⟩:=ZR W1.heap.size;rw[hg5];have ht9:=P6.out;clear hst2 hb1 hb2 hx2 hg5 MX HI YK;go_upto_region 2 with fail;refine wl<|ZV (Z8 X.2.2)<|Yy (.bool t9) (Uw rfl X.2.2 0 ht9)<|ZV (.bool t9)<|wn ?_;simp only[pu];go_wp2_with fail;go_ret;exact⟨rfl,HE.out⟩
theorem zJ (D:X0)(l0 l1 l2:Lo)(w:World)(hI:XR w D l0 l1 l2)(hW:Uh D) :
  Calls Tryz.prog 15 #[.agg (ZM D l0 l1 l2)] w (kQ w (Nu D)):=by
 obtain⟨hb0,hX2,YA⟩:=Zk w (ZM D l0 l1 l2) #[.slice none 0 0,Z4 0,.slice none 0 0,Z4 0,.slice none 0 0,Z4 0,ZY,Z4 0] 31 31;have HA:=Z9 hW.rst;have P6:Hid ({ D with k:=D.c }=Nu D):=Z9 rfl;generalize Nu D=D2 at *
 clear hW;go_enter Tryz.func15,Tryz.ntmps15;go_upto_region 1 with fail;change Code.wp _ _ _ _ ((w.alloc (.cells (ZM D l0 l1 l2) 31)).alloc (.cells #[.slice none 0 0,Z4 0,.slice none 0 0,Z4 0,.slice none 0 0,Z4 0,ZY,Z4 0] 31));generalize (w.alloc (.cells (ZM D l0 l1 l2) 31)).alloc (.cells #[.slice none 0 0,Z4 0,.slice none 0 0,Z4 0,.slice none 0 0,Z4 0,ZY,Z4 0] 31)=W at *
 obtain⟨g2,hg2⟩:=ZR w.heap.size;obtain⟨g4,hg4⟩:=ZR (g2+1);have HB0:=Z9 hb0;rw[show w.heap.size+1=g4 by omega] at YA;have HG:Hid (w.heap.size<=g2/\w.heap.size<=g4/\g2≠g4/\g4≠g2):=Z9 (by omega);rw[hg2] at hX2;simp only[hg2];simp only[hg4];have YK:=Z9 hX2;have YV:=Z9 YA;have HI:=Z9 (hI.below hb0);clear hb0 hg2 hg4 hX2 YA hI;obtain⟨V2,hst2,hY2,hb2,XE⟩:=NR (i:=2) (a:=l0.a) (n:=D.c.1.length) (k:=l0.k) (c:=D.c.2) (cs':=ZM { D with k:=D.c } l0 l0 l2) YK.out rfl (by decide) HB0.out HG.out.1 rfl;have h2:=HI.out.st YK.out rfl XE;have hI2:XR V2 { D with k:=D.c } l0 l0 l2:=⟨h2.c,h2.c,h2.n⟩;have QM:=YV.out.but XE HG.out.2.2.2;refine wl<|ZV (Z5 g2 0)<|ZL rfl ⟨g2,0,none⟩ (.agg (ZU l0.a D.c.1.length l0.k D.c.2)) (JY YK.out)<|ZV (Z5 g2 2)<|Zu rfl (hst2)<|wn ?_;simp only[pu];rw[P6.out] at hI2 hY2;clear hst2 XE h2 HI YK;go_upto_region 2 with fail;refine wl<|ZL rfl ⟨g2,0,none⟩ (.agg (ZM D2 l0 l0 l2)) (YE hY2)<|Yi (bF V2 D2) (OD D2 l0 l0 l2 V2 hI2 HA.out) (fun vv W3 hq=>?_);obtain⟨m0,m1,m2,rfl,kM,hbp⟩:=hq;have hx4:=Bx.below QM (Bx.lt QM) hbp;obtain⟨V9,YT,WJ,Yb,YM⟩:=TI (D:=D2) (l0:=m0) (l1:=m1) (l2:=m2) hx4 rfl (Below.trans hb2 (hbp.mono (Below.size hb2))) HG.out.2.1;have dD:=kM.st hx4 rfl YM;refine Zu rfl (YT)<|wn ?_;have HE:Hid (kQ w D2 (.returned (.agg (ZM D2 m0 m1 m2))) V9):=Z9 ⟨_,rfl,m0,m1,m2,rfl,dD,Yb⟩;go_wp2_with fail;exact bodyPost_ret (YB rfl (by kernel_rfl) (YE WJ)) rfl HE.out
end Go.Proofs.YtnhlpahoomcgnaaGreat.Lg
