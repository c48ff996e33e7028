/-
  Texts joined.
-/
import Derived.Test.YtfpnnmeblefkkaaGreatDoorD22
import Derived.StillTail
set_option maxRecDepth 100000
set_option maxHeartbeats 8000000
set_option linter.unusedSimpArgs false
set_option linter.unusedVariables false
namespace Go.Proofs.YtfpnnmeblefkkaaGreatDoor.Lg
attribute [local irreducible] wpList wpQuiet
open Mo (YK YR Yl Yw)
open Go.RowKit
theorem qP (A:List Ac)(c p:Int)(E:List Bs)(la ra:Option Addr)(lk rc:Nat)(w:World)(hL:Cs w la (acc A))(hlk:A.length<=lk)(hd:Bj A c)(hp:W64 p)(hE:AQ w ra E)(hn:E.length<=100000) :
  Calls Tryz.prog 16 #[.agg (ZT la A.length lk c),Z7 p,.slice ra E.length rc] w (an8 w (Jl A c p (lsB E))):=by
 obtain⟨hb0,VJ,Ws⟩:=Ym w (ZT la A.length lk c) (ZT none 0 0 0) 30 30;obtain⟨C,hC⟩:∃ C:Nat->Int,∀ j,C j=(TB A c p (lsB E) j).code:=⟨_,fun _=>rfl⟩;have CL:=aD9 la lk A c _ (hL.below hb0) hd.n;have Ui:=Z9 hn;have qU:=Z9 hp;have wI:=Z9 hE;have HRD:Hid (∀ j,j<=E.length->Bj (Ye A c p (lsB E) j).1 (Ye A c p (lsB E) j).2):=Z9 fun j hj=>hd.run hp hE.all j (by rw[Xe]; exact hj);have EW:Hid (∀ j,j<E.length->Ye A c p (lsB E) (j+1)=(TF (Ye A c p (lsB E) j).1 (Ye A c p (lsB E) j).2 p (Ti E j).2.2).1):=Z9 fun j hj=>by rw[UO (by rw[Xe]; exact hj),OW hj]
 have HRQ:Hid (∀ j,j<E.length->(TF (Ye A c p (lsB E) j).1 (Ye A c p (lsB E) j).2 p (Ti E j).2.2).2.code=C j):=Z9 fun j hj=>by rw[aO2 hj,hC]
 have HR0:Hid (Ye A c p (lsB E) 0=(A,c)):=Z9 rfl;have Aq:Hid (∀ i,i<E.length->(∀ j,j<i->C j=0)->C i≠0->Jl A c p (lsB E)=(([],0),i,C i)):=Z9 fun i hi hb he=>by rw[yK (by rw[Xe]; exact hi) (fun j hj=>by rw[<- hC]; exact hb j hj) (by rw[<- hC]; exact he),hC]
 have HSO:Hid ((∀ j,j<E.length->C j=0)->Jl A c p (lsB E)=(Ye A c p (lsB E) E.length,0,0)):=Z9 fun hb=>by rw[am7 (fun j hj=>by rw[<- hC]; exact hb j (by rw[Xe] at hj; exact hj)),Xe]
 generalize Jl A c p (lsB E)=SX at *
 generalize Ye A c p (lsB E)=U at *
 clear hL hd hp hE hC;go_enter Tryz.func16,Tryz.ntmps16;go_upto_region 1 with fail;change Code.wp _ _ _ _ ((w.alloc (.cells (ZT la A.length lk c) 30)).alloc (.cells (ZT none 0 0 0) 30));generalize (w.alloc (.cells (ZT la A.length lk c) 30)).alloc (.cells (ZT none 0 0 0) 30)=W at *
 obtain⟨g3,hg3⟩:=ZQ w.heap.size;obtain⟨g6,S9⟩:=ZQ (g3+1);rw[hg3] at VJ;rw[show w.heap.size+1=g6 by omega] at Ws;have HG:Hid (w.heap.size<=g6/\g6<W.heap.size/\w.heap.size<=W.heap.size):=Z9 ⟨by omega,Ws.lt,hb0.size⟩;simp only[hg3];simp only[S9];have HB0:=Z9 hb0;have Xr:=Z9 VJ;have Xx:=Z9 Ws;clear hb0 hg3 S9 VJ Ws;refine wl<|ZL rfl ⟨g3,0,none⟩ (.agg (ZT la A.length lk c)) (ZO Xr.out) <|
  XI (fun v w'=>∃ ad k,v=.agg (ZT ad A.length k c)/\Zd w' W.heap.size (.slice ad A.length k) A/\Below W.heap.size W w') (CL.mono fun e w' q=>by obtain⟨ad,k,h1,h2⟩:=q; exact⟨_,h1,ad,k,rfl,h2⟩) (fun vv V1 hq=>?_)
 obtain⟨a1,k1,rfl,hr1,hb1⟩:=hq;obtain⟨ad9,c9,e9,hc1,hk1⟩:=hr1.cs;obtain⟨rfl,-,rfl⟩:=by simpa only[Value.slice.injEq] using e9
 obtain⟨hst1,hX1⟩:=ZC (a':=a1) (n':=A.length) (k':=k1) (c':=c) (Xx.out.below Xx.out.lt hb1);have FH:But g6 V1 (V1.setRow g6 (ZT a1 A.length k1 c)):=But.setRow V1 (ZT a1 A.length k1 c);have zf:acc A≠[]->∀ x,a1=some x->x.block≠g6:=fun _ x hx=>by have:=JK hr1 x hx; have:=HG.out.2.1; omega
 have hc2:=YG hc1 FH zf;have hb2:=ZU (HB0.out.trans (hb1.mono HB0.out.size)) HG.out.1 (ZT a1 A.length k1 c);have hs2:W.heap.size<=(V1.setRow g6 (ZT a1 A.length k1 c)).heap.size:=by rw[size_setRow]; exact hb1.size
 refine Zk rfl (hst1)<|wn ?_;generalize V1.setRow g6 (ZT a1 A.length k1 c)=W1 at *
 have HB1:=Z9 hb2;have Wy:=Z9 hX1;have HC1:=Z9 hc2;have kH:=Z9 hs2;have y9:=Z9 zf;have hk2:=hk1;clear hst1 hX1 hc2 hb2 hs2 zf FH hr1 hb1 hc1 hk1 HB0 Xr Xx CL e9;go_upto_region 2 with fail;refine wl<|Yr (.slice ra E.length rc) (Z8 E.length) (Z8 0)<|wn ?_;simp only[pu];go_wp2_with fail;go_loopg [16] E.length (fun gg s16 wx=>∃ (j:Nat) (ad:Option Addr) (k:Nat),s16=Z8 j/\j<=E.length/\(U j).1.length<=k/\Hid (∀ i,i<j->C i=0)/\Hid (Cs wx ad (acc (U j).1))/\Hid (acc (U j).1≠[]->∀ x,ad=some x->x.block≠g6)/\Hid (Bx wx g6 (ZT ad (U j).1.length k (U j).2) 30)/\Hid (Below w.heap.size w wx)/\Hid (W.heap.size<=wx.heap.size)/\E.length-j=gg)
 case atStart=>exact⟨0,a1,k1,rfl,by omega,by rw[HR0.out]; exact hk2,Z9 (fun i hi=>absurd hi (Nat.not_lt_zero i)),by rw[HR0.out]; exact HC1,by rw[HR0.out]; exact y9,by rw[HR0.out]; exact Wy,HB1,kH,by omega⟩
 case round=>
  obtain⟨j,ad,k,rfl,hj,hk,HCZ,HC,Uh,HX,HB,Gz,hg⟩:=hrel;clear HC1 y9 Wy HB1 kH hk2;have yB:=Ui.out;by_cases hlt:j<E.length
  ·obtain⟨b,off,rfl,hld⟩:=(wI.out.below HB.out).at hlt;have YD:=Z9 hld;have Dh:=HRD.out j hj;have wH:=NV hlt;have TP:=(Below.refl _ wr).alloc (Nat.le_refl _) (.cells (ZE (YP 0)) 47);have bG:Bx (wr.alloc (.cells (ZE (YP 0)) 47)) wr.heap.size (ZE (YP 0)) 47:=heap_alloc_last wr _;have CT:=aE0 (U j).1 (U j).2 p (Ti E j).2.2 ad (Ti E j).1 k (Ti E j).2.1 _ (HC.out.below TP) hk Dh.n Dh.cw Dh.w Dh.z qU.out (ZP (ZP (wI.out.sl _ wH) HB.out) TP) (wI.out.le _ wH) (wI.out.b _ wH);have wG:=Z9 (EW.out j hlt);have HQC:=Z9 (HRQ.out j hlt);generalize TF (U j).1 (U j).2 p (Ti E j).2.2=X at *
   generalize Ti E j=y at *
   have HG2:=Z9 hg;obtain⟨V0,hV0⟩:=ZQ (wr.alloc (.cells (ZE (YP 0)) 47));rw[hV0] at CT TP bG;clear hld Dh wH hg;go_upto_region 3 with fail;refine wl<|ZM (Zr rfl (j) (E.length) dT)<|wn ?_;simp only[pu];go_upto_region 4 with fail;refine wl<|ZV (Z8 j)<|YI (Z5 b (off+j*1)) (FD b off E.length rc j hlt _ _ _ rfl (by kernel_rfl) (by kernel_rfl))<|ZL rfl ⟨b,off+j*1,none⟩ (.slice y.1 y.2.2.length y.2.1) (YD.out)<|ZB (Z8 j) (.slice y.1 y.2.2.length y.2.1) <|
    wpList_nil ?_
   simp only[pu];go_upto_region 5 with fail;apply wp_region_lit;refine Zy rfl (some 11) rfl (Z5 wr.heap.size 0) (wr.alloc (.cells (ZE (YP 0)) 47)) (by kernel_rfl) ?_;simp only[pu];rw[hV0];apply wpList_nil;obtain⟨g11,NW⟩:=ZQ wr.heap.size;rw[NW] at bG ⊢;have HXR:=Z9 bG;have uS:=Z9 TP;have Rj:Hid (g6<g11/\W.heap.size<=g11/\wr.heap.size=g11):=Z9 ⟨by have:=HG.out.2.1; have:=Gz.out; omega,by have:=Gz.out; omega,NW⟩;clear bG TP NW hV0;go_upto_region 6 with fail;refine wl<|ZL rfl ⟨g6,0,none⟩ (.agg (ZT ad (U j).1.length k (U j).2)) (ZO (HX.out.below HX.out.lt uS.out))<|ZB (Z7 p) (.slice y.1 y.2.2.length y.2.1) <|
    XI (fun v w'=>∃ aZ kZ,v=.tuple #[.agg (ZT aZ X.1.1.length kZ X.1.2),.agg (ZE X.2)]/\Cs w' aZ (acc X.1.1)/\X.1.1.length<=kZ/\((aZ=ad/\X.1.1=(U j).1)∨∀ x,aZ=some x->V0.heap.size<=x.block)/\Below V0.heap.size V0 w') (CT.mono fun e w' q=>by obtain⟨aZ,kZ,h1,h2⟩:=q; exact⟨_,h1,aZ,kZ,rfl,h2⟩) (fun vv V2 hq=>?_)
   obtain⟨a2,k2,rfl,hct,hkt,hbl,hbt⟩:=hq;have hbW:=uS.out.trans (hbt.mono uS.out.size);have Sv:acc X.1.1≠[]->∀ x,a2=some x->x.block≠g6/\x.block≠g11:=fun hne x hx=>by
    rcases hbl with⟨e1,e2⟩ | h9
    ·rw[e1] at hx; rw[e2] at hne;have h3:=Vh HC.out hne x hx;exact⟨Uh.out hne x hx,by have:=Rj.out.2.2; omega⟩
    ·have h10:=h9 x hx;have h12:=Rj.out.1;have h14:=HXR.out.lt;exact⟨by omega,by omega⟩
   obtain⟨hst3,Wh⟩:=ZC (a':=a2) (n':=X.1.1.length) (k':=k2) (c':=X.1.2) (HX.out.below HX.out.lt hbW);have Yk:But g6 V2 (V2.setRow g6 (ZT a2 X.1.1.length k2 X.1.2)):=But.setRow V2 (ZT a2 X.1.1.length k2 X.1.2);have kG:=(HXR.out.below HXR.out.lt hbt).but Yk (by have:=Rj.out.1; omega);have I9:=YG hct Yk (fun h x hx=>(Sv h x hx).1);have Nb:=ZU (HB.out.trans (hbW.mono HB.out.size)) HG.out.1 (ZT a2 X.1.1.length k2 X.1.2);have hs8:W.heap.size<=(V2.setRow g6 (ZT a2 X.1.1.length k2 X.1.2)).heap.size:=(by rw[size_setRow]; exact Nat.le_trans Gz.out hbW.size);generalize V2.setRow g6 (ZT a2 X.1.1.length k2 X.1.2)=V8 at *
   obtain⟨Nu,Df⟩:=XL (q:=X.2) kG;have Xa:But g11 V8 (V8.setRow g11 (ZE X.2)):=But.setRow V8 (ZE X.2);have SI:=Wh.but Xa (by have:=Rj.out.1; omega);have hC9:=YG I9 Xa (fun h x hx=>(Sv h x hx).2);have SY:=ZU (g:=g11) Nb (by have:=Rj.out.1; have:=HG.out.1; omega) (ZE X.2);have hs9:W.heap.size<=(V8.setRow g11 (ZE X.2)).heap.size:=(by rw[size_setRow]; exact hs8);generalize V8.setRow g11 (ZE X.2)=V9 at *
   clear kG Wh I9 Nb hs8 Yk Xa hbl hct hbt hbW CT;refine Yr (.tuple #[.agg (ZT a2 X.1.1.length k2 X.1.2),.agg (ZE X.2)]) (.agg (ZT a2 X.1.1.length k2 X.1.2)) (.agg (ZE X.2))<|Zk rfl (hst3)<|Zk rfl (Nu)<|wn ?_;simp only[pu];have hcd:(Instr.loadAt 42 (Z5 g11 0)).run Tryz.prog V9=.ok (Z8 X.2.code) V9:=Df.ZR 0;clear hst3 Nu HC Uh HX HB Gz YD;by_cases hq0:X.2.code=0
   ·go_upto_region 7 with fail;refine wl<|ZV (Z5 g11 0)<|ZL rfl ⟨g11,0,none⟩ (Z8 X.2.code) (hcd)<|ZM (YL rfl X.2.code 0 (decide_eq_true hq0))<|wn ?_;simp only[pu];go_upto_region 9 with fail;refine wl<|Yn (Z8 (j+1:Nat)) (Zz rfl j 1 (by omega))<|ZV (Z8 (j+1:Nat))<|wn ?_;simp only[pu];clear hcd Df;go_wp2_with fail;go_roundg (E.length-(j+1))
    case measure=>have:=HG2.out; omega
    case rel=>exact⟨j+1,a2,k2,rfl,hlt,by rw[wG.out]; exact hkt,Z9 (fun i hi=>by rcases Nat.lt_succ_iff_lt_or_eq.1 hi with h | h; exact HCZ.out i h; rw[h,<- HQC.out]; exact hq0),Z9 (by rw[wG.out]; exact hC9),Z9 (by rw[wG.out]; exact fun h x hx=>(Sv h x hx).1),Z9 (by rw[wG.out]; exact SI),Z9 SY,Z9 hs9,rfl⟩
   ·go_upto_region 7 with fail;refine wl<|ZV (Z5 g11 0)<|ZL rfl ⟨g11,0,none⟩ (Z8 X.2.code) (hcd)<|ZM (YL rfl X.2.code 0 (decide_eq_false hq0))<|wn ?_;simp only[pu];have hss:=Aq.out j hlt HCZ.out (by rw[<- HQC.out]; exact hq0);rw[<- HQC.out] at hss;obtain⟨W0,hW0⟩:=ZQ V9.drew;have P8:Bx W0 g6 (ZT a2 X.1.1.length k2 X.1.2) 30:=(by rw[<- hW0]; exact SI);have hcd0:(Instr.loadAt 42 (Z5 g11 0)).run Tryz.prog W0=.ok (Z8 X.2.code) W0:=(by rw[<- hW0]; exact Bx.load (w:=V9.drew) (i:=0) (Df:Bx V9.drew g11 (ZE X.2) 47) rfl (by kernel_rfl));obtain⟨hsS,hZ1⟩:=ZC (a':=none) (n':=0) (k':=0) (c':=0) P8;have hB1:Below w.heap.size w (W0.setRow g6 (ZT none 0 0 0)):=ZU (by rw[<- hW0]; exact SY.drew) HG.out.1 (ZT none 0 0 0);have hcd1:(Instr.loadAt 42 (Z5 g11 0)).run Tryz.prog (W0.setRow g6 (ZT none 0 0 0))=.ok (Z8 X.2.code) (W0.setRow g6 (ZT none 0 0 0)):=Bx.load (i:=0) (Bx.but (w:=W0) (by rw[<- hW0]; exact Df) (But.setRow (g:=g6) W0 _) (by have:=Rj.out.1; omega)) rfl (by kernel_rfl);generalize W0.setRow g6 (ZT none 0 0 0)=W1 at *
    have h0:V9.drew=cond false W1 W0:=hW0;have HE:Hid (an8 w SX (.returned (.tuple #[.agg (ZT none 0 0 0),Z8 j,Z8 X.2.code])) W1):=Z9 (by rw[hss]; exact⟨none,0,rfl,Cs.nil _ _,Nat.le_refl _,hB1⟩);clear hss hcd SI Df SY hC9 hB1 P8;go_upto_region 8 with fail;refine Zw (fun listed YZ V=>∃ b0 b1 b2 b3 b4 b5 b6:Bool,listed=#[b0,b1,b2,b3,b4,b5,b6]/\YZ={ tmps:=#[.agg (ZT la A.length lk c),Z7 p,.slice (some ⟨b,off,none⟩) E.length rc,Z5 g3 0,undef,undef,Z5 g6 0,(cond b5 (Z8 j) (u7)),(cond b6 (Z8 X.2.code) (u8)),Z8 j,.slice y.1 y.2.2.length y.2.1,Z5 g11 0,.agg (ZT la A.length lk c),.agg (ZT a1 A.length k1 c),.slice (some ⟨b,off,none⟩) E.length rc,Z8 E.length,Z8 j,ZW,Z8 j,Z5 b (off+j*1),.slice y.1 y.2.2.length y.2.1,.tuple #[.agg (ZT a2 X.1.1.length k2 X.1.2),.agg (ZE X.2)],.agg (ZT ad (U j).1.length k (U j).2),Z7 p,.slice y.1 y.2.2.length y.2.1,.tuple #[.agg (ZT a2 X.1.1.length k2 X.1.2),.agg (ZE X.2)],.agg (ZT a2 X.1.1.length k2 X.1.2),.agg (ZE X.2),Z5 g11 0,Z8 X.2.code,ZW,(cond b0 (.agg (ZT none 0 0 0)) (u31)),(cond b1 (Z8 j) (u32)),(cond b2 (Z5 g11 0) (u33)),(cond b3 (Z8 X.2.code) (u34)),u35,undef],defers:=[] }/\V=cond b4 W1 W0) (by kernel_rfl) (by kernel_rfl) ?_ ?_ ?_
    ·exact⟨_,_,_,_,_,_,_,rfl,rfl,h0⟩
    ·intro i9 listed YZ V hi9 hr hJ;obtain⟨b0,b1,b2,b3,b4,b5,b6,rfl,rfl,hF⟩:=hJ;have hi2:i9<7:=hi9;have hi3:i9=0∨i9=1∨i9=2∨i9=3∨i9=4∨i9=5∨i9=6:=(by omega);rcases hi3 with rfl | rfl | rfl | rfl | rfl | rfl | rfl
     ·obtain rfl:b0=false:=Z4 hr;refine ZK rfl (by kernel_rfl) (some 31) rfl (.agg (ZT none 0 0 0)) V (by kernel_rfl) ?_;exact⟨_,_,_,_,_,_,_,rfl,rfl,hF⟩
     ·obtain rfl:b1=false:=Z4 hr;refine ZK rfl (by kernel_rfl) (some 32) rfl (Z8 j) V (by kernel_rfl) ?_;exact⟨_,_,_,_,_,_,_,rfl,rfl,hF⟩
     ·obtain rfl:b2=false:=Z4 hr;refine ZK rfl (by kernel_rfl) (some 33) rfl (Z5 g11 0) V (by kernel_rfl) ?_;exact⟨_,_,_,_,_,_,_,rfl,rfl,hF⟩
     ·obtain rfl:b3=false:=Z4 hr;obtain rfl:b2=true:=ZX hr 2;refine Zu rfl (by kernel_rfl) (some 34) rfl 42 (.tmp 33) rfl ⟨g11,0,none⟩ (Z8 X.2.code) (by kernel_rfl) (by rw[hF]; cases b4; exact hcd0; exact hcd1) ?_;exact⟨_,_,_,_,_,_,_,rfl,rfl,hF⟩
     ·obtain rfl:b4=false:=Z4 hr;obtain rfl:b0=true:=ZX hr 0;refine YU rfl (by kernel_rfl) rfl 30 (.tmp 6) (.tmp 31) rfl (Z5 g6 0) (.agg (ZT none 0 0 0)) (by kernel_rfl) (by kernel_rfl) W1 (by rw[show V=W0 from hF]; exact hsS) ?_;exact⟨_,_,_,_,_,_,_,rfl,rfl,rfl⟩
     ·obtain rfl:b5=false:=Z4 hr;obtain rfl:b1=true:=ZX hr 1;obtain rfl:b4=true:=ZX hr 4;refine ZK rfl (by kernel_rfl) (some 7) rfl (Z8 j) V (by kernel_rfl) ?_;exact⟨_,_,_,_,_,_,_,rfl,rfl,hF⟩
     ·obtain rfl:b6=false:=Z4 hr;obtain rfl:b3=true:=ZX hr 3;obtain rfl:b5=true:=ZX hr 5;refine ZK rfl (by kernel_rfl) (some 8) rfl (Z8 X.2.code) V (by kernel_rfl) ?_;exact⟨_,_,_,_,_,_,_,rfl,rfl,hF⟩
    ·intro YZ V hJ;obtain⟨b0,b1,b2,b3,b4,b5,b6,he,rfl,hF⟩:=hJ;have he:(#[true,true,true,true,true,true,true]:Array Bool)=#[b0,b1,b2,b3,b4,b5,b6]:=he;simp only[Array.mk.injEq,List.cons.injEq,and_true] at he;obtain⟨rfl,rfl,rfl,rfl,rfl,rfl,rfl⟩:=he;simp only[cond_true];have hVW:V=W1:=hF;rw[hVW];clear hVW hF h0;go_wp2_with fail;exact bodyPost_ret (OV rfl (by kernel_rfl) (ZO hZ1) rfl rfl) rfl HE.out
  ·obtain rfl:E.length=j:=(by omega);have hss:=HSO.out HCZ.out;obtain⟨hst3,Wh⟩:=ZC (a':=ad) (n':=(U E.length).1.length) (k':=k) (c':=(U E.length).2) HX.out;have Yk:=But.setRow (g:=g6) wr (ZT ad (U E.length).1.length k (U E.length).2);have Nb:=ZU HB.out HG.out.1 (ZT ad (U E.length).1.length k (U E.length).2);have I9:=YG HC.out Yk Uh.out;have HE:Hid (an8 w SX (.returned (.tuple #[.agg (ZT ad (U E.length).1.length k (U E.length).2),Z8 0,Z8 0])) (wr.setRow g6 (ZT ad (U E.length).1.length k (U E.length).2))):=Z9 (by rw[hss]; exact⟨ad,k,rfl,I9,hk,Nb⟩);generalize wr.setRow g6 (ZT ad (U E.length).1.length k (U E.length).2)=V3 at *
   clear Yk Nb I9 hss;go_upto_region 3 with fail;refine wl<|ZM (Zr rfl (E.length) (E.length) dF)<|wn ?_;simp only[pu];go_upto_region 10 with fail;refine wl<|ZL rfl ⟨g6,0,none⟩ (.agg (ZT ad (U E.length).1.length k (U E.length).2)) (ZO HX.out)<|Zk rfl (hst3)<|ZB (Z8 0) (Z8 0)<|wn ?_;simp only[pu];go_wp2_with fail;exact bodyPost_ret (OV rfl (by kernel_rfl) (ZO Wh) rfl rfl) rfl HE.out
end Go.Proofs.YtfpnnmeblefkkaaGreatDoor.Lg
namespace Go.Proofs.YtfpnnmeblefkkaaGreatDoor
abbrev xo (a b:Int):Int:=bits .xor .u32 a b
abbrev an (a b:Int):Int:=bits .and .u32 a b
abbrev oo (a b:Int):Int:=bits .or .u32 a b
def plS (a b:Int):Int:=(a+b) % 4294967296
def no (a:Int):Int:=bits .xor .u32 IntKind.u32.max a
def TL (x:Int)(n:Nat):Int:=oo (x / 2 ^ n) (x*2 ^ (32-n) % 4294967296)
def ks:List Int:=[1116352408,1899447441,3049323471,3921009573,961987163,1508970993,2453635748,2870763221,3624381080,310598401,607225278,1426881987,1925078388,2162078206,2614888103,3248222580,3835390401,4022224774,264347078,604807628,770255983,1249150122,1555081692,1996064986,2554220882,2821834349,2952996808,3210313671,3336571891,3584528711,113926993,338241895,666307205,773529912,1294757372,1396182291,1695183700,1986661051,2177026350,2456956037,2730485921,2820302411,3259730800,3345764771,3516065817,3600352804,4094571909,275423344,430227734,506948616,659060556,883997877,958139571,1322822218,1537002063,1747873779,1955562222,2024104815,2227730452,2361852424,2428436474,2756734187,3204031479,3329325298]
def MF (a b c d:Int):Int:=oo (oo (oo (a*16777216 % 4294967296) (b*65536 % 4294967296)) (c*256 % 4294967296)) d
def word (b:List Int)(t:Nat):Int:=MF (b.getD (4*t) 0) (b.getD (4*t+1) 0) (b.getD (4*t+2) 0) (b.getD (4*t+3) 0)
def words (b:List Int):Nat->List Int
  | 0=>[]
  | t+1=>words b t++[word b t]
def follow (W:List Int)(t:Nat):Int:=
  let x:=W.getD (t-15) 0
  let y:=W.getD (t-2) 0
  (xo (xo (TL y 17) (TL y 19)) (y / 1024)+W.getD (t-7) 0+xo (xo (TL x 7) (TL x 18)) (x / 8)+W.getD (t-16) 0) % 4294967296
def more (W:List Int):Nat->List Int
  | 0=>W
  | n+1=>more W n++[follow (more W n) (16+n)]
def sN (a b c d e f g h k w:Int):List Int:=
  let x:=(h+xo (xo (TL e 6) (TL e 11)) (TL e 25)+xo (an e f) (an (no e) g)+k+w)
  let y:=(xo (xo (TL a 2) (TL a 13)) (TL a 22)+xo (xo (an a b) (an a c)) (an b c))
  [(x+y) % 4294967296,a,b,c,(d+x) % 4294967296,e,f,g]
def rnd (s:List Int)(k w:Int):List Int:=sN (s.getD 0 0) (s.getD 1 0) (s.getD 2 0) (s.getD 3 0) (s.getD 4 0) (s.getD 5 0) (s.getD 6 0) (s.getD 7 0) k w
def PL (W h:List Int):Nat->List Int
  | 0=>h
  | t+1=>rnd (PL W h t) (ks.getD t 0) (W.getD t 0)
def sums (h s:List Int):Nat->List Int
  | 0=>h
  | i+1=>(sums h s i).set i (plS (h.getD i 0) (s.getD i 0))
def blk (h b:List Int):List Int:=sums h (PL (more (words b 16) 48) h 64) 8
def I7:List Int:=[1779033703,3144134277,1013904242,2773480762,1359893119,2600822924,528734635,1541459225]
def states (m:List Int):Nat->List Int
  | 0=>I7
  | n+1=>blk (states m n) ((m.drop (64*n)).take 64)
def zeros (n:Nat):Nat:=(119-n % 64) % 64
def Yo (bs:Int):List Int:=[bs / 2 ^ 56 % 256,bs / 2 ^ 48 % 256,bs / 2 ^ 40 % 256,bs / 2 ^ 32 % 256,bs / 2 ^ 24 % 256,bs / 2 ^ 16 % 256,bs / 2 ^ 8 % 256,bs / 2 ^ 0 % 256]
def padded (L:List Int):List Int:=L++[128]++List.replicate (zeros L.length) 0++Yo ((L.length:Int)*8 % 18446744073709551616)
def Ri (h:List Int)(i:Nat):Int:=h.getD (i / 4) 0 / 2 ^ (24-i % 4*8) % 256
def outs (h:List Int):Nat->List Int
  | 0=>[]
  | i+1=>outs h i++[Ri h i]
def WO (L:List Int):List Int:=outs (states (padded L) ((padded L).length / 64)) 32
theorem WA (b:List Int)(t:Nat):(words b t).length=t:=by
  induction t with
  | zero=>rfl
  | succ t ih=>simp[words,ih]
theorem Qw (W:List Int)(n:Nat):(more W n).length=W.length+n:=by
  induction n with
  | zero=>rfl
  | succ n ih=>simp[more,ih]; omega
theorem JC (W h:List Int)(hh:h.length=8)(t:Nat):(PL W h t).length=8:=by
  cases t <;> simp[PL,rnd,sN,hh]
theorem JB (h s:List Int)(hh:h.length=8)(i:Nat):(sums h s i).length=8:=by
  induction i with
  | zero=>exact hh
  | succ i ih=>simp[sums,ih]
theorem NR (h b:List Int)(hh:h.length=8):(blk h b).length=8:=JB _ _ hh _
theorem JA (m:List Int)(n:Nat):(states m n).length=8:=by
  induction n with
  | zero=>rfl
  | succ n ih=>exact NR _ _ ih
theorem Si (h:List Int)(n:Nat):(outs h n).length=n:=by
  induction n with
  | zero=>rfl
  | succ n ih=>simp[outs,ih]
theorem ar8:ks.length=64:=rfl
end Go.Proofs.YtfpnnmeblefkkaaGreatDoor
namespace Go.Proofs.YtfpnnmeblefkkaaGreatDoor
open Go.RowKit
theorem jE (x:Int)(n:Nat)(w:World)(hn:1<=n)(h31:n<=31) :
    Calls Tryz.prog 124 #[.int .u32 x,Z8 n] w fun e w'=>e=.returned (.int .u32 (TL x n))/\w'=w.drew:=by
  go_enter Tryz.func124,Tryz.ntmps124;have e1:Op.shift .shr .u32 x .i64 (n:Int)=(pure (.int .u32 (x / 2 ^ n)):Sem Value):=by
    rw[shift_shr .u32 .i64 x n (by omega) (by simp[IntKind.bits]; omega)]; simp
  have e2:IntKind.i64.wrap (32-(n:Int))=((32-n:Nat):Int):=by rw[IntKind.wrap_i64]; omega
  have e3:Op.shift .shl .u32 x .i64 ((32-n:Nat):Int)=(pure (.int .u32 (IntKind.u32.wrap (x*2 ^ (32-n)))):Sem Value):=by
    rw[shift_shl .u32 .i64 x _ (by omega) (by simp[IntKind.bits]; omega)]; simp
  go_wp2_with fail
  go_region
  go_wp2;go_ret;exact⟨rfl,rfl⟩
abbrev ZG (L:List Int):Array Value:=(L.map (Value.int .u32)).toArray
theorem I5 (w:World) :
    Calls Tryz.prog 125 #[] w fun e w'=>e=.returned (.agg (ZG ks))/\w'=w.alloc (.cells (ZG ks) 166):=by
  go_enter Tryz.func125,Tryz.ntmps125;apply wp_seq_k;intro K hK;apply wp_region_lit;refine Zy rfl (some 0) rfl (Z5 w.heap.size 0) (w.alloc (.cells (List.replicate 64 (.int .u32 0)).toArray 166)) (by kernel_rfl) ?_;apply wpList_nil;apply hK;apply wp_seq_k;intro K2 hK2;apply wp_region_lit;refine Zy rfl (some 1) rfl (.agg (ZG ks)) (w.alloc (.cells (List.replicate 64 (.int .u32 0)).toArray 166)) (by kernel_rfl) ?_;apply Yf (w:=w) (ty:=166) (x:=.tmp 0) (y:=.tmp 1) (c:=(List.replicate 64 (.int .u32 0)).toArray) (c':=ZG ks)
  case hgd=>rfl
  case ho=>rfl
  case hx=>rfl
  case hy=>rfl
  case hi=>kernel_rfl
  case hz=>kernel_rfl
  case h1=>kernel_rfl
  apply wpList_nil;apply hK2;apply wp_ret;have hrow:=heap_alloc_last w (.cells (ZG ks) 166);refine bodyPost_ret (v:=.agg (ZG ks)) ?_ rfl ⟨rfl,rfl⟩
  · refine results_cell_row (fn:=Tryz.f125) (p:=0) (ty:=166) rfl _ _ w.heap.size 166 (ZG ks) (0,0) (.array 64 141) ?_ hrow ?_ ?_ ?_
    · rfl
    · kernel_rfl
    · rfl
    · kernel_rfl
end Go.Proofs.YtfpnnmeblefkkaaGreatDoor
namespace Go.Proofs.YtfpnnmeblefkkaaGreatDoor
variable {P : Program} {ops : Array Oper} {md : Region.Mode} {C : World -> Prop}
def BJ (P:Program)(md:Region.Mode)(ops:Array Oper)(C:World->Prop)(n:Nat)(L:Array Bool->Act->Prop):Nat->Array Bool->Act->Prop
  | 0,listed,a=>L listed a
  | f+1,listed,a=>Region.ready md ops listed≠[]/\∀ i∈Region.ready md ops listed,i<n/\qOp P ops C i (BJ P md ops C n L f (listed.setIfInBounds i true)) a
theorem Qu {n g:Nat}{L:Array Bool->Act->Prop}{Q':Exit->Act->World->Prop}(hL:∀ listed a w,C w->L listed a->wpAny P md ops Q' g listed a w) :
    ∀ (f:Nat) (listed:Array Bool) (a:Act) (w:World),C w->BJ P md ops C n L f listed a->wpAny P md ops Q' (f+g) listed a w:=by
  intro f;induction f with
  | zero=>intro listed a w hw h; rw[Nat.zero_add]; exact hL _ _ _ hw h
  | succ f ih=>
    intro listed a w hw h;rw[show f+1+g=(f+g)+1 by omega];exact⟨fun h0=>absurd h0 h.1,fun i hi=>wpOp_of_qOp hw (fun a' w' hw' h'=>ih _ a' w' hw' h') (h.2 i hi).2⟩
theorem BI {n i:Nat}{oi:Oper}{v:Value}{L:Array Bool->Act->Prop}(hi:ops[i]?=some oi)(hsel:∀ (j:Nat) (o:Oper) cs b,ops[j]?=some o->o.op≠.select cs b)
    (hs:Region.sinkB md ops n=true) (hc:Region.chainB md ops n=true) (hn:n<ops.size) (hin:i<n)
    (hdone:∀ listed a,L listed a->∀ j∈Region.ready md ops listed,n<=j) :
    ∀ (f:Nat) (listed:Array Bool) (a:Act),HeadInv md ops n listed ->
      (∀ j oj,ops[j]?=some oj->j≠i->listed.getD j true=false->(∀ e∈oj.after,Region.binds md e=true->e.on≠i)->oi.apart ops oj=true) ->
      i∈Region.ready md ops listed->YieldsIn P ops C oi v a ->
      BJ P md ops C n L f (listed.setIfInBounds i true) (a.put oi.dst v)->BJ P md ops C n L (f+1) listed a:=by
  intro f;induction f with
  | zero=>
    intro listed a inv _ hr hy H;have hlt:∀ j∈Region.ready md ops listed,j<n:=fun j hj=>Nat.lt_of_not_le fun h=>tail_waits hs hc hn inv _ i rfl hin (mem_ready.1 hr).1 j h hj;refine⟨List.ne_nil_of_mem hr,fun j hj=>⟨hlt j hj,?_⟩⟩;by_cases hji:j=i
    · subst hji; exact hy.qOp hi H
    · have:=hdone _ _ H j (ready_mono hj hji);have:=hlt j hj;omega
  | succ f ih=>
    intro listed a inv hfree hr hy H;have hun:=(mem_ready.1 hr).1;have hlt:∀ j∈Region.ready md ops listed,j<n:=fun j hj=>Nat.lt_of_not_le fun h=>tail_waits hs hc hn inv _ i rfl hin hun j h hj;refine⟨List.ne_nil_of_mem hr,fun j hj=>⟨hlt j hj,?_⟩⟩;by_cases hji:j=i
    · subst hji; exact hy.qOp hi H
    · obtain⟨hjun,oj,hoj,hall⟩:=mem_ready.1 hj;have hnot:∀ e∈oj.after,Region.binds md e=true->e.on≠i:=fun e he hb heq=>by
        have h1:=hall e he hb;rw[heq,getD_both hun] at h1;cases h1
      have h2:=qOp_put hoj (hfree j oj hoj hji hjun hnot) (fun cs b=>hsel i oi cs b hi) (fun cs b=>hsel j oj cs b hoj) hy (H.2 j (ready_mono hj hji)).2;refine qOp_mono (fun a' h3=>ih (listed.setIfInBounds j true) a' (inv.set hj (hlt j hj)) (fun k ok hk hki hu hno=>?_) (ready_mono hr (Ne.symm hji)) h3.1 ?_) h2
      · refine hfree k ok hk hki ?_ hno;by_cases hjk:j=k
        · subst hjk; exact hjun
        · rw[getD_set_ne true hjk] at hu; exact hu
      · rw[Array.setIfInBounds_comm _ _ hji];exact h3.2
theorem Hz {n g:Nat}{Lq:Act->Prop}(hsel:Region.noSelect ops=true)(hs:Region.sinkB md ops n=true)(hc:Region.chainB md ops n=true)(hn:n<ops.size) :
    ∀ (l:List Oper) (k:Nat) (listed:Array Bool) (a:Act),(∀ j,j<l.length->l[j]?=ops[k+j]?)->k+l.length=n->HeadInv md ops n listed ->
    Region.lexHead md ops g l.length k listed=true->wpQuiet P ops C Lq l a ->
    BJ P md ops C n (fun listed' a'=>Region.seqB md ops g n listed'=true/\Lq a') l.length listed a:=by
  intro l;induction l with
  | nil=>
    intro k listed a _ hk _ hB h;obtain rfl:k=n:=(by simpa using hk);exact⟨by simpa [Region.lexHead] using hB,h⟩
  | cons o l ih=>
    intro k listed a hl hk inv hB h;have h0:ops[k]?=some o:=(by simpa using(hl 0 (by simp)).symm);simp only[List.length_cons] at hk;simp only[List.length_cons,Region.lexHead,Bool.and_eq_true] at hB;obtain⟨⟨hr,hf⟩,hB'⟩:=hB;have hr':k∈Region.ready md ops listed:=(by simpa using hr);have hst:qOp P ops C k (wpQuiet P ops C Lq l) a:=(by unfold qOp; simp only[h0]; exact h);obtain⟨v,hy,hK⟩:=yieldsIn_of_qOp h0 hst;exact BI h0 (Region.noSelect_spec hsel) hs hc hn (by omega) (fun listed' a' hL=>seqB_ready hL.1) l.length listed a inv (Region.free_spec h0 hf) hr' hy
      (ih (k+1) _ _ (fun j hj=>by have:=hl (j+1) (by simp; omega); simpa [Nat.add_assoc,Nat.add_comm 1 j] using this) (by omega) (inv.set hr' (by omega)) hB' hK)
theorem Qv {id:Nat}{Q:Exit->Act->World->Prop}{a:Act}{w:World}{l:List Oper}(n:Nat)(hm:P.follows .mixedOrders=true)(hB:Region.lexTailB .any l.toArray n=true)
    (h:wpQuiet P l.toArray (fun w'=>∃ m,w'=w.drewN m) (fun a'=>∀ w',(∃ m,w'=w.drewN m)->wpList P l.toArray Q (l.drop n) a' w') (l.take n) a):(Code.region id l.toArray true).wp P Q a w:=by
  simp only[Region.lexTailB,Bool.and_eq_true,decide_eq_true_eq] at hB;obtain⟨⟨⟨⟨hsel,hn⟩,hs⟩,hc⟩,hlex⟩:=hB;have hn':n<l.length:=by simpa using hn
  have htl:(l.take n).length=n:=by simp; omega
  have hdl:(l.drop n).length=l.toArray.size-n:=by simp
  have inv0:HeadInv .any l.toArray n (Array.replicate l.toArray.size false):=
    ⟨by simp,fun j oj _ hl=>(by rw[getD_replicate_false] at hl; cases hl),fun t _ ht=>getD_in (by simpa using ht) (getD_replicate_false _ _)⟩
  have H:=Hz (md:=.any) (g:=l.toArray.size-n) hsel hs hc hn (l.take n) 0 _ a (fun j hj=>by
    have hj':j<n:=(by rw[htl] at hj; exact hj);simp[hj']) (by simpa using htl) inv0 (by rw[htl]; exact hlex) h
  refine wp_region_any hm ?_;have:=Qu (Q':=Q) (g:=l.toArray.size-n) (fun listed a' w' hw' hL=>by
    have:=wpAny_of_seq (md:=.any) (Q':=Q) (l.drop n) n listed a' w' (fun j=>by simp[List.getElem?_drop]) (by rw[hdl]; exact hL.1) (hL.2 w' hw');rwa [hdl] at this) _ _ _ { w with drawn:=w.drawn+1 } ⟨1,rfl⟩ H
  rw[htl,show n+(l.toArray.size-n)=l.toArray.size by omega] at this;exact this
end Go.Proofs.YtfpnnmeblefkkaaGreatDoor
