/-
  Texts joined.
-/
import Derived.Test.YtfpnnmeblefkkaaGreatDoorD18
set_option maxRecDepth 100000
set_option maxHeartbeats 8000000
set_option linter.unusedSimpArgs false
set_option linter.unusedVariables false
namespace Go.Proofs.YtfpnnmeblefkkaaGreatDoor.Lg
attribute [local irreducible] wpList wpQuiet
open Mo (YK YR Yl Yw)
open Go.RowKit
theorem zi (A:List Ac)(c price:Int)(L:List Int)(la ra:Option Addr)(lk rc:Nat)(w:World)(hL:Cs w la (acc A))(hlk:A.length<=lk)(hn:A.length<=4398046511104)(hc:W64 c)(hw:Tz A)(hz:∀ x,x∈A->x.1.size<=140737488355328)(hp:W64 price)(hR:Sl w ra rc L)(hrc:L.length<=rc)(h8:∀ y,y∈L->W8 y) :
  Calls Tryz.prog 26 #[.agg (ZT la A.length lk c),Z7 price,.slice ra L.length rc] w (kL w la A (TF A c price L)):=by
 obtain⟨hb0,VJ,Ws,P5⟩:=Xo w (ZT la A.length lk c) (ZT none 0 0 0) (ZE (YP 0)) 30 30 47;have hA:=hL.below hb0;have HLW:=Z9 hL;have HRW:=Z9 hR;obtain⟨X,hX⟩:=ZQ (TF A c price L);have H1:=Z9 (fun h=>hX.symm.trans (am4 (price:=price) (L:=L) (A:=A) (c:=c) h));have H2:=Z9 (fun h h2=>hX.symm.trans (am9 (price:=price) (L:=L) (A:=A) (c:=c) h h2));have H3:=Z9 (fun h h2 h3=>hX.symm.trans (aC9 (price:=price) (L:=L) (A:=A) (c:=c) h h2 h3));have H4:=Z9 (fun h h2 h3=>hX.symm.trans (aC8 (price:=price) (L:=L) (A:=A) (c:=c) h h2 h3));have HFQ:=Z9 (fun h h2=>am8 h8 h hw hc hp h2 (A:=A) (L:=L));have CV:=fun V h=>U6 la lk A c V h hn hc hw hz;have CD:=Z9 (fun V (h:Sl V ra rc L)=>Ad ra rc L V h hrc h8);rw[hX];generalize YE A c=ve at *
 clear hL hR hz h8 hX;go_enter Tryz.func26,Tryz.ntmps26;go_upto_region 1 with fail;change Code.wp _ _ _ _ (((w.alloc (.cells (ZT la A.length lk c) 30)).alloc (.cells (ZT none 0 0 0) 30)).alloc (.cells (ZE (YP 0)) 47));generalize ((w.alloc (.cells (ZT la A.length lk c) 30)).alloc (.cells (ZT none 0 0 0) 30)).alloc (.cells (ZE (YP 0)) 47)=W at *
 obtain⟨g3,hg3⟩:=ZQ w.heap.size;obtain⟨g6,S9⟩:=ZQ (g3+1);obtain⟨g7,P6⟩:=ZQ (g6+1);have HB0:=Z9 hb0;rw[show w.heap.size+2=g7 by omega] at P5;rw[show w.heap.size+1=g6 by omega] at Ws;have HG:Hid (w.heap.size<=g6/\w.heap.size<=g7/\g7≠g6/\g3≠g6/\g3≠g7/\g6<W.heap.size/\g7<W.heap.size):=Z9 ⟨by omega,by omega,by omega,by omega,by omega,Ws.lt,P5.lt⟩;rw[hg3] at VJ;simp only[hg3];simp only[S9];simp only[P6];have Xr:=Z9 VJ;have Xx:=Z9 Ws;have PE:=Z9 P5;have Py:=CV W hA;clear hb0 VJ Ws P5 hA hg3 S9 P6 CV;refine wl<|ZL rfl ⟨g3,0,none⟩ (.agg (ZT la A.length lk c)) (ZO Xr.out)<|YM (Z8 ve) (fun w'=>Below W.heap.size W w') (Py) (fun W1 hW1=>?_);simp only[pu];have HB1:=Z9 (HB0.out.trans (hW1.mono HB0.out.size));have Vl:Hid (W.heap.size<=W1.heap.size):=Z9 hW1.size;have Xr:=Z9 (Xr.out.below Xr.out.lt hW1);have Xx:=Z9 (Xx.out.below Xx.out.lt hW1);have PE:=Z9 (PE.out.below PE.out.lt hW1);clear Py hW1;by_cases hv:ve=0
 ·subst hv;refine ZM (YL rfl 0 0 (decide_eq_true rfl))<|wn ?_;simp only[pu];have CDW:=CD.out W1 (ZP HRW.out HB1.out);obtain⟨D,hD⟩:=ZQ (Zc L);rw[hD] at CDW H2 H3 H4 HFQ;clear hD CD H1;go_upto_region 3 with fail;refine wl<|ZV (.slice ra L.length rc)<|XI (fun v w'=>∃ a c,v=.tuple #[.agg (ZA D.1 a c),Z8 D.2]/\Yv w' W1.heap.size (.slice a D.1.tr.length c) D.1.tr/\Below W1.heap.size W1 w') (CDW.mono fun e w' q=>by obtain⟨a,c,h1,h2⟩:=q; exact⟨_,h1,a,c,rfl,h2⟩) (fun vv W2 hq=>?_);obtain⟨ta,tk,rfl,hrt,hb2⟩:=hq;obtain⟨V3,hst3,hb3,Uo⟩:=Oy W2 D.1 ta tk;refine Yr (.tuple #[.agg (ZA D.1 ta tk),Z8 D.2]) (.agg (ZA D.1 ta tk)) (Z8 D.2) ?_;refine Zy rfl (some 8) rfl (Z5 W2.heap.size 0) (W2.alloc (.cells (ZA zX none 0) 63)) (by kernel_rfl) ?_;refine Zk rfl (hst3)<|ZV (Z8 D.2)<|wn ?_;simp only[pu];have hb4:=hb2.trans (hb3.mono hb2.size);obtain⟨g8,L6⟩:=ZQ W2.heap.size;have HG8:Hid (g8≠g6/\g8≠g7/\W.heap.size<=g8):=Z9 (by have:=HG.out.2.2.2.2.2; have:=Vl.out; have:=hb2.size; omega);rw[L6] at Uo hst3 ⊢;have Iy:=Z9 (own_base (own_below hrt hb3) Vl.out);have Xr:=Z9 (Xr.out.below Xr.out.lt hb4);have Xx:=Z9 (Xx.out.below Xx.out.lt hb4);have PE:=Z9 (PE.out.below PE.out.lt hb4);have Ul:=Z9 Uo;have Ru:=Z9 (HB1.out.trans (hb4.mono HB1.out.size));have HSV:Hid (W.heap.size<=V3.heap.size):=Z9 (Nat.le_trans Vl.out hb4.size);clear CDW hst3 hb2 hb3 hb4 L6 Uo hrt HB1;by_cases hd:D.2=0
  ·go_upto_region 4 with fail;refine wl<|ZV (Z8 D.2)<|ZM (YL rfl D.2 0 (decide_eq_true hd))<|wn ?_;simp only[pu];have tY:=HFQ.out rfl hd;have H3:=Z9 (H3.out rfl hd);have H4:=Z9 (H4.out rfl hd);obtain⟨t,hdt⟩:=ZQ D.1;rw[hdt] at tY H3 H4 Iy Ul;simp only[hdt];have HQ:=Z9 tY;have HF0:=Z9 (fun h0=>wM (size:=L.length) tY h0);have CF:=Z9 (fun V (hl:Cs V la (acc A)) (ht:Cs V ta (QZ t.tr))=>tX A c price L.length t la ta lk tk V hl hlk ht tY);have CP:=fun V=>Mo.kW t.Y8 t.Zx V tY.f tY.Zx;generalize YR t.Y8 t.Zx=pr at *
   obtain⟨fx,hfx⟩:=ZQ (Yc A price t L.length);rw[hfx] at H3 H4 HF0 CF;clear tY hdt hd H2 HFQ hfx;go_upto_region 6 with fail;have h0:=KT.start V3 ⟨fx,t.snd,t.sq,t.Zx,pr⟩;refine Zw (fun listed YZ V=>∃ b0 b1 b2 b3 b4 b5 b6 b7 b8 b9 b10 b11 b12 b13 b14 b15 b16 b17 b18 b19:Bool,∃ x10:Value,listed=#[b0,b1,b2,b3,b4,b5,b6,b7,b8,b9,b10,b11,b12,b13,b14,b15,b16,b17,b18,b19]/\YZ={ tmps:=#[.agg (ZT la A.length lk c),Z7 price,.slice ra L.length rc,Z5 g3 0,undef,undef,Z5 g6 0,Z5 g7 0,Z5 g8 0,Z8 D.2,x10,undef,undef,.agg (ZT la A.length lk c),Z8 0,ZY,undef,undef,.tuple #[.agg (ZA t ta tk),Z8 D.2],.slice ra L.length rc,.tuple #[.agg (ZA t ta tk),Z8 D.2],.agg (ZA t ta tk),Z8 D.2,Z8 D.2,ZY,undef,undef,undef,(cond b0 (.agg (ZT la A.length lk c)) undef),(cond b1 (Z7 price) undef),(cond b2 (.agg (ZA t ta tk)) undef),(cond b3 (.slice ra L.length rc) undef),(cond b4 (Z8 L.length) undef),(cond b5 (Z8 fx) undef),(cond b6 (Z5 g8 0) undef),(cond b7 (.string t.snd) undef),(cond b8 (Z5 g8 1) undef),(cond b9 (Z7 t.sq) undef),(cond b10 (Z5 g8 2) undef),(cond b11 (Z7 t.Zx) undef),(cond b12 (Z5 g8 3) undef),(cond b13 (Z7 t.Y8) undef),(cond b14 (Z5 g8 2) undef),(cond b15 (Z7 t.Zx) undef),(cond b16 (Z7 pr) undef),(cond b17 (.agg (ZE ⟨fx,t.snd,t.sq,t.Zx,pr⟩)) undef),undef,undef,undef,undef,undef,undef,undef,undef,undef,undef,undef,undef,undef,undef,undef],defers:=[] }/\KT V3 ⟨fx,t.snd,t.sq,t.Zx,pr⟩ b18 b19 x10 V) (by kernel_rfl) (by kernel_rfl) ?_ ?_ ?_
   ·exact⟨_,_,_,_,_,_,_,_,_,_,_,_,_,_,_,_,_,_,_,_,_,rfl,rfl,h0⟩
   ·intro i9 listed YZ V hi9 hr hJ;obtain⟨b0,b1,b2,b3,b4,b5,b6,b7,b8,b9,b10,b11,b12,b13,b14,b15,b16,b17,b18,b19,x10,rfl,rfl,hF⟩:=hJ;have hi2:i9<20:=hi9;have hi3:i9=0∨i9=1∨i9=2∨i9=3∨i9=4∨i9=5∨i9=6∨i9=7∨i9=8∨i9=9∨i9=10∨i9=11∨i9=12∨i9=13∨i9=14∨i9=15∨i9=16∨i9=17∨i9=18∨i9=19:=(by omega);rcases hi3 with rfl | rfl | rfl | rfl | rfl | rfl | rfl | rfl | rfl | rfl | rfl | rfl | rfl | rfl | rfl | rfl | rfl | rfl | rfl | rfl
    ·obtain rfl:b0=false:=Z4 hr;refine Zu rfl (by kernel_rfl) (some 28) rfl 30 (.tmp 3) rfl ⟨g3,0,none⟩ (.agg (ZT la A.length lk c)) (by kernel_rfl) (ZO (Xr.out.below Xr.out.lt hF.bel)) ?_;exact⟨_,_,_,_,_,_,_,_,_,_,_,_,_,_,_,_,_,_,_,_,_,rfl,rfl,hF⟩
    ·obtain rfl:b1=false:=Z4 hr;refine ZK rfl (by kernel_rfl) (some 29) rfl (Z7 price) V (by kernel_rfl) ?_;exact⟨_,_,_,_,_,_,_,_,_,_,_,_,_,_,_,_,_,_,_,_,_,rfl,rfl,hF⟩
    ·obtain rfl:b2=false:=Z4 hr;refine Zu rfl (by kernel_rfl) (some 30) rfl 63 (.tmp 8) rfl ⟨g8,0,none⟩ (.agg (ZA t ta tk)) (by kernel_rfl) (ZH (Ul.out.below Ul.out.lt hF.bel)) ?_;exact⟨_,_,_,_,_,_,_,_,_,_,_,_,_,_,_,_,_,_,_,_,_,rfl,rfl,hF⟩
    ·obtain rfl:b3=false:=Z4 hr;refine ZK rfl (by kernel_rfl) (some 31) rfl (.slice ra L.length rc) V (by kernel_rfl) ?_;exact⟨_,_,_,_,_,_,_,_,_,_,_,_,_,_,_,_,_,_,_,_,_,rfl,rfl,hF⟩
    ·obtain rfl:b4=false:=Z4 hr;obtain rfl:b3=true:=ZX hr 3;refine ZK rfl (by kernel_rfl) (some 32) rfl (Z8 L.length) V (by kernel_rfl) ?_;exact⟨_,_,_,_,_,_,_,_,_,_,_,_,_,_,_,_,_,_,_,_,_,rfl,rfl,hF⟩
    ·obtain rfl:b5=false:=Z4 hr;obtain rfl:b0=true:=ZX hr 0;obtain rfl:b1=true:=ZX hr 1;obtain rfl:b2=true:=ZX hr 2;obtain rfl:b4=true:=ZX hr 4;refine X8 rfl (by kernel_rfl) (some 33) rfl 46 #[.agg (ZT la A.length lk c),Z7 price,.agg (ZA t ta tk),Z8 L.length] (by kernel_rfl) ((CF.out V (HLW.out.below (Ru.out.trans (hF.bel.mono Ru.out.size))) (by obtain⟨a9,c9,e9,h9,-⟩:=Yd (own_below Iy.out hF.bel); simp only[Value.slice.injEq,true_and] at e9; obtain⟨rfl,rfl⟩:=e9; exact h9)).mono fun e w' z=>?_);obtain⟨rfl,hb⟩:=z;exact⟨_,rfl,_,_,_,_,_,_,_,_,_,_,_,_,_,_,_,_,_,_,_,_,_,rfl,rfl,hF.more hb⟩
    ·obtain rfl:b6=false:=Z4 hr;refine ZK rfl (by kernel_rfl) (some 34) rfl (Z5 g8 0) V (by kernel_rfl) ?_;exact⟨_,_,_,_,_,_,_,_,_,_,_,_,_,_,_,_,_,_,_,_,_,rfl,rfl,hF⟩
    ·obtain rfl:b7=false:=Z4 hr;obtain rfl:b6=true:=ZX hr 6;refine Zu rfl (by kernel_rfl) (some 35) rfl 9 (.tmp 34) rfl ⟨g8,0,none⟩ (.string t.snd) (by kernel_rfl) ((Ul.out.below Ul.out.lt hF.bel).ZR 0) ?_;exact⟨_,_,_,_,_,_,_,_,_,_,_,_,_,_,_,_,_,_,_,_,_,rfl,rfl,hF⟩
    ·obtain rfl:b8=false:=Z4 hr;refine ZK rfl (by kernel_rfl) (some 36) rfl (Z5 g8 1) V (by kernel_rfl) ?_;exact⟨_,_,_,_,_,_,_,_,_,_,_,_,_,_,_,_,_,_,_,_,_,rfl,rfl,hF⟩
    ·obtain rfl:b9=false:=Z4 hr;obtain rfl:b8=true:=ZX hr 8;refine Zu rfl (by kernel_rfl) (some 37) rfl 24 (.tmp 36) rfl ⟨g8,1,none⟩ (Z7 t.sq) (by kernel_rfl) ((Ul.out.below Ul.out.lt hF.bel).ZR 1) ?_;exact⟨_,_,_,_,_,_,_,_,_,_,_,_,_,_,_,_,_,_,_,_,_,rfl,rfl,hF⟩
    ·obtain rfl:b10=false:=Z4 hr;refine ZK rfl (by kernel_rfl) (some 38) rfl (Z5 g8 2) V (by kernel_rfl) ?_;exact⟨_,_,_,_,_,_,_,_,_,_,_,_,_,_,_,_,_,_,_,_,_,rfl,rfl,hF⟩
    ·obtain rfl:b11=false:=Z4 hr;obtain rfl:b10=true:=ZX hr 10;refine Zu rfl (by kernel_rfl) (some 39) rfl 24 (.tmp 38) rfl ⟨g8,2,none⟩ (Z7 t.Zx) (by kernel_rfl) ((Ul.out.below Ul.out.lt hF.bel).ZR 2) ?_;exact⟨_,_,_,_,_,_,_,_,_,_,_,_,_,_,_,_,_,_,_,_,_,rfl,rfl,hF⟩
    ·obtain rfl:b12=false:=Z4 hr;refine ZK rfl (by kernel_rfl) (some 40) rfl (Z5 g8 3) V (by kernel_rfl) ?_;exact⟨_,_,_,_,_,_,_,_,_,_,_,_,_,_,_,_,_,_,_,_,_,rfl,rfl,hF⟩
    ·obtain rfl:b13=false:=Z4 hr;obtain rfl:b12=true:=ZX hr 12;refine Zu rfl (by kernel_rfl) (some 41) rfl 24 (.tmp 40) rfl ⟨g8,3,none⟩ (Z7 t.Y8) (by kernel_rfl) ((Ul.out.below Ul.out.lt hF.bel).ZR 3) ?_;exact⟨_,_,_,_,_,_,_,_,_,_,_,_,_,_,_,_,_,_,_,_,_,rfl,rfl,hF⟩
    ·obtain rfl:b14=false:=Z4 hr;refine ZK rfl (by kernel_rfl) (some 42) rfl (Z5 g8 2) V (by kernel_rfl) ?_;exact⟨_,_,_,_,_,_,_,_,_,_,_,_,_,_,_,_,_,_,_,_,_,rfl,rfl,hF⟩
    ·obtain rfl:b15=false:=Z4 hr;obtain rfl:b14=true:=ZX hr 14;refine Zu rfl (by kernel_rfl) (some 43) rfl 24 (.tmp 42) rfl ⟨g8,2,none⟩ (Z7 t.Zx) (by kernel_rfl) ((Ul.out.below Ul.out.lt hF.bel).ZR 2) ?_;exact⟨_,_,_,_,_,_,_,_,_,_,_,_,_,_,_,_,_,_,_,_,_,rfl,rfl,hF⟩
    ·obtain rfl:b16=false:=Z4 hr;obtain rfl:b13=true:=ZX hr 13;obtain rfl:b15=true:=ZX hr 15;refine X8 rfl (by kernel_rfl) (some 44) rfl 47 #[Z7 t.Y8,Z7 t.Zx] (by kernel_rfl) ((CP V).mono fun e w' z=>?_);obtain⟨rfl,rfl⟩:=z;exact⟨_,rfl,_,_,_,_,_,_,_,_,_,_,_,_,_,_,_,_,_,_,_,_,_,rfl,rfl,hF⟩
    ·obtain rfl:b17=false:=Z4 hr;obtain rfl:b5=true:=ZX hr 5;obtain rfl:b7=true:=ZX hr 7;obtain rfl:b9=true:=ZX hr 9;obtain rfl:b11=true:=ZX hr 11;obtain rfl:b16=true:=ZX hr 16;refine ZK rfl (by kernel_rfl) (some 45) rfl (.agg (ZE ⟨fx,t.snd,t.sq,t.Zx,pr⟩)) V (by kernel_rfl) ?_;exact⟨_,_,_,_,_,_,_,_,_,_,_,_,_,_,_,_,_,_,_,_,_,rfl,rfl,hF⟩
    ·obtain rfl:b18=false:=Z4 hr;refine ZK rfl (by kernel_rfl) (some 10) rfl (Z5 V.heap.size 0) (V.alloc (.cells (ZE (YP 0)) 47)) (by kernel_rfl) ?_;exact⟨_,_,_,_,_,_,_,_,_,_,_,_,_,_,_,_,_,_,_,_,_,rfl,rfl,hF.alloc⟩
    ·obtain rfl:b19=false:=Z4 hr;obtain rfl:b17=true:=ZX hr 17;obtain rfl:b18=true:=ZX hr 18;obtain⟨g9,V2,rfl,hst,hF2⟩:=hF.store;refine YU rfl (by kernel_rfl) rfl 47 (.tmp 10) (.tmp 45) rfl (Z5 g9 0) (.agg (ZE ⟨fx,t.snd,t.sq,t.Zx,pr⟩)) (by kernel_rfl) (by kernel_rfl) _ hst ?_;exact⟨_,_,_,_,_,_,_,_,_,_,_,_,_,_,_,_,_,_,_,_,_,rfl,rfl,hF2⟩
   ·intro YZ V hJ;obtain⟨b0,b1,b2,b3,b4,b5,b6,b7,b8,b9,b10,b11,b12,b13,b14,b15,b16,b17,b18,b19,x10,he,rfl,hF⟩:=hJ;have he:(#[true,true,true,true,true,true,true,true,true,true,true,true,true,true,true,true,true,true,true,true]:Array Bool)=#[b0,b1,b2,b3,b4,b5,b6,b7,b8,b9,b10,b11,b12,b13,b14,b15,b16,b17,b18,b19]:=he;simp only[Array.mk.injEq,List.cons.injEq,and_true] at he;obtain⟨rfl,rfl,rfl,rfl,rfl,rfl,rfl,rfl,rfl,rfl,rfl,rfl,rfl,rfl,rfl,rfl,rfl,rfl,rfl,rfl⟩:=he;simp only[cond_true];obtain⟨g10,rfl,OZ,-,hbx⟩:=hF.box rfl;have Oh:=Z9 (hbx rfl);have hbv:=hF.bel;have HB4:=Z9 (Ru.out.trans (hbv.mono Ru.out.size));have tV:=Z9 (Xx.out.below Xx.out.lt hbv);have bJ:=Z9 (PE.out.below PE.out.lt hbv);have FK:Hid (g10≠g6/\g10≠g7):=Z9 (by have:=HG.out.2.2.2.2.2; have:=HSV.out; omega);have IG:Hid (W.heap.size<=V.heap.size):=Z9 (Nat.le_trans HSV.out hbv.size);have HPZ:Hid (PZ g3 g8 g10 W.heap.size (ZT la A.length lk c) t ta tk ⟨fx,t.snd,t.sq,t.Zx,pr⟩ V):=Z9 ⟨Xr.out.below Xr.out.lt hbv,Ul.out.below Ul.out.lt hbv,hbx rfl,own_below Iy.out hbv⟩;clear hF hbx hbv OZ Xr Xx PE Ul Iy Ru h0;by_cases hfx:¬ fx=0
    ·go_upto_region 7 with fail;refine wl<|ZV (Z5 g10 0)<|ZL rfl ⟨g10,0,none⟩ (Z8 fx) (Oh.out.ZR 0)<|ZM (YL rfl fx 0 (decide_eq_false hfx))<|wn ?_;simp only[pu];obtain rfl:=H3.out hfx;go_upto_region 8 with fail;have h0:K8 w g6 g7 (PZ g3 g8 g10 W.heap.size (ZT la A.length lk c) t ta tk ⟨fx,t.snd,t.sq,t.Zx,pr⟩) (ZT la A.length lk c) ⟨fx,t.snd,t.sq,t.Zx,pr⟩ false false V.drew:=K8.start HB4.out HPZ.out.drew tV.out bJ.out;generalize V=V4 at *
     refine Zw (fun listed YZ V=>∃ b0 b1 b2 b3:Bool,listed=#[b0,b1,b2,b3]/\YZ={ tmps:=#[.agg (ZT la A.length lk c),Z7 price,.slice ra L.length rc,Z5 g3 0,undef,undef,Z5 g6 0,Z5 g7 0,Z5 g8 0,Z8 D.2,Z5 g10 0,undef,undef,.agg (ZT la A.length lk c),Z8 0,ZY,undef,undef,.tuple #[.agg (ZA t ta tk),Z8 D.2],.slice ra L.length rc,.tuple #[.agg (ZA t ta tk),Z8 D.2],.agg (ZA t ta tk),Z8 D.2,Z8 D.2,ZY,undef,undef,undef,.agg (ZT la A.length lk c),Z7 price,.agg (ZA t ta tk),.slice ra L.length rc,Z8 L.length,Z8 fx,Z5 g8 0,.string t.snd,Z5 g8 1,Z7 t.sq,Z5 g8 2,Z7 t.Zx,Z5 g8 3,Z7 t.Y8,Z5 g8 2,Z7 t.Zx,Z7 pr,.agg (ZE ⟨fx,t.snd,t.sq,t.Zx,pr⟩),Z5 g10 0,Z8 fx,ZW,(cond b0 (.agg (ZT la A.length lk c)) undef),(cond b1 (.agg (ZE ⟨fx,t.snd,t.sq,t.Zx,pr⟩)) undef),undef,undef,undef,undef,undef,undef,undef,undef,undef,undef],defers:=[] }/\K8 w g6 g7 (PZ g3 g8 g10 W.heap.size (ZT la A.length lk c) t ta tk ⟨fx,t.snd,t.sq,t.Zx,pr⟩) (ZT la A.length lk c) ⟨fx,t.snd,t.sq,t.Zx,pr⟩ b2 b3 V) (by kernel_rfl) (by kernel_rfl) ?_ ?_ ?_
     ·exact⟨_,_,_,_,rfl,rfl,h0⟩
     ·intro i9 listed YZ V hi9 hr hJ;obtain⟨b0,b1,b2,b3,rfl,rfl,hF⟩:=hJ;have hi2:i9<4:=hi9;have hi3:i9=0∨i9=1∨i9=2∨i9=3:=(by omega);rcases hi3 with rfl | rfl | rfl | rfl
      ·obtain rfl:b0=false:=Z4 hr;refine Zu rfl (by kernel_rfl) (some 49) rfl 30 (.tmp 3) rfl ⟨g3,0,none⟩ (.agg (ZT la A.length lk c)) (by kernel_rfl) (ZO hF.p.x3) ?_;exact⟨_,_,_,_,rfl,rfl,hF⟩
      ·obtain rfl:b1=false:=Z4 hr;refine Zu rfl (by kernel_rfl) (some 50) rfl 47 (.tmp 10) rfl ⟨g10,0,none⟩ (.agg (ZE ⟨fx,t.snd,t.sq,t.Zx,pr⟩)) (by kernel_rfl) (XY hF.p.x10) ?_;exact⟨_,_,_,_,rfl,rfl,hF⟩
      ·obtain rfl:b2=false:=Z4 hr;obtain rfl:b0=true:=ZX hr 0;obtain⟨V2,hst,hF2⟩:=hF.st6 (fun V9 hb=>hF.p.but hb HG.out.2.2.2.1 HG8.out.1 FK.out.1 HG.out.2.2.2.2.2.1) HG.out.1 HG.out.2.2.1;refine YU rfl (by kernel_rfl) rfl 30 (.tmp 6) (.tmp 49) rfl (Z5 g6 0) (.agg (ZT la A.length lk c)) (by kernel_rfl) (by kernel_rfl) _ hst ?_;exact⟨_,_,_,_,rfl,rfl,hF2⟩
      ·obtain rfl:b3=false:=Z4 hr;obtain rfl:b1=true:=ZX hr 1;obtain⟨V2,hst,hF2⟩:=hF.st7 (fun V9 hb=>hF.p.but hb HG.out.2.2.2.2.1 HG8.out.2.1 FK.out.2 HG.out.2.2.2.2.2.2) HG.out.2.1 (fun e=>HG.out.2.2.1 e.symm);refine YU rfl (by kernel_rfl) rfl 47 (.tmp 7) (.tmp 50) rfl (Z5 g7 0) (.agg (ZE ⟨fx,t.snd,t.sq,t.Zx,pr⟩)) (by kernel_rfl) (by kernel_rfl) _ hst ?_;exact⟨_,_,_,_,rfl,rfl,hF2⟩
     ·intro YZ V hJ;obtain⟨b0,b1,b2,b3,he,rfl,hF⟩:=hJ;have he:(#[true,true,true,true]:Array Bool)=#[b0,b1,b2,b3]:=he;simp only[Array.mk.injEq,List.cons.injEq,and_true] at he;obtain⟨rfl,rfl,rfl,rfl⟩:=he;simp only[cond_true];go_wp2_with fail;exact bodyPost_ret (WH rfl (by kernel_rfl) (ZO hF.x6) (by kernel_rfl) (XY hF.x7)) rfl ⟨la,lk,rfl,HLW.out.below hF.bel,hlk,.inl ⟨rfl,rfl⟩,hF.bel⟩
    ·have hfx:fx=0:=Decidable.of_not_not hfx;go_upto_region 7 with fail;refine wl<|ZV (Z5 g10 0)<|ZL rfl ⟨g10,0,none⟩ (Z8 fx) (Oh.out.ZR 0)<|ZM (YL rfl fx 0 (decide_eq_true hfx))<|wn ?_;simp only[pu];obtain rfl:=H4.out hfx;obtain⟨qX,aR5⟩:=HF0.out hfx;have aD3:Cs V ta (QZ t.tr):=(by obtain⟨a9,c9,e9,h9,-⟩:=Yd HPZ.out.row; simp only[Value.slice.injEq,true_and] at e9; obtain⟨rfl,rfl⟩:=e9; exact h9);have CC:=Dp t ta tk V aD3 (by have:=qX.m; omega) qX.f qX.a;have hcb:=qX.cb;have HDQ:=Z9 qX;have HCD:=Z9 (fun V (hl:Cs V la (acc A)) (ht:Cs V ta (QZ t.tr))=>Dn A c t la ta lk tk V hl hlk ht qX);rw[hcb] at CC;clear aD3 qX hcb H3 H4 HF0 CF CP HQ;go_upto_region 9 with fail;refine wl<|ZL rfl ⟨g8,0,none⟩ (.agg (ZA t ta tk)) (ZH HPZ.out.x8)<|YM (.tuple #[Z7 (YN t),ZW]) (fun w'=>Below V.heap.size V w') (CC) (fun V5 iL=>?_);refine Rf (.tuple #[Z7 (YN t),ZW]) (Z7 (YN t)) ZW (Z7 (YN t)) ZW<|wn ?_;simp only[pu];have aO0:=Z9 (HPZ.out.more iL);have h5:=HB4.out.trans (iL.mono HB4.out.size);have tN:=tV.out.below tV.out.lt iL;have aD4:=bJ.out.below bJ.out.lt iL;have AL:Hid (W.heap.size<=V5.heap.size):=Z9 (Nat.le_trans IG.out iL.size);clear CC iL HB4 HPZ tV bJ Oh;go_upto_region 10 with fail;obtain⟨DL,hDL⟩:=ZQ (Yb A t);rw[hDL] at HCD;have h0:KS w g6 g7 W.heap.size (PZ g3 g8 g10 W.heap.size (ZT la A.length lk c) t ta tk ⟨fx,t.snd,t.sq,t.Zx,pr⟩) DL (c+t.Y8) ⟨fx,t.snd,t.sq,t.Zx,pr⟩ false false false undef V5.drew:=KS.start h5 aO0.out.drew tN aD4;generalize V=V4 at *
     clear h5 tN aD4;refine Zw (fun listed YZ V=>∃ b0 b1 b2 b3 b4 b5 b6:Bool,∃ x59:Value,listed=#[b0,b1,b2,b3,b4,b5,b6]/\YZ={ tmps:=#[.agg (ZT la A.length lk c),Z7 price,.slice ra L.length rc,Z5 g3 0,undef,undef,Z5 g6 0,Z5 g7 0,Z5 g8 0,Z8 D.2,Z5 g10 0,Z7 (YN t),ZW,.agg (ZT la A.length lk c),Z8 0,ZY,undef,undef,.tuple #[.agg (ZA t ta tk),Z8 D.2],.slice ra L.length rc,.tuple #[.agg (ZA t ta tk),Z8 D.2],.agg (ZA t ta tk),Z8 D.2,Z8 D.2,ZY,undef,undef,undef,.agg (ZT la A.length lk c),Z7 price,.agg (ZA t ta tk),.slice ra L.length rc,Z8 L.length,Z8 fx,Z5 g8 0,.string t.snd,Z5 g8 1,Z7 t.sq,Z5 g8 2,Z7 t.Zx,Z5 g8 3,Z7 t.Y8,Z5 g8 2,Z7 t.Zx,Z7 pr,.agg (ZE ⟨fx,t.snd,t.sq,t.Zx,pr⟩),Z5 g10 0,Z8 fx,ZY,undef,undef,.tuple #[Z7 (YN t),ZW],.agg (ZA t ta tk),.tuple #[Z7 (YN t),ZW],Z7 (YN t),ZW,(cond b0 (.agg (ZT la A.length lk c)) undef),(cond b1 (.agg (ZA t ta tk)) undef),(cond b2 (Z7 (YN t)) undef),x59,(cond b4 (.agg (ZE ⟨fx,t.snd,t.sq,t.Zx,pr⟩)) undef)],defers:=[] }/\KS w g6 g7 W.heap.size (PZ g3 g8 g10 W.heap.size (ZT la A.length lk c) t ta tk ⟨fx,t.snd,t.sq,t.Zx,pr⟩) DL (c+t.Y8) ⟨fx,t.snd,t.sq,t.Zx,pr⟩ b3 b5 b6 x59 V) (by kernel_rfl) (by kernel_rfl) ?_ ?_ ?_
     ·exact⟨_,_,_,_,_,_,_,_,rfl,rfl,h0⟩
     ·intro i9 listed YZ V hi9 hr hJ;obtain⟨b0,b1,b2,b3,b4,b5,b6,x59,rfl,rfl,hF⟩:=hJ;have hi2:i9<7:=hi9;have hi3:i9=0∨i9=1∨i9=2∨i9=3∨i9=4∨i9=5∨i9=6:=(by omega);rcases hi3 with rfl | rfl | rfl | rfl | rfl | rfl | rfl
      ·obtain rfl:b0=false:=Z4 hr;refine Zu rfl (by kernel_rfl) (some 56) rfl 30 (.tmp 3) rfl ⟨g3,0,none⟩ (.agg (ZT la A.length lk c)) (by kernel_rfl) (ZO hF.p.x3) ?_;exact⟨_,_,_,_,_,_,_,_,rfl,rfl,hF⟩
      ·obtain rfl:b1=false:=Z4 hr;refine Zu rfl (by kernel_rfl) (some 57) rfl 63 (.tmp 8) rfl ⟨g8,0,none⟩ (.agg (ZA t ta tk)) (by kernel_rfl) (ZH hF.p.x8) ?_;exact⟨_,_,_,_,_,_,_,_,rfl,rfl,hF⟩
      ·obtain rfl:b2=false:=Z4 hr;refine ZK rfl (by kernel_rfl) (some 58) rfl (Z7 (YN t)) V (by kernel_rfl) ?_;exact⟨_,_,_,_,_,_,_,_,rfl,rfl,hF⟩
      ·obtain rfl:b3=false:=Z4 hr;obtain rfl:b0=true:=ZX hr 0;obtain rfl:b1=true:=ZX hr 1;obtain rfl:b2=true:=ZX hr 2;obtain rfl:b5=false:=ff hF.o rfl;refine X8 rfl (by kernel_rfl) (some 59) rfl 49 #[.agg (ZT la A.length lk c),.agg (ZA t ta tk),Z7 (YN t)] (by kernel_rfl) ((HCD.out V (HLW.out.below hF.bel) (by obtain⟨a9,c9,e9,h9,-⟩:=Yd hF.p.row; simp only[Value.slice.injEq,true_and] at e9; obtain⟨rfl,rfl⟩:=e9; exact h9)).mono fun e w' z=>?_);obtain⟨ad,k,rfl,hr,hb⟩:=z;exact⟨_,rfl,_,_,_,_,_,_,_,_,rfl,rfl,hF.call (Nat.le_of_lt (Nat.lt_of_le_of_lt HG8.out.2.2 hF.p.x8.lt)) (hF.p.more hb) hb hr⟩
      ·obtain rfl:b4=false:=Z4 hr;refine Zu rfl (by kernel_rfl) (some 60) rfl 47 (.tmp 10) rfl ⟨g10,0,none⟩ (.agg (ZE ⟨fx,t.snd,t.sq,t.Zx,pr⟩)) (by kernel_rfl) (XY hF.p.x10) ?_;exact⟨_,_,_,_,_,_,_,_,rfl,rfl,hF⟩
      ·obtain rfl:b5=false:=Z4 hr;obtain rfl:b3=true:=ZX hr 3;obtain⟨ad,k,V2,rfl,hst,hF2⟩:=hF.st6 (fun V9 hb=>hF.p.but hb HG.out.2.2.2.1 HG8.out.1 FK.out.1 HG.out.2.2.2.2.2.1) HG.out.1 HG.out.2.2.2.2.2.1 HG.out.2.2.1;refine YU rfl (by kernel_rfl) rfl 30 (.tmp 6) (.tmp 59) rfl (Z5 g6 0) (.agg (ZT ad DL.length k (c+t.Y8))) (by kernel_rfl) (by kernel_rfl) _ hst ?_;exact⟨_,_,_,_,_,_,_,_,rfl,rfl,hF2⟩
      ·obtain rfl:b6=false:=Z4 hr;obtain rfl:b4=true:=ZX hr 4;obtain⟨V2,hst,hF2⟩:=hF.st7 (fun V9 hb=>hF.p.but hb HG.out.2.2.2.2.1 HG8.out.2.1 FK.out.2 HG.out.2.2.2.2.2.2) HG.out.2.1 HG.out.2.2.2.2.2.2 (fun e=>HG.out.2.2.1 e.symm);refine YU rfl (by kernel_rfl) rfl 47 (.tmp 7) (.tmp 60) rfl (Z5 g7 0) (.agg (ZE ⟨fx,t.snd,t.sq,t.Zx,pr⟩)) (by kernel_rfl) (by kernel_rfl) _ hst ?_;exact⟨_,_,_,_,_,_,_,_,rfl,rfl,hF2⟩
     ·intro YZ V hJ;obtain⟨b0,b1,b2,b3,b4,b5,b6,x59,he,rfl,hF⟩:=hJ;have he:(#[true,true,true,true,true,true,true]:Array Bool)=#[b0,b1,b2,b3,b4,b5,b6]:=he;simp only[Array.mk.injEq,List.cons.injEq,and_true] at he;obtain⟨rfl,rfl,rfl,rfl,rfl,rfl,rfl⟩:=he;simp only[cond_true];obtain⟨ad,k,rfl,hk,hrow⟩:=hF.row rfl;obtain⟨a2,k2,e2,hx6⟩:=hF.y6 rfl;simp only[Value.agg.injEq,Array.mk.injEq,List.cons.injEq,Value.slice.injEq,true_and,and_true] at e2;obtain⟨rfl,rfl⟩:=e2;obtain⟨a9,c9,e9,h9,-⟩:=hrow.cs;simp only[Value.slice.injEq,true_and] at e9;obtain⟨rfl,rfl⟩:=e9;subst hDL;subst hfx;go_wp2_with fail;exact bodyPost_ret (WH rfl (by kernel_rfl) (ZO hx6) (by kernel_rfl) (XY hF.x7)) rfl ⟨ad,k,rfl,h9,hk,.inr fun x hx=>Nat.le_trans HB0.out.size (JK hrow x hx),hF.bel⟩
  ·go_upto_region 4 with fail;refine wl<|ZV (Z8 D.2)<|ZM (YL rfl D.2 0 (decide_eq_false hd))<|wn ?_;simp only[pu];obtain⟨hsA,hYA⟩:=ZC (a':=la) (n':=A.length) (k':=lk) (c':=c) Xx.out;have hYB:=PE.out.but (But.setRow (g:=g6) V3 (ZT la A.length lk c)) HG.out.2.2.1;obtain⟨hsB,hYC⟩:=XL (q:=YP D.2) hYB;have hYD:=hYA.but (But.setRow (g:=g7) (V3.setRow g6 (ZT la A.length lk c)) (ZE (YP D.2))) (fun e=>HG.out.2.2.1 e.symm);have hbZ:=ZU (ZU Ru.out HG.out.1 (ZT la A.length lk c)) HG.out.2.1 (ZE (YP D.2));have hLZ:=HLW.out.below hbZ;obtain rfl:=H2.out rfl hd;have HE:Hid (kL w la A ((A,c),YP D.2) (.returned (.tuple #[.agg (ZT la A.length lk c),.agg (ZE (YP D.2))])) ((V3.setRow g6 (ZT la A.length lk c)).setRow g7 (ZE (YP D.2)))):=Z9 ⟨la,lk,rfl,hLZ,hlk,.inl ⟨rfl,rfl⟩,hbZ⟩;generalize (V3.setRow g6 (ZT la A.length lk c)).setRow g7 (ZE (YP D.2))=VZ at *
   generalize V3.setRow g6 (ZT la A.length lk c)=VY at *
   clear hYA hYB hbZ hLZ;go_upto_region 5 with fail;refine wl<|ZL rfl ⟨g3,0,none⟩ (.agg (ZT la A.length lk c)) (ZO Xr.out)<|ZB (Z8 D.2) (.agg (ZE (YP D.2)))<|Zk rfl (hsA)<|Zk rfl (hsB)<|wn ?_;simp only[pu];go_wp2_with fail;exact bodyPost_ret (WH rfl (by kernel_rfl) (ZO hYD) (by kernel_rfl) (XY hYC)) rfl HE.out
 ·refine ZM (YL rfl ve 0 (decide_eq_false hv))<|wn ?_;simp only[pu];have Ru:=Z9 HB1.out;obtain⟨hsA,hYA⟩:=ZC (a':=la) (n':=A.length) (k':=lk) (c':=c) Xx.out;have hYB:=PE.out.but (But.setRow (g:=g6) W1 (ZT la A.length lk c)) HG.out.2.2.1;obtain⟨hsB,hYC⟩:=XL (q:=YP 1) hYB;have hYD:=hYA.but (But.setRow (g:=g7) (W1.setRow g6 (ZT la A.length lk c)) (ZE (YP 1))) (fun e=>HG.out.2.2.1 e.symm);have hbZ:=ZU (ZU Ru.out HG.out.1 (ZT la A.length lk c)) HG.out.2.1 (ZE (YP 1));have hLZ:=HLW.out.below hbZ;obtain rfl:=H1.out hv;have HE:Hid (kL w la A ((A,c),YP 1) (.returned (.tuple #[.agg (ZT la A.length lk c),.agg (ZE (YP 1))])) ((W1.setRow g6 (ZT la A.length lk c)).setRow g7 (ZE (YP 1)))):=Z9 ⟨la,lk,rfl,hLZ,hlk,.inl ⟨rfl,rfl⟩,hbZ⟩;generalize (W1.setRow g6 (ZT la A.length lk c)).setRow g7 (ZE (YP 1))=VZ at *
  generalize W1.setRow g6 (ZT la A.length lk c)=VY at *
  clear hYA hYB hbZ hLZ;go_upto_region 2 with fail;refine wl<|ZL rfl ⟨g3,0,none⟩ (.agg (ZT la A.length lk c)) (ZO Xr.out)<|ZV (.agg (ZE (YP 1)))<|Zk rfl (hsA)<|Zk rfl (hsB)<|wn ?_;simp only[pu];go_wp2_with fail;exact bodyPost_ret (WH rfl (by kernel_rfl) (ZO hYD) (by kernel_rfl) (XY hYC)) rfl HE.out
end Go.Proofs.YtfpnnmeblefkkaaGreatDoor.Lg
namespace Go.Proofs.YtfpnnmeblefkkaaGreatDoor.Lg
open Mo (YK YR Yl Yw)
open Go.RowKit
theorem kM:(Tryz.prog.info? 5).map (fun i=>(i.zero,i.size,i.bytes))=some (some (.int .u8 0),1,1):=by kernel_rfl
theorem an2 (w:World):(Instr.buildSlice 54 0 #[]).run Tryz.prog w=.ok (.slice (some ⟨w.heap.size,0,none⟩) 0 0) (w.alloc (.cells #[] 5)):=IK Tryz.underlying54 kM w
theorem bM (w:World):Own (w.alloc (.cells #[] 5)) w.heap.size (.slice (some ⟨w.heap.size,0,none⟩) 0 0) []:=LG w 5 1
theorem bP {w:World}{B:Nat}{v:Value}{A M:List Int}(h:Own w B v A)(hB:B<=w.heap.size)(pa:Option Addr)(cp:Nat)(hP:Sl w pa cp M)(hl:A.length+M.length<=100000000) :
  ∃ a c V2,(Builtin.append_ #[54,54] 54 #[v,.slice pa M.length cp]).run Tryz.prog w=.ok (.slice a (A++M).length c) V2/\Own V2 B (.slice a (A++M).length c) (A++M)/\Below B w V2:=by
 obtain⟨i0,hi,hz0,hz1,hz2⟩:=info_parts kM;have fin:∀ v2 V2,(Builtin.append_ #[54,54] 54 #[v,.slice pa M.length cp]).run Tryz.prog w=.ok v2 V2->Own V2 B v2 (A++M)->Below B w V2->∃ a c V2,(Builtin.append_ #[54,54] 54 #[v,.slice pa M.length cp]).run Tryz.prog w=.ok (.slice a (A++M).length c) V2/\Own V2 B (.slice a (A++M).length c) (A++M)/\Below B w V2:=fun v2 V2 hr ho hb=>by
  obtain⟨a,c,rfl,-,-⟩:=ho.sl;exact⟨a,c,V2,hr,ho,hb⟩
 cases pa with
 | none=>
  have hM:M=[]:=by
   rcases hP with⟨-,-,e⟩ | ⟨x,e,-⟩
   ·exact e
   ·cases e
  subst hM;refine fin v w ?_ (by rw[List.append_nil]; exact h) (Below.refl _ _);unfold Own at h;rcases h.2 with⟨rfl,h0⟩ | ⟨g,cap,cur,rfl,_,_,hnc,_⟩
  ·simp[Builtin.append_,run_underlying Tryz.underlying54,sizeOf,typeInfo,hi,Builtin.lenOf,Builtin.firstCells]
  ·simp[Builtin.append_,run_underlying Tryz.underlying54,sizeOf,typeInfo,hi,Builtin.lenOf,Builtin.firstCells,hnc,storeCells]
 | some x=>
  have hx:∀ j u,(M.map (Value.int .u8))[j]?=some u->w.cell? (x.add j)=some u:=fun j u hu=>by
   rcases hP with⟨e,-,-⟩ | ⟨y,e,hy⟩
   ·cases e
   ·cases e;have hj:j<M.length:=by
     have:=(List.getElem?_eq_some_iff.1 hu).1;simpa using this
    obtain⟨b,off,rfl,hc⟩:=hy j hj;rw[Addr.add_mid,hc];rw[List.getElem?_map,List.getElem?_eq_getElem hj] at hu;rw[List.getD_eq_getElem?_getD,List.getElem?_eq_getElem hj];exact hu
  obtain⟨v2,V2,hr,hO2,hg,-,-⟩:=run_append_own_at (P:=Tryz.prog) w B 54 54 5 i0 _ 1 1 Tryz.underlying54 hi hz0 hz1 hz2 (by kernel_rfl) (by omega) v A.length (A.map (Value.int .u8)) h x M.length cp (M.map (Value.int .u8)) (by rw[List.length_map,Nat.mul_one]) hx (fun u hu=>by obtain⟨y,-,rfl⟩:=List.mem_map.1 hu; rfl) (by unfold maxLen; omega) (by omega) hB;refine fin v2 V2 hr (by unfold Own; rw[List.map_append,List.length_append]; exact hO2) ((Below.refl _ w).grown hg hB fun j hj=>(World.ownsRow.lt h j hj).1)
theorem bK {ρ:Operand->Value}{o:Oper}{x:Operand}(ho:o.op=.convert 3 5 x)(a:Nat)(h:a<=255)(hx:ρ x=Z8 a)(w:World):(execOp ρ o).run Tryz.prog w=.ok (.value (.int .u8 a)) w:=by
 have hw:IntKind.u8.wrap (a:Int)=a:=by rw[IntKind.wrap_u8]; omega
 unfold execOp;simp only[ho,hx];go_simp
theorem X5 {w:World}{g c k:Nat}{a:Option Addr}{L:List Int}(h:NS w g a c L k)(hl:L.length<=100000)(hk:k<=100000)(n:Int)(hn:0<n)(hn2:n<=1000000):∃ v:Nat,(v:Int)<n/\Calls Tryz.prog 35 #[Z5 g 0,Z8 n] w fun e w'=>e=.returned (Z8 v)/\NS w' g a c L (k+1)/\But g w w':=by
 obtain⟨N,hN,h3⟩:=h;obtain⟨v,hv,hlt⟩:=Uy L N n hn;exact⟨v,hlt,(Xm h3 hl (by omega) n hn hn2 hv).mono fun e w' q=>⟨q.1,Ox.ns q.2.1 (by omega),q.2.2⟩⟩
theorem kN {w w':World}{g B:Nat}{v:Value}{L:List Int}(h:Own w B v L)(hb:But g w w')(hg:g<B):Own w' B v L:=Zo h hb hg
structure Rw (w:World)(B:Nat)(a:Option Addr)(c:Nat)(R:List Int):Prop where
 sl:Sl w a c R
 le:R.length<=c
 b:∀ y,y∈R->W8 y
 n:R.length<=4096
 o:R≠[]->∀ x,a=some x->B<=x.block
theorem Rw.below {w w':World}{B:Nat}{a:Option Addr}{c:Nat}{R:List Int}(h:Rw w B a c R)(hb:Below w.heap.size w w'):Rw w' B a c R:=⟨ZP h.sl hb,h.le,h.b,h.n,h.o⟩
theorem Rw.base {w:World}{B B2:Nat}{a:Option Addr}{c:Nat}{R:List Int}(h:Rw w B2 a c R)(hB:B<=B2):Rw w B a c R:=⟨h.sl,h.le,h.b,h.n,fun e x hx=>Nat.le_trans hB (h.o e x hx)⟩
theorem Rw.but {w w':World}{B g:Nat}{a:Option Addr}{c:Nat}{R:List Int}(h:Rw w B a c R)(hb:But g w w')(hg:g<B):Rw w' B a c R:=⟨by
 rcases h.sl with h1 | ⟨x,rfl,hx⟩
 ·exact .inl h1
 ·refine .inr ⟨x,rfl,fun k hk=>?_⟩;obtain⟨b,off,rfl,hc⟩:=hx k hk;have hne:R≠[]:=fun e=>by rw[e] at hk; simp at hk
  have hB:=h.o hne _ rfl;have hlt:=World.block_lt_of_cell? w (⟨b,off+k,none⟩:Addr) hc;refine⟨b,off,rfl,?_⟩;rw[<- hc];unfold World.cell?;rw[hb.2 b hlt (by have:B<=b:=hB; omega)],h.le,h.b,h.n,h.o⟩
theorem Rw.of {w:World}{B:Nat}{v:Value}{R:List Int}(h:Own w B v R)(hb:∀ y,y∈R->W8 y)(hn:R.length<=4096):∃ a c,v=.slice a R.length c/\Rw w B a c R:=by
 obtain⟨a,c,rfl,h1,h2⟩:=h.sl;refine⟨a,c,rfl,h1,h2,hb,hn,fun hne x hx=>?_⟩;rcases h.2 with⟨e,-⟩ | ⟨g,cap,cur,e,hB,-⟩
 ·simp only[Value.slice.injEq] at e; rw[e.1] at hx; cases hx
 ·simp only[Value.slice.injEq] at e; rw[e.1] at hx; cases hx; exact hB
theorem Rw.take {w:World}{B:Nat}{a:Option Addr}{c:Nat}{R:List Int}(h:Rw w B a c R)(k:Nat):Rw w B a c (R.take k):=
 ⟨FZ h.sl k,by rw[List.length_take]; have:=h.le; omega,fun y hy=>h.b y (List.mem_of_mem_take hy),by rw[List.length_take]; have:=h.n; omega,fun hne=>h.o fun e=>hne (by rw[e,List.take_nil])⟩
theorem an0 {t:YV}(h:TxB t):(∀ y,y∈(QX t).1->W8 y)/\(QX t).1.length<=4096:=by
 unfold QX
 split
 ·exact⟨fun y hy=>(by cases hy),by simp⟩
 ·rename_i hv
  have hv:Xv t=0:=by omega
  split
  ·exact⟨fun y hy=>(by cases hy),by simp⟩
  ·rename_i hl
   exact⟨fun y hy=>UQ (val_ok hv h.sq h.Zx h.Y8 h.am).1.vf y hy,by show(form t).length<=4096; omega⟩
theorem an3 {w:World}{B g n c i:Nat}{L:List Int}(h:Own w B (.slice (some ⟨g,0,none⟩) n c) L)(hn:n=L.length)(hi:i<L.length)(x:Int) :
  ∃ V2,(Instr.storeAt 5 (Z5 g (0+i)) (.int .u8 x)).run Tryz.prog w=.ok () V2/\Own V2 B (.slice (some ⟨g,0,none⟩) n c) (L.set i x)/\But g w V2:=by
 subst hn;obtain⟨cur,hcur,hz,-,-⟩:=LC (e:=5) (s:=1) h;have hst:=Wn (ty:=5) (i:=0+i) (v:=.int .u8 x) hcur (by omega) rfl (by kernel_rfl);refine⟨_,hst,?_,But.setCell _ _ _⟩;have ho:=yu h (0+i) (.int .u8 x) (by rw[List.length_map]; omega);unfold Own;rw[List.length_set,List.map_set,Nat.zero_add] at *
 exact ho
theorem But.Sz {g q:Nat}{w a b:World}(h:But g w a)(hb:But q a b)(h1:w.heap.size<=q)(hg:g<=q):But g w b:=⟨h.1.trans (hb.1.mono hg),fun k hk hn=>(hb.2 k (Nat.lt_of_lt_of_le hk h.1.size) (by omega)).trans (h.2 k hk hn)⟩
def aN8 (w:World)(g:Nat)(a:Option Addr)(c:Nat)(L:List Int)(k:Nat)(e:Ending)(w':World):Prop:=∃ b d R,e=.returned (.slice b (List.length R) d)/\Rw w' w.heap.size b d R/\NS w' g a c L (k+45)/\But g w w'
end Go.Proofs.YtfpnnmeblefkkaaGreatDoor.Lg
namespace Go.Proofs.YtfpnnmeblefkkaaGreatDoor.Lg
attribute [local irreducible] wpList wpQuiet
open Mo (YK YR Yl Yw)
open Go.RowKit
theorem kR {w:World}{g c k rc:Nat}{a ra:Option Addr}{L:List Int}{A:List Ac}{co p:Int}(h:NS w g a c L k)(hl:L.length<=100000)(hk:k<=9000)(hrow:Cs w ra (acc A))(hrg:acc A≠[]->∀ x,ra=some x->x.block≠g)(hA:∀ x,x∈A->AcQ x)(hA4:A.length<=1000) :
  Calls Tryz.prog 37 #[Z5 g 0,.agg (ZT ra A.length rc co),Z7 p] w (aN8 w g a c L k):=by
 have hb0:Below w.heap.size w (w.alloc (.cells (ZT ra A.length rc co) 30)):=(Below.refl _ w).alloc (Nat.le_refl _) _;have hX0:Bx (w.alloc (.cells (ZT ra A.length rc co) 30)) w.heap.size (ZT ra A.length rc co) 30:=heap_alloc_last w _;have XA:=Z9 h.lt;have HAB:=Z9 (fun h1 x hx=>h.ab h1 x hx);have CT:=av8 (p:=p) (co:=co) (rc:=rc) (h.below hb0) hl (by omega) (hrow.below hb0) hrg hA hA4;go_enter Tryz.func37,Tryz.ntmps37;go_upto_region 1 with fail;change Code.wp _ _ _ _ (w.alloc (.cells (ZT ra A.length rc co) 30));generalize w.alloc (.cells (ZT ra A.length rc co) 30)=W at *
 obtain⟨g4,hg4⟩:=ZQ w.heap.size;have HB0:=Z9 hb0;rw[hg4] at hX0;simp only[hg4];clear hb0 hg4 hrow hrg hA h;refine wl<|ZV (Z5 g 0)<|ZL rfl ⟨g4,0,none⟩ (.agg (ZT ra A.length rc co)) (ZO hX0)<|ZV (Z7 p) <|
  XI (fun v w'=>∃ x a2 c2,v=.agg (ZA x a2 c2)/\Yv w' W.heap.size (.slice a2 x.tr.length c2) x.tr/\GQ x/\NS w' g a c L (k+40)/\But g W w') (CT.mono fun e w' q=>by obtain⟨x,a2,c2,h1,h2,h3,-,-,h4,h5⟩:=q; exact⟨_,h1,x,a2,c2,rfl,h2,h3,h4,h5⟩) (fun vv W1 hq=>?_)
 obtain⟨x,a2,c2,rfl,hrt,hgq,hns,hbt⟩:=hq;obtain⟨a9,c9,e9,hcs,-⟩:=Yd hrt;simp only[Value.slice.injEq,true_and] at e9;obtain⟨rfl,rfl⟩:=e9;have CE:=KW x a2 c2 W1 hcs hgq.b;obtain⟨hby,hen⟩:=an0 hgq.b;obtain⟨R,hR⟩:=ZQ ((QX x).1);obtain⟨ee,hee⟩:=ZQ ((QX x).2);unfold ak2 at CE;rw[hR] at hby hen;rw[hR,hee] at CE;clear CT hX0 hR hee hrt hcs hgq;refine XI (fun v w'=>∃ b d,v=.tuple #[.slice b R.length d,Z8 ee]/\Own w' W1.heap.size (.slice b R.length d) R/\Below W1.heap.size W1 w') (CE.mono fun e w' q=>by obtain⟨u,h1,h2,h3⟩:=q; obtain⟨b,d,rfl,-,-⟩:=h2.sl; exact⟨_,h1,b,d,rfl,h2,h3⟩) (fun vv W2 hq=>?_);obtain⟨b,d,rfl,hown,hb2⟩:=hq;refine Rf (.tuple #[.slice b R.length d,Z8 ee]) (.slice b R.length d) (Z8 ee) (.slice b R.length d) (Z8 ee)<|wn ?_;simp only[pu];obtain⟨a9,c9,e9,hrw⟩:=Rw.of hown hby hen;simp only[Value.slice.injEq,true_and] at e9;obtain⟨rfl,rfl⟩:=e9;have hgw:=XA.out;have h0W:=HB0.out.size;have hW1:=hbt.1.size;have OM:Hid (But g w W2):=Z9 ((But.of_below HB0.out (Nat.le_of_lt hgw)).trans (hbt.more (hb2.mono hbt.1.size) (by omega)));have Uz:=(hns.mono (by omega:k+40<=k+41)).below hb2;have hrw2:Rw W2 w.heap.size b d R:=hrw.base (by omega);have hsz2:w.heap.size<=W2.heap.size:=by have:=hb2.size; omega
 clear CE hown hb2 hns hbt hrw hW1 h0W HB0;by_cases h0:0<R.length
 ·obtain⟨v12,aL1,CN⟩:=X5 Uz hl (by omega) 12 (by decide) (by decide);go_upto_region 2 with fail;refine wl<|ZB (.slice b R.length d) (Z8 R.length)<|ZM (Zn rfl R.length 0 dT)<|ZB ZW (Z5 g 0) <|
   YM (Z8 v12) (fun w'=>NS w' g a c L (k+41+1)/\But g W2 w') CN (fun W3 hq=>?_)
  obtain⟨kQ,wL⟩:=hq;simp only[pu];have hrw3:=hrw2.but wL XA.out;have uf:=Z9 (OM.out.trans wL);have hsz3:=Nat.le_trans hsz2 wL.1.size;clear CN Uz hrw2 wL OM hsz2;by_cases h12:v12=0
  ·subst h12;refine ZM (ZI rfl (0:Nat) 0 (decide_eq_true rfl))<|ZV ZW<|wn ?_;simp only[pu];obtain⟨k1,hk1,CN⟩:=X5 kQ hl (by omega) R.length (by omega) (by have:=hrw3.n; omega);have hk1:k1<R.length:=(by omega);go_upto_region 3 with fail;refine wl<|Yr (Z5 g 0) (.slice b R.length d) (Z8 R.length)<|YM (Z8 k1) (fun w'=>NS w' g a c L (k+41+1+1)/\But g W3 w') CN (fun W4 hq=>?_);obtain⟨ae2,wK⟩:=hq;refine ZV (Z8 k1)<|wn ?_;simp only[pu];have aD0:=hrw3.but wK XA.out;have aD1:=Z9 (uf.out.trans wK);have an1:=Nat.le_trans hsz3 wK.1.size;obtain⟨v2,hv2,CN2⟩:=X5 ae2 hl (by omega) 2 (by decide) (by decide);clear CN kQ hrw3 wK uf hsz3;go_upto_region 4 with fail;refine wl<|ZV (Z5 g 0)<|YM (Z8 v2) (fun w'=>NS w' g a c L (k+41+1+1+1)/\But g W4 w') CN2 (fun W5 hq=>?_);obtain⟨ae3,wJ⟩:=hq;simp only[pu];have tZ:=aD0.but wJ XA.out;have kP:=Z9 (aD1.out.trans wJ);have hsz5:=Nat.le_trans an1 wJ.1.size;clear CN2 ae2 aD0 wJ aD1 an1;by_cases h2:v2=0
   ·subst h2;refine ZM (ZI rfl (0:Nat) 0 (decide_eq_true rfl))<|wn ?_;simp only[pu];have hcut:=DJ .i64 b R.length d k1 W5 (by have:=tZ.le; omega);have htk:(R.take k1).length=k1:=(by rw[List.length_take]; omega);go_upto_region 5 with fail;refine wl<|ZB (.slice b R.length d) (Z8 k1) ?_;refine MK (by kernel_rfl) (some 35) rfl 54 (.tmp 33) (.tmp 34) rfl (.slice b R.length d) (Z8 k1) (.slice b k1 d) (by kernel_rfl) (by kernel_rfl) hcut ?_;refine ZV (.slice b k1 d)<|wn ?_;simp only[pu];go_wp2_with fail;go_ret;exact⟨b,d,R.take k1,by rw[htk]; rfl,tZ.take k1,ae3.mono (by omega),kP.out⟩
   ·refine ZM (ZI rfl v2 0 dF)<|wn ?_;simp only[pu];have hnl:=an2 W5;have hb6:Below W5.heap.size W5 (W5.alloc (.cells #[] 5)):=(Below.refl _ W5).alloc (Nat.le_refl _) _;obtain⟨a7,c7,W7,hap,ho7,hb7⟩:=bP (bM W5) hb6.size b d (ZP tZ.sl hb6) (by have:=tZ.n; simp only[List.length_nil]; omega);rw[List.nil_append] at hap ho7;have hb8:=hb6.trans hb7;obtain⟨q,cur,e7,hq7⟩:∃ q cur,a7=some ⟨q,0,none⟩/\W5.heap.size<=q:=by
     rcases ho7.2 with⟨e,h9⟩ | ⟨q,cap,cur,e,hB,-⟩
     ·omega
     ·simp only[Value.slice.injEq] at e;exact⟨q,cur,e.1,hB⟩
    subst e7;obtain⟨v8,hv8,CN3⟩:=X5 (ae3.below hb8) hl (by omega) 256 (by decide) (by decide);go_upto_region 6 with fail;apply wp_region_lit;refine Zv (by kernel_rfl) (some 36) rfl 54 0 #[] rfl #[] (by kernel_rfl) (.slice (some ⟨W5.heap.size,0,none⟩) 0 0) _ hnl ?_;refine ZV (.slice b R.length d) ?_;refine Zh rfl (some 38) rfl 54 rfl (.tmp 36) (.tmp 37) 54 rfl (.slice (some ⟨W5.heap.size,0,none⟩) 0 0) (.slice b R.length d) (.slice (some ⟨q,0,none⟩) R.length c7) W7 (by kernel_rfl) (by kernel_rfl) hap ?_;refine ZV (.slice (some ⟨q,0,none⟩) R.length c7)<|wn ?_;simp only[pu];go_upto_region 7 with fail;refine wl<|Yr (.slice (some ⟨q,0,none⟩) R.length c7) (Z8 k1) (Z5 g 0)<|YM (Z8 v8) (fun w'=>NS w' g a c L (k+41+1+1+1+1)/\But g W7 w') CN3 (fun W8 hq=>?_);obtain⟨aD2,ae4⟩:=hq;simp only[pu];have ho8:=kN ho7 ae4 (by have:=XA.out; omega);obtain⟨W9,UY,ho9,Xa⟩:=an3 ho8 rfl hk1 v8;refine YI (.int .u8 v8) (bK rfl v8 (by omega) (by kernel_rfl) _)<|YI (Z5 q (0+k1)) (ni q 0 R.length c7 k1 hk1 _ _ _ rfl (by kernel_rfl) (by kernel_rfl))<|Zk rfl (UY)<|wn ?_;simp only[pu];have hgq:g<q:=(by have:=XA.out; omega);have hnn:=HAB.out;obtain⟨a10,c10,e10,aN9⟩:=Rw.of (R:=R.set k1 v8) (by unfold Own at *; rw[List.length_set] at *; exact ho9) (fun y hy=>(List.mem_or_eq_of_mem_set hy).elim (tZ.b y) (fun e=>by rw[e]; exact⟨by omega,by omega⟩)) (by rw[List.length_set]; exact tZ.n);simp only[Value.slice.injEq,true_and] at e10;obtain⟨rfl,e11,rfl⟩:=e10;go_wp2_with fail;go_ret;exact⟨_,_,R.set k1 v8,by rw[List.length_set]; rfl,aN9.base hsz5,(aD2.but Xa hgq (fun h5 x hx=>by have:=hnn h5 x hx; omega)).mono (by omega),But.Sz ((kP.out.more (hb8.mono hsz5) (Nat.le_of_lt XA.out)).trans ae4) Xa (Nat.le_trans hsz5 hq7) (Nat.le_of_lt hgq)⟩
  ·refine ZM (ZI rfl v12 0 dF)<|ZV ZY<|wn ?_;simp only[pu];go_upto_region 8 with fail;refine wl<|ZB (.slice b R.length d) (.slice b R.length d)<|wn ?_;simp only[pu];go_wp2_with fail;go_ret;exact⟨b,d,R,rfl,hrw3,kQ.mono (by omega),uf.out⟩
 ·go_upto_region 2 with fail;refine wl<|ZB (.slice b R.length d) (Z8 R.length)<|ZM (Zn rfl R.length 0 dF)<|Rf ZY undef undef undef ZY<|wn ?_;simp only[pu];go_upto_region 8 with fail;refine wl<|ZB (.slice b R.length d) (.slice b R.length d)<|wn ?_;simp only[pu];go_wp2_with fail;go_ret;exact⟨b,d,R,rfl,hrw2,Uz.mono (by omega),OM.out⟩
end Go.Proofs.YtfpnnmeblefkkaaGreatDoor.Lg
namespace Go.Proofs.YtfpnnmeblefkkaaGreatDoor.Lg
open Mo (YK YR Yl Yw)
open Go.RowKit
theorem JM:∀ {M:List Tf},RQ M=0->∀ x,x∈M->isName (nums x.1)=true
 | [],_,x,hx=>by cases hx
 | y::r,h,x,hx=>by
  unfold RQ at h
  split at h
  ·omega
  ·rename_i h1
   split at h
   ·omega
   ·rcases List.mem_cons.1 hx with rfl | hx
    ·simpa using h1
    ·exact JM h x hx
theorem JL {t:YV}(h:Xv t=0):∀ x,x∈t.tr->isName (nums x.1)=true:=by
 unfold Xv at h
 split at h
 ·omega
 split at h
 ·omega
 split at h
 ·omega
 split at h
 ·omega
 exact JM h
theorem bU {A:List Ac}(h:Jk A)(x:Tf):Jk (Vu A x):=OC h
theorem bT {A:List Ac}(h:Bg A){x:Tf}(hx:isName (nums x.1)=true):Bg (Vu A x):=OB h (by show isName (nums (Vw A x.1).1)=true; rw[IX]; exact hx)
theorem wP {A:List Ac}{c:Int}{t:YV}(h:Ja A c t)(hs:Jk A)(hn:Bg A)(ht:∀ x,x∈t.tr->isName (nums x.1)=true):∀ j,j<=t.tr.length->Jk (PG A t j)/\Bg (PG A t j)
 | 0,_=>by
  obtain⟨h1,h2,h3⟩:=Vt h.g;refine⟨OC hs,OB hn ?_⟩;show isName (nums (Zi A t.snd).1.1)=true;rw[h2];exact hn _ h1
 | j+1,hj=>by
  obtain⟨h1,h2⟩:=wP h hs hn ht j (by omega);rw[Ph hj];exact⟨bU h1 _,bT h2 (ht _ (by rw[VF hj]; exact List.getElem_mem hj))⟩
theorem bQ {A:List Ac}{c:Int}{t:YV}(h:Ja A c t)(hv:YE A c=0)(ht:∀ x,x∈t.tr->isName (nums x.1)=true)(hl:(Yb A t).length<=256):YE (Yb A t) (c+t.Y8)=0/\Tz (Yb A t)/\W64 (c+t.Y8)/\(c+t.Y8)+tot (Ze (Yb A t))=c+tot (Ze A):=by
 obtain⟨v1,v2,v3,v4⟩:=VE hv;have hg:=wO h;obtain⟨s1,s2⟩:=wP h v2 v3 ht _ (Nat.le_refl _);have hs:=hg.s;have ha:=OI t;have he:(c+t.Y8)+tot (Ze (Yb A t))=c+tot (Ze A):=by omega
 refine⟨GR hl s1 s2 ?_,hg.w,h.cf,he⟩;refine decide_eq_true ?_;rw[Ya,he];exact h.tt
structure MG (A:List Ac)(c:Int):Prop where
 v:YE A c=0
 w:Tz A
 cw:W64 c
theorem MG.n {A:List Ac}{c:Int}(h:MG A c):A.length<=256:=(VE h.v).1
theorem kS {s:ByteArray}(h:isName (nums s)=true):s.size<=20:=by
 unfold isName at h;rw[Zf] at h;simp only[Bool.and_eq_true,decide_eq_true_eq] at h;omega
theorem MG.q {A:List Ac}{c:Int}(h:MG A c):∀ x,x∈A->AcQ x:=fun x hx=>by
 obtain⟨i,hi,rfl⟩:=List.getElem_of_mem hx;have h1:=(VE h.v).2.2.1 i hi;have h2:=h.w i hi;rw[XF hi] at h1 h2;exact⟨⟨h1,kS h1⟩,h2⟩
theorem MG.z {A:List Ac}{c:Int}(h:MG A c):∀ x,x∈A->x.1.size<=140737488355328:=fun x hx=>Nat.le_trans (h.q x hx).1.2 (by decide)
theorem MG.nil:MG [] 0:=⟨by decide,Ug,Xd⟩
theorem MG.tx {A:List Ac}{c price:Int}{L:List Int}(h:MG A c)(hp:W64 price)(h8:∀ y,y∈L->W8 y):MG (TF A c price L).1.1 (TF A c price L).1.2:=by
 by_cases hd:(Zc L).2=0
 ·by_cases hf:Yc A price (Zc L).1 L.length=0
  ·have hq:=am8 h8 h.v h.w h.cw hp hd;obtain⟨d1,d2⟩:=wM hq hf;obtain⟨d3,-,-,-⟩:=Gg (t:=(Zc L).1) (fun x hx=>h8 x hx) (by rw[<- hd]);obtain⟨e1,e2,e3,-⟩:=bQ d1 h.v (JL d3) d2;rw[aC8 h.v hd hf];exact⟨e1,e2,e3⟩
  ·rw[aC9 h.v hd hf]; exact h
 ·rw[am9 h.v hd]; exact h
def has (A:List Ac)(s:ByteArray):Prop:=∃ x,x∈A/\x.1=s
structure Bj (A:List Ac)(c:Int):Prop where
 n:A.length<=4398046511104
 cw:W64 c
 w:Tz A
 z:∀ x,x∈A->x.1.size<=140737488355328
theorem MG.d {A:List Ac}{c:Int}(h:MG A c):Bj A c:=⟨by have:=h.n; omega,h.cw,h.w,h.z⟩
theorem Bj.tx {A:List Ac}{c p:Int}{L:List Int}(h:Bj A c)(hp:W64 p)(h8:∀ y,y∈L->W8 y):Bj (TF A c p L).1.1 (TF A c p L).1.2:=by
 by_cases hv:YE A c=0
 ·exact((MG.mk hv h.w h.cw).tx hp h8).d
 ·rw[am4 hv]; exact h
def Ye (A:List Ac)(c p:Int)(Ls:List (List Int))(j:Nat):List Ac×Int:=(Ls.take j).foldl (fun s L=>(TF s.1 s.2 p L).1) (A,c)
def TB (A:List Ac)(c p:Int)(Ls:List (List Int))(j:Nat):X6:=(TF (Ye A c p Ls j).1 (Ye A c p Ls j).2 p (Ls.getD j [])).2
def TI (A:List Ac)(c p:Int)(Ls:List (List Int))(j:Nat):List X6:=(List.range j).map (TB A c p Ls)
theorem vW (A:List Ac)(c p:Int)(Ls:List (List Int)):Ye A c p Ls 0=(A,c):=rfl
theorem UO {A:List Ac}{c p:Int}{Ls:List (List Int)}{j:Nat}(h:j<Ls.length):Ye A c p Ls (j+1)=(TF (Ye A c p Ls j).1 (Ye A c p Ls j).2 p (Ls.getD j [])).1:=by
 unfold Ye;rw[List.take_succ_eq_append_getElem h,List.foldl_append,List.getD_eq_getElem?_getD,List.getElem?_eq_getElem h];rfl
theorem Qq (A:List Ac)(c p:Int)(Ls:List (List Int))(j:Nat):TI A c p Ls (j+1)=TI A c p Ls j++[TB A c p Ls j]:=by
 unfold TI;rw[List.range_succ,List.map_append];rfl
theorem JO (A:List Ac)(c p:Int)(Ls:List (List Int))(j:Nat):(TI A c p Ls j).length=j:=by unfold TI; rw[List.length_map,List.length_range]
theorem Bj.run {A:List Ac}{c p:Int}{Ls:List (List Int)}(h:Bj A c)(hp:W64 p)(h8:∀ L,L∈Ls->∀ y,y∈L->W8 y):∀ j,j<=Ls.length->Bj (Ye A c p Ls j).1 (Ye A c p Ls j).2
 | 0,_=>h
 | j+1,hj=>by
  rw[UO hj];refine(Bj.run h hp h8 j (by omega)).tx hp (h8 _ ?_);rw[List.getD_eq_getElem?_getD,List.getElem?_eq_getElem hj];exact List.getElem_mem hj
def zk (A:List Ac)(c p:Int)(Ls:List (List Int)):Nat:=(List.range Ls.length).findIdx (fun j=>decide ((TB A c p Ls j).code≠0))
theorem am5 {A:List Ac}{c p:Int}{Ls:List (List Int)}{i:Nat}(hi:i<Ls.length)(hb:∀ j,j<i->(TB A c p Ls j).code=0)(he:(TB A c p Ls i).code≠0):zk A c p Ls=i:=by
 unfold zk;rw[List.findIdx_eq (by rw[List.length_range]; exact hi)];refine⟨by rw[List.getElem_range]; exact decide_eq_true he,fun j hj=>?_⟩;rw[List.getElem_range];exact decide_eq_false (fun q=>q (hb j hj))
theorem am6 {A:List Ac}{c p:Int}{Ls:List (List Int)}(hb:∀ j,j<Ls.length->(TB A c p Ls j).code=0):zk A c p Ls=Ls.length:=by
 unfold zk;have h:(List.range Ls.length).findIdx (fun j=>decide ((TB A c p Ls j).code≠0))=(List.range Ls.length).length:=by
  rw[List.findIdx_eq_length];intro j hj;rw[List.mem_range] at hj;exact decide_eq_false (fun q=>q (hb j hj))
 rw[h,List.length_range]
def Jl (A:List Ac)(c p:Int)(Ls:List (List Int)):(List Ac×Int)×Nat×Int:=if zk A c p Ls<Ls.length then (([],0),zk A c p Ls,(TB A c p Ls (zk A c p Ls)).code) else (Ye A c p Ls Ls.length,0,0)
theorem yK {A:List Ac}{c p:Int}{Ls:List (List Int)}{i:Nat}(hi:i<Ls.length)(hb:∀ j,j<i->(TB A c p Ls j).code=0)(he:(TB A c p Ls i).code≠0):Jl A c p Ls=(([],0),i,(TB A c p Ls i).code):=by
 have e:=am5 hi hb he;unfold Jl;rw[e,if_pos hi]
theorem am7 {A:List Ac}{c p:Int}{Ls:List (List Int)}(hb:∀ j,j<Ls.length->(TB A c p Ls j).code=0):Jl A c p Ls=(Ye A c p Ls Ls.length,0,0):=by
 have e:=am6 hb;unfold Jl;rw[e,if_neg (Nat.lt_irrefl _)]
def kU:YV:=⟨UF,0,300,0,WM,[(UF,5)]⟩
def kA:List Ac:=[(UF,1000,0)]
def kB:List Ac:=[(UF,1000,1)]
theorem qM:Xv kU=0:=by
 unfold Xv kU;simp only[au5,iK,RQ]
 decide
theorem aJ7:W64 5:=k_w 5 (by decide)
theorem af5:Bo kU:=(val_ok qM (k_w 0 (by decide)) (k_w 300 (by decide)) (k_w 0 (by decide)) (fun x hx=>by
 have e:x=(UF,5):=by simpa [kU] using hx
 rw[e]; exact aJ7)).1
theorem yL:(form kU).length=17:=by decide +kernel
theorem au2:QX kU=(form kU,0):=by unfold QX; rw[if_neg (by rw[qM]; decide),if_neg (by rw[yL]; decide)]
theorem aa8:Zc (form kU)=(kU,0):=iJ af5 qM (by rw[yL]; decide) (by decide)
theorem aJ8:YE kA 0=0:=by decide +kernel
theorem aJ9:YE kB 0=0:=by decide +kernel
theorem aK1:Yc kA 0 kU 17=0:=by decide +kernel
theorem au6:Yc kB 0 kU 17=14:=by decide +kernel
theorem aK2:Yb kA kU=kB:=by decide +kernel
theorem au7:YR kU.Y8 kU.Zx=0:=by decide +kernel
def r1:X6:=⟨0,UF,0,300,0⟩
def r2:X6:=⟨14,UF,0,300,0⟩
theorem aa9:TF kA 0 0 (form kU)=((kB,0),r1):=by
 unfold TF;rw[aa8,yL];simp only[au7];rw[if_neg (by rw[aJ8]; decide),if_neg (by decide),if_neg (by rw[show((17:Nat):Int)=17 from rfl,aK1]; decide),aK2];rfl
theorem ab1:TF kB 0 0 (form kU)=((kB,0),r2):=by
 unfold TF;rw[aa8,yL];simp only[au7];rw[if_neg (by rw[aJ9]; decide),if_neg (by decide),if_pos (by rw[show((17:Nat):Int)=17 from rfl,au6]; decide),show((17:Nat):Int)=17 from rfl,au6];rfl
theorem au8:Ye kA 0 0 [form kU,form kU] 1=(kB,0):=by rw[UO (by decide),vW]; exact congrArg (·.1) aa9
theorem aJ3:Ye kA 0 0 [form kU,form kU] 2=(kB,0):=by rw[UO (by decide),au8]; exact congrArg (·.1) ab1
theorem au9:TB kA 0 0 [form kU,form kU] 0=r1:=congrArg (·.2) aa9
theorem af9:TB kA 0 0 [form kU,form kU] 1=r2:=by unfold TB; rw[au8]; exact congrArg (·.2) ab1
theorem aJ4:TI kA 0 0 [form kU,form kU] 2=[r1,r2]:=by rw[Qq,Qq,au9,af9]; rfl
theorem aJ5:Jl kA 0 0 [form kU,form kU]=(([],0),1,14):=by
 rw[yK (i:=1) (by decide) (fun j hj=>by obtain rfl:j=0:=(by omega); rw[au9]; rfl) (by rw[af9]; decide),af9];rfl
theorem au0:Bj kA 0:=⟨by decide,Xd,Hl fun x hx=>by
 have e:x=(UF,1000,0):=by simpa [kA] using hx
 rw[e]; exact⟨k_w 1000 (by decide),k_w 0 (by decide)⟩,fun x hx=>by
 have e:x=(UF,1000,0):=by simpa [kA] using hx
 rw[e]; exact Nat.le_trans (show UF.size<=3 by decide) (by decide)⟩
end Go.Proofs.YtfpnnmeblefkkaaGreatDoor.Lg
