/-
  Texts joined.
-/
import Derived.Test.YtfpnnmeblefkkaaGreatDoorA18
set_option maxRecDepth 100000
set_option maxHeartbeats 8000000
set_option linter.unusedSimpArgs false
set_option linter.unusedVariables false
namespace Go.Proofs.YtfpnnmeblefkkaaGreatDoor.Lg
attribute [local irreducible] wpList wpQuiet
open Mo (YO YX Yo Yx)
open Go.RowKit
theorem FQ (A:List Ac)(c price:Int)(L:List Int)(la ra:Option Addr)(lk rc:Nat)(w:World)(hL:Cs w la (acc A))(hlk:A.length<=lk)(hn:A.length<=4398046511104)(hc:W64 c)(hw:TM A)(hz:∀ x,x∈A->x.1.size<=140737488355328)(hp:W64 price)(hR:Sl w ra rc L)(hrc:L.length<=rc)(h8:∀ y,y∈L->W8 y) :
  Calls Tryz.prog 26 #[.agg (ZU la A.length lk c),Z7 price,.slice ra L.length rc] w (kY w la A (Uh A c price L)):=by
 obtain⟨hb0,Wx,WY,Rt⟩:=Xt w (ZU la A.length lk c) (ZU none 0 0 0) (ZB (YQ 0)) 30 30 47;have hA:=hL.below hb0;have HLW:=Z9 hL;have HRW:=Z9 hR;obtain⟨X,hX⟩:=ZR (Uh A c price L);have H1:=Z9 (fun h=>hX.symm.trans (am4 (price:=price) (L:=L) (A:=A) (c:=c) h));have H2:=Z9 (fun h h2=>hX.symm.trans (am8 (price:=price) (L:=L) (A:=A) (c:=c) h h2));have H3:=Z9 (fun h h2 h3=>hX.symm.trans (aC7 (price:=price) (L:=L) (A:=A) (c:=c) h h2 h3));have H4:=Z9 (fun h h2 h3=>hX.symm.trans (aC6 (price:=price) (L:=L) (A:=A) (c:=c) h h2 h3));have HFQ:=Z9 (fun h h2=>am7 h8 h hw hc hp h2 (A:=A) (L:=L));have CV:=fun V h=>U6 la lk A c V h hn hc hw hz;have CD:=Z9 (fun V (h:Sl V ra rc L)=>Ap ra rc L V h hrc h8);rw[hX];generalize YE A c=ve at *
 clear hL hR hz h8 hX;go_enter Tryz.func26,Tryz.ntmps26;go_upto_region 1 with fail;change Code.wp _ _ _ _ (((w.alloc (.cells (ZU la A.length lk c) 30)).alloc (.cells (ZU none 0 0 0) 30)).alloc (.cells (ZB (YQ 0)) 47));generalize ((w.alloc (.cells (ZU la A.length lk c) 30)).alloc (.cells (ZU none 0 0 0) 30)).alloc (.cells (ZB (YQ 0)) 47)=W at *
 obtain⟨g3,hg3⟩:=ZR w.heap.size;obtain⟨g6,Ul⟩:=ZR (g3+1);obtain⟨g7,Qd⟩:=ZR (g6+1);have HB0:=Z9 hb0;rw[show w.heap.size+2=g7 by omega] at Rt;rw[show w.heap.size+1=g6 by omega] at WY;have HG:Hid (w.heap.size<=g6/\w.heap.size<=g7/\g7≠g6/\g3≠g6/\g3≠g7/\g6<W.heap.size/\g7<W.heap.size):=Z9 ⟨by omega,by omega,by omega,by omega,by omega,WY.lt,Rt.lt⟩;rw[hg3] at Wx;simp only[hg3];simp only[Ul];simp only[Qd];have X7:=Z9 Wx;have XP:=Z9 WY;have PX:=Z9 Rt;have PU:=CV W hA;clear hb0 Wx WY Rt hA hg3 Ul Qd CV;refine wl<|ZK rfl ⟨g3,0,none⟩ (.agg (ZU la A.length lk c)) (ZP X7.out)<|YW (Z8 ve) (fun w'=>Below W.heap.size W w') (PU) (fun W1 hW1=>?_);simp only[pu];have HB1:=Z9 (HB0.out.trans (hW1.mono HB0.out.size));have U9:Hid (W.heap.size<=W1.heap.size):=Z9 hW1.size;have X7:=Z9 (X7.out.below X7.out.lt hW1);have XP:=Z9 (XP.out.below XP.out.lt hW1);have PX:=Z9 (PX.out.below PX.out.lt hW1);clear PU hW1;by_cases hv:ve=0
 ·subst hv;refine ZN (Za rfl 0 0 (decide_eq_true rfl))<|wn ?_;simp only[pu];have CDW:=CD.out W1 (ZL HRW.out HB1.out);obtain⟨D,hD⟩:=ZR (Zb L);rw[hD] at CDW H2 H3 H4 HFQ;clear hD CD H1;go_upto_region 3 with fail;refine wl<|ZV (.slice ra L.length rc)<|XZ (fun v w'=>∃ a c,v=.tuple #[.agg (ZA D.1 a c),Z8 D.2]/\Yv w' W1.heap.size (.slice a D.1.tr.length c) D.1.tr/\Below W1.heap.size W1 w') (CDW.mono fun e w' q=>by obtain⟨a,c,h1,h2⟩:=q; exact⟨_,h1,a,c,rfl,h2⟩) (fun vv W2 hq=>?_);obtain⟨ta,tk,rfl,hrt,hb2⟩:=hq;obtain⟨V3,hst3,hb3,Wy⟩:=OG W2 D.1 ta tk;refine YG (.tuple #[.agg (ZA D.1 ta tk),Z8 D.2]) (.agg (ZA D.1 ta tk)) (Z8 D.2) ?_;refine Zz rfl (some 8) rfl (Z5 W2.heap.size 0) (W2.alloc (.cells (ZA zX none 0) 63)) (by kernel_rfl) ?_;refine Zr rfl (hst3)<|ZV (Z8 D.2)<|wn ?_;simp only[pu];have hb4:=hb2.trans (hb3.mono hb2.size);obtain⟨g8,MP⟩:=ZR W2.heap.size;have HG8:Hid (g8≠g6/\g8≠g7/\W.heap.size<=g8):=Z9 (by have:=HG.out.2.2.2.2.2; have:=U9.out; have:=hb2.size; omega);rw[MP] at Wy hst3 ⊢;have IC:=Z9 (own_base (own_below hrt hb3) U9.out);have X7:=Z9 (X7.out.below X7.out.lt hb4);have XP:=Z9 (XP.out.below XP.out.lt hb4);have PX:=Z9 (PX.out.below PX.out.lt hb4);have UM:=Z9 Wy;have SY:=Z9 (HB1.out.trans (hb4.mono HB1.out.size));have HSV:Hid (W.heap.size<=V3.heap.size):=Z9 (Nat.le_trans U9.out hb4.size);clear CDW hst3 hb2 hb3 hb4 MP Wy hrt HB1;by_cases hd:D.2=0
  ·go_upto_region 4 with fail;refine wl<|ZV (Z8 D.2)<|ZN (Za rfl D.2 0 (decide_eq_true hd))<|wn ?_;simp only[pu];have uh:=HFQ.out rfl hd;have H3:=Z9 (H3.out rfl hd);have H4:=Z9 (H4.out rfl hd);obtain⟨t,hdt⟩:=ZR D.1;rw[hdt] at uh H3 H4 IC UM;simp only[hdt];have HQ:=Z9 uh;have HF0:=Z9 (fun h0=>wO (size:=L.length) uh h0);have CF:=Z9 (fun V (hl:Cs V la (acc A)) (ht:Cs V ta (Rl t.tr))=>ug A c price L.length t la ta lk tk V hl hlk ht uh);have CP:=fun V=>Mo.lJ t.Y8 t.Zu V uh.f uh.Zu;generalize YX t.Y8 t.Zu=pr at *
   obtain⟨fx,hfx⟩:=ZR (Yc A price t L.length);rw[hfx] at H3 H4 HF0 CF;clear uh hdt hd H2 HFQ hfx;go_upto_region 6 with fail;have h0:=KT.start V3 ⟨fx,t.snd,t.sq,t.Zu,pr⟩;refine Zx (fun listed Zh V=>∃ b0 b1 b2 b3 b4 b5 b6 b7 b8 b9 b10 b11 b12 b13 b14 b15 b16 b17 b18 b19:Bool,∃ x10:Value,listed=#[b0,b1,b2,b3,b4,b5,b6,b7,b8,b9,b10,b11,b12,b13,b14,b15,b16,b17,b18,b19]/\Zh={ tmps:=#[.agg (ZU la A.length lk c),Z7 price,.slice ra L.length rc,Z5 g3 0,undef,undef,Z5 g6 0,Z5 g7 0,Z5 g8 0,Z8 D.2,x10,undef,undef,.agg (ZU la A.length lk c),Z8 0,ZY,undef,undef,.tuple #[.agg (ZA t ta tk),Z8 D.2],.slice ra L.length rc,.tuple #[.agg (ZA t ta tk),Z8 D.2],.agg (ZA t ta tk),Z8 D.2,Z8 D.2,ZY,undef,undef,undef,(cond b0 (.agg (ZU la A.length lk c)) undef),(cond b1 (Z7 price) undef),(cond b2 (.agg (ZA t ta tk)) undef),(cond b3 (.slice ra L.length rc) undef),(cond b4 (Z8 L.length) undef),(cond b5 (Z8 fx) undef),(cond b6 (Z5 g8 0) undef),(cond b7 (.string t.snd) undef),(cond b8 (Z5 g8 1) undef),(cond b9 (Z7 t.sq) undef),(cond b10 (Z5 g8 2) undef),(cond b11 (Z7 t.Zu) undef),(cond b12 (Z5 g8 3) undef),(cond b13 (Z7 t.Y8) undef),(cond b14 (Z5 g8 2) undef),(cond b15 (Z7 t.Zu) undef),(cond b16 (Z7 pr) undef),(cond b17 (.agg (ZB ⟨fx,t.snd,t.sq,t.Zu,pr⟩)) undef),undef,undef,undef,undef,undef,undef,undef,undef,undef,undef,undef,undef,undef,undef,undef],defers:=[] }/\KT V3 ⟨fx,t.snd,t.sq,t.Zu,pr⟩ b18 b19 x10 V) (by kernel_rfl) (by kernel_rfl) ?_ ?_ ?_
   ·exact⟨_,_,_,_,_,_,_,_,_,_,_,_,_,_,_,_,_,_,_,_,_,rfl,rfl,h0⟩
   ·intro i9 listed Zh V hi9 hr hJ;obtain⟨b0,b1,b2,b3,b4,b5,b6,b7,b8,b9,b10,b11,b12,b13,b14,b15,b16,b17,b18,b19,x10,rfl,rfl,hF⟩:=hJ;have hi2:i9<20:=hi9;have hi3:i9=0∨i9=1∨i9=2∨i9=3∨i9=4∨i9=5∨i9=6∨i9=7∨i9=8∨i9=9∨i9=10∨i9=11∨i9=12∨i9=13∨i9=14∨i9=15∨i9=16∨i9=17∨i9=18∨i9=19:=(by omega);rcases hi3 with rfl | rfl | rfl | rfl | rfl | rfl | rfl | rfl | rfl | rfl | rfl | rfl | rfl | rfl | rfl | rfl | rfl | rfl | rfl | rfl
    ·obtain rfl:b0=false:=Z4 hr;refine Zv rfl (by kernel_rfl) (some 28) rfl 30 (.tmp 3) rfl ⟨g3,0,none⟩ (.agg (ZU la A.length lk c)) (by kernel_rfl) (ZP (X7.out.below X7.out.lt hF.bel)) ?_;exact⟨_,_,_,_,_,_,_,_,_,_,_,_,_,_,_,_,_,_,_,_,_,rfl,rfl,hF⟩
    ·obtain rfl:b1=false:=Z4 hr;refine ZM rfl (by kernel_rfl) (some 29) rfl (Z7 price) V (by kernel_rfl) ?_;exact⟨_,_,_,_,_,_,_,_,_,_,_,_,_,_,_,_,_,_,_,_,_,rfl,rfl,hF⟩
    ·obtain rfl:b2=false:=Z4 hr;refine Zv rfl (by kernel_rfl) (some 30) rfl 63 (.tmp 8) rfl ⟨g8,0,none⟩ (.agg (ZA t ta tk)) (by kernel_rfl) (ZE (UM.out.below UM.out.lt hF.bel)) ?_;exact⟨_,_,_,_,_,_,_,_,_,_,_,_,_,_,_,_,_,_,_,_,_,rfl,rfl,hF⟩
    ·obtain rfl:b3=false:=Z4 hr;refine ZM rfl (by kernel_rfl) (some 31) rfl (.slice ra L.length rc) V (by kernel_rfl) ?_;exact⟨_,_,_,_,_,_,_,_,_,_,_,_,_,_,_,_,_,_,_,_,_,rfl,rfl,hF⟩
    ·obtain rfl:b4=false:=Z4 hr;obtain rfl:b3=true:=ZX hr 3;refine ZM rfl (by kernel_rfl) (some 32) rfl (Z8 L.length) V (by kernel_rfl) ?_;exact⟨_,_,_,_,_,_,_,_,_,_,_,_,_,_,_,_,_,_,_,_,_,rfl,rfl,hF⟩
    ·obtain rfl:b5=false:=Z4 hr;obtain rfl:b0=true:=ZX hr 0;obtain rfl:b1=true:=ZX hr 1;obtain rfl:b2=true:=ZX hr 2;obtain rfl:b4=true:=ZX hr 4;refine Ym rfl (by kernel_rfl) (some 33) rfl 46 #[.agg (ZU la A.length lk c),Z7 price,.agg (ZA t ta tk),Z8 L.length] (by kernel_rfl) ((CF.out V (HLW.out.below (SY.out.trans (hF.bel.mono SY.out.size))) (by obtain⟨a9,c9,e9,h9,-⟩:=YH (own_below IC.out hF.bel); simp only[Value.slice.injEq,true_and] at e9; obtain⟨rfl,rfl⟩:=e9; exact h9)).mono fun e w' z=>?_);obtain⟨rfl,hb⟩:=z;exact⟨_,rfl,_,_,_,_,_,_,_,_,_,_,_,_,_,_,_,_,_,_,_,_,_,rfl,rfl,hF.more hb⟩
    ·obtain rfl:b6=false:=Z4 hr;refine ZM rfl (by kernel_rfl) (some 34) rfl (Z5 g8 0) V (by kernel_rfl) ?_;exact⟨_,_,_,_,_,_,_,_,_,_,_,_,_,_,_,_,_,_,_,_,_,rfl,rfl,hF⟩
    ·obtain rfl:b7=false:=Z4 hr;obtain rfl:b6=true:=ZX hr 6;refine Zv rfl (by kernel_rfl) (some 35) rfl 9 (.tmp 34) rfl ⟨g8,0,none⟩ (.string t.snd) (by kernel_rfl) ((UM.out.below UM.out.lt hF.bel).ZQ 0) ?_;exact⟨_,_,_,_,_,_,_,_,_,_,_,_,_,_,_,_,_,_,_,_,_,rfl,rfl,hF⟩
    ·obtain rfl:b8=false:=Z4 hr;refine ZM rfl (by kernel_rfl) (some 36) rfl (Z5 g8 1) V (by kernel_rfl) ?_;exact⟨_,_,_,_,_,_,_,_,_,_,_,_,_,_,_,_,_,_,_,_,_,rfl,rfl,hF⟩
    ·obtain rfl:b9=false:=Z4 hr;obtain rfl:b8=true:=ZX hr 8;refine Zv rfl (by kernel_rfl) (some 37) rfl 24 (.tmp 36) rfl ⟨g8,1,none⟩ (Z7 t.sq) (by kernel_rfl) ((UM.out.below UM.out.lt hF.bel).ZQ 1) ?_;exact⟨_,_,_,_,_,_,_,_,_,_,_,_,_,_,_,_,_,_,_,_,_,rfl,rfl,hF⟩
    ·obtain rfl:b10=false:=Z4 hr;refine ZM rfl (by kernel_rfl) (some 38) rfl (Z5 g8 2) V (by kernel_rfl) ?_;exact⟨_,_,_,_,_,_,_,_,_,_,_,_,_,_,_,_,_,_,_,_,_,rfl,rfl,hF⟩
    ·obtain rfl:b11=false:=Z4 hr;obtain rfl:b10=true:=ZX hr 10;refine Zv rfl (by kernel_rfl) (some 39) rfl 24 (.tmp 38) rfl ⟨g8,2,none⟩ (Z7 t.Zu) (by kernel_rfl) ((UM.out.below UM.out.lt hF.bel).ZQ 2) ?_;exact⟨_,_,_,_,_,_,_,_,_,_,_,_,_,_,_,_,_,_,_,_,_,rfl,rfl,hF⟩
    ·obtain rfl:b12=false:=Z4 hr;refine ZM rfl (by kernel_rfl) (some 40) rfl (Z5 g8 3) V (by kernel_rfl) ?_;exact⟨_,_,_,_,_,_,_,_,_,_,_,_,_,_,_,_,_,_,_,_,_,rfl,rfl,hF⟩
    ·obtain rfl:b13=false:=Z4 hr;obtain rfl:b12=true:=ZX hr 12;refine Zv rfl (by kernel_rfl) (some 41) rfl 24 (.tmp 40) rfl ⟨g8,3,none⟩ (Z7 t.Y8) (by kernel_rfl) ((UM.out.below UM.out.lt hF.bel).ZQ 3) ?_;exact⟨_,_,_,_,_,_,_,_,_,_,_,_,_,_,_,_,_,_,_,_,_,rfl,rfl,hF⟩
    ·obtain rfl:b14=false:=Z4 hr;refine ZM rfl (by kernel_rfl) (some 42) rfl (Z5 g8 2) V (by kernel_rfl) ?_;exact⟨_,_,_,_,_,_,_,_,_,_,_,_,_,_,_,_,_,_,_,_,_,rfl,rfl,hF⟩
    ·obtain rfl:b15=false:=Z4 hr;obtain rfl:b14=true:=ZX hr 14;refine Zv rfl (by kernel_rfl) (some 43) rfl 24 (.tmp 42) rfl ⟨g8,2,none⟩ (Z7 t.Zu) (by kernel_rfl) ((UM.out.below UM.out.lt hF.bel).ZQ 2) ?_;exact⟨_,_,_,_,_,_,_,_,_,_,_,_,_,_,_,_,_,_,_,_,_,rfl,rfl,hF⟩
    ·obtain rfl:b16=false:=Z4 hr;obtain rfl:b13=true:=ZX hr 13;obtain rfl:b15=true:=ZX hr 15;refine Ym rfl (by kernel_rfl) (some 44) rfl 47 #[Z7 t.Y8,Z7 t.Zu] (by kernel_rfl) ((CP V).mono fun e w' z=>?_);obtain⟨rfl,rfl⟩:=z;exact⟨_,rfl,_,_,_,_,_,_,_,_,_,_,_,_,_,_,_,_,_,_,_,_,_,rfl,rfl,hF⟩
    ·obtain rfl:b17=false:=Z4 hr;obtain rfl:b5=true:=ZX hr 5;obtain rfl:b7=true:=ZX hr 7;obtain rfl:b9=true:=ZX hr 9;obtain rfl:b11=true:=ZX hr 11;obtain rfl:b16=true:=ZX hr 16;refine ZM rfl (by kernel_rfl) (some 45) rfl (.agg (ZB ⟨fx,t.snd,t.sq,t.Zu,pr⟩)) V (by kernel_rfl) ?_;exact⟨_,_,_,_,_,_,_,_,_,_,_,_,_,_,_,_,_,_,_,_,_,rfl,rfl,hF⟩
    ·obtain rfl:b18=false:=Z4 hr;refine ZM rfl (by kernel_rfl) (some 10) rfl (Z5 V.heap.size 0) (V.alloc (.cells (ZB (YQ 0)) 47)) (by kernel_rfl) ?_;exact⟨_,_,_,_,_,_,_,_,_,_,_,_,_,_,_,_,_,_,_,_,_,rfl,rfl,hF.alloc⟩
    ·obtain rfl:b19=false:=Z4 hr;obtain rfl:b17=true:=ZX hr 17;obtain rfl:b18=true:=ZX hr 18;obtain⟨g9,V2,rfl,hst,hF2⟩:=hF.store;refine Zd rfl (by kernel_rfl) rfl 47 (.tmp 10) (.tmp 45) rfl (Z5 g9 0) (.agg (ZB ⟨fx,t.snd,t.sq,t.Zu,pr⟩)) (by kernel_rfl) (by kernel_rfl) _ hst ?_;exact⟨_,_,_,_,_,_,_,_,_,_,_,_,_,_,_,_,_,_,_,_,_,rfl,rfl,hF2⟩
   ·intro Zh V hJ;obtain⟨b0,b1,b2,b3,b4,b5,b6,b7,b8,b9,b10,b11,b12,b13,b14,b15,b16,b17,b18,b19,x10,he,rfl,hF⟩:=hJ;have he:(#[true,true,true,true,true,true,true,true,true,true,true,true,true,true,true,true,true,true,true,true]:Array Bool)=#[b0,b1,b2,b3,b4,b5,b6,b7,b8,b9,b10,b11,b12,b13,b14,b15,b16,b17,b18,b19]:=he;simp only[Array.mk.injEq,List.cons.injEq,and_true] at he;obtain⟨rfl,rfl,rfl,rfl,rfl,rfl,rfl,rfl,rfl,rfl,rfl,rfl,rfl,rfl,rfl,rfl,rfl,rfl,rfl,rfl⟩:=he;simp only[cond_true];obtain⟨g10,rfl,O7,-,hbx⟩:=hF.box rfl;have Ot:=Z9 (hbx rfl);have hbv:=hF.bel;have HB4:=Z9 (SY.out.trans (hbv.mono SY.out.size));have uf:=Z9 (XP.out.below XP.out.lt hbv);have zA:=Z9 (PX.out.below PX.out.lt hbv);have FP:Hid (g10≠g6/\g10≠g7):=Z9 (by have:=HG.out.2.2.2.2.2; have:=HSV.out; omega);have IK:Hid (W.heap.size<=V.heap.size):=Z9 (Nat.le_trans HSV.out hbv.size);have HPZ:Hid (PZ g3 g8 g10 W.heap.size (ZU la A.length lk c) t ta tk ⟨fx,t.snd,t.sq,t.Zu,pr⟩ V):=Z9 ⟨X7.out.below X7.out.lt hbv,UM.out.below UM.out.lt hbv,hbx rfl,own_below IC.out hbv⟩;clear hF hbx hbv O7 X7 XP PX UM IC SY h0;by_cases hfx:¬ fx=0
    ·go_upto_region 7 with fail;refine wl<|ZV (Z5 g10 0)<|ZK rfl ⟨g10,0,none⟩ (Z8 fx) (Ot.out.ZQ 0)<|ZN (Za rfl fx 0 (decide_eq_false hfx))<|wn ?_;simp only[pu];obtain rfl:=H3.out hfx;go_upto_region 8 with fail;have h0:K8 w g6 g7 (PZ g3 g8 g10 W.heap.size (ZU la A.length lk c) t ta tk ⟨fx,t.snd,t.sq,t.Zu,pr⟩) (ZU la A.length lk c) ⟨fx,t.snd,t.sq,t.Zu,pr⟩ false false V.drew:=K8.start HB4.out HPZ.out.drew uf.out zA.out;generalize V=V4 at *
     refine Zx (fun listed Zh V=>∃ b0 b1 b2 b3:Bool,listed=#[b0,b1,b2,b3]/\Zh={ tmps:=#[.agg (ZU la A.length lk c),Z7 price,.slice ra L.length rc,Z5 g3 0,undef,undef,Z5 g6 0,Z5 g7 0,Z5 g8 0,Z8 D.2,Z5 g10 0,undef,undef,.agg (ZU la A.length lk c),Z8 0,ZY,undef,undef,.tuple #[.agg (ZA t ta tk),Z8 D.2],.slice ra L.length rc,.tuple #[.agg (ZA t ta tk),Z8 D.2],.agg (ZA t ta tk),Z8 D.2,Z8 D.2,ZY,undef,undef,undef,.agg (ZU la A.length lk c),Z7 price,.agg (ZA t ta tk),.slice ra L.length rc,Z8 L.length,Z8 fx,Z5 g8 0,.string t.snd,Z5 g8 1,Z7 t.sq,Z5 g8 2,Z7 t.Zu,Z5 g8 3,Z7 t.Y8,Z5 g8 2,Z7 t.Zu,Z7 pr,.agg (ZB ⟨fx,t.snd,t.sq,t.Zu,pr⟩),Z5 g10 0,Z8 fx,ZW,(cond b0 (.agg (ZU la A.length lk c)) undef),(cond b1 (.agg (ZB ⟨fx,t.snd,t.sq,t.Zu,pr⟩)) undef),undef,undef,undef,undef,undef,undef,undef,undef,undef,undef],defers:=[] }/\K8 w g6 g7 (PZ g3 g8 g10 W.heap.size (ZU la A.length lk c) t ta tk ⟨fx,t.snd,t.sq,t.Zu,pr⟩) (ZU la A.length lk c) ⟨fx,t.snd,t.sq,t.Zu,pr⟩ b2 b3 V) (by kernel_rfl) (by kernel_rfl) ?_ ?_ ?_
     ·exact⟨_,_,_,_,rfl,rfl,h0⟩
     ·intro i9 listed Zh V hi9 hr hJ;obtain⟨b0,b1,b2,b3,rfl,rfl,hF⟩:=hJ;have hi2:i9<4:=hi9;have hi3:i9=0∨i9=1∨i9=2∨i9=3:=(by omega);rcases hi3 with rfl | rfl | rfl | rfl
      ·obtain rfl:b0=false:=Z4 hr;refine Zv rfl (by kernel_rfl) (some 49) rfl 30 (.tmp 3) rfl ⟨g3,0,none⟩ (.agg (ZU la A.length lk c)) (by kernel_rfl) (ZP hF.p.x3) ?_;exact⟨_,_,_,_,rfl,rfl,hF⟩
      ·obtain rfl:b1=false:=Z4 hr;refine Zv rfl (by kernel_rfl) (some 50) rfl 47 (.tmp 10) rfl ⟨g10,0,none⟩ (.agg (ZB ⟨fx,t.snd,t.sq,t.Zu,pr⟩)) (by kernel_rfl) (XR hF.p.x10) ?_;exact⟨_,_,_,_,rfl,rfl,hF⟩
      ·obtain rfl:b2=false:=Z4 hr;obtain rfl:b0=true:=ZX hr 0;obtain⟨V2,hst,hF2⟩:=hF.st6 (fun V9 hb=>hF.p.but hb HG.out.2.2.2.1 HG8.out.1 FP.out.1 HG.out.2.2.2.2.2.1) HG.out.1 HG.out.2.2.1;refine Zd rfl (by kernel_rfl) rfl 30 (.tmp 6) (.tmp 49) rfl (Z5 g6 0) (.agg (ZU la A.length lk c)) (by kernel_rfl) (by kernel_rfl) _ hst ?_;exact⟨_,_,_,_,rfl,rfl,hF2⟩
      ·obtain rfl:b3=false:=Z4 hr;obtain rfl:b1=true:=ZX hr 1;obtain⟨V2,hst,hF2⟩:=hF.st7 (fun V9 hb=>hF.p.but hb HG.out.2.2.2.2.1 HG8.out.2.1 FP.out.2 HG.out.2.2.2.2.2.2) HG.out.2.1 (fun e=>HG.out.2.2.1 e.symm);refine Zd rfl (by kernel_rfl) rfl 47 (.tmp 7) (.tmp 50) rfl (Z5 g7 0) (.agg (ZB ⟨fx,t.snd,t.sq,t.Zu,pr⟩)) (by kernel_rfl) (by kernel_rfl) _ hst ?_;exact⟨_,_,_,_,rfl,rfl,hF2⟩
     ·intro Zh V hJ;obtain⟨b0,b1,b2,b3,he,rfl,hF⟩:=hJ;have he:(#[true,true,true,true]:Array Bool)=#[b0,b1,b2,b3]:=he;simp only[Array.mk.injEq,List.cons.injEq,and_true] at he;obtain⟨rfl,rfl,rfl,rfl⟩:=he;simp only[cond_true];go_wp2_with fail;exact bodyPost_ret (WR rfl (by kernel_rfl) (ZP hF.x6) (by kernel_rfl) (XR hF.x7)) rfl ⟨la,lk,rfl,HLW.out.below hF.bel,hlk,.inl ⟨rfl,rfl⟩,hF.bel⟩
    ·have hfx:fx=0:=Decidable.of_not_not hfx;go_upto_region 7 with fail;refine wl<|ZV (Z5 g10 0)<|ZK rfl ⟨g10,0,none⟩ (Z8 fx) (Ot.out.ZQ 0)<|ZN (Za rfl fx 0 (decide_eq_true hfx))<|wn ?_;simp only[pu];obtain rfl:=H4.out hfx;obtain⟨rG,aS9⟩:=HF0.out hfx;have Du:Cs V ta (Rl t.tr):=(by obtain⟨a9,c9,e9,h9,-⟩:=YH HPZ.out.row; simp only[Value.slice.injEq,true_and] at e9; obtain⟨rfl,rfl⟩:=e9; exact h9);have CC:=Dt t ta tk V Du (by have:=rG.m; omega) rG.f rG.a;have hcb:=rG.cb;have HDQ:=Z9 rG;have HCD:=Z9 (fun V (hl:Cs V la (acc A)) (ht:Cs V ta (Rl t.tr))=>Dq A c t la ta lk tk V hl hlk ht rG);rw[hcb] at CC;clear Du rG hcb H3 H4 HF0 CF CP HQ;go_upto_region 9 with fail;refine wl<|ZK rfl ⟨g8,0,none⟩ (.agg (ZA t ta tk)) (ZE HPZ.out.x8)<|YW (.tuple #[Z7 (YP t),ZW]) (fun w'=>Below V.heap.size V w') (CC) (fun V5 jk=>?_);refine Rq (.tuple #[Z7 (YP t),ZW]) (Z7 (YP t)) ZW (Z7 (YP t)) ZW<|wn ?_;simp only[pu];have aP2:=Z9 (HPZ.out.more jk);have h5:=HB4.out.trans (jk.mono HB4.out.size);have tZ:=uf.out.below uf.out.lt jk;have aD1:=zA.out.below zA.out.lt jk;have wC:Hid (W.heap.size<=V5.heap.size):=Z9 (Nat.le_trans IK.out jk.size);clear CC jk HB4 HPZ uf zA Ot;go_upto_region 10 with fail;obtain⟨DL,hDL⟩:=ZR (Yb A t);rw[hDL] at HCD;have h0:KS w g6 g7 W.heap.size (PZ g3 g8 g10 W.heap.size (ZU la A.length lk c) t ta tk ⟨fx,t.snd,t.sq,t.Zu,pr⟩) DL (c+t.Y8) ⟨fx,t.snd,t.sq,t.Zu,pr⟩ false false false undef V5.drew:=KS.start h5 aP2.out.drew tZ aD1;generalize V=V4 at *
     clear h5 tZ aD1;refine Zx (fun listed Zh V=>∃ b0 b1 b2 b3 b4 b5 b6:Bool,∃ x59:Value,listed=#[b0,b1,b2,b3,b4,b5,b6]/\Zh={ tmps:=#[.agg (ZU la A.length lk c),Z7 price,.slice ra L.length rc,Z5 g3 0,undef,undef,Z5 g6 0,Z5 g7 0,Z5 g8 0,Z8 D.2,Z5 g10 0,Z7 (YP t),ZW,.agg (ZU la A.length lk c),Z8 0,ZY,undef,undef,.tuple #[.agg (ZA t ta tk),Z8 D.2],.slice ra L.length rc,.tuple #[.agg (ZA t ta tk),Z8 D.2],.agg (ZA t ta tk),Z8 D.2,Z8 D.2,ZY,undef,undef,undef,.agg (ZU la A.length lk c),Z7 price,.agg (ZA t ta tk),.slice ra L.length rc,Z8 L.length,Z8 fx,Z5 g8 0,.string t.snd,Z5 g8 1,Z7 t.sq,Z5 g8 2,Z7 t.Zu,Z5 g8 3,Z7 t.Y8,Z5 g8 2,Z7 t.Zu,Z7 pr,.agg (ZB ⟨fx,t.snd,t.sq,t.Zu,pr⟩),Z5 g10 0,Z8 fx,ZY,undef,undef,.tuple #[Z7 (YP t),ZW],.agg (ZA t ta tk),.tuple #[Z7 (YP t),ZW],Z7 (YP t),ZW,(cond b0 (.agg (ZU la A.length lk c)) undef),(cond b1 (.agg (ZA t ta tk)) undef),(cond b2 (Z7 (YP t)) undef),x59,(cond b4 (.agg (ZB ⟨fx,t.snd,t.sq,t.Zu,pr⟩)) undef)],defers:=[] }/\KS w g6 g7 W.heap.size (PZ g3 g8 g10 W.heap.size (ZU la A.length lk c) t ta tk ⟨fx,t.snd,t.sq,t.Zu,pr⟩) DL (c+t.Y8) ⟨fx,t.snd,t.sq,t.Zu,pr⟩ b3 b5 b6 x59 V) (by kernel_rfl) (by kernel_rfl) ?_ ?_ ?_
     ·exact⟨_,_,_,_,_,_,_,_,rfl,rfl,h0⟩
     ·intro i9 listed Zh V hi9 hr hJ;obtain⟨b0,b1,b2,b3,b4,b5,b6,x59,rfl,rfl,hF⟩:=hJ;have hi2:i9<7:=hi9;have hi3:i9=0∨i9=1∨i9=2∨i9=3∨i9=4∨i9=5∨i9=6:=(by omega);rcases hi3 with rfl | rfl | rfl | rfl | rfl | rfl | rfl
      ·obtain rfl:b0=false:=Z4 hr;refine Zv rfl (by kernel_rfl) (some 56) rfl 30 (.tmp 3) rfl ⟨g3,0,none⟩ (.agg (ZU la A.length lk c)) (by kernel_rfl) (ZP hF.p.x3) ?_;exact⟨_,_,_,_,_,_,_,_,rfl,rfl,hF⟩
      ·obtain rfl:b1=false:=Z4 hr;refine Zv rfl (by kernel_rfl) (some 57) rfl 63 (.tmp 8) rfl ⟨g8,0,none⟩ (.agg (ZA t ta tk)) (by kernel_rfl) (ZE hF.p.x8) ?_;exact⟨_,_,_,_,_,_,_,_,rfl,rfl,hF⟩
      ·obtain rfl:b2=false:=Z4 hr;refine ZM rfl (by kernel_rfl) (some 58) rfl (Z7 (YP t)) V (by kernel_rfl) ?_;exact⟨_,_,_,_,_,_,_,_,rfl,rfl,hF⟩
      ·obtain rfl:b3=false:=Z4 hr;obtain rfl:b0=true:=ZX hr 0;obtain rfl:b1=true:=ZX hr 1;obtain rfl:b2=true:=ZX hr 2;obtain rfl:b5=false:=ff hF.o rfl;refine Ym rfl (by kernel_rfl) (some 59) rfl 49 #[.agg (ZU la A.length lk c),.agg (ZA t ta tk),Z7 (YP t)] (by kernel_rfl) ((HCD.out V (HLW.out.below hF.bel) (by obtain⟨a9,c9,e9,h9,-⟩:=YH hF.p.row; simp only[Value.slice.injEq,true_and] at e9; obtain⟨rfl,rfl⟩:=e9; exact h9)).mono fun e w' z=>?_);obtain⟨ad,k,rfl,hr,hb⟩:=z;exact⟨_,rfl,_,_,_,_,_,_,_,_,rfl,rfl,hF.call (Nat.le_of_lt (Nat.lt_of_le_of_lt HG8.out.2.2 hF.p.x8.lt)) (hF.p.more hb) hb hr⟩
      ·obtain rfl:b4=false:=Z4 hr;refine Zv rfl (by kernel_rfl) (some 60) rfl 47 (.tmp 10) rfl ⟨g10,0,none⟩ (.agg (ZB ⟨fx,t.snd,t.sq,t.Zu,pr⟩)) (by kernel_rfl) (XR hF.p.x10) ?_;exact⟨_,_,_,_,_,_,_,_,rfl,rfl,hF⟩
      ·obtain rfl:b5=false:=Z4 hr;obtain rfl:b3=true:=ZX hr 3;obtain⟨ad,k,V2,rfl,hst,hF2⟩:=hF.st6 (fun V9 hb=>hF.p.but hb HG.out.2.2.2.1 HG8.out.1 FP.out.1 HG.out.2.2.2.2.2.1) HG.out.1 HG.out.2.2.2.2.2.1 HG.out.2.2.1;refine Zd rfl (by kernel_rfl) rfl 30 (.tmp 6) (.tmp 59) rfl (Z5 g6 0) (.agg (ZU ad DL.length k (c+t.Y8))) (by kernel_rfl) (by kernel_rfl) _ hst ?_;exact⟨_,_,_,_,_,_,_,_,rfl,rfl,hF2⟩
      ·obtain rfl:b6=false:=Z4 hr;obtain rfl:b4=true:=ZX hr 4;obtain⟨V2,hst,hF2⟩:=hF.st7 (fun V9 hb=>hF.p.but hb HG.out.2.2.2.2.1 HG8.out.2.1 FP.out.2 HG.out.2.2.2.2.2.2) HG.out.2.1 HG.out.2.2.2.2.2.2 (fun e=>HG.out.2.2.1 e.symm);refine Zd rfl (by kernel_rfl) rfl 47 (.tmp 7) (.tmp 60) rfl (Z5 g7 0) (.agg (ZB ⟨fx,t.snd,t.sq,t.Zu,pr⟩)) (by kernel_rfl) (by kernel_rfl) _ hst ?_;exact⟨_,_,_,_,_,_,_,_,rfl,rfl,hF2⟩
     ·intro Zh V hJ;obtain⟨b0,b1,b2,b3,b4,b5,b6,x59,he,rfl,hF⟩:=hJ;have he:(#[true,true,true,true,true,true,true]:Array Bool)=#[b0,b1,b2,b3,b4,b5,b6]:=he;simp only[Array.mk.injEq,List.cons.injEq,and_true] at he;obtain⟨rfl,rfl,rfl,rfl,rfl,rfl,rfl⟩:=he;simp only[cond_true];obtain⟨ad,k,rfl,hk,hrow⟩:=hF.row rfl;obtain⟨a2,k2,e2,hx6⟩:=hF.y6 rfl;simp only[Value.agg.injEq,Array.mk.injEq,List.cons.injEq,Value.slice.injEq,true_and,and_true] at e2;obtain⟨rfl,rfl⟩:=e2;obtain⟨a9,c9,e9,h9,-⟩:=hrow.cs;simp only[Value.slice.injEq,true_and] at e9;obtain⟨rfl,rfl⟩:=e9;subst hDL;subst hfx;go_wp2_with fail;exact bodyPost_ret (WR rfl (by kernel_rfl) (ZP hx6) (by kernel_rfl) (XR hF.x7)) rfl ⟨ad,k,rfl,h9,hk,.inr fun x hx=>Nat.le_trans HB0.out.size (JM hrow x hx),hF.bel⟩
  ·go_upto_region 4 with fail;refine wl<|ZV (Z8 D.2)<|ZN (Za rfl D.2 0 (decide_eq_false hd))<|wn ?_;simp only[pu];obtain⟨hsA,hYA⟩:=ZF (a':=la) (n':=A.length) (k':=lk) (c':=c) XP.out;have hYB:=PX.out.but (But.setRow (g:=g6) V3 (ZU la A.length lk c)) HG.out.2.2.1;obtain⟨hsB,hYC⟩:=XB (q:=YQ D.2) hYB;have hYD:=hYA.but (But.setRow (g:=g7) (V3.setRow g6 (ZU la A.length lk c)) (ZB (YQ D.2))) (fun e=>HG.out.2.2.1 e.symm);have hbZ:=ZT (ZT SY.out HG.out.1 (ZU la A.length lk c)) HG.out.2.1 (ZB (YQ D.2));have hLZ:=HLW.out.below hbZ;obtain rfl:=H2.out rfl hd;have HE:Hid (kY w la A ((A,c),YQ D.2) (.returned (.tuple #[.agg (ZU la A.length lk c),.agg (ZB (YQ D.2))])) ((V3.setRow g6 (ZU la A.length lk c)).setRow g7 (ZB (YQ D.2)))):=Z9 ⟨la,lk,rfl,hLZ,hlk,.inl ⟨rfl,rfl⟩,hbZ⟩;generalize (V3.setRow g6 (ZU la A.length lk c)).setRow g7 (ZB (YQ D.2))=VZ at *
   generalize V3.setRow g6 (ZU la A.length lk c)=VY at *
   clear hYA hYB hbZ hLZ;go_upto_region 5 with fail;refine wl<|ZK rfl ⟨g3,0,none⟩ (.agg (ZU la A.length lk c)) (ZP X7.out)<|ZG (Z8 D.2) (.agg (ZB (YQ D.2)))<|Zr rfl (hsA)<|Zr rfl (hsB)<|wn ?_;simp only[pu];go_wp2_with fail;exact bodyPost_ret (WR rfl (by kernel_rfl) (ZP hYD) (by kernel_rfl) (XR hYC)) rfl HE.out
 ·refine ZN (Za rfl ve 0 (decide_eq_false hv))<|wn ?_;simp only[pu];have SY:=Z9 HB1.out;obtain⟨hsA,hYA⟩:=ZF (a':=la) (n':=A.length) (k':=lk) (c':=c) XP.out;have hYB:=PX.out.but (But.setRow (g:=g6) W1 (ZU la A.length lk c)) HG.out.2.2.1;obtain⟨hsB,hYC⟩:=XB (q:=YQ 1) hYB;have hYD:=hYA.but (But.setRow (g:=g7) (W1.setRow g6 (ZU la A.length lk c)) (ZB (YQ 1))) (fun e=>HG.out.2.2.1 e.symm);have hbZ:=ZT (ZT SY.out HG.out.1 (ZU la A.length lk c)) HG.out.2.1 (ZB (YQ 1));have hLZ:=HLW.out.below hbZ;obtain rfl:=H1.out hv;have HE:Hid (kY w la A ((A,c),YQ 1) (.returned (.tuple #[.agg (ZU la A.length lk c),.agg (ZB (YQ 1))])) ((W1.setRow g6 (ZU la A.length lk c)).setRow g7 (ZB (YQ 1)))):=Z9 ⟨la,lk,rfl,hLZ,hlk,.inl ⟨rfl,rfl⟩,hbZ⟩;generalize (W1.setRow g6 (ZU la A.length lk c)).setRow g7 (ZB (YQ 1))=VZ at *
  generalize W1.setRow g6 (ZU la A.length lk c)=VY at *
  clear hYA hYB hbZ hLZ;go_upto_region 2 with fail;refine wl<|ZK rfl ⟨g3,0,none⟩ (.agg (ZU la A.length lk c)) (ZP X7.out)<|ZV (.agg (ZB (YQ 1)))<|Zr rfl (hsA)<|Zr rfl (hsB)<|wn ?_;simp only[pu];go_wp2_with fail;exact bodyPost_ret (WR rfl (by kernel_rfl) (ZP hYD) (by kernel_rfl) (XR hYC)) rfl HE.out
end Go.Proofs.YtfpnnmeblefkkaaGreatDoor.Lg
namespace Go.Proofs.YtfpnnmeblefkkaaGreatDoor.Lg
open Mo (YO YX Yo Yx)
open Go.RowKit
theorem lq:(Tryz.prog.info? 5).map (fun i=>(i.zero,i.size,i.bytes))=some (some (.int .u8 0),1,1):=by kernel_rfl
theorem an1 (w:World):(Instr.buildSlice 54 0 #[]).run Tryz.prog w=.ok (.slice (some ⟨w.heap.size,0,none⟩) 0 0) (w.alloc (.cells #[] 5)):=Qw Tryz.underlying54 lq w
theorem dB (w:World):Own (w.alloc (.cells #[] 5)) w.heap.size (.slice (some ⟨w.heap.size,0,none⟩) 0 0) []:=Qx w 5 1
theorem dD {w:World}{B:Nat}{v:Value}{A M:List Int}(h:Own w B v A)(hB:B<=w.heap.size)(pa:Option Addr)(cp:Nat)(hP:Sl w pa cp M)(hl:A.length+M.length<=100000000) :
  ∃ a c V2,(Builtin.append_ #[54,54] 54 #[v,.slice pa M.length cp]).run Tryz.prog w=.ok (.slice a (A++M).length c) V2/\Own V2 B (.slice a (A++M).length c) (A++M)/\Below B w V2:=by
 obtain⟨i0,hi,hz0,hz1,hz2⟩:=info_parts lq;have fin:∀ v2 V2,(Builtin.append_ #[54,54] 54 #[v,.slice pa M.length cp]).run Tryz.prog w=.ok v2 V2->Own V2 B v2 (A++M)->Below B w V2->∃ a c V2,(Builtin.append_ #[54,54] 54 #[v,.slice pa M.length cp]).run Tryz.prog w=.ok (.slice a (A++M).length c) V2/\Own V2 B (.slice a (A++M).length c) (A++M)/\Below B w V2:=fun v2 V2 hr ho hb=>by
  obtain⟨a,c,rfl,-,-⟩:=ho.sl;exact⟨a,c,V2,hr,ho,hb⟩
 cases pa with
 | none=>
  have hM:M=[]:=by
   rcases hP with⟨-,-,e⟩ | ⟨x,e,-⟩
   ·exact e
   ·cases e
  subst hM;refine fin v w ?_ (by rw[List.append_nil]; exact h) (Below.refl _ _);unfold Own at h;rcases h.2 with⟨rfl,h0⟩ | ⟨g,cap,cur,rfl,_,_,hnc,_⟩
  ·simp[Builtin.append_,run_underlying Tryz.underlying54,sizeOf,typeInfo,hi,Builtin.lenOf,Builtin.firstCells]
  ·simp[Builtin.append_,run_underlying Tryz.underlying54,sizeOf,typeInfo,hi,Builtin.lenOf,Builtin.firstCells,hnc,storeCells]
 | some x=>
  have hx:∀ j u,(M.map (Value.int .u8))[j]?=some u->w.cell? (x.add j)=some u:=fun j u hu=>by
   rcases hP with⟨e,-,-⟩ | ⟨y,e,hy⟩
   ·cases e
   ·cases e;have hj:j<M.length:=by
     have:=(List.getElem?_eq_some_iff.1 hu).1;simpa using this
    obtain⟨b,off,rfl,hc⟩:=hy j hj;rw[Addr.add_mid,hc];rw[List.getElem?_map,List.getElem?_eq_getElem hj] at hu;rw[List.getD_eq_getElem?_getD,List.getElem?_eq_getElem hj];exact hu
  obtain⟨v2,V2,hr,hO2,hg,-,-⟩:=run_append_own_at (P:=Tryz.prog) w B 54 54 5 i0 _ 1 1 Tryz.underlying54 hi hz0 hz1 hz2 (by kernel_rfl) (by omega) v A.length (A.map (Value.int .u8)) h x M.length cp (M.map (Value.int .u8)) (by rw[List.length_map,Nat.mul_one]) hx (fun u hu=>by obtain⟨y,-,rfl⟩:=List.mem_map.1 hu; rfl) (by unfold maxLen; omega) (by omega) hB;refine fin v2 V2 hr (by unfold Own; rw[List.map_append,List.length_append]; exact hO2) ((Below.refl _ w).grown hg hB fun j hj=>(World.ownsRow.lt h j hj).1)
theorem dA {ρ:Operand->Value}{o:Oper}{x:Operand}(ho:o.op=.convert 3 5 x)(a:Nat)(h:a<=255)(hx:ρ x=Z8 a)(w:World):(execOp ρ o).run Tryz.prog w=.ok (.value (.int .u8 a)) w:=by
 have hw:IntKind.u8.wrap (a:Int)=a:=by rw[IntKind.wrap_u8]; omega
 unfold execOp;simp only[ho,hx];go_simp
theorem X6 {w:World}{g c k:Nat}{a:Option Addr}{L:List Int}(h:NS w g a c L k)(hl:L.length<=100000)(hk:k<=100000)(n:Int)(hn:0<n)(hn2:n<=1000000):∃ v:Nat,(v:Int)<n/\Calls Tryz.prog 35 #[Z5 g 0,Z8 n] w fun e w'=>e=.returned (Z8 v)/\NS w' g a c L (k+1)/\But g w w':=by
 obtain⟨N,hN,h3⟩:=h;obtain⟨v,hv,hlt⟩:=Ux L N n hn;exact⟨v,hlt,(Xq h3 hl (by omega) n hn hn2 hv).mono fun e w' q=>⟨q.1,OE.ns q.2.1 (by omega),q.2.2⟩⟩
theorem lu {w w':World}{g B:Nat}{v:Value}{L:List Int}(h:Own w B v L)(hb:But g w w')(hg:g<B):Own w' B v L:=Zq h hb hg
structure Rw (w:World)(B:Nat)(a:Option Addr)(c:Nat)(R:List Int):Prop where
 sl:Sl w a c R
 le:R.length<=c
 b:∀ y,y∈R->W8 y
 n:R.length<=4096
 o:R≠[]->∀ x,a=some x->B<=x.block
theorem Rw.below {w w':World}{B:Nat}{a:Option Addr}{c:Nat}{R:List Int}(h:Rw w B a c R)(hb:Below w.heap.size w w'):Rw w' B a c R:=⟨ZL h.sl hb,h.le,h.b,h.n,h.o⟩
theorem Rw.base {w:World}{B B2:Nat}{a:Option Addr}{c:Nat}{R:List Int}(h:Rw w B2 a c R)(hB:B<=B2):Rw w B a c R:=⟨h.sl,h.le,h.b,h.n,fun e x hx=>Nat.le_trans hB (h.o e x hx)⟩
theorem Rw.but {w w':World}{B g:Nat}{a:Option Addr}{c:Nat}{R:List Int}(h:Rw w B a c R)(hb:But g w w')(hg:g<B):Rw w' B a c R:=⟨by
 rcases h.sl with h1 | ⟨x,rfl,hx⟩
 ·exact .inl h1
 ·refine .inr ⟨x,rfl,fun k hk=>?_⟩;obtain⟨b,off,rfl,hc⟩:=hx k hk;have hne:R≠[]:=fun e=>by rw[e] at hk; simp at hk
  have hB:=h.o hne _ rfl;have hlt:=World.block_lt_of_cell? w (⟨b,off+k,none⟩:Addr) hc;refine⟨b,off,rfl,?_⟩;rw[<- hc];unfold World.cell?;rw[hb.2 b hlt (by have:B<=b:=hB; omega)],h.le,h.b,h.n,h.o⟩
theorem Rw.of {w:World}{B:Nat}{v:Value}{R:List Int}(h:Own w B v R)(hb:∀ y,y∈R->W8 y)(hn:R.length<=4096):∃ a c,v=.slice a R.length c/\Rw w B a c R:=by
 obtain⟨a,c,rfl,h1,h2⟩:=h.sl;refine⟨a,c,rfl,h1,h2,hb,hn,fun hne x hx=>?_⟩;rcases h.2 with⟨e,-⟩ | ⟨g,cap,cur,e,hB,-⟩
 ·simp only[Value.slice.injEq] at e; rw[e.1] at hx; cases hx
 ·simp only[Value.slice.injEq] at e; rw[e.1] at hx; cases hx; exact hB
theorem Rw.take {w:World}{B:Nat}{a:Option Addr}{c:Nat}{R:List Int}(h:Rw w B a c R)(k:Nat):Rw w B a c (R.take k):=
 ⟨F6 h.sl k,by rw[List.length_take]; have:=h.le; omega,fun y hy=>h.b y (List.mem_of_mem_take hy),by rw[List.length_take]; have:=h.n; omega,fun hne=>h.o fun e=>hne (by rw[e,List.take_nil])⟩
theorem am9 {t:Y0}(h:TxB t):(∀ y,y∈(Ri t).1->W8 y)/\(Ri t).1.length<=4096:=by
 unfold Ri
 split
 ·exact⟨fun y hy=>(by cases hy),by simp⟩
 ·rename_i hv
  have hv:XA t=0:=by omega
  split
  ·exact⟨fun y hy=>(by cases hy),by simp⟩
  ·rename_i hl
   exact⟨fun y hy=>Tm (val_ok hv h.sq h.Zu h.Y8 h.am).1.vf y hy,by show(form t).length<=4096; omega⟩
theorem an2 {w:World}{B g n c i:Nat}{L:List Int}(h:Own w B (.slice (some ⟨g,0,none⟩) n c) L)(hn:n=L.length)(hi:i<L.length)(x:Int) :
  ∃ V2,(Instr.storeAt 5 (Z5 g (0+i)) (.int .u8 x)).run Tryz.prog w=.ok () V2/\Own V2 B (.slice (some ⟨g,0,none⟩) n c) (L.set i x)/\But g w V2:=by
 subst hn;obtain⟨cur,hcur,hz,-,-⟩:=L8 (e:=5) (s:=1) h;have hst:=Wp (ty:=5) (i:=0+i) (v:=.int .u8 x) hcur (by omega) rfl (by kernel_rfl);refine⟨_,hst,?_,But.setCell _ _ _⟩;have ho:=yA h (0+i) (.int .u8 x) (by rw[List.length_map]; omega);unfold Own;rw[List.length_set,List.map_set,Nat.zero_add] at *
 exact ho
theorem But.SI {g q:Nat}{w a b:World}(h:But g w a)(hb:But q a b)(h1:w.heap.size<=q)(hg:g<=q):But g w b:=⟨h.1.trans (hb.1.mono hg),fun k hk hn=>(hb.2 k (Nat.lt_of_lt_of_le hk h.1.size) (by omega)).trans (h.2 k hk hn)⟩
def aP0 (w:World)(g:Nat)(a:Option Addr)(c:Nat)(L:List Int)(k:Nat)(e:Ending)(w':World):Prop:=∃ b d R,e=.returned (.slice b (List.length R) d)/\Rw w' w.heap.size b d R/\NS w' g a c L (k+45)/\But g w w'
end Go.Proofs.YtfpnnmeblefkkaaGreatDoor.Lg
namespace Go.Proofs.YtfpnnmeblefkkaaGreatDoor.Lg
attribute [local irreducible] wpList wpQuiet
open Mo (YO YX Yo Yx)
open Go.RowKit
theorem lF {w:World}{g c k rc:Nat}{a ra:Option Addr}{L:List Int}{A:List Ac}{co p:Int}(h:NS w g a c L k)(hl:L.length<=100000)(hk:k<=9000)(hrow:Cs w ra (acc A))(hrg:acc A≠[]->∀ x,ra=some x->x.block≠g)(hA:∀ x,x∈A->AcQ x)(hA4:A.length<=1000) :
  Calls Tryz.prog 37 #[Z5 g 0,.agg (ZU ra A.length rc co),Z7 p] w (aP0 w g a c L k):=by
 have hb0:Below w.heap.size w (w.alloc (.cells (ZU ra A.length rc co) 30)):=(Below.refl _ w).alloc (Nat.le_refl _) _;have hX0:Bx (w.alloc (.cells (ZU ra A.length rc co) 30)) w.heap.size (ZU ra A.length rc co) 30:=heap_alloc_last w _;have Xi:=Z9 h.lt;have HAB:=Z9 (fun h1 x hx=>h.ab h1 x hx);have CT:=av7 (p:=p) (co:=co) (rc:=rc) (h.below hb0) hl (by omega) (hrow.below hb0) hrg hA hA4;go_enter Tryz.func37,Tryz.ntmps37;go_upto_region 1 with fail;change Code.wp _ _ _ _ (w.alloc (.cells (ZU ra A.length rc co) 30));generalize w.alloc (.cells (ZU ra A.length rc co) 30)=W at *
 obtain⟨g4,hg4⟩:=ZR w.heap.size;have HB0:=Z9 hb0;rw[hg4] at hX0;simp only[hg4];clear hb0 hg4 hrow hrg hA h;refine wl<|ZV (Z5 g 0)<|ZK rfl ⟨g4,0,none⟩ (.agg (ZU ra A.length rc co)) (ZP hX0)<|ZV (Z7 p) <|
  XZ (fun v w'=>∃ x a2 c2,v=.agg (ZA x a2 c2)/\Yv w' W.heap.size (.slice a2 x.tr.length c2) x.tr/\GQ x/\NS w' g a c L (k+40)/\But g W w') (CT.mono fun e w' q=>by obtain⟨x,a2,c2,h1,h2,h3,-,-,h4,h5⟩:=q; exact⟨_,h1,x,a2,c2,rfl,h2,h3,h4,h5⟩) (fun vv W1 hq=>?_)
 obtain⟨x,a2,c2,rfl,hrt,hgq,hns,hbt⟩:=hq;obtain⟨a9,c9,e9,hcs,-⟩:=YH hrt;simp only[Value.slice.injEq,true_and] at e9;obtain⟨rfl,rfl⟩:=e9;have CE:=Lj x a2 c2 W1 hcs hgq.b;obtain⟨hby,hen⟩:=am9 hgq.b;obtain⟨R,hR⟩:=ZR ((Ri x).1);obtain⟨ee,hee⟩:=ZR ((Ri x).2);unfold ak1 at CE;rw[hR] at hby hen;rw[hR,hee] at CE;clear CT hX0 hR hee hrt hcs hgq;refine XZ (fun v w'=>∃ b d,v=.tuple #[.slice b R.length d,Z8 ee]/\Own w' W1.heap.size (.slice b R.length d) R/\Below W1.heap.size W1 w') (CE.mono fun e w' q=>by obtain⟨u,h1,h2,h3⟩:=q; obtain⟨b,d,rfl,-,-⟩:=h2.sl; exact⟨_,h1,b,d,rfl,h2,h3⟩) (fun vv W2 hq=>?_);obtain⟨b,d,rfl,hown,hb2⟩:=hq;refine Rq (.tuple #[.slice b R.length d,Z8 ee]) (.slice b R.length d) (Z8 ee) (.slice b R.length d) (Z8 ee)<|wn ?_;simp only[pu];obtain⟨a9,c9,e9,hrw⟩:=Rw.of hown hby hen;simp only[Value.slice.injEq,true_and] at e9;obtain⟨rfl,rfl⟩:=e9;have hgw:=Xi.out;have h0W:=HB0.out.size;have hW1:=hbt.1.size;have OX:Hid (But g w W2):=Z9 ((But.of_below HB0.out (Nat.le_of_lt hgw)).trans (hbt.more (hb2.mono hbt.1.size) (by omega)));have Uy:=(hns.mono (by omega:k+40<=k+41)).below hb2;have hrw2:Rw W2 w.heap.size b d R:=hrw.base (by omega);have hsz2:w.heap.size<=W2.heap.size:=by have:=hb2.size; omega
 clear CE hown hb2 hns hbt hrw hW1 h0W HB0;by_cases h0:0<R.length
 ·obtain⟨v12,aM3,CN⟩:=X6 Uy hl (by omega) 12 (by decide) (by decide);go_upto_region 2 with fail;refine wl<|ZG (.slice b R.length d) (Z8 R.length)<|ZN (Zo rfl R.length 0 dT)<|ZG ZW (Z5 g 0) <|
   YW (Z8 v12) (fun w'=>NS w' g a c L (k+41+1)/\But g W2 w') CN (fun W3 hq=>?_)
  obtain⟨lD,wM⟩:=hq;simp only[pu];have hrw3:=hrw2.but wM Xi.out;have um:=Z9 (OX.out.trans wM);have hsz3:=Nat.le_trans hsz2 wM.1.size;clear CN Uy hrw2 wM OX hsz2;by_cases h12:v12=0
  ·subst h12;refine ZN (ZI rfl (0:Nat) 0 (decide_eq_true rfl))<|ZV ZW<|wn ?_;simp only[pu];obtain⟨k1,hk1,CN⟩:=X6 lD hl (by omega) R.length (by omega) (by have:=hrw3.n; omega);have hk1:k1<R.length:=(by omega);go_upto_region 3 with fail;refine wl<|YG (Z5 g 0) (.slice b R.length d) (Z8 R.length)<|YW (Z8 k1) (fun w'=>NS w' g a c L (k+41+1+1)/\But g W3 w') CN (fun W4 hq=>?_);obtain⟨ae0,wL⟩:=hq;refine ZV (Z8 k1)<|wn ?_;simp only[pu];have aC8:=hrw3.but wL Xi.out;have aC9:=Z9 (um.out.trans wL);have an0:=Nat.le_trans hsz3 wL.1.size;obtain⟨v2,hv2,CN2⟩:=X6 ae0 hl (by omega) 2 (by decide) (by decide);clear CN lD hrw3 wL um hsz3;go_upto_region 4 with fail;refine wl<|ZV (Z5 g 0)<|YW (Z8 v2) (fun w'=>NS w' g a c L (k+41+1+1+1)/\But g W4 w') CN2 (fun W5 hq=>?_);obtain⟨ae1,wK⟩:=hq;simp only[pu];have uj:=aC8.but wK Xi.out;have lC:=Z9 (aC9.out.trans wK);have hsz5:=Nat.le_trans an0 wK.1.size;clear CN2 ae0 aC8 wK aC9 an0;by_cases h2:v2=0
   ·subst h2;refine ZN (ZI rfl (0:Nat) 0 (decide_eq_true rfl))<|wn ?_;simp only[pu];have hcut:=DK .i64 b R.length d k1 W5 (by have:=uj.le; omega);have htk:(R.take k1).length=k1:=(by rw[List.length_take]; omega);go_upto_region 5 with fail;refine wl<|ZG (.slice b R.length d) (Z8 k1) ?_;refine QN (by kernel_rfl) (some 35) rfl 54 (.tmp 33) (.tmp 34) rfl (.slice b R.length d) (Z8 k1) (.slice b k1 d) (by kernel_rfl) (by kernel_rfl) hcut ?_;refine ZV (.slice b k1 d)<|wn ?_;simp only[pu];go_wp2_with fail;go_ret;exact⟨b,d,R.take k1,by rw[htk]; rfl,uj.take k1,ae1.mono (by omega),lC.out⟩
   ·refine ZN (ZI rfl v2 0 dF)<|wn ?_;simp only[pu];have hnl:=an1 W5;have hb6:Below W5.heap.size W5 (W5.alloc (.cells #[] 5)):=(Below.refl _ W5).alloc (Nat.le_refl _) _;obtain⟨a7,c7,W7,hap,ho7,hb7⟩:=dD (dB W5) hb6.size b d (ZL uj.sl hb6) (by have:=uj.n; simp only[List.length_nil]; omega);rw[List.nil_append] at hap ho7;have hb8:=hb6.trans hb7;obtain⟨q,cur,e7,hq7⟩:∃ q cur,a7=some ⟨q,0,none⟩/\W5.heap.size<=q:=by
     rcases ho7.2 with⟨e,h9⟩ | ⟨q,cap,cur,e,hB,-⟩
     ·omega
     ·simp only[Value.slice.injEq] at e;exact⟨q,cur,e.1,hB⟩
    subst e7;obtain⟨v8,hv8,CN3⟩:=X6 (ae1.below hb8) hl (by omega) 256 (by decide) (by decide);go_upto_region 6 with fail;apply wp_region_lit;refine Zw (by kernel_rfl) (some 36) rfl 54 0 #[] rfl #[] (by kernel_rfl) (.slice (some ⟨W5.heap.size,0,none⟩) 0 0) _ hnl ?_;refine ZV (.slice b R.length d) ?_;refine Zk rfl (some 38) rfl 54 rfl (.tmp 36) (.tmp 37) 54 rfl (.slice (some ⟨W5.heap.size,0,none⟩) 0 0) (.slice b R.length d) (.slice (some ⟨q,0,none⟩) R.length c7) W7 (by kernel_rfl) (by kernel_rfl) hap ?_;refine ZV (.slice (some ⟨q,0,none⟩) R.length c7)<|wn ?_;simp only[pu];go_upto_region 7 with fail;refine wl<|YG (.slice (some ⟨q,0,none⟩) R.length c7) (Z8 k1) (Z5 g 0)<|YW (Z8 v8) (fun w'=>NS w' g a c L (k+41+1+1+1+1)/\But g W7 w') CN3 (fun W8 hq=>?_);obtain⟨aD0,ae2⟩:=hq;simp only[pu];have ho8:=lu ho7 ae2 (by have:=Xi.out; omega);obtain⟨W9,VJ,ho9,Xg⟩:=an2 ho8 rfl hk1 v8;refine YN (.int .u8 v8) (dA rfl v8 (by omega) (by kernel_rfl) _)<|YN (Z5 q (0+k1)) (nI q 0 R.length c7 k1 hk1 _ _ _ rfl (by kernel_rfl) (by kernel_rfl))<|Zr rfl (VJ)<|wn ?_;simp only[pu];have hgq:g<q:=(by have:=Xi.out; omega);have hnn:=HAB.out;obtain⟨a10,c10,e10,aP1⟩:=Rw.of (R:=R.set k1 v8) (by unfold Own at *; rw[List.length_set] at *; exact ho9) (fun y hy=>(List.mem_or_eq_of_mem_set hy).elim (uj.b y) (fun e=>by rw[e]; exact⟨by omega,by omega⟩)) (by rw[List.length_set]; exact uj.n);simp only[Value.slice.injEq,true_and] at e10;obtain⟨rfl,e11,rfl⟩:=e10;go_wp2_with fail;go_ret;exact⟨_,_,R.set k1 v8,by rw[List.length_set]; rfl,aP1.base hsz5,(aD0.but Xg hgq (fun h5 x hx=>by have:=hnn h5 x hx; omega)).mono (by omega),But.SI ((lC.out.more (hb8.mono hsz5) (Nat.le_of_lt Xi.out)).trans ae2) Xg (Nat.le_trans hsz5 hq7) (Nat.le_of_lt hgq)⟩
  ·refine ZN (ZI rfl v12 0 dF)<|ZV ZY<|wn ?_;simp only[pu];go_upto_region 8 with fail;refine wl<|ZG (.slice b R.length d) (.slice b R.length d)<|wn ?_;simp only[pu];go_wp2_with fail;go_ret;exact⟨b,d,R,rfl,hrw3,lD.mono (by omega),um.out⟩
 ·go_upto_region 2 with fail;refine wl<|ZG (.slice b R.length d) (Z8 R.length)<|ZN (Zo rfl R.length 0 dF)<|Rq ZY undef undef undef ZY<|wn ?_;simp only[pu];go_upto_region 8 with fail;refine wl<|ZG (.slice b R.length d) (.slice b R.length d)<|wn ?_;simp only[pu];go_wp2_with fail;go_ret;exact⟨b,d,R,rfl,hrw2,Uy.mono (by omega),OX.out⟩
end Go.Proofs.YtfpnnmeblefkkaaGreatDoor.Lg
namespace Go.Proofs.YtfpnnmeblefkkaaGreatDoor.Lg
open Mo (YO YX Yo Yx)
open Go.RowKit
theorem JQ:∀ {M:List Tf},Sz M=0->∀ x,x∈M->isName (nums x.1)=true
 | [],_,x,hx=>by cases hx
 | y::r,h,x,hx=>by
  unfold Sz at h
  split at h
  ·omega
  ·rename_i h1
   split at h
   ·omega
   ·rcases List.mem_cons.1 hx with rfl | hx
    ·simpa using h1
    ·exact JQ h x hx
theorem JO {t:Y0}(h:XA t=0):∀ x,x∈t.tr->isName (nums x.1)=true:=by
 unfold XA at h
 split at h
 ·omega
 split at h
 ·omega
 split at h
 ·omega
 split at h
 ·omega
 exact JQ h
theorem dI {A:List Ac}(h:Jq A)(x:Tf):Jq (Vs A x):=OL h
theorem dH {A:List Ac}(h:Bq A){x:Tf}(hx:isName (nums x.1)=true):Bq (Vs A x):=OJ h (by show isName (nums (Vt A x.1).1)=true; rw[I4]; exact hx)
theorem wQ {A:List Ac}{c:Int}{t:Y0}(h:Jf A c t)(hs:Jq A)(hn:Bq A)(ht:∀ x,x∈t.tr->isName (nums x.1)=true):∀ j,j<=t.tr.length->Jq (PY A t j)/\Bq (PY A t j)
 | 0,_=>by
  obtain⟨h1,h2,h3⟩:=Vr h.g;refine⟨OL hs,OJ hn ?_⟩;show isName (nums (Zl A t.snd).1.1)=true;rw[h2];exact hn _ h1
 | j+1,hj=>by
  obtain⟨h1,h2⟩:=wQ h hs hn ht j (by omega);rw[Pv hj];exact⟨dI h1 _,dH h2 (ht _ (by rw[Vy hj]; exact List.getElem_mem hj))⟩
theorem dG {A:List Ac}{c:Int}{t:Y0}(h:Jf A c t)(hv:YE A c=0)(ht:∀ x,x∈t.tr->isName (nums x.1)=true)(hl:(Yb A t).length<=256):YE (Yb A t) (c+t.Y8)=0/\TM (Yb A t)/\W64 (c+t.Y8)/\(c+t.Y8)+tot (Zg (Yb A t))=c+tot (Zg A):=by
 obtain⟨v1,v2,v3,v4⟩:=Vx hv;have hg:=wP h;obtain⟨s1,s2⟩:=wQ h v2 v3 ht _ (Nat.le_refl _);have hs:=hg.s;have ha:=OU t;have he:(c+t.Y8)+tot (Zg (Yb A t))=c+tot (Zg A):=by omega
 refine⟨GR hl s1 s2 ?_,hg.w,h.cf,he⟩;refine decide_eq_true ?_;rw[Ya,he];exact h.tt
structure N7 (A:List Ac)(c:Int):Prop where
 v:YE A c=0
 w:TM A
 cw:W64 c
theorem N7.n {A:List Ac}{c:Int}(h:N7 A c):A.length<=256:=(Vx h.v).1
theorem lG {s:ByteArray}(h:isName (nums s)=true):s.size<=20:=by
 unfold isName at h;rw[Zi] at h;simp only[Bool.and_eq_true,decide_eq_true_eq] at h;omega
theorem N7.q {A:List Ac}{c:Int}(h:N7 A c):∀ x,x∈A->AcQ x:=fun x hx=>by
 obtain⟨i,hi,rfl⟩:=List.getElem_of_mem hx;have h1:=(Vx h.v).2.2.1 i hi;have h2:=h.w i hi;rw[XL hi] at h1 h2;exact⟨⟨h1,lG h1⟩,h2⟩
theorem N7.z {A:List Ac}{c:Int}(h:N7 A c):∀ x,x∈A->x.1.size<=140737488355328:=fun x hx=>Nat.le_trans (h.q x hx).1.2 (by decide)
theorem N7.nil:N7 [] 0:=⟨by decide,Ue,WO⟩
theorem N7.tx {A:List Ac}{c price:Int}{L:List Int}(h:N7 A c)(hp:W64 price)(h8:∀ y,y∈L->W8 y):N7 (Uh A c price L).1.1 (Uh A c price L).1.2:=by
 by_cases hd:(Zb L).2=0
 ·by_cases hf:Yc A price (Zb L).1 L.length=0
  ·have hq:=am7 h8 h.v h.w h.cw hp hd;obtain⟨d1,d2⟩:=wO hq hf;obtain⟨d3,-,-,-⟩:=zW (t:=(Zb L).1) (fun x hx=>h8 x hx) (by rw[<- hd]);obtain⟨e1,e2,e3,-⟩:=dG d1 h.v (JO d3) d2;rw[aC6 h.v hd hf];exact⟨e1,e2,e3⟩
  ·rw[aC7 h.v hd hf]; exact h
 ·rw[am8 h.v hd]; exact h
def has (A:List Ac)(s:ByteArray):Prop:=∃ x,x∈A/\x.1=s
structure Hu (A:List Ac)(c:Int):Prop where
 n:A.length<=4398046511104
 cw:W64 c
 w:TM A
 z:∀ x,x∈A->x.1.size<=140737488355328
theorem N7.d {A:List Ac}{c:Int}(h:N7 A c):Hu A c:=⟨by have:=h.n; omega,h.cw,h.w,h.z⟩
theorem Hu.tx {A:List Ac}{c p:Int}{L:List Int}(h:Hu A c)(hp:W64 p)(h8:∀ y,y∈L->W8 y):Hu (Uh A c p L).1.1 (Uh A c p L).1.2:=by
 by_cases hv:YE A c=0
 ·exact((N7.mk hv h.w h.cw).tx hp h8).d
 ·rw[am4 hv]; exact h
def Ze (A:List Ac)(c p:Int)(Ls:List (List Int))(j:Nat):List Ac×Int:=(Ls.take j).foldl (fun s L=>(Uh s.1 s.2 p L).1) (A,c)
def Xk (A:List Ac)(c p:Int)(Ls:List (List Int))(j:Nat):XQ:=(Uh (Ze A c p Ls j).1 (Ze A c p Ls j).2 p (Ls.getD j [])).2
def Xl (A:List Ac)(c p:Int)(Ls:List (List Int))(j:Nat):List XQ:=(List.range j).map (Xk A c p Ls)
theorem wo (A:List Ac)(c p:Int)(Ls:List (List Int)):Ze A c p Ls 0=(A,c):=rfl
theorem VQ {A:List Ac}{c p:Int}{Ls:List (List Int)}{j:Nat}(h:j<Ls.length):Ze A c p Ls (j+1)=(Uh (Ze A c p Ls j).1 (Ze A c p Ls j).2 p (Ls.getD j [])).1:=by
 unfold Ze;rw[List.take_succ_eq_append_getElem h,List.foldl_append,List.getD_eq_getElem?_getD,List.getElem?_eq_getElem h];rfl
theorem WL (A:List Ac)(c p:Int)(Ls:List (List Int))(j:Nat):Xl A c p Ls (j+1)=Xl A c p Ls j++[Xk A c p Ls j]:=by
 unfold Xl;rw[List.range_succ,List.map_append];rfl
theorem Ut (A:List Ac)(c p:Int)(Ls:List (List Int))(j:Nat):(Xl A c p Ls j).length=j:=by unfold Xl; rw[List.length_map,List.length_range]
theorem Hu.run {A:List Ac}{c p:Int}{Ls:List (List Int)}(h:Hu A c)(hp:W64 p)(h8:∀ L,L∈Ls->∀ y,y∈L->W8 y):∀ j,j<=Ls.length->Hu (Ze A c p Ls j).1 (Ze A c p Ls j).2
 | 0,_=>h
 | j+1,hj=>by
  rw[VQ hj];refine(Hu.run h hp h8 j (by omega)).tx hp (h8 _ ?_);rw[List.getD_eq_getElem?_getD,List.getElem?_eq_getElem hj];exact List.getElem_mem hj
theorem wS (A:List Ac)(c p:Int)(X Y:List (List Int))(j:Nat):Ze A c p (X++Y) (X.length+j)=Ze (Ze A c p X X.length).1 (Ze A c p X X.length).2 p Y j:=by
 unfold Ze;rw[List.take_length_add_append,List.foldl_append,List.take_length]
theorem dL (A:List Ac)(c p:Int)(X Y:List (List Int)){j:Nat}(h:j<=X.length):Ze A c p (X++Y) j=Ze A c p X j:=by
 unfold Ze;rw[List.take_append_of_le_length h]
theorem dK (A:List Ac)(c p:Int)(X Y:List (List Int)){j:Nat}(h:j<X.length):Xk A c p (X++Y) j=Xk A c p X j:=by
 unfold Xk;rw[dL A c p X Y (Nat.le_of_lt h),List.getD_eq_getElem?_getD,List.getD_eq_getElem?_getD,List.getElem?_append_left h]
theorem dJ (A:List Ac)(c p:Int)(X Y:List (List Int))(j:Nat):Xk A c p (X++Y) (X.length+j)=Xk (Ze A c p X X.length).1 (Ze A c p X X.length).2 p Y j:=by
 unfold Xk;rw[wS,List.getD_eq_getElem?_getD,List.getD_eq_getElem?_getD,List.getElem?_append_right (by omega),Nat.add_sub_cancel_left]
def zC (A:List Ac)(c p:Int)(Ls:List (List Int)):Nat:=(List.range Ls.length).findIdx (fun j=>decide ((Xk A c p Ls j).code≠0))
theorem am5 {A:List Ac}{c p:Int}{Ls:List (List Int)}{i:Nat}(hi:i<Ls.length)(hb:∀ j,j<i->(Xk A c p Ls j).code=0)(he:(Xk A c p Ls i).code≠0):zC A c p Ls=i:=by
 unfold zC;rw[List.findIdx_eq (by rw[List.length_range]; exact hi)];refine⟨by rw[List.getElem_range]; exact decide_eq_true he,fun j hj=>?_⟩;rw[List.getElem_range];exact decide_eq_false (fun q=>q (hb j hj))
theorem am6 {A:List Ac}{c p:Int}{Ls:List (List Int)}(hb:∀ j,j<Ls.length->(Xk A c p Ls j).code=0):zC A c p Ls=Ls.length:=by
 unfold zC;have h:(List.range Ls.length).findIdx (fun j=>decide ((Xk A c p Ls j).code≠0))=(List.range Ls.length).length:=by
  rw[List.findIdx_eq_length];intro j hj;rw[List.mem_range] at hj;exact decide_eq_false (fun q=>q (hb j hj))
 rw[h,List.length_range]
def U7 (A:List Ac)(c p:Int)(Ls:List (List Int)):(List Ac×Int)×Nat×Int:=if zC A c p Ls<Ls.length then (([],0),zC A c p Ls,(Xk A c p Ls (zC A c p Ls)).code) else (Ze A c p Ls Ls.length,0,0)
theorem MG {A:List Ac}{c p:Int}{Ls:List (List Int)}{i:Nat}(hi:i<Ls.length)(hb:∀ j,j<i->(Xk A c p Ls j).code=0)(he:(Xk A c p Ls i).code≠0):U7 A c p Ls=(([],0),i,(Xk A c p Ls i).code):=by
 have e:=am5 hi hb he;unfold U7;rw[e,if_pos hi]
theorem zB {A:List Ac}{c p:Int}{Ls:List (List Int)}(hb:∀ j,j<Ls.length->(Xk A c p Ls j).code=0):U7 A c p Ls=(Ze A c p Ls Ls.length,0,0):=by
 have e:=am6 hb;unfold U7;rw[e,if_neg (Nat.lt_irrefl _)]
def kU:Y0:=⟨UF,0,300,0,WU,[(UF,5)]⟩
def kA:List Ac:=[(UF,1000,0)]
def kB:List Ac:=[(UF,1000,1)]
theorem qR:XA kU=0:=by
 unfold XA kU;simp only[au4,ji,Sz]
 decide
theorem aL0:W64 5:=k_w 5 (by decide)
theorem af5:Bz kU:=(val_ok qR (k_w 0 (by decide)) (k_w 300 (by decide)) (k_w 0 (by decide)) (fun x hx=>by
 have e:x=(UF,5):=by simpa [kU] using hx
 rw[e]; exact aL0)).1
theorem yL:(form kU).length=17:=by decide +kernel
theorem au1:Ri kU=(form kU,0):=by unfold Ri; rw[if_neg (by rw[qR]; decide),if_neg (by rw[yL]; decide)]
theorem aa5:Zb (form kU)=(kU,0):=jh af5 qR (by rw[yL]; decide) (by decide)
theorem aL1:YE kA 0=0:=by decide +kernel
theorem aL2:YE kB 0=0:=by decide +kernel
theorem aL3:Yc kA 0 kU 17=0:=by decide +kernel
theorem au5:Yc kB 0 kU 17=14:=by decide +kernel
theorem aL4:Yb kA kU=kB:=by decide +kernel
theorem au6:YX kU.Y8 kU.Zu=0:=by decide +kernel
def r1:XQ:=⟨0,UF,0,300,0⟩
def r2:XQ:=⟨14,UF,0,300,0⟩
theorem aa6:Uh kA 0 0 (form kU)=((kB,0),r1):=by
 unfold Uh;rw[aa5,yL];simp only[au6];rw[if_neg (by rw[aL1]; decide),if_neg (by decide),if_neg (by rw[show((17:Nat):Int)=17 from rfl,aL3]; decide),aL4];rfl
theorem aa7:Uh kB 0 0 (form kU)=((kB,0),r2):=by
 unfold Uh;rw[aa5,yL];simp only[au6];rw[if_neg (by rw[aL2]; decide),if_neg (by decide),if_pos (by rw[show((17:Nat):Int)=17 from rfl,au5]; decide),show((17:Nat):Int)=17 from rfl,au5];rfl
theorem au7:Ze kA 0 0 [form kU,form kU] 1=(kB,0):=by rw[VQ (by decide),wo]; exact congrArg (·.1) aa6
theorem aK7:Ze kA 0 0 [form kU,form kU] 2=(kB,0):=by rw[VQ (by decide),au7]; exact congrArg (·.1) aa7
theorem au8:Xk kA 0 0 [form kU,form kU] 0=r1:=congrArg (·.2) aa6
theorem af8:Xk kA 0 0 [form kU,form kU] 1=r2:=by unfold Xk; rw[au7]; exact congrArg (·.2) aa7
theorem aK8:Xl kA 0 0 [form kU,form kU] 2=[r1,r2]:=by rw[WL,WL,au8,af8]; rfl
theorem aK9:U7 kA 0 0 [form kU,form kU]=(([],0),1,14):=by
 rw[MG (i:=1) (by decide) (fun j hj=>by obtain rfl:j=0:=(by omega); rw[au8]; rfl) (by rw[af8]; decide),af8];rfl
theorem at7:Hu kA 0:=⟨by decide,WO,Hl fun x hx=>by
 have e:x=(UF,1000,0):=by simpa [kA] using hx
 rw[e]; exact⟨k_w 1000 (by decide),k_w 0 (by decide)⟩,fun x hx=>by
 have e:x=(UF,1000,0):=by simpa [kA] using hx
 rw[e]; exact Nat.le_trans (show UF.size<=3 by decide) (by decide)⟩
end Go.Proofs.YtfpnnmeblefkkaaGreatDoor.Lg
