/-
  Texts joined.
-/
import Derived.Test.YtfpnnmeblefkkaaGreatDoorA19
set_option maxRecDepth 100000
set_option maxHeartbeats 8000000
set_option linter.unusedSimpArgs false
set_option linter.unusedVariables false
namespace Go.Proofs.YtfpnnmeblefkkaaGreatDoor.Lg
open Mo (YO YX Yo Yx)
open Go.RowKit
def P6 (A:List Ac)(t:Y0):Ac×Int:=if (Zl A t.snd).2=false then (WJ,13) else if (Zl A t.snd).1.2.2≠t.sq then (WJ,14) else if t.sq=18446744073709551615 then (WJ,6) else ((Zl A t.snd).1,0)
def JI (t:Y0)(price size:Int):Int:=if t.Zu<YO size t.tr.length then 15 else if Yo t.Zu price=false then 6 else if t.Y8<Yx t.Zu price then 16 else 0
def MJ (A:List Ac)(c:Int)(t:Y0):List Ac×Int×Int:=if VP t=false then ([],0,6) else if (Zl A t.snd).1.2.1<YP t then ([],0,17) else (VO A t,c,0)
def MK (A:List Ac)(c:Int)(t:Y0):List Ac×Int×Int:=if 256<(Yb A t).length then ([],0,3) else (Yb A t,c,0)
def SH (A:List Ac)(c price:Int)(t:Y0)(size:Int):List Ac×Int×Int:=if Yc A price t size=0 then (Yb A t,c+t.Y8,0) else ([],0,Yc A price t size)
theorem bI {A:List Ac}{c price size:Int}{t:Y0}(h:(P6 A t).2≠0):SH A c price t size=([],0,(P6 A t).2):=by
 have e:Yc A price t size=(P6 A t).2:=by
  revert h
  unfold P6 Yc;by_cases h1:(Zl A t.snd).2=false
  ·rw[if_pos h1,if_pos h1]; intro _; rfl
  rw[if_neg h1,if_neg h1];by_cases h2:(Zl A t.snd).1.2.2≠t.sq
  ·rw[if_pos h2,if_pos h2]; intro _; rfl
  rw[if_neg h2,if_neg h2];by_cases h3:t.sq=18446744073709551615
  ·rw[if_pos h3,if_pos h3]; intro _; rfl
  rw[if_neg h3,if_neg h3]; intro h4; exact absurd rfl h4
 unfold SH;rw[e,if_neg h]
theorem kF {A:List Ac}{t:Y0}(h:(P6 A t).2=0):(Zl A t.snd).2=true/\(Zl A t.snd).1.2.2=t.sq/\¬ t.sq=18446744073709551615/\(P6 A t).1=(Zl A t.snd).1:=by
 revert h
 unfold P6;by_cases h1:(Zl A t.snd).2=false
 ·rw[if_pos h1]; intro h; exact absurd h (by decide)
 rw[if_neg h1];by_cases h2:(Zl A t.snd).1.2.2≠t.sq
 ·rw[if_pos h2]; intro h; exact absurd h (by decide)
 rw[if_neg h2];by_cases h3:t.sq=18446744073709551615
 ·rw[if_pos h3]; intro h; exact absurd h (by decide)
 rw[if_neg h3]; intro _;exact⟨by simpa using h1,Decidable.not_not.1 h2,h3,rfl⟩
theorem Ny {A:List Ac}{price size:Int}{t:Y0}(h:(P6 A t).2=0):Yc A price t size=if JI t price size≠0 then JI t price size else if VP t=false then 6 else if (Zl A t.snd).1.2.1<YP t then 17 else if 256<(Yb A t).length then 3 else 0:=by
 obtain⟨h1,h2,h3,-⟩:=kF h;unfold Yc JI;rw[if_neg (by rw[h1]; decide),if_neg (fun q=>q h2),if_neg h3];by_cases h4:t.Zu<YO size t.tr.length
 ·rw[if_pos h4,if_pos h4,if_pos (by decide)]
 rw[if_neg h4,if_neg h4];by_cases h5:Yo t.Zu price=false
 ·rw[if_pos h5,if_pos h5,if_pos (by decide)]
 rw[if_neg h5,if_neg h5];by_cases h6:t.Y8<Yx t.Zu price
 ·rw[if_pos h6,if_pos h6,if_pos (by decide)]
 rw[if_neg h6,if_neg h6];rfl
theorem bH {A:List Ac}{c price size:Int}{t:Y0}(h:(P6 A t).2=0)(h1:JI t price size≠0):SH A c price t size=([],0,JI t price size):=by
 have e:=Ny (price:=price) (size:=size) h;rw[if_pos h1] at e;unfold SH;rw[e,if_neg h1]
theorem bG {A:List Ac}{c price size:Int}{t:Y0}(h:(P6 A t).2=0)(h1:JI t price size=0)(h2:(MJ A c t).2.2≠0):SH A c price t size=([],0,(MJ A c t).2.2):=by
 have e:=Ny (price:=price) (size:=size) h;rw[if_neg (by rw[h1]; decide)] at e;have e2:Yc A price t size=(MJ A c t).2.2:=by
  revert h2
  rw[e];unfold MJ;by_cases c1:VP t=false
  ·rw[if_pos c1,if_pos c1]; intro _; rfl
  rw[if_neg c1,if_neg c1];by_cases c2:(Zl A t.snd).1.2.1<YP t
  ·rw[if_pos c2,if_pos c2]; intro _; rfl
  rw[if_neg c2]; intro h; exact absurd rfl h
 unfold SH;rw[e2,if_neg h2]
theorem kE {A:List Ac}{c:Int}{t:Y0}(h2:(MJ A c t).2.2=0):VP t=true/\¬ (Zl A t.snd).1.2.1<YP t/\MJ A c t=(VO A t,c,0):=by
 revert h2
 unfold MJ;by_cases c1:VP t=false
 ·rw[if_pos c1]; intro h; exact absurd h (by decide)
 rw[if_neg c1];by_cases c2:(Zl A t.snd).1.2.1<YP t
 ·rw[if_pos c2]; intro h; exact absurd h (by decide)
 rw[if_neg c2]; intro _;exact⟨by simpa using c1,c2,rfl⟩
theorem bF {A:List Ac}{c price size:Int}{t:Y0}(h:(P6 A t).2=0)(h1:JI t price size=0)(h2:(MJ A c t).2.2=0):SH A c price t size=if (MK A c t).2.2=0 then ((MK A c t).1,c+t.Y8,0) else ([],0,(MK A c t).2.2):=by
 obtain⟨c1,c2,-⟩:=kE h2;have e:=Ny (price:=price) (size:=size) h;rw[if_neg (by rw[h1]; decide),if_neg (by rw[c1]; decide),if_neg c2] at e;unfold SH MK;rw[e];by_cases c3:256<(Yb A t).length
 ·rw[if_pos c3,if_pos c3,if_neg (by decide),if_neg (by decide)]
 ·rw[if_neg c3,if_neg c3,if_pos rfl]
theorem ao3 {A:List Ac}{c price:Int}{L:List Int}(hv:YE A c=0)(hd:(Zb L).2=0):Uh A c price L=(if (SH A c price (Zb L).1 L.length).2.2=0 then ((SH A c price (Zb L).1 L.length).1,(SH A c price (Zb L).1 L.length).2.1) else (A,c),⟨(SH A c price (Zb L).1 L.length).2.2,(Zb L).1.snd,(Zb L).1.sq,(Zb L).1.Zu,YX (Zb L).1.Y8 (Zb L).1.Zu⟩):=by
 unfold Uh SH;rw[if_neg (by rw[hv]; decide),if_neg (by rw[hd]; decide)];by_cases h:Yc A price (Zb L).1 L.length=0
 ·rw[h,if_neg (by decide),if_pos rfl,if_pos rfl]
 ·rw[if_pos h,if_neg h,if_neg h]
theorem Ib (A:List Ac)(s:ByteArray):Vt A s=(s,(Zl A s).1.2.1,(Zl A s).1.2.2):=by
 unfold Vt Zl;by_cases h:YV A s<A.length
 ·rw[if_pos h,if_pos h];have:=(Px h).1;show aca A (YV A s)=(s,(aca A (YV A s)).2.1,(aca A (YV A s)).2.2);generalize aca A (YV A s)=y at *
  subst this;rfl
 ·rw[if_neg h,if_neg h]; rfl
theorem Cj {A:List Ac}{c:Int}{t:Y0}(hv:YE A c=0)(h1:(Zl A t.snd).2=true)(h0:0<=YP t):OT A c ((Zl A t.snd).1.1,(Zl A t.snd).1.2.1-YP t,(Zl A t.snd).1.2.2+1)=(VO A t,c,0):=by
 obtain⟨v1,v2,v3,v4⟩:=Vx hv;obtain⟨f1,f2,f3⟩:=Vr h1;have hs:Yt A ((Zl A t.snd).1.1,(Zl A t.snd).1.2.1-YP t,(Zl A t.snd).1.2.2+1)=VO A t:=rfl;have hl:(VO A t).length=A.length:=by
  rw[<- hs,Wv]; simp only[f3]; rw[if_pos f1]
 have ht:Xu (VO A t) c=true:=decide_eq_true (by
  have v5:tot (c::Zg A)<18446744073709551616:=of_decide_eq_true v4;rw[Ya] at v5 ⊢;rw[yI h1]; omega)
 rw[He hv (by show isName (nums (Zl A t.snd).1.1)=true; rw[f2]; exact v3 _ f1) (by rw[hs,hl]; omega),hs,ht];rfl
theorem bf {A:List Ac}{c:Int}{t:Y0}(hv:YE A c=0)(h1:(Zl A t.snd).2=true)(h0:0<=YP t):YE (VO A t) c=0:=by
 have h:=Cj hv h1 h0;obtain⟨-,-,-,h4⟩:=xZ (A:=A) (c:=c) (a:=((Zl A t.snd).1.1,(Zl A t.snd).1.2.1-YP t,(Zl A t.snd).1.2.2+1)) (by rw[h]);exact h4
theorem Ci {B:List Ac}{c:Int}{x:Tf}(hv:YE B c=0)(hn:isName (nums x.1)=true)(ht:c+(tot (Zg B)+x.2)<18446744073709551616):OT B c (x.1,(Zl B x.1).1.2.1+x.2,(Zl B x.1).1.2.2)=if 256<(Vs B x).length then ([],0,3) else (Vs B x,c,0):=by
 have hs:Yt B (x.1,(Zl B x.1).1.2.1+x.2,(Zl B x.1).1.2.2)=Vs B x:=by unfold Vs; rw[Ib]
 by_cases hl:256<(Vs B x).length
 ·rw[if_pos hl];exact qM hv hn (by rw[hs]; exact hl)
 ·rw[if_neg hl,He hv hn (by rw[hs]; exact hl),hs];have ht:Xu (Vs B x) c=true:=decide_eq_true (by rw[Ya,yJ]; exact ht);rw[ht]; rfl
theorem aY {B:List Ac}{c:Int}{x:Tf}(hv:YE B c=0)(hn:isName (nums x.1)=true)(ht:c+(tot (Zg B)+x.2)<18446744073709551616)(hl:¬ 256<(Vs B x).length):YE (Vs B x) c=0:=by
 have h:=Ci hv hn ht;rw[if_neg hl] at h;obtain⟨h3,-,-,h4⟩:=xZ (A:=B) (c:=c) (a:=(x.1,(Zl B x.1).1.2.1+x.2,(Zl B x.1).1.2.2)) (by rw[h]);rw[h] at h3;rw[Prod.mk.injEq] at h3;rw[h3.1]; exact h4
theorem aV (A:List Ac)(x:Tf):A.length<=(Vs A x).length:=by
 unfold Vs; rw[Wv]; split <;> omega
theorem Cc:∀ (L:List Tf) (A:List Ac),A.length<=(L.foldl Vs A).length
 | [],_=>Nat.le_refl _
 | x::L,A=>by rw[List.foldl_cons]; exact Nat.le_trans (aV A x) (Cc L _)
theorem tH (A:List Ac)(t:Y0)(j:Nat):(PY A t j).length<=(Yb A t).length:=by
 unfold Yb PY;rw[List.take_length];have h:(t.tr.foldl Vs (VO A t))=(t.tr.drop j).foldl Vs ((t.tr.take j).foldl Vs (VO A t)):=by rw[<- List.foldl_append,List.take_append_drop]
 rw[h];exact Cc _ _
end Go.Proofs.YtfpnnmeblefkkaaGreatDoor.Lg
namespace Go.Proofs.YtfpnnmeblefkkaaGreatDoor.Lg
attribute [local irreducible] wpList wpQuiet
open Mo (YO YX Yo Yx)
open Go.RowKit
def ku (a b:Int):Bool:=decide (b<=a)
def kC (a b:Int):Int:=if b<=a then a-b else 0
theorem tJ (a b:Int)(w:World)(ha:W64 a)(hb:W64 b) :
  Calls Tryz.prog 110 #[Z7 a,Z7 b] w fun e w'=>e=.returned (.tuple #[Z7 (kC a b),.bool (ku a b)])/\w=w':=by
 obtain⟨a0,a1⟩:=ha; obtain⟨b0,b1⟩:=hb;by_cases h:b<=a
 ·have e1:kC a b=a-b:=if_pos h;have e2:ku a b=true:=decide_eq_true h;rw[e1,e2];clear e1 e2;go_enter Tryz.func110,Tryz.ntmps110;go_wp2;go_ret2;exact⟨rfl,rfl⟩
 ·have e1:kC a b=0:=if_neg h;have e2:ku a b=false:=decide_eq_false h;rw[e1,e2];clear e1 e2;go_enter Tryz.func110,Tryz.ntmps110;go_wp2;go_ret2;exact⟨rfl,rfl⟩
theorem aQ0 (a:Option Addr)(k:Nat)(A:List Ac)(c:Int)(w:World)(hR:Cs w a (acc A))(hn:A.length<=4398046511104) :
  Calls Tryz.prog 41 #[.agg (ZU a A.length k c)] w (dw w A c):=by
 obtain⟨hb0,hX1,hX2⟩:=YA w (ZU a A.length k c) (ZU none 0 0 0) 30 30;have hA:=hR.below hb0;obtain⟨n,hnn⟩:=ZR A.length;have CC:=fun V h=>G9 a k A V h hn;have HN:=Z9 hnn;rw[hnn] at hb0 hX1 hX2 hA CC ⊢;clear hR hn hnn;go_enter Tryz.func41,Tryz.ntmps41;go_upto_region 1 with fail;change Code.wp _ _ _ _ ((w.alloc (.cells (ZU a n k c) 30)).alloc (.cells (ZU none 0 0 0) 30));generalize (w.alloc (.cells (ZU a n k c) 30)).alloc (.cells (ZU none 0 0 0) 30)=W at *
 obtain⟨g1,hg1⟩:=ZR w.heap.size;obtain⟨g2,hg2⟩:=ZR (g1+1);have HB0:=Z9 hb0;rw[show w.heap.size+1=g2 by omega] at hX2;have HG:Hid (w.heap.size<=g1/\w.heap.size<=g2/\g1≠g2/\g2≠g1/\g1<W.heap.size/\g2<W.heap.size):=Z9 ⟨by omega,by omega,by omega,by omega,by rw[hg1] at hX1; exact hX1.lt,hX2.lt⟩;rw[hg1] at hX1;simp only[hg1];simp only[hg2];have WB:=Z9 hX1;have SB:=Z9 hX2;have CCW:=CC W hA;clear hb0 hX1 hX2 hA hg1 hg2 CC;refine wl<|ZV (Z5 g1 0)<|ZK rfl ⟨g1,0,none⟩ (.slice a n k) (WB.out.ZQ 0)<|XZ (fun v w'=>Zf w' W.heap.size v A/\Below W.heap.size W w') (CCW.mono fun e w' q=>by obtain⟨v,h1,h2,h3⟩:=q; exact⟨v,h1,h2,h3⟩) (fun vv V1 hq=>?_);obtain⟨hr1,hb1⟩:=hq;obtain⟨ad,cd,rfl,-,-⟩:=hr1.cs;rw[HN.out];rw[HN.out] at hr1;obtain⟨V2,hst2,bZ,hb2,Ui⟩:=Zm (i:=0) (ty:=28) (v:=.slice ad n cd) (cs':=ZU ad n cd c) (WB.out.below WB.out.lt hb1) (HB0.out.trans (hb1.mono HB0.out.size)) HG.out.1 (by show 0<2; decide) rfl (by kernel_rfl) rfl;have hr2:=Zq hr1 Ui HG.out.2.2.2.2.1;refine ZV (Z5 g1 0)<|Zr rfl (hst2)<|wn ?_;simp only[pu];have Jd:=(SB.out.below SB.out.lt hb1).but Ui HG.out.2.2.2.1;obtain⟨hst3,an7⟩:=ZF (a':=ad) (n':=n) (k':=cd) (c':=c) Jd;have hr3:=Zq hr2 (But.setRow (g:=g2) V2 (ZU ad n cd c)) HG.out.2.2.2.2.2;have hb3:=ZT hb2 HG.out.2.1 (ZU ad n cd c);have HE:Hid (Zf (V2.setRow g2 (ZU ad n cd c)) w.heap.size (.slice ad n cd) A/\Below w.heap.size w (V2.setRow g2 (ZU ad n cd c))):=Z9 ⟨own_base hr3 HB0.out.size,hb3⟩;generalize V2.setRow g2 (ZU ad n cd c)=V3 at *
 clear CCW hr1 hb1 hst2 hb2 Ui hr2 Jd hr3 hb3;go_upto_region 2 with fail;refine wl<|ZK rfl ⟨g1,0,none⟩ (.agg (ZU ad n cd c)) (ZP bZ)<|Zr rfl (hst3)<|wn ?_;simp only[pu];go_wp2_with fail;exact bodyPost_ret (Yk rfl (by kernel_rfl) (ZP an7)) rfl ⟨ad,cd,by rw[HN.out],by rw[HN.out]; exact HE.out.1,HE.out.2⟩
def Fp (A:List Ac)(c:Int)(L:List Int):Y0×Int:=if YE A c≠0 then (zX,1) else Zb L
theorem aE3 (A:List Ac)(c:Int)(L:List Int)(la ra:Option Addr)(lk rc:Nat)(w:World)(hL:Cs w la (acc A))(hn:A.length<=4398046511104)(hc:W64 c)(hw:TM A)(hz:∀ x,x∈A->x.1.size<=140737488355328)(hR:Sl w ra rc L)(hrc:L.length<=rc)(h8:∀ y,y∈L->W8 y) :
  Calls Tryz.prog 40 #[.agg (ZU la A.length lk c),.slice ra L.length rc] w (Au w (Fp A c L)):=by
 obtain⟨hb0,hX2,XD⟩:=YA w (ZU la A.length lk c) (ZA zX none 0) 30 63;have hA:=hL.below hb0;have HRW:=Z9 (ZL hR hb0);obtain⟨D,hD⟩:=ZR (Fp A c L);have H1:Hid (YE A c≠0->D=(zX,1)):=Z9 fun h=>by rw[<- hD]; exact if_pos h
 have H2:Hid (YE A c=0->D=Zb L):=Z9 fun h=>by rw[<- hD]; exact if_neg (by rw[h]; decide)
 have CV:=fun V h=>Sv la lk A c V h hn hc hw hz;have CD:=Z9 (fun V (h:Sl V ra rc L)=>oQ ra rc L V h hrc h8);rw[hD];generalize YE A c=ve at *
 clear hL hR hz h8 hD;go_enter Tryz.func40,Tryz.ntmps40;go_upto_region 1 with fail;change Code.wp _ _ _ _ ((w.alloc (.cells (ZU la A.length lk c) 30)).alloc (.cells (ZA zX none 0) 63));generalize (w.alloc (.cells (ZU la A.length lk c) 30)).alloc (.cells (ZA zX none 0) 63)=W at *
 obtain⟨g2,hg2⟩:=ZR w.heap.size;obtain⟨g4,hg4⟩:=ZR (g2+1);have HB0:=Z9 hb0;rw[show w.heap.size+1=g4 by omega] at XD;have HG:Hid (w.heap.size<=g4/\g4<W.heap.size):=Z9 ⟨by omega,XD.lt⟩;rw[hg2] at hX2;simp only[hg2];simp only[hg4];have SB:=Z9 hX2;have Yl:=Z9 XD;have PU:=CV W hA;clear hb0 hX2 XD hA hg2 hg4 CV;refine wl<|ZK rfl ⟨g2,0,none⟩ (.agg (ZU la A.length lk c)) (ZP SB.out)<|YW (Z8 ve) (fun w'=>Below W.heap.size W w') (PU) (fun W1 hW1=>?_);simp only[pu];have HB1:=Z9 (HB0.out.trans (hW1.mono HB0.out.size));have Fj:=Z9 (Yl.out.below Yl.out.lt hW1);have aR1:=Z9 (ZL HRW.out hW1);have U9:Hid (W.heap.size<=W1.heap.size):=Z9 hW1.size;clear PU hW1 Yl HRW SB;by_cases hv:ve=0
 ·subst hv;refine ZN (Za rfl 0 0 (decide_eq_true rfl))<|wn ?_;simp only[pu];have hd:=H2.out rfl;subst hd;have CDW:=CD.out W1 aR1.out;generalize Zb L=D at *
  clear CD H1 H2;go_upto_region 3 with fail;refine wl<|ZV (.slice ra L.length rc)<|XZ (fun v w'=>∃ a c,v=.tuple #[.agg (ZA D.1 a c),Z8 D.2]/\Yv w' W1.heap.size (.slice a D.1.tr.length c) D.1.tr/\Below W1.heap.size W1 w') (CDW.mono fun e w' q=>by obtain⟨a,c,h1,h2⟩:=q; exact⟨_,h1,a,c,rfl,h2⟩) (fun vv W2 hq=>?_);obtain⟨ta,tk,rfl,hrt,hb2⟩:=hq;obtain⟨hst3,Wx⟩:=Zn (y:=D.1) (a':=ta) (c':=tk) (Fj.out.below Fj.out.lt hb2);have aF9:=Zq hrt (But.setRow (g:=g4) W2 (ZA D.1 ta tk)) (Nat.lt_of_lt_of_le HG.out.2 U9.out);have hb3:=ZT (HB1.out.trans (hb2.mono HB1.out.size)) HG.out.1 (ZA D.1 ta tk);have HE:Hid (Au w D (.returned (.tuple #[.agg (ZA D.1 ta tk),Z8 D.2])) (W2.setRow g4 (ZA D.1 ta tk))):=Z9 ⟨ta,tk,rfl,own_base aF9 HB1.out.size,hb3⟩;generalize W2.setRow g4 (ZA D.1 ta tk)=W3 at *
  clear hrt hb2 aF9 hb3;refine ZG (.agg (ZA D.1 ta tk)) (Z8 D.2)<|Zr rfl (hst3)<|ZV (Z8 D.2)<|wn ?_;simp only[pu];go_wp2_with fail;exact bodyPost_ret (ZO (p:=4) (q:=5) rfl (by kernel_rfl) (ZE Wx) rfl) rfl HE.out
 ·refine ZN (Za rfl ve 0 (decide_eq_false hv))<|wn ?_;simp only[pu];have hd:=H1.out hv;subst hd;obtain⟨hst3,Wx⟩:=Zn (y:=zX) (a':=none) (c':=0) Fj.out;have hb3:=ZT HB1.out HG.out.1 (ZA zX none 0);have HE:Hid (Au w (zX,1) (.returned (.tuple #[.agg (ZA zX none 0),Z8 1])) (W1.setRow g4 (ZA zX none 0))):=Z9 ⟨none,0,rfl,Yv.nil _ _,hb3⟩;generalize W1.setRow g4 (ZA zX none 0)=W3 at *
  clear CD H1 H2 hb3;go_upto_region 2 with fail;refine wl<|ZV (.agg (ZA zX none 0))<|Zr rfl (hst3)<|ZV (Z8 1)<|wn ?_;simp only[pu];go_wp2_with fail;exact bodyPost_ret (ZO (p:=4) (q:=5) rfl (by kernel_rfl) (ZE Wx) rfl) rfl HE.out
theorem kG (A:List Ac)(c:Int)(t:Y0)(la ta:Option Addr)(lk tk:Nat)(w:World)(hL:Cs w la (acc A))(hn:A.length<=4398046511104) :
  Calls Tryz.prog 69 #[.agg (ZU la A.length lk c),.agg (ZA t ta tk)] w fun e w'=>e=.returned (.tuple #[.agg (Zt (P6 A t).1),Z8 (P6 A t).2])/\Below w.heap.size w w':=by
 obtain⟨hb0,hX2,Wx,XD⟩:=Xt w (ZU la A.length lk c) (ZA t ta tk) (Zt WJ) 30 63 56;have hA:=hL.below hb0;have CG0:=fun V h=>aa9 la lk A c t.snd V h hn;obtain⟨r,hr⟩:=ZR (P6 A t);have hr0:=hr;unfold P6 at hr0;obtain⟨y,hy⟩:=ZR ((Zl A t.snd).1);obtain⟨gb,hgb⟩:=ZR ((Zl A t.snd).2);rw[hy,hgb] at hr0 CG0;have HR:=Z9 hr0.symm;rw[hr];clear hL hn hr hr0 hy hgb;go_enter Tryz.func69,Tryz.ntmps69;go_upto_region 1 with fail;change Code.wp _ _ _ _ (((w.alloc (.cells (ZU la A.length lk c) 30)).alloc (.cells (ZA t ta tk) 63)).alloc (.cells (Zt WJ) 56));generalize ((w.alloc (.cells (ZU la A.length lk c) 30)).alloc (.cells (ZA t ta tk) 63)).alloc (.cells (Zt WJ) 56)=W at *
 obtain⟨g2,hg2⟩:=ZR w.heap.size;obtain⟨g3,hg3⟩:=ZR (g2+1);obtain⟨g4,hg4⟩:=ZR (g3+1);have HB0:=Z9 hb0;rw[show w.heap.size+2=g4 by omega] at XD;rw[show w.heap.size+1=g3 by omega] at Wx;have HG:Hid (w.heap.size<=g4):=Z9 (by omega);rw[hg2] at hX2;simp only[hg2];simp only[hg3];simp only[hg4];have SB:=Z9 hX2;have X7:=Z9 Wx;have Yl:=Z9 XD;have CG:=CG0 W hA;clear hb0 hX2 Wx XD hA hg2 hg3 hg4 CG0;refine wl<|ZK rfl ⟨g2,0,none⟩ (.agg (ZU la A.length lk c)) (ZP SB.out)<|ZV (Z5 g3 0)<|ZK rfl ⟨g3,0,none⟩ (.string t.snd) (X7.out.ZQ 0)<|YW (.tuple #[.agg (Zt y),.bool gb]) (fun w'=>Below W.heap.size W w') CG (fun W1 hW1=>?_);obtain⟨V2,hst2,hb2,hbx2⟩:=VL W1 y;refine YG (.tuple #[.agg (Zt y),.bool gb]) (.agg (Zt y)) (.bool gb) ?_;refine Zz rfl (some 6) rfl (Z5 W1.heap.size 0) (W1.alloc (.cells (Zt WJ) 56)) (by kernel_rfl) ?_;refine Zr rfl (hst2)<|ZV (.bool gb)<|wn ?_;simp only[pu];have hb3:=hW1.trans (hb2.mono hW1.size);obtain⟨g6,Ul⟩:=ZR W1.heap.size;rw[Ul] at hbx2 ⊢;have XP:=Z9 hbx2;have HB2:=Z9 (HB0.out.trans (hb3.mono HB0.out.size));have aG0:=Z9 (X7.out.below X7.out.lt hb3);have CO:=Yl.out.below Yl.out.lt hb3;clear CG hW1 hst2 hb2 Ul hbx2 hb3 SB X7 Yl;cases gb
 ·go_upto_region 2 with fail;refine wl<|YG ZY ZW ZW<|wn ?_;simp only[pu];obtain rfl:r=(WJ,13):=by rw[HR.out]; rfl
  obtain⟨hst,S9⟩:=XV (y:=WJ) CO;have Zp:=Z9 (ZT HB2.out HG.out (Zt WJ));generalize V2.setRow g4 (Zt WJ)=V9 at *
  go_upto_region 3 with fail;refine wl<|ZV (.agg (Zt WJ))<|Zr rfl (hst)<|ZV (Z8 13)<|wn ?_;simp only[pu];go_wp2_with fail;exact bodyPost_ret (ZO (p:=4) (q:=5) rfl (by kernel_rfl) (Y9 S9) rfl) rfl ⟨rfl,Zp.out⟩
 ·go_upto_region 2 with fail;refine wl<|YG ZW ZY ZY<|wn ?_;simp only[pu];by_cases hs:y.2.2=t.sq
  ·go_upto_region 4 with fail;refine wl<|ZV (Z5 g6 2)<|ZK rfl ⟨g6,2,none⟩ (Z7 y.2.2) (XP.out.ZQ 2)<|ZV (Z5 g3 1)<|ZK rfl ⟨g3,1,none⟩ (Z7 t.sq) (aG0.out.ZQ 1) <|
    ZN (FN rfl y.2.2 t.sq (decide_eq_true hs))<|ZV ZY<|wn ?_
   simp only[pu];by_cases hm:t.sq=18446744073709551615
   ·go_upto_region 6 with fail;refine wl<|ZV (Z5 g6 2)<|ZK rfl ⟨g6,2,none⟩ (Z7 y.2.2) (XP.out.ZQ 2)<|ZN (Ld rfl y.2.2 18446744073709551615 (decide_eq_true (hs.trans hm)))<|ZV ZW <|
     wpList_nil ?_
    simp only[pu];obtain rfl:r=(WJ,6):=(by rw[HR.out,if_neg (by decide),if_neg (fun q=>q hs),if_pos hm]);obtain⟨hst,S9⟩:=XV (y:=WJ) CO;have Zp:=Z9 (ZT HB2.out HG.out (Zt WJ));generalize V2.setRow g4 (Zt WJ)=V9 at *
    go_upto_region 7 with fail;refine wl<|ZV (.agg (Zt WJ))<|Zr rfl (hst)<|ZV (Z8 6)<|wn ?_;simp only[pu];go_wp2_with fail;exact bodyPost_ret (ZO (p:=4) (q:=5) rfl (by kernel_rfl) (Y9 S9) rfl) rfl ⟨rfl,Zp.out⟩
   ·go_upto_region 6 with fail;refine wl<|ZV (Z5 g6 2)<|ZK rfl ⟨g6,2,none⟩ (Z7 y.2.2) (XP.out.ZQ 2)<|ZN (Ld rfl y.2.2 18446744073709551615 (decide_eq_false (fun q=>hm (hs.symm.trans q)))) <|
     ZV ZY<|wn ?_
    simp only[pu];obtain rfl:r=(y,0):=(by rw[HR.out,if_neg (by decide),if_neg (fun q=>q hs),if_neg hm]);obtain⟨hst,S9⟩:=XV (y:=y) CO;have Zp:=Z9 (ZT HB2.out HG.out (Zt y));generalize V2.setRow g4 (Zt y)=V9 at *
    go_upto_region 8 with fail;refine wl<|ZK rfl ⟨g6,0,none⟩ (.agg (Zt y)) (Y9 XP.out)<|Zr rfl (hst)<|ZV (Z8 0)<|wn ?_;simp only[pu];go_wp2_with fail;exact bodyPost_ret (ZO (p:=4) (q:=5) rfl (by kernel_rfl) (Y9 S9) rfl) rfl ⟨rfl,Zp.out⟩
  ·go_upto_region 4 with fail;refine wl<|ZV (Z5 g6 2)<|ZK rfl ⟨g6,2,none⟩ (Z7 y.2.2) (XP.out.ZQ 2)<|ZV (Z5 g3 1)<|ZK rfl ⟨g3,1,none⟩ (Z7 t.sq) (aG0.out.ZQ 1) <|
    ZN (FN rfl y.2.2 t.sq (decide_eq_false hs))<|ZV ZW<|wn ?_
   simp only[pu];obtain rfl:r=(WJ,14):=(by rw[HR.out,if_neg (by decide),if_pos hs]);obtain⟨hst,S9⟩:=XV (y:=WJ) CO;have Zp:=Z9 (ZT HB2.out HG.out (Zt WJ));generalize V2.setRow g4 (Zt WJ)=V9 at *
   go_upto_region 5 with fail;refine wl<|ZV (.agg (Zt WJ))<|Zr rfl (hst)<|ZV (Z8 14)<|wn ?_;simp only[pu];go_wp2_with fail;exact bodyPost_ret (ZO (p:=4) (q:=5) rfl (by kernel_rfl) (Y9 S9) rfl) rfl ⟨rfl,Zp.out⟩
theorem aE8 (t:Y0)(price size:Int)(ta:Option Addr)(tk:Nat)(w:World)(hg:W64 t.Zu)(hp:W64 price) :
  Calls Tryz.prog 70 #[.agg (ZA t ta tk),Z7 price,Z8 size] w fun e w'=>e=.returned (Z8 (JI t price size))/\Below w.heap.size w w':=by
 have hb0:Below w.heap.size w (w.alloc (.cells (ZA t ta tk) 63)):=(Below.refl _ w).alloc (Nat.le_refl _) _;have hX0:Bx (w.alloc (.cells (ZA t ta tk) 63)) w.heap.size (ZA t ta tk) 63:=heap_alloc_last w _;have CU:=fun V=>Mo.lS size t.tr.length V;have CN:=fun V=>Mo.lN t.Zu price V hg hp;obtain⟨r,hr⟩:=ZR (JI t price size);have hr0:=hr;unfold JI at hr0;generalize YO size t.tr.length=us at *
 generalize Yx t.Zu price=mv at *
 generalize Yo t.Zu price=mb at *
 have HR:=Z9 hr0.symm;rw[hr];clear hr hr0;go_enter Tryz.func70,Tryz.ntmps70;go_upto_region 1 with fail;change Code.wp _ _ _ _ (w.alloc (.cells (ZA t ta tk) 63));generalize w.alloc (.cells (ZA t ta tk) 63)=W at *
 obtain⟨g3,hg3⟩:=ZR w.heap.size;have HB0:=Z9 hb0;rw[hg3] at hX0;simp only[hg3];have HX0:=Z9 hX0;have rD:Hid (Bx W.drew g3 (ZA t ta tk) 63):=Z9 hX0;clear hb0 hg3 hX0;by_cases hga:t.Zu<us
 ·go_upto_region 1 with fail;refine ZJ (C:=fun U=>U=W.drew) (by kernel_rfl) (by kernel_rfl) (rfl) ?_;refine gy (Z5 g3 2)<|VN rfl ⟨g3,2,none⟩ (Z7 t.Zu) (fun U hU=>by rw[hU]; exact rD.out.ZQ 2)<|gy (Z8 size)<|gy (Z5 g3 5) <|
    VN rfl ⟨g3,5,none⟩ (.slice ta t.tr.length tk) (fun U hU=>by rw[hU]; exact rD.out.ZQ 5)<|gy (Z8 t.tr.length) ?_
  refine LH (by kernel_rfl) (some 15) rfl 107 #[Z8 size,Z8 t.tr.length] (Z7 us) (fun U hU=>by kernel_rfl) (fun U hU=>(CU U).mono fun e w2 q=>⟨q.1,q.2 ▸ hU⟩) ?_;refine X0 ZW (fun U hU=>Tz rfl t.Zu us (decide_eq_true hga) (by kernel_rfl) (by kernel_rfl) _) ?_;simp only[pu];apply wpQuiet_nil;intro U hU;have HB2:Hid (Below w.heap.size w U):=Z9 (by rw[hU]; exact HB0.out.drew);have X7:Hid (Bx U g3 (ZA t ta tk) 63):=Z9 (by rw[hU]; exact rD.out);clear hU;obtain rfl:r=15:=by rw[HR.out,if_pos hga]
  go_upto_region 2 with fail;refine wl<|ZV (Z8 15)<|wn ?_;simp only[pu];go_wp2_with fail;go_ret;exact⟨rfl,HB2.out⟩
 ·go_upto_region 1 with fail;refine ZJ (C:=fun U=>U=W.drew) (by kernel_rfl) (by kernel_rfl) (rfl) ?_;refine gy (Z5 g3 2)<|VN rfl ⟨g3,2,none⟩ (Z7 t.Zu) (fun U hU=>by rw[hU]; exact rD.out.ZQ 2)<|gy (Z8 size)<|gy (Z5 g3 5) <|
    VN rfl ⟨g3,5,none⟩ (.slice ta t.tr.length tk) (fun U hU=>by rw[hU]; exact rD.out.ZQ 5)<|gy (Z8 t.tr.length) ?_
  refine LH (by kernel_rfl) (some 15) rfl 107 #[Z8 size,Z8 t.tr.length] (Z7 us) (fun U hU=>by kernel_rfl) (fun U hU=>(CU U).mono fun e w2 q=>⟨q.1,q.2 ▸ hU⟩) ?_;refine X0 ZY (fun U hU=>Tz rfl t.Zu us (decide_eq_false hga) (by kernel_rfl) (by kernel_rfl) _) ?_;simp only[pu];apply wpQuiet_nil;intro U hU;have HB2:Hid (Below w.heap.size w U):=Z9 (by rw[hU]; exact HB0.out.drew);have X7:Hid (Bx U g3 (ZA t ta tk) 63):=Z9 (by rw[hU]; exact rD.out);clear hU;go_upto_region 3 with fail;refine wl<|ZV (Z5 g3 2)<|ZK rfl ⟨g3,2,none⟩ (Z7 t.Zu) (X7.out.ZQ 2)<|ZV (Z7 price)<|YW (.tuple #[Z7 mv,.bool mb]) (fun w'=>U=w') (CN U) (fun V9 XC=>?_);subst XC;refine Rq (.tuple #[Z7 mv,.bool mb]) (Z7 mv) (.bool mb) (Z7 mv) (.bool mb)<|wn ?_;simp only[pu];cases mb
  ·go_upto_region 4 with fail;refine wl<|YG ZY ZW ZW<|wn ?_;simp only[pu];obtain rfl:r=6:=(by rw[HR.out,if_neg hga]; rfl);go_upto_region 5 with fail;refine wl<|ZV (Z8 6)<|wn ?_;simp only[pu];go_wp2_with fail;go_ret;exact⟨rfl,HB2.out⟩
  ·go_upto_region 4 with fail;refine wl<|YG ZW ZY ZY<|wn ?_;simp only[pu];by_cases hfe:t.Y8<mv
   ·go_upto_region 6 with fail;refine wl<|ZV (Z5 g3 3)<|ZK rfl ⟨g3,3,none⟩ (Z7 t.Y8) (X7.out.ZQ 3)<|ZV (Z7 mv)<|ZN (Tz rfl t.Y8 mv (decide_eq_true hfe))<|ZV ZW <|
     wpList_nil ?_
    simp only[pu];obtain rfl:r=16:=(by rw[HR.out,if_neg hga,if_neg (by decide),if_pos hfe]);go_upto_region 7 with fail;refine wl<|ZV (Z8 16)<|wn ?_;simp only[pu];go_wp2_with fail;go_ret;exact⟨rfl,HB2.out⟩
   ·go_upto_region 6 with fail;refine wl<|ZV (Z5 g3 3)<|ZK rfl ⟨g3,3,none⟩ (Z7 t.Y8) (X7.out.ZQ 3)<|ZV (Z7 mv)<|ZN (Tz rfl t.Y8 mv (decide_eq_false hfe))<|ZV ZY <|
     wpList_nil ?_
    simp only[pu];obtain rfl:r=0:=(by rw[HR.out,if_neg hga,if_neg (by decide),if_neg hfe]);go_upto_region 8 with fail;refine wl<|ZV (Z8 0)<|wn ?_;simp only[pu];go_wp2_with fail;go_ret;exact⟨rfl,HB2.out⟩
theorem y7 (w:World)(x y z u:Array Value)(t1 t2 t3 t4:Nat):Below w.heap.size w ((((w.alloc (.cells x t1)).alloc (.cells y t2)).alloc (.cells z t3)).alloc (.cells u t4))/\Bx ((((w.alloc (.cells x t1)).alloc (.cells y t2)).alloc (.cells z t3)).alloc (.cells u t4)) w.heap.size x t1/\Bx ((((w.alloc (.cells x t1)).alloc (.cells y t2)).alloc (.cells z t3)).alloc (.cells u t4)) (w.heap.size+1) y t2/\Bx ((((w.alloc (.cells x t1)).alloc (.cells y t2)).alloc (.cells z t3)).alloc (.cells u t4)) (w.heap.size+2) z t3/\Bx ((((w.alloc (.cells x t1)).alloc (.cells y t2)).alloc (.cells z t3)).alloc (.cells u t4)) (w.heap.size+3) u t4:=by
 obtain⟨h1,h2,h3,h4⟩:=Xt w x y z t1 t2 t3;have hs:(((w.alloc (.cells x t1)).alloc (.cells y t2)).alloc (.cells z t3)).heap.size=w.heap.size+3:=by simp
 have hz:Bx ((((w.alloc (.cells x t1)).alloc (.cells y t2)).alloc (.cells z t3)).alloc (.cells u t4)) (((w.alloc (.cells x t1)).alloc (.cells y t2)).alloc (.cells z t3)).heap.size u t4:=heap_alloc_last _ _;generalize ((w.alloc (.cells x t1)).alloc (.cells y t2)).alloc (.cells z t3)=W at *
 have hb:Below W.heap.size W (W.alloc (.cells u t4)):=(Below.refl _ _).alloc (Nat.le_refl _) _;rw[hs] at hz;exact⟨h1.trans (hb.mono h1.size),h2.below h2.lt hb,h3.below h3.lt hb,h4.below h4.lt hb,hz⟩
theorem y5 {w:World}{B:Nat}{v:Value}{A:List Ac}(h:Zf w B v A):∀ q,v.ownBlock=some q->B<=q/\q<w.heap.size:=fun q hq=>by
 rcases h.2 with⟨rfl,-⟩ | ⟨g,cap,cur,rfl,hB,hg,-⟩
 ·cases hq
 ·obtain rfl:g=q:=Option.some.inj hq;refine⟨hB,?_⟩;rcases Nat.lt_or_ge g w.heap.size with h1 | h1
  ·exact h1
  ·rw[Array.getElem?_eq_none h1] at hg; cases hg
theorem kD {w w':World}{B g:Nat}{v:Value}{A:List Ac}(h:Zf w B v A)(hn:∀ q,v.ownBlock=some q->q≠g)(hb:But g w w'):Zf w' B v A:=
 ag2 h fun q hq=>hb.2 q (y5 h q hq).2 (hn q hq)
structure jm (A:List Ac)(c price:Int)(t:Y0):Prop where
 q:FaQ A c price t
 g:(Zl A t.snd).2=true
 s:(Zl A t.snd).1.2.2=t.sq
 m:¬ t.sq=18446744073709551615
theorem jm.ld {A:List Ac}{c price:Int}{t:Y0}(h:jm A c price t):N7 A c:=⟨h.q.v,h.q.w,h.q.cw⟩
theorem jm.xz {A:List Ac}{c price:Int}{t:Y0}(h:jm A c price t):(Zl A t.snd).1.1.size<=140737488355328:=by
 obtain⟨h1,h2,h3⟩:=Vr h.g;rw[h2];exact h.ld.z _ (Sr h1)
theorem jm.dn {A:List Ac}{c price:Int}{t:Y0}(h:jm A c price t)(h4:VP t=true)(h5:¬ (Zl A t.snd).1.2.1<YP t):Jf A c t:=h.q.dn h.g h.s h.m h4 h5
theorem jm.bw {A:List Ac}{c price:Int}{t:Y0}(h:jm A c price t):W64 (Zl A t.snd).1.2.1:=by
 obtain⟨h1,h2,h3⟩:=Vr h.g;rw[h2];exact(h.q.w _ h1).1
theorem ap4 (t:Y0)(hf:W64 t.Y8)(ha:∀ x,x∈t.tr->W64 x.2):W64 (YP t):=by
 by_cases h:VP t=true
 ·obtain⟨h1,h2⟩:=Hg h;have h3:=OU t;have h4:=(Hf ha t.tr.length).1;have:=hf.1;exact⟨by omega,by omega⟩
 ·rw[af9 (by simpa using h)]; exact WO
theorem ap1 (A:List Ac)(c price:Int)(t:Y0)(la ta:Option Addr)(lk tk:Nat)(w:World)(hL:Cs w la (acc A))(hlk:A.length<=lk)(hT:Cs w ta (Rl t.tr))(hQ:jm A c price t) :
  Calls Tryz.prog 71 #[.agg (ZU la A.length lk c),.agg (Zt (Zl A t.snd).1),.agg (ZA t ta tk)] w (Xj w (MJ A c t)):=by
 obtain⟨hb0,Wx,XD,Jl,WY⟩:=y7 w (ZU la A.length lk c) (Zt (Zl A t.snd).1) (ZA t ta tk) (ZU none 0 0 0) 30 56 63 30;have HAW:=Z9 hL;have hA:=hL.below hb0;have CC:=fun V h=>an6 t ta tk V h (by have:=hQ.q.m; omega) hQ.q.f hQ.q.a;have hT0:=hT.below hb0;have HYW:=Z9 (fun h4 h5=>(hQ.dn h4 h5).yw);have CS:=fun V=>tJ (Zl A t.snd).1.2.1 (YP t) V hQ.bw (ap4 t hQ.q.f hQ.q.a);have HST:=Z9 (fun(h4:VP t=true) (h5:¬ (Zl A t.snd).1.2.1<YP t)=>Cj hQ.q.v hQ.g (hQ.dn h4 h5).c0.1);have HSE:=Z9 (fun(x:Ac) V (h:Cs V la (acc A)) (hx:W64 x.2.1/\W64 x.2.2) (hz:x.1=(Zl A t.snd).1.1)=>aa8 la lk A c x V h hlk (by have:=hQ.ld.n; omega) hQ.q.cw hQ.q.w hQ.ld.z hx (by rw[hz]; exact hQ.xz));obtain⟨r,hr⟩:=ZR (MJ A c t);have hr0:=hr;unfold MJ at hr0;have HR:=Z9 hr0.symm;rw[hr];obtain⟨y,hy⟩:=ZR ((Zl A t.snd).1);rw[hy] at HYW CS HST HSE HR hb0 Wx XD Jl WY hA hT0 ⊢;generalize VO A t=SA at *
 generalize YP t=cv at *
 generalize VP t=cb at *
 clear hL hT hQ hr hr0 hy;go_enter Tryz.func71,Tryz.ntmps71;go_upto_region 1 with fail;change Code.wp _ _ _ _ ((((w.alloc (.cells (ZU la A.length lk c) 30)).alloc (.cells (Zt y) 56)).alloc (.cells (ZA t ta tk) 63)).alloc (.cells (ZU none 0 0 0) 30));generalize (((w.alloc (.cells (ZU la A.length lk c) 30)).alloc (.cells (Zt y) 56)).alloc (.cells (ZA t ta tk) 63)).alloc (.cells (ZU none 0 0 0) 30)=W at *
 obtain⟨g3,hg3⟩:=ZR w.heap.size;obtain⟨g4,hg4⟩:=ZR (g3+1);obtain⟨g5,hg5⟩:=ZR (g4+1);obtain⟨g6,Ul⟩:=ZR (g5+1);have HB0:=Z9 hb0;rw[show w.heap.size+3=g6 by omega] at WY;rw[show w.heap.size+2=g5 by omega] at Jl;rw[show w.heap.size+1=g4 by omega] at XD;have HG:Hid (w.heap.size<=g6/\w.heap.size<=g4/\g3≠g4/\g6≠g4/\g6<W.heap.size):=Z9 ⟨by omega,by omega,by omega,by omega,WY.lt⟩;rw[hg3] at Wx;simp only[hg3];simp only[hg4];simp only[hg5];simp only[Ul];have X7:=Z9 Wx;have Yl:=Z9 XD;have HX5:=Z9 Jl;have XP:=Z9 WY;have HA:=Z9 hA;have CCW:=CC W hT0;clear hb0 Wx XD Jl WY hA hT0 hg3 hg4 hg5 Ul CC;refine wl<|ZK rfl ⟨g5,0,none⟩ (.agg (ZA t ta tk)) (ZE HX5.out)<|YW (.tuple #[Z7 cv,.bool cb]) (fun w'=>Below W.heap.size W w') (CCW) (fun W1 hW1=>?_);refine Rq (.tuple #[Z7 cv,.bool cb]) (Z7 cv) (.bool cb) (Z7 cv) (.bool cb)<|wn ?_;simp only[pu];have HB1:=Z9 (HB0.out.trans (hW1.mono HB0.out.size));have U9:Hid (W.heap.size<=W1.heap.size):=Z9 hW1.size;have aQ6:=Z9 (X7.out.below X7.out.lt hW1);have Fj:=Z9 (Yl.out.below Yl.out.lt hW1);have ap5:=Z9 (XP.out.below XP.out.lt hW1);have HA1:=Z9 (HA.out.below hW1);clear CCW hW1 X7 Yl HX5 XP HA;cases cb
 ·go_upto_region 2 with fail;refine wl<|ZG ZY ZW<|wn ?_;simp only[pu];obtain rfl:r=([],0,6):=by rw[HR.out]; rfl
  obtain⟨hst,S9⟩:=ZF (a':=none) (n':=0) (k':=0) (c':=0) ap5.out;have Tq:=ZT HB1.out HG.out.1 (ZU none 0 0 0);have HE:=Z9 (Xj.err (e:=6) Tq);generalize W1.setRow g6 (ZU none 0 0 0)=V9 at *
  clear Tq;go_upto_region 3 with fail;refine wl<|ZV (.agg (ZU none 0 0 0))<|Zr rfl (hst)<|ZV (Z8 6)<|wn ?_;simp only[pu];go_wp2_with fail;exact bodyPost_ret (ZO (p:=6) (q:=7) rfl (by kernel_rfl) (ZP S9) rfl) rfl HE.out
 ·go_upto_region 2 with fail;refine wl<|ZG ZW ZY<|wn ?_;simp only[pu];have CSW:=CS W1;by_cases hfu:y.2.1<cv
  ·rw[show kC y.2.1 cv=0 from if_neg (by omega),show ku y.2.1 cv=false from decide_eq_false (by omega)] at CSW;go_upto_region 4 with fail;refine wl<|ZV (Z5 g4 1)<|ZK rfl ⟨g4,1,none⟩ (Z7 y.2.1) (Fj.out.ZQ 1)<|ZV (Z7 cv)<|YW (.tuple #[Z7 (0),ZY]) (fun w'=>W1=w') (CSW) (fun V9 XC=>?_);subst XC;refine Rq (.tuple #[Z7 (0),ZY]) (Z7 (0)) ZY (Z7 (0)) ZY<|wn ?_;simp only[pu];go_upto_region 5 with fail;refine wl<|ZG ZY ZW<|wn ?_;simp only[pu];obtain rfl:r=([],0,17):=(by rw[HR.out,if_neg (by decide),if_pos hfu]);obtain⟨hst,S9⟩:=ZF (a':=none) (n':=0) (k':=0) (c':=0) ap5.out;have Tq:=ZT HB1.out HG.out.1 (ZU none 0 0 0);have HE:=Z9 (Xj.err (e:=17) Tq);generalize W1.setRow g6 (ZU none 0 0 0)=V9 at *
   clear Tq;go_upto_region 6 with fail;refine wl<|ZV (.agg (ZU none 0 0 0))<|Zr rfl (hst)<|ZV (Z8 17)<|wn ?_;simp only[pu];go_wp2_with fail;exact bodyPost_ret (ZO (p:=6) (q:=7) rfl (by kernel_rfl) (ZP S9) rfl) rfl HE.out
  ·rw[show kC y.2.1 cv=y.2.1-cv from if_pos (by omega),show ku y.2.1 cv=true from decide_eq_true (by omega)] at CSW;go_upto_region 4 with fail;refine wl<|ZV (Z5 g4 1)<|ZK rfl ⟨g4,1,none⟩ (Z7 y.2.1) (Fj.out.ZQ 1)<|ZV (Z7 cv)<|YW (.tuple #[Z7 (y.2.1-cv),ZW]) (fun w'=>W1=w') (CSW) (fun V9 XC=>?_);subst XC;refine Rq (.tuple #[Z7 (y.2.1-cv),ZW]) (Z7 (y.2.1-cv)) ZW (Z7 (y.2.1-cv)) ZW<|wn ?_;simp only[pu];go_upto_region 5 with fail;refine wl<|ZG ZW ZY<|wn ?_;simp only[pu];obtain⟨hy1,hy2⟩:=HYW.out rfl hfu;obtain⟨V2,hst2,kK,hb2,Ui⟩:=Zm (i:=1) (ty:=24) (v:=Z7 (y.2.1-cv)) (cs':=Zt (y.1,y.2.1-cv,y.2.2)) Fj.out HB1.out HG.out.2.1 (by show 1<3; decide) rfl (by kernel_rfl) rfl;obtain⟨V3,hst3,aQ7,hb3,KY⟩:=Zm (i:=2) (ty:=24) (v:=Z7 (y.2.2+1)) (cs':=Zt (y.1,y.2.1-cv,y.2.2+1)) kK hb2 HG.out.2.1 (by show 2<3; decide) rfl (by kernel_rfl) rfl;have aQ8:=(aQ6.out.but Ui HG.out.2.2.1).but KY HG.out.2.2.1;have ap6:=(ap5.out.but Ui HG.out.2.2.2.1).but KY HG.out.2.2.2.1;clear CSW CS;go_upto_region 7 with fail;refine wl<|ZG (Z7 (y.2.1-cv)) (Z5 g4 1)<|Zr rfl (hst2)<|wn ?_;simp only[pu];go_upto_region 8 with fail;refine wl<|ZV (Z5 g4 2)<|ZK rfl ⟨g4,2,none⟩ (Z7 y.2.2) (kK.ZQ 2)<|YC (Z7 (y.2.2+1)) (O5 rfl y.2.2 1 hy2)<|ZV (Z5 g4 2)<|Zr rfl (hst3) <|
    wpList_nil ?_
   simp only[pu];obtain rfl:r=(SA,c,0):=(by rw[HR.out,if_neg (by decide),if_neg hfu]);have hA3:Cs V3 la (acc A):=HAW.out.below hb3;have CT:=HSE.out (y.1,y.2.1-cv,y.2.2+1) V3 hA3 ⟨hy1,hy2⟩ rfl;rw[HST.out rfl hfu] at CT;clear HST HSE HYW;go_upto_region 9 with fail;refine wl<|ZK rfl ⟨g3,0,none⟩ (.agg (ZU la A.length lk c)) (ZP aQ8)<|ZK rfl ⟨g4,0,none⟩ (.agg (Zt (y.1,y.2.1-cv,y.2.2+1))) (Y9 aQ7) <|
    XZ (fun v w'=>∃ ad kk,v=.tuple #[.agg (ZU ad SA.length kk c),Z8 0]/\Zf w' V3.heap.size (.slice ad SA.length kk) SA/\Below V3.heap.size V3 w') (CT.mono fun e w' q=>by obtain⟨ad,kk,h1,h2,h3⟩:=q; exact⟨_,h1,ad,kk,rfl,h2,h3⟩) (fun vv V4 hq=>?_)
   obtain⟨ad,kk,rfl,hr4,hb4⟩:=hq;obtain⟨hst5,S9⟩:=ZF (a':=ad) (n':=SA.length) (k':=kk) (c':=c) (ap6.below ap6.lt hb4);have Tq:=ZT (hb3.trans (hb4.mono hb3.size)) HG.out.1 (ZU ad SA.length kk c);have NV:=Zq hr4 (But.setRow (g:=g6) V4 (ZU ad SA.length kk c)) ap6.lt;have HE:Hid (Xj w (SA,c,0) (.returned (.tuple #[.agg (ZU ad SA.length kk c),Z8 0])) (V4.setRow g6 (ZU ad SA.length kk c))):=Z9 ⟨ad,kk,rfl,own_base NV hb3.size,Tq⟩;generalize V4.setRow g6 (ZU ad SA.length kk c)=V5 at *
   clear hr4 hb4 Tq NV;refine ZG (.agg (ZU ad SA.length kk c)) (Z8 0)<|Zr rfl (hst5)<|ZV (Z8 0)<|wn ?_;simp only[pu];go_wp2_with fail;exact bodyPost_ret (ZO (p:=6) (q:=7) rfl (by kernel_rfl) (ZP S9) rfl) rfl HE.out
def bg (B:Nat)(w:World)(r:List Ac×Int×Int)(e:Ending)(w':World):Prop:=∃ ad k,e=.returned (.tuple #[.agg (ZU ad r.1.length k r.2.1),Z8 r.2.2])/\Zf w' B (.slice ad r.1.length k) r.1/\Below w.heap.size w w'
structure GvL (w:World)(g2 g4 Bs:Nat)(A:List Ac)(c:Int)(t:Y0)(j:Nat)(V:World)(B:List Ac)(ad:Option Addr)(k:Nat):Prop where
 gj:yH A t j B
 v:YE B c=0
 zl:Bx V g2 (ZU ad B.length k c) 30
 bx4:Bx V g4 (ZU none 0 0 0) 30
 row:Zf V Bs (.slice ad B.length k) B
 bel:Below w.heap.size w V
 ne:∀ q,(Value.slice ad B.length k).ownBlock=some q->q≠g2/\q≠g4
theorem aF1 {A B:List Ac}{c:Int}{t:Y0}{j:Nat}(h:Jf A c t)(hJ:yH A t j B)(hj:j<t.tr.length):c+(tot (Zg B)+(tfa t.tr j).2)<18446744073709551616:=by
 have h1:=hJ.s;have h2:=h.tt;have h3:=EJ hj;have h4:=(Hf h.a (j+1)).2;have h5:=OU t;have h6:=h.f.1;omega
theorem wH {A:List Ac}{c:Int}{t:Y0}(h:256<(Yb A t).length):MK A c t=([],0,3):=if_pos h
theorem CY {A:List Ac}{c:Int}{t:Y0}(h:¬ 256<(Yb A t).length):MK A c t=(Yb A t,c,0):=if_neg h
theorem ap2 (A:List Ac)(c:Int)(t:Y0)(la ta:Option Addr)(lk tk Bs:Nat)(w:World)(hL:Zf w Bs (.slice la (VO A t).length lk) (VO A t))(hBs:Bs<=w.heap.size)(hT:Cs w ta (Rl t.tr))(hQ:Jf A c t)(hv:YE A c=0)(hnm:∀ x,x∈t.tr->isName (nums x.1)=true) :
  Calls Tryz.prog 72 #[.agg (ZU la (VO A t).length lk c),.slice ta t.tr.length tk] w (bg Bs w (MK A c t)):=by
 obtain⟨hb0,hX2,XD⟩:=YA w (ZU la (VO A t).length lk c) (ZU none 0 0 0) 30 30;have HT:=Z9 hT;have HQ:=Z9 hQ;have HNM:=Z9 hnm;have Vh:Hid (A.length<=256/\t.tr.length<=16):=Z9 ⟨hQ.n,hQ.m⟩;have hgl:GvL w w.heap.size (w.heap.size+1) Bs A c t 0 ((w.alloc (.cells (ZU la (VO A t).length lk c) 30)).alloc (.cells (ZU none 0 0 0) 30)) (VO A t) la lk:=⟨hQ.j0,bf hv hQ.g hQ.c0.1,hX2,XD,own_below hL hb0,hb0,fun q hq=>by have:=(y5 hL q hq).2; omega⟩;obtain⟨SA,hSA⟩:=ZR (VO A t);rw[hSA] at hgl hb0 hX2 XD ⊢;clear hL hT hQ hv hnm hSA;go_enter Tryz.func72,Tryz.ntmps72;go_upto_region 1 with fail;change Code.wp _ _ _ _ ((w.alloc (.cells (ZU la SA.length lk c) 30)).alloc (.cells (ZU none 0 0 0) 30));generalize (w.alloc (.cells (ZU la SA.length lk c) 30)).alloc (.cells (ZU none 0 0 0) 30)=W at *
 obtain⟨g2,hg2⟩:=ZR w.heap.size;obtain⟨g4,hg4⟩:=ZR (g2+1);rw[show w.heap.size+1=g4 by omega] at XD hgl;have HG:Hid (w.heap.size<=g2/\w.heap.size<=g4/\g2≠g4/\g4≠g2):=Z9 (by omega);have aF2:GvL w g2 g4 Bs A c t 0 W SA la lk:=by rw[<- hg2]; exact hgl
 simp only[hg2];simp only[hg4];have HGL:=Z9 aF2;clear hb0 hX2 XD hgl aF2 hg2 hg4;refine wl<|YG (.slice ta t.tr.length tk) (Z8 t.tr.length) (Z8 0)<|wn ?_;simp only[pu];go_wp2_with fail;go_loopg [14] t.tr.length (fun gg s14 wx=>∃ (j:Nat) (B:List Ac) (ad:Option Addr) (k:Nat),s14=Z8 j/\j<=t.tr.length/\Hid (GvL w g2 g4 Bs A c t j wx B ad k)/\t.tr.length-j=gg)
 case atStart=>exact⟨0,SA,la,lk,rfl,by omega,HGL,by omega⟩
 case round=>
  obtain⟨j,B,ad,k,rfl,hj,HL,hg⟩:=hrel;clear HGL;have hBn:B.length<=256:=(Vx HL.out.v).1;by_cases hlt:j<t.tr.length
  ·obtain⟨b,off,rfl,-,hrx⟩:=Uw (HT.out.below HL.out.bel) hlt;have YL:=Z9 (Ua hrx);obtain⟨hJ1,hW1⟩:=HQ.out.js HL.out.gj hlt;have hq9:=aF1 HQ.out HL.out.gj hlt;have hxn:=HNM.out (tfa t.tr j) (by rw[Vy hlt]; exact List.getElem_mem hlt);have hdl:=tH A t (j+1);rw[<- hJ1.is] at hdl;generalize tfa t.tr j=x at *
   have HXS:Hid (x.1.size<=140737488355328):=Z9 (Nat.le_trans (lG hxn) (by decide));have hset:=Ci HL.out.v hxn hq9;have hval:=fun h=>aY HL.out.v hxn hq9 h;have hga:=Ib B x.1;have hw1:=HL.out.gj.w;have hlz:=(N7.mk HL.out.v hw1 HQ.out.cw).z;have hn16:=Vh.out.2;have HG9:=Z9 hg;obtain⟨V2,hst,hb2,hbx⟩:=TI wr x;obtain⟨a5,c5,e5,hcs,hcd⟩:=HL.out.row.cs;simp only[Value.slice.injEq,true_and] at e5;obtain⟨rfl,rfl⟩:=e5;have CG:=aa9 ad k B c x.1 V2 (hcs.below hb2) (by omega);have hwy:W64 (Zl B x.1).1.2.2:=(by have:=(qP hw1 x.1).2.1; rw[hga] at this; exact this);rw[hga] at hW1;generalize (Zl B x.1).2=gb at *
   generalize (Zl B x.1).1=y at *
   have Jd:=HL.out.zl.below HL.out.zl.lt hb2;have HVS:Hid (g2<wr.heap.size/\g4<wr.heap.size):=Z9 ⟨HL.out.zl.lt,HL.out.bx4.lt⟩;clear hrx hg;go_upto_region 2 with fail;refine wl<|ZN (Zy rfl (j) (t.tr.length) dT)<|wn ?_;simp only[pu];go_upto_region 3 with fail;refine wl<|YN (Z5 b (off+j*2)) (Pj b off t.tr.length tk j hlt _ _ _ rfl (by kernel_rfl) (by kernel_rfl))<|ZK rfl ⟨b,off+j*2,none⟩ (.agg (Yz x)) (YL.out) ?_;refine Zz rfl (some 7) rfl (Z5 wr.heap.size 0) (wr.alloc (.cells (Yz Uk) 60)) (by kernel_rfl) ?_;refine Zr rfl (hst)<|wn ?_;obtain⟨g7,Qd⟩:=ZR wr.heap.size;have HG7:Hid (g2<g7/\g4<g7):=Z9 (by have:=HVS.out; omega);rw[Qd] at hbx hst ⊢;clear hst YL;go_upto_region 4 with fail;refine wl<|ZK rfl ⟨g2,0,none⟩ (.agg (ZU ad B.length k c)) (ZP Jd)<|ZV (Z5 g7 0)<|ZK rfl ⟨g7,0,none⟩ (.string x.1) (hbx.ZQ 0)<|YW (.tuple #[.agg (Zt y),.bool gb]) (fun w'=>Below V2.heap.size V2 w') CG (fun V3 VR=>?_);obtain⟨V4,NM,hb4,Qe⟩:=VL V3 y;refine YG (.tuple #[.agg (Zt y),.bool gb]) (.agg (Zt y)) (.bool gb) ?_;refine Zz rfl (some 8) rfl (Z5 V3.heap.size 0) (V3.alloc (.cells (Zt WJ) 56)) (by kernel_rfl) ?_;refine Zr rfl (NM)<|ZV (.bool gb)<|wn ?_;simp only[pu];have Pz:=VR.trans (hb4.mono VR.size);have ap7:=hb2.trans (Pz.mono hb2.size);obtain⟨g8,MP⟩:=ZR V3.heap.size;have hG8:wr.heap.size<=g8:=(by rw[<- MP]; exact Nat.le_trans hb2.size VR.size);have hne:g7≠g8:=(by have:=hbx.lt; rw[<- MP]; have:=VR.size; omega);have hne2:g2≠g8/\g4≠g8:=(by have:=HVS.out; omega);have ap8:=hbx.below hbx.lt Pz;have aF3:=Jd.below Jd.lt Pz;rw[MP] at Qe ⊢;obtain⟨V5,hst5,Cm,hb5,Xh⟩:=Zm (i:=0) (ty:=9) (v:=.string x.1) (cs':=Zt (x.1,y.2.1,y.2.2)) Qe ap7 hG8 (by show 0<3; decide) rfl (by kernel_rfl) rfl;have ae4:=ap8.but Xh hne;have jZ:=aF3.but Xh hne2.1;obtain⟨V6,VX,aF4,hb6,Xw⟩:=Zm (i:=1) (ty:=24) (v:=Z7 (y.2.1+x.2)) (cs':=Zt (x.1,y.2.1+x.2,y.2.2)) Cm hb5 hG8 (by show 1<3; decide) rfl (by kernel_rfl) rfl;have aX:=jZ.but Xw hne2.1;have aW:Bx V6 g4 (ZU none 0 0 0) 30:=((HL.out.bx4.below HL.out.bx4.lt ap7).but Xh hne2.2).but Xw hne2.2;have CS:=aa8 ad k B c (x.1,y.2.1+x.2,y.2.2) V6 (hcs.below hb6) hcd (by omega) HQ.out.cw hw1 hlz ⟨hW1,hwy⟩ HXS.out;rw[hset] at CS;have Yh:=Z9 hb6;clear CG VR hb4 NM Pz ap7 MP hbx Qe Jd aF3 hcs;go_upto_region 5 with fail;refine wl<|ZV (Z5 g7 0)<|ZK rfl ⟨g7,0,none⟩ (.string x.1) (ap8.ZQ 0)<|ZV (Z5 g8 0)<|Zr rfl (hst5)<|wn ?_;simp only[pu];go_upto_region 6 with fail;refine wl<|ZV (Z5 g8 1)<|ZK rfl ⟨g8,1,none⟩ (Z7 y.2.1) (Cm.ZQ 1)<|ZV (Z5 g7 1)<|ZK rfl ⟨g7,1,none⟩ (Z7 x.2) (ae4.ZQ 1) <|
    YC (Z7 (y.2.1+x.2)) (O5 rfl y.2.1 x.2 hW1)<|ZV (Z5 g8 1)<|Zr rfl (VX)<|wn ?_
   simp only[pu];clear hst5 VX ap8 ae4 Cm Xh Xw hb5 jZ;generalize Vs B x=B2 at *
   by_cases hfl:256<B2.length
   ·rw[if_pos hfl] at CS;go_upto_region 7 with fail;refine wl<|ZK rfl ⟨g2,0,none⟩ (.agg (ZU ad B.length k c)) (ZP aX)<|ZK rfl ⟨g8,0,none⟩ (.agg (Zt (x.1,y.2.1+x.2,y.2.2))) (Y9 aF4) <|
     XZ (fun v w'=>∃ a7 k7,v=.tuple #[.agg (ZU a7 ([]:List Ac).length k7 0),Z8 3]/\Zf w' V6.heap.size (.slice a7 ([]:List Ac).length k7) []/\Below V6.heap.size V6 w') (CS.mono fun e w' q=>by obtain⟨ad,kk,h1,h2,h3⟩:=q; exact⟨_,h1,ad,kk,rfl,h2,h3⟩) (fun vv V7 hq=>?_)
    obtain⟨a7,k7,rfl,KZ,hb7⟩:=hq;obtain⟨V8,XW,hb8,OO⟩:=XM V7 a7 ([]:List Ac).length k7 0;refine YG (.tuple #[.agg (ZU a7 ([]:List Ac).length k7 0),Z8 3]) (.agg (ZU a7 ([]:List Ac).length k7 0)) (Z8 3) ?_;refine Zz rfl (some 10) rfl (Z5 V7.heap.size 0) (V7.alloc (.cells (ZU none 0 0 0) 30)) (by kernel_rfl) ?_;refine Zr rfl (XW)<|ZV (Z8 3)<|wn ?_;simp only[pu];obtain⟨g10,O7⟩:=ZR V7.heap.size;have Ce:=hb7.trans (hb8.mono hb7.size);have y8:=aW.below aW.lt Ce;have hBel:=(HL.out.bel.trans (Yh.out.mono HL.out.bel.size)).trans (Ce.mono (HL.out.bel.trans (Yh.out.mono HL.out.bel.size)).size);rw[O7];obtain⟨VJ,S9⟩:=ZF (a':=none) (n':=0) (k':=0) (c':=0) y8;have Tq:=ZT hBel HG.out.2.1 (ZU none 0 0 0);have hno:=wH (c:=c) (show 256<(Yb A t).length by omega);have HE:Hid (bg Bs w (MK A c t) (.returned (.tuple #[.agg (ZU none 0 0 0),Z8 3])) (V8.setRow g4 (ZU none 0 0 0))):=Z9 (by rw[hno]; exact⟨none,0,rfl,MB _ _,Tq⟩);generalize V8.setRow g4 (ZU none 0 0 0)=V9 at *
    clear Tq y8 hBel Ce hno;go_upto_region 8 with fail;refine wl<|ZV (Z8 3)<|ZN (Za rfl 3 0 (decide_eq_false (by decide)))<|wn ?_;simp only[pu];go_upto_region 9 with fail;refine wl<|ZG (.agg (ZU none 0 0 0)) (Z8 3)<|Zr rfl (VJ)<|ZV (Z8 3)<|wn ?_;simp only[pu];go_wp2_with fail;exact bodyPost_ret (ZO (p:=4) (q:=5) rfl (by kernel_rfl) (ZP S9) rfl) rfl HE.out
   ·rw[if_neg hfl] at CS;go_upto_region 7 with fail;refine wl<|ZK rfl ⟨g2,0,none⟩ (.agg (ZU ad B.length k c)) (ZP aX)<|ZK rfl ⟨g8,0,none⟩ (.agg (Zt (x.1,y.2.1+x.2,y.2.2))) (Y9 aF4) <|
     XZ (fun v w'=>∃ a7 k7,v=.tuple #[.agg (ZU a7 B2.length k7 c),Z8 0]/\Zf w' V6.heap.size (.slice a7 B2.length k7) B2/\Below V6.heap.size V6 w') (CS.mono fun e w' q=>by obtain⟨ad,kk,h1,h2,h3⟩:=q; exact⟨_,h1,ad,kk,rfl,h2,h3⟩) (fun vv V7 hq=>?_)
    obtain⟨a7,k7,rfl,KZ,hb7⟩:=hq;obtain⟨V8,XW,hb8,OO⟩:=XM V7 a7 B2.length k7 c;refine YG (.tuple #[.agg (ZU a7 B2.length k7 c),Z8 0]) (.agg (ZU a7 B2.length k7 c)) (Z8 0) ?_;refine Zz rfl (some 10) rfl (Z5 V7.heap.size 0) (V7.alloc (.cells (ZU none 0 0 0) 30)) (by kernel_rfl) ?_;refine Zr rfl (XW)<|ZV (Z8 0)<|wn ?_;simp only[pu];obtain⟨g10,O7⟩:=ZR V7.heap.size;have Ce:=hb7.trans (hb8.mono hb7.size);have y8:=aW.below aW.lt Ce;have aF5:=aX.below aX.lt Ce;have hBel:=(HL.out.bel.trans (Yh.out.mono HL.out.bel.size)).trans (Ce.mono (HL.out.bel.trans (Yh.out.mono HL.out.bel.size)).size);rw[O7] at OO ⊢;obtain⟨VJ,aF6⟩:=ZF (a':=a7) (n':=B2.length) (k':=k7) (c':=c) aF5;have Tq:=ZT hBel HG.out.1 (ZU a7 B2.length k7 c);have aF7:=y8.but (But.setRow (g:=g2) V8 (ZU a7 B2.length k7 c)) HG.out.2.2.2;have aQ9:g2<V6.heap.size:=(by have:=HVS.out; have:=Yh.out.size; omega);have aT8:g4<V6.heap.size:=(by have:=HVS.out; have:=Yh.out.size; omega);have OZ:=Zq (own_below KZ hb8) (But.setRow (g:=g2) V8 (ZU a7 B2.length k7 c)) aQ9;have aF8:=y5 OZ;have aR0:Hid (GvL w g2 g4 Bs A c t (j+1) (V8.setRow g2 (ZU a7 B2.length k7 c)) B2 a7 k7):=Z9 ⟨hJ1,hval hfl,aF6,aF7,own_base OZ (Nat.le_trans hBs (Nat.le_trans HL.out.bel.size Yh.out.size)),Tq,fun q hq=>by have:=(aF8 q hq).1; omega⟩;generalize V8.setRow g2 (ZU a7 B2.length k7 c)=V9 at *
    clear Tq y8 aF5 hBel Ce aF6 aF7 OZ KZ hb7 hb8 aF8;go_upto_region 8 with fail;refine wl<|ZV (Z8 0)<|ZN (Za rfl 0 0 (decide_eq_true rfl))<|wn ?_;simp only[pu];go_upto_region 10 with fail;refine wl<|ZK rfl ⟨g10,0,none⟩ (.agg (ZU a7 B2.length k7 c)) (ZP OO)<|Zr rfl (VJ)<|wn ?_;simp only[pu];go_upto_region 11 with fail;refine wl<|YC (Z8 (j+1:Nat)) (ZH rfl j 1 (by omega))<|ZV (Z8 (j+1:Nat))<|wn ?_;simp only[pu];go_wp2_with fail;go_roundg (t.tr.length-(j+1))
    case measure=>have:=HG9.out; omega
    case rel=>exact⟨j+1,B2,a7,k7,rfl,hlt,aR0,rfl⟩
  ·obtain rfl:t.tr.length=j:=(by omega);have hfin:Yb A t=B:=(HL.out.gj.is).symm;obtain⟨VJ,S9⟩:=ZF (a':=ad) (n':=B.length) (k':=k) (c':=c) HL.out.bx4;have hrow:=kD HL.out.row (fun q hq=>(HL.out.ne q hq).2) (But.setRow (g:=g4) wr (ZU ad B.length k c));have Wi:=ZT HL.out.bel HG.out.2.1 (ZU ad B.length k c);have hyes:=CY (A:=A) (c:=c) (t:=t) (by rw[hfin]; omega);rw[hfin] at hyes;have HE:Hid (bg Bs w (MK A c t) (.returned (.tuple #[.agg (ZU ad B.length k c),Z8 0])) (wr.setRow g4 (ZU ad B.length k c))):=Z9 (by rw[hyes]; exact⟨ad,k,rfl,hrow,Wi⟩);generalize wr.setRow g4 (ZU ad B.length k c)=V9 at *
   clear hrow Wi hyes hfin;go_upto_region 2 with fail;refine wl<|ZN (Zy rfl (t.tr.length) (t.tr.length) dF)<|wn ?_;simp only[pu];go_upto_region 12 with fail;refine wl<|ZK rfl ⟨g2,0,none⟩ (.agg (ZU ad B.length k c)) (ZP HL.out.zl)<|Zr rfl (VJ)<|ZV (Z8 0)<|wn ?_;simp only[pu];go_wp2_with fail;exact bodyPost_ret (ZO (p:=4) (q:=5) rfl (by kernel_rfl) (ZP S9) rfl) rfl HE.out
end Go.Proofs.YtfpnnmeblefkkaaGreatDoor.Lg
