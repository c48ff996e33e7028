/-
  Texts joined.
-/
import Derived.Test.YtfpnnmeblefkkaaGreatDoorD19
set_option maxRecDepth 100000
set_option maxHeartbeats 8000000
set_option linter.unusedSimpArgs false
set_option linter.unusedVariables false
namespace Go.Proofs.YtfpnnmeblefkkaaGreatDoor.Lg
open Mo (YK YR Yl Yw)
open Go.RowKit
def PN (A:List Ac)(t:YV):Ac×Int:=if (Zi A t.snd).2=false then (WE,13) else if (Zi A t.snd).1.2.2≠t.sq then (WE,14) else if t.sq=18446744073709551615 then (WE,6) else ((Zi A t.snd).1,0)
def JG (t:YV)(price size:Int):Int:=if t.Zx<YK size t.tr.length then 15 else if Yl t.Zx price=false then 6 else if t.Y8<Yw t.Zx price then 16 else 0
def LQ (A:List Ac)(c:Int)(t:YV):List Ac×Int×Int:=if VP t=false then ([],0,6) else if (Zi A t.snd).1.2.1<YN t then ([],0,17) else (VO A t,c,0)
def LU (A:List Ac)(c:Int)(t:YV):List Ac×Int×Int:=if 256<(Yb A t).length then ([],0,3) else (Yb A t,c,0)
def Sr (A:List Ac)(c price:Int)(t:YV)(size:Int):List Ac×Int×Int:=if Yc A price t size=0 then (Yb A t,c+t.Y8,0) else ([],0,Yc A price t size)
theorem aU {A:List Ac}{c price size:Int}{t:YV}(h:(PN A t).2≠0):Sr A c price t size=([],0,(PN A t).2):=by
 have e:Yc A price t size=(PN A t).2:=by
  revert h
  unfold PN Yc;by_cases h1:(Zi A t.snd).2=false
  ·rw[if_pos h1,if_pos h1]; intro _; rfl
  rw[if_neg h1,if_neg h1];by_cases h2:(Zi A t.snd).1.2.2≠t.sq
  ·rw[if_pos h2,if_pos h2]; intro _; rfl
  rw[if_neg h2,if_neg h2];by_cases h3:t.sq=18446744073709551615
  ·rw[if_pos h3,if_pos h3]; intro _; rfl
  rw[if_neg h3,if_neg h3]; intro h4; exact absurd rfl h4
 unfold Sr;rw[e,if_neg h]
theorem jT {A:List Ac}{t:YV}(h:(PN A t).2=0):(Zi A t.snd).2=true/\(Zi A t.snd).1.2.2=t.sq/\¬ t.sq=18446744073709551615/\(PN A t).1=(Zi A t.snd).1:=by
 revert h
 unfold PN;by_cases h1:(Zi A t.snd).2=false
 ·rw[if_pos h1]; intro h; exact absurd h (by decide)
 rw[if_neg h1];by_cases h2:(Zi A t.snd).1.2.2≠t.sq
 ·rw[if_pos h2]; intro h; exact absurd h (by decide)
 rw[if_neg h2];by_cases h3:t.sq=18446744073709551615
 ·rw[if_pos h3]; intro h; exact absurd h (by decide)
 rw[if_neg h3]; intro _;exact⟨by simpa using h1,Decidable.not_not.1 h2,h3,rfl⟩
theorem Na {A:List Ac}{price size:Int}{t:YV}(h:(PN A t).2=0):Yc A price t size=if JG t price size≠0 then JG t price size else if VP t=false then 6 else if (Zi A t.snd).1.2.1<YN t then 17 else if 256<(Yb A t).length then 3 else 0:=by
 obtain⟨h1,h2,h3,-⟩:=jT h;unfold Yc JG;rw[if_neg (by rw[h1]; decide),if_neg (fun q=>q h2),if_neg h3];by_cases h4:t.Zx<YK size t.tr.length
 ·rw[if_pos h4,if_pos h4,if_pos (by decide)]
 rw[if_neg h4,if_neg h4];by_cases h5:Yl t.Zx price=false
 ·rw[if_pos h5,if_pos h5,if_pos (by decide)]
 rw[if_neg h5,if_neg h5];by_cases h6:t.Y8<Yw t.Zx price
 ·rw[if_pos h6,if_pos h6,if_pos (by decide)]
 rw[if_neg h6,if_neg h6];rfl
theorem aT {A:List Ac}{c price size:Int}{t:YV}(h:(PN A t).2=0)(h1:JG t price size≠0):Sr A c price t size=([],0,JG t price size):=by
 have e:=Na (price:=price) (size:=size) h;rw[if_pos h1] at e;unfold Sr;rw[e,if_neg h1]
theorem aS {A:List Ac}{c price size:Int}{t:YV}(h:(PN A t).2=0)(h1:JG t price size=0)(h2:(LQ A c t).2.2≠0):Sr A c price t size=([],0,(LQ A c t).2.2):=by
 have e:=Na (price:=price) (size:=size) h;rw[if_neg (by rw[h1]; decide)] at e;have e2:Yc A price t size=(LQ A c t).2.2:=by
  revert h2
  rw[e];unfold LQ;by_cases c1:VP t=false
  ·rw[if_pos c1,if_pos c1]; intro _; rfl
  rw[if_neg c1,if_neg c1];by_cases c2:(Zi A t.snd).1.2.1<YN t
  ·rw[if_pos c2,if_pos c2]; intro _; rfl
  rw[if_neg c2]; intro h; exact absurd rfl h
 unfold Sr;rw[e2,if_neg h2]
theorem jS {A:List Ac}{c:Int}{t:YV}(h2:(LQ A c t).2.2=0):VP t=true/\¬ (Zi A t.snd).1.2.1<YN t/\LQ A c t=(VO A t,c,0):=by
 revert h2
 unfold LQ;by_cases c1:VP t=false
 ·rw[if_pos c1]; intro h; exact absurd h (by decide)
 rw[if_neg c1];by_cases c2:(Zi A t.snd).1.2.1<YN t
 ·rw[if_pos c2]; intro h; exact absurd h (by decide)
 rw[if_neg c2]; intro _;exact⟨by simpa using c1,c2,rfl⟩
theorem aQ {A:List Ac}{c price size:Int}{t:YV}(h:(PN A t).2=0)(h1:JG t price size=0)(h2:(LQ A c t).2.2=0):Sr A c price t size=if (LU A c t).2.2=0 then ((LU A c t).1,c+t.Y8,0) else ([],0,(LU A c t).2.2):=by
 obtain⟨c1,c2,-⟩:=jS h2;have e:=Na (price:=price) (size:=size) h;rw[if_neg (by rw[h1]; decide),if_neg (by rw[c1]; decide),if_neg c2] at e;unfold Sr LU;rw[e];by_cases c3:256<(Yb A t).length
 ·rw[if_pos c3,if_pos c3,if_neg (by decide),if_neg (by decide)]
 ·rw[if_neg c3,if_neg c3,if_pos rfl]
theorem ao7 {A:List Ac}{c price:Int}{L:List Int}(hv:YE A c=0)(hd:(Zc L).2=0):TF A c price L=(if (Sr A c price (Zc L).1 L.length).2.2=0 then ((Sr A c price (Zc L).1 L.length).1,(Sr A c price (Zc L).1 L.length).2.1) else (A,c),⟨(Sr A c price (Zc L).1 L.length).2.2,(Zc L).1.snd,(Zc L).1.sq,(Zc L).1.Zx,YR (Zc L).1.Y8 (Zc L).1.Zx⟩):=by
 unfold TF Sr;rw[if_neg (by rw[hv]; decide),if_neg (by rw[hd]; decide)];by_cases h:Yc A price (Zc L).1 L.length=0
 ·rw[h,if_neg (by decide),if_pos rfl,if_pos rfl]
 ·rw[if_pos h,if_neg h,if_neg h]
theorem H9 (A:List Ac)(s:ByteArray):Vw A s=(s,(Zi A s).1.2.1,(Zi A s).1.2.2):=by
 unfold Vw Zi;by_cases h:YS A s<A.length
 ·rw[if_pos h,if_pos h];have:=(Pj h).1;show aca A (YS A s)=(s,(aca A (YS A s)).2.1,(aca A (YS A s)).2.2);generalize aca A (YS A s)=y at *
  subst this;rfl
 ·rw[if_neg h,if_neg h]; rfl
theorem Ce {A:List Ac}{c:Int}{t:YV}(hv:YE A c=0)(h1:(Zi A t.snd).2=true)(h0:0<=YN t):OH A c ((Zi A t.snd).1.1,(Zi A t.snd).1.2.1-YN t,(Zi A t.snd).1.2.2+1)=(VO A t,c,0):=by
 obtain⟨v1,v2,v3,v4⟩:=VE hv;obtain⟨f1,f2,f3⟩:=Vt h1;have hs:Yt A ((Zi A t.snd).1.1,(Zi A t.snd).1.2.1-YN t,(Zi A t.snd).1.2.2+1)=VO A t:=rfl;have hl:(VO A t).length=A.length:=by
  rw[<- hs,Wv]; simp only[f3]; rw[if_pos f1]
 have ht:Xp (VO A t) c=true:=decide_eq_true (by
  have v5:tot (c::Ze A)<18446744073709551616:=of_decide_eq_true v4;rw[Ya] at v5 ⊢;rw[yH h1]; omega)
 rw[He hv (by show isName (nums (Zi A t.snd).1.1)=true; rw[f2]; exact v3 _ f1) (by rw[hs,hl]; omega),hs,ht];rfl
theorem aK {A:List Ac}{c:Int}{t:YV}(hv:YE A c=0)(h1:(Zi A t.snd).2=true)(h0:0<=YN t):YE (VO A t) c=0:=by
 have h:=Ce hv h1 h0;obtain⟨-,-,-,h4⟩:=xX (A:=A) (c:=c) (a:=((Zi A t.snd).1.1,(Zi A t.snd).1.2.1-YN t,(Zi A t.snd).1.2.2+1)) (by rw[h]);exact h4
theorem Cc {B:List Ac}{c:Int}{x:Tf}(hv:YE B c=0)(hn:isName (nums x.1)=true)(ht:c+(tot (Ze B)+x.2)<18446744073709551616):OH B c (x.1,(Zi B x.1).1.2.1+x.2,(Zi B x.1).1.2.2)=if 256<(Vu B x).length then ([],0,3) else (Vu B x,c,0):=by
 have hs:Yt B (x.1,(Zi B x.1).1.2.1+x.2,(Zi B x.1).1.2.2)=Vu B x:=by unfold Vu; rw[H9]
 by_cases hl:256<(Vu B x).length
 ·rw[if_pos hl];exact qH hv hn (by rw[hs]; exact hl)
 ·rw[if_neg hl,He hv hn (by rw[hs]; exact hl),hs];have ht:Xp (Vu B x) c=true:=decide_eq_true (by rw[Ya,yI]; exact ht);rw[ht]; rfl
theorem aJ {B:List Ac}{c:Int}{x:Tf}(hv:YE B c=0)(hn:isName (nums x.1)=true)(ht:c+(tot (Ze B)+x.2)<18446744073709551616)(hl:¬ 256<(Vu B x).length):YE (Vu B x) c=0:=by
 have h:=Cc hv hn ht;rw[if_neg hl] at h;obtain⟨h3,-,-,h4⟩:=xX (A:=B) (c:=c) (a:=(x.1,(Zi B x.1).1.2.1+x.2,(Zi B x.1).1.2.2)) (by rw[h]);rw[h] at h3;rw[Prod.mk.injEq] at h3;rw[h3.1]; exact h4
theorem aG (A:List Ac)(x:Tf):A.length<=(Vu A x).length:=by
 unfold Vu; rw[Wv]; split <;> omega
theorem BZ:∀ (L:List Tf) (A:List Ac),A.length<=(L.foldl Vu A).length
 | [],_=>Nat.le_refl _
 | x::L,A=>by rw[List.foldl_cons]; exact Nat.le_trans (aG A x) (BZ L _)
theorem tq (A:List Ac)(t:YV)(j:Nat):(PG A t j).length<=(Yb A t).length:=by
 unfold Yb PG;rw[List.take_length];have h:(t.tr.foldl Vu (VO A t))=(t.tr.drop j).foldl Vu ((t.tr.take j).foldl Vu (VO A t)):=by rw[<- List.foldl_append,List.take_append_drop]
 rw[h];exact BZ _ _
end Go.Proofs.YtfpnnmeblefkkaaGreatDoor.Lg
namespace Go.Proofs.YtfpnnmeblefkkaaGreatDoor.Lg
attribute [local irreducible] wpList wpQuiet
open Mo (YK YR Yl Yw)
open Go.RowKit
def jP (a b:Int):Bool:=decide (b<=a)
def jQ (a b:Int):Int:=if b<=a then a-b else 0
theorem tu (a b:Int)(w:World)(ha:W64 a)(hb:W64 b) :
  Calls Tryz.prog 110 #[Z7 a,Z7 b] w fun e w'=>e=.returned (.tuple #[Z7 (jQ a b),.bool (jP a b)])/\w=w':=by
 obtain⟨a0,a1⟩:=ha; obtain⟨b0,b1⟩:=hb;by_cases h:b<=a
 ·have e1:jQ a b=a-b:=if_pos h;have e2:jP a b=true:=decide_eq_true h;rw[e1,e2];clear e1 e2;go_enter Tryz.func110,Tryz.ntmps110;go_wp2;go_ret2;exact⟨rfl,rfl⟩
 ·have e1:jQ a b=0:=if_neg h;have e2:jP a b=false:=decide_eq_false h;rw[e1,e2];clear e1 e2;go_enter Tryz.func110,Tryz.ntmps110;go_wp2;go_ret2;exact⟨rfl,rfl⟩
theorem aO8 (a:Option Addr)(k:Nat)(A:List Ac)(c:Int)(w:World)(hR:Cs w a (acc A))(hn:A.length<=4398046511104) :
  Calls Tryz.prog 41 #[.agg (ZT a A.length k c)] w (bI w A c):=by
 obtain⟨hb0,hX1,hX2⟩:=Ym w (ZT a A.length k c) (ZT none 0 0 0) 30 30;have hA:=hR.below hb0;obtain⟨n,hnn⟩:=ZQ A.length;have CC:=fun V h=>G9 a k A V h hn;have HN:=Z9 hnn;rw[hnn] at hb0 hX1 hX2 hA CC ⊢;clear hR hn hnn;go_enter Tryz.func41,Tryz.ntmps41;go_upto_region 1 with fail;change Code.wp _ _ _ _ ((w.alloc (.cells (ZT a n k c) 30)).alloc (.cells (ZT none 0 0 0) 30));generalize (w.alloc (.cells (ZT a n k c) 30)).alloc (.cells (ZT none 0 0 0) 30)=W at *
 obtain⟨g1,hg1⟩:=ZQ w.heap.size;obtain⟨g2,hg2⟩:=ZQ (g1+1);have HB0:=Z9 hb0;rw[show w.heap.size+1=g2 by omega] at hX2;have HG:Hid (w.heap.size<=g1/\w.heap.size<=g2/\g1≠g2/\g2≠g1/\g1<W.heap.size/\g2<W.heap.size):=Z9 ⟨by omega,by omega,by omega,by omega,by rw[hg1] at hX1; exact hX1.lt,hX2.lt⟩;rw[hg1] at hX1;simp only[hg1];simp only[hg2];have Wy:=Z9 hX1;have RU:=Z9 hX2;have CCW:=CC W hA;clear hb0 hX1 hX2 hA hg1 hg2 CC;refine wl<|ZV (Z5 g1 0)<|ZL rfl ⟨g1,0,none⟩ (.slice a n k) (Wy.out.ZR 0)<|XI (fun v w'=>Zd w' W.heap.size v A/\Below W.heap.size W w') (CCW.mono fun e w' q=>by obtain⟨v,h1,h2,h3⟩:=q; exact⟨v,h1,h2,h3⟩) (fun vv V1 hq=>?_);obtain⟨hr1,hb1⟩:=hq;obtain⟨ad,cd,rfl,-,-⟩:=hr1.cs;rw[HN.out];rw[HN.out] at hr1;obtain⟨V2,hst2,an9,hb2,Uk⟩:=Zl (i:=0) (ty:=28) (v:=.slice ad n cd) (cs':=ZT ad n cd c) (Wy.out.below Wy.out.lt hb1) (HB0.out.trans (hb1.mono HB0.out.size)) HG.out.1 (by show 0<2; decide) rfl (by kernel_rfl) rfl;have hr2:=Zo hr1 Uk HG.out.2.2.2.2.1;refine ZV (Z5 g1 0)<|Zk rfl (hst2)<|wn ?_;simp only[pu];have I8:=(RU.out.below RU.out.lt hb1).but Uk HG.out.2.2.2.1;obtain⟨hst3,ao0⟩:=ZC (a':=ad) (n':=n) (k':=cd) (c':=c) I8;have hr3:=Zo hr2 (But.setRow (g:=g2) V2 (ZT ad n cd c)) HG.out.2.2.2.2.2;have hb3:=ZU hb2 HG.out.2.1 (ZT ad n cd c);have HE:Hid (Zd (V2.setRow g2 (ZT ad n cd c)) w.heap.size (.slice ad n cd) A/\Below w.heap.size w (V2.setRow g2 (ZT ad n cd c))):=Z9 ⟨own_base hr3 HB0.out.size,hb3⟩;generalize V2.setRow g2 (ZT ad n cd c)=V3 at *
 clear CCW hr1 hb1 hst2 hb2 Uk hr2 I8 hr3 hb3;go_upto_region 2 with fail;refine wl<|ZL rfl ⟨g1,0,none⟩ (.agg (ZT ad n cd c)) (ZO an9)<|Zk rfl (hst3)<|wn ?_;simp only[pu];go_wp2_with fail;exact bodyPost_ret (XU rfl (by kernel_rfl) (ZO ao0)) rfl ⟨ad,cd,by rw[HN.out],by rw[HN.out]; exact HE.out.1,HE.out.2⟩
def Fz (A:List Ac)(c:Int)(L:List Int):YV×Int:=if YE A c≠0 then (zX,1) else Zc L
theorem aE7 (A:List Ac)(c:Int)(L:List Int)(la ra:Option Addr)(lk rc:Nat)(w:World)(hL:Cs w la (acc A))(hn:A.length<=4398046511104)(hc:W64 c)(hw:Tz A)(hz:∀ x,x∈A->x.1.size<=140737488355328)(hR:Sl w ra rc L)(hrc:L.length<=rc)(h8:∀ y,y∈L->W8 y) :
  Calls Tryz.prog 40 #[.agg (ZT la A.length lk c),.slice ra L.length rc] w (Af w (Fz A c L)):=by
 obtain⟨hb0,hX2,Xy⟩:=Ym w (ZT la A.length lk c) (ZA zX none 0) 30 63;have hA:=hL.below hb0;have HRW:=Z9 (ZP hR hb0);obtain⟨D,hD⟩:=ZQ (Fz A c L);have H1:Hid (YE A c≠0->D=(zX,1)):=Z9 fun h=>by rw[<- hD]; exact if_pos h
 have H2:Hid (YE A c=0->D=Zc L):=Z9 fun h=>by rw[<- hD]; exact if_neg (by rw[h]; decide)
 have CV:=fun V h=>RP la lk A c V h hn hc hw hz;have CD:=Z9 (fun V (h:Sl V ra rc L)=>oL ra rc L V h hrc h8);rw[hD];generalize YE A c=ve at *
 clear hL hR hz h8 hD;go_enter Tryz.func40,Tryz.ntmps40;go_upto_region 1 with fail;change Code.wp _ _ _ _ ((w.alloc (.cells (ZT la A.length lk c) 30)).alloc (.cells (ZA zX none 0) 63));generalize (w.alloc (.cells (ZT la A.length lk c) 30)).alloc (.cells (ZA zX none 0) 63)=W at *
 obtain⟨g2,hg2⟩:=ZQ w.heap.size;obtain⟨g4,hg4⟩:=ZQ (g2+1);have HB0:=Z9 hb0;rw[show w.heap.size+1=g4 by omega] at Xy;have HG:Hid (w.heap.size<=g4/\g4<W.heap.size):=Z9 ⟨by omega,Xy.lt⟩;rw[hg2] at hX2;simp only[hg2];simp only[hg4];have RU:=Z9 hX2;have Yh:=Z9 Xy;have Py:=CV W hA;clear hb0 hX2 Xy hA hg2 hg4 CV;refine wl<|ZL rfl ⟨g2,0,none⟩ (.agg (ZT la A.length lk c)) (ZO RU.out)<|YM (Z8 ve) (fun w'=>Below W.heap.size W w') (Py) (fun W1 hW1=>?_);simp only[pu];have HB1:=Z9 (HB0.out.trans (hW1.mono HB0.out.size));have Fv:=Z9 (Yh.out.below Yh.out.lt hW1);have aP9:=Z9 (ZP HRW.out hW1);have Vl:Hid (W.heap.size<=W1.heap.size):=Z9 hW1.size;clear Py hW1 Yh HRW RU;by_cases hv:ve=0
 ·subst hv;refine ZM (YL rfl 0 0 (decide_eq_true rfl))<|wn ?_;simp only[pu];have hd:=H2.out rfl;subst hd;have CDW:=CD.out W1 aP9.out;generalize Zc L=D at *
  clear CD H1 H2;go_upto_region 3 with fail;refine wl<|ZV (.slice ra L.length rc)<|XI (fun v w'=>∃ a c,v=.tuple #[.agg (ZA D.1 a c),Z8 D.2]/\Yv w' W1.heap.size (.slice a D.1.tr.length c) D.1.tr/\Below W1.heap.size W1 w') (CDW.mono fun e w' q=>by obtain⟨a,c,h1,h2⟩:=q; exact⟨_,h1,a,c,rfl,h2⟩) (fun vv W2 hq=>?_);obtain⟨ta,tk,rfl,hrt,hb2⟩:=hq;obtain⟨hst3,VJ⟩:=Zm (y:=D.1) (a':=ta) (c':=tk) (Fv.out.below Fv.out.lt hb2);have aG3:=Zo hrt (But.setRow (g:=g4) W2 (ZA D.1 ta tk)) (Nat.lt_of_lt_of_le HG.out.2 Vl.out);have hb3:=ZU (HB1.out.trans (hb2.mono HB1.out.size)) HG.out.1 (ZA D.1 ta tk);have HE:Hid (Af w D (.returned (.tuple #[.agg (ZA D.1 ta tk),Z8 D.2])) (W2.setRow g4 (ZA D.1 ta tk))):=Z9 ⟨ta,tk,rfl,own_base aG3 HB1.out.size,hb3⟩;generalize W2.setRow g4 (ZA D.1 ta tk)=W3 at *
  clear hrt hb2 aG3 hb3;refine ZB (.agg (ZA D.1 ta tk)) (Z8 D.2)<|Zk rfl (hst3)<|ZV (Z8 D.2)<|wn ?_;simp only[pu];go_wp2_with fail;exact bodyPost_ret (ZN (p:=4) (q:=5) rfl (by kernel_rfl) (ZH VJ) rfl) rfl HE.out
 ·refine ZM (YL rfl ve 0 (decide_eq_false hv))<|wn ?_;simp only[pu];have hd:=H1.out hv;subst hd;obtain⟨hst3,VJ⟩:=Zm (y:=zX) (a':=none) (c':=0) Fv.out;have hb3:=ZU HB1.out HG.out.1 (ZA zX none 0);have HE:Hid (Af w (zX,1) (.returned (.tuple #[.agg (ZA zX none 0),Z8 1])) (W1.setRow g4 (ZA zX none 0))):=Z9 ⟨none,0,rfl,Yv.nil _ _,hb3⟩;generalize W1.setRow g4 (ZA zX none 0)=W3 at *
  clear CD H1 H2 hb3;go_upto_region 2 with fail;refine wl<|ZV (.agg (ZA zX none 0))<|Zk rfl (hst3)<|ZV (Z8 1)<|wn ?_;simp only[pu];go_wp2_with fail;exact bodyPost_ret (ZN (p:=4) (q:=5) rfl (by kernel_rfl) (ZH VJ) rfl) rfl HE.out
theorem jU (A:List Ac)(c:Int)(t:YV)(la ta:Option Addr)(lk tk:Nat)(w:World)(hL:Cs w la (acc A))(hn:A.length<=4398046511104) :
  Calls Tryz.prog 69 #[.agg (ZT la A.length lk c),.agg (ZA t ta tk)] w fun e w'=>e=.returned (.tuple #[.agg (Zq (PN A t).1),Z8 (PN A t).2])/\Below w.heap.size w w':=by
 obtain⟨hb0,hX2,VJ,Xy⟩:=Xo w (ZT la A.length lk c) (ZA t ta tk) (Zq WE) 30 63 56;have hA:=hL.below hb0;have CG0:=fun V h=>ab3 la lk A c t.snd V h hn;obtain⟨r,hr⟩:=ZQ (PN A t);have hr0:=hr;unfold PN at hr0;obtain⟨y,hy⟩:=ZQ ((Zi A t.snd).1);obtain⟨gb,hgb⟩:=ZQ ((Zi A t.snd).2);rw[hy,hgb] at hr0 CG0;have HR:=Z9 hr0.symm;rw[hr];clear hL hn hr hr0 hy hgb;go_enter Tryz.func69,Tryz.ntmps69;go_upto_region 1 with fail;change Code.wp _ _ _ _ (((w.alloc (.cells (ZT la A.length lk c) 30)).alloc (.cells (ZA t ta tk) 63)).alloc (.cells (Zq WE) 56));generalize ((w.alloc (.cells (ZT la A.length lk c) 30)).alloc (.cells (ZA t ta tk) 63)).alloc (.cells (Zq WE) 56)=W at *
 obtain⟨g2,hg2⟩:=ZQ w.heap.size;obtain⟨g3,hg3⟩:=ZQ (g2+1);obtain⟨g4,hg4⟩:=ZQ (g3+1);have HB0:=Z9 hb0;rw[show w.heap.size+2=g4 by omega] at Xy;rw[show w.heap.size+1=g3 by omega] at VJ;have HG:Hid (w.heap.size<=g4):=Z9 (by omega);rw[hg2] at hX2;simp only[hg2];simp only[hg3];simp only[hg4];have RU:=Z9 hX2;have Xr:=Z9 VJ;have Yh:=Z9 Xy;have CG:=CG0 W hA;clear hb0 hX2 VJ Xy hA hg2 hg3 hg4 CG0;refine wl<|ZL rfl ⟨g2,0,none⟩ (.agg (ZT la A.length lk c)) (ZO RU.out)<|ZV (Z5 g3 0)<|ZL rfl ⟨g3,0,none⟩ (.string t.snd) (Xr.out.ZR 0)<|YM (.tuple #[.agg (Zq y),.bool gb]) (fun w'=>Below W.heap.size W w') CG (fun W1 hW1=>?_);obtain⟨V2,hst2,hb2,hbx2⟩:=VN W1 y;refine Yr (.tuple #[.agg (Zq y),.bool gb]) (.agg (Zq y)) (.bool gb) ?_;refine Zy rfl (some 6) rfl (Z5 W1.heap.size 0) (W1.alloc (.cells (Zq WE) 56)) (by kernel_rfl) ?_;refine Zk rfl (hst2)<|ZV (.bool gb)<|wn ?_;simp only[pu];have hb3:=hW1.trans (hb2.mono hW1.size);obtain⟨g6,S9⟩:=ZQ W1.heap.size;rw[S9] at hbx2 ⊢;have Xx:=Z9 hbx2;have HB2:=Z9 (HB0.out.trans (hb3.mono HB0.out.size));have aG4:=Z9 (Xr.out.below Xr.out.lt hb3);have Cj:=Yh.out.below Yh.out.lt hb3;clear CG hW1 hst2 hb2 S9 hbx2 hb3 RU Xr Yh;cases gb
 ·go_upto_region 2 with fail;refine wl<|Yr ZY ZW ZW<|wn ?_;simp only[pu];obtain rfl:r=(WE,13):=by rw[HR.out]; rfl
  obtain⟨hst,SI⟩:=XP (y:=WE) Cj;have Zg:=Z9 (ZU HB2.out HG.out (Zq WE));generalize V2.setRow g4 (Zq WE)=V9 at *
  go_upto_region 3 with fail;refine wl<|ZV (.agg (Zq WE))<|Zk rfl (hst)<|ZV (Z8 13)<|wn ?_;simp only[pu];go_wp2_with fail;exact bodyPost_ret (ZN (p:=4) (q:=5) rfl (by kernel_rfl) (Za SI) rfl) rfl ⟨rfl,Zg.out⟩
 ·go_upto_region 2 with fail;refine wl<|Yr ZW ZY ZY<|wn ?_;simp only[pu];by_cases hs:y.2.2=t.sq
  ·go_upto_region 4 with fail;refine wl<|ZV (Z5 g6 2)<|ZL rfl ⟨g6,2,none⟩ (Z7 y.2.2) (Xx.out.ZR 2)<|ZV (Z5 g3 1)<|ZL rfl ⟨g3,1,none⟩ (Z7 t.sq) (aG4.out.ZR 1) <|
    ZM (FI rfl y.2.2 t.sq (decide_eq_true hs))<|ZV ZY<|wn ?_
   simp only[pu];by_cases hm:t.sq=18446744073709551615
   ·go_upto_region 6 with fail;refine wl<|ZV (Z5 g6 2)<|ZL rfl ⟨g6,2,none⟩ (Z7 y.2.2) (Xx.out.ZR 2)<|ZM (KU rfl y.2.2 18446744073709551615 (decide_eq_true (hs.trans hm)))<|ZV ZW <|
     wpList_nil ?_
    simp only[pu];obtain rfl:r=(WE,6):=(by rw[HR.out,if_neg (by decide),if_neg (fun q=>q hs),if_pos hm]);obtain⟨hst,SI⟩:=XP (y:=WE) Cj;have Zg:=Z9 (ZU HB2.out HG.out (Zq WE));generalize V2.setRow g4 (Zq WE)=V9 at *
    go_upto_region 7 with fail;refine wl<|ZV (.agg (Zq WE))<|Zk rfl (hst)<|ZV (Z8 6)<|wn ?_;simp only[pu];go_wp2_with fail;exact bodyPost_ret (ZN (p:=4) (q:=5) rfl (by kernel_rfl) (Za SI) rfl) rfl ⟨rfl,Zg.out⟩
   ·go_upto_region 6 with fail;refine wl<|ZV (Z5 g6 2)<|ZL rfl ⟨g6,2,none⟩ (Z7 y.2.2) (Xx.out.ZR 2)<|ZM (KU rfl y.2.2 18446744073709551615 (decide_eq_false (fun q=>hm (hs.symm.trans q)))) <|
     ZV ZY<|wn ?_
    simp only[pu];obtain rfl:r=(y,0):=(by rw[HR.out,if_neg (by decide),if_neg (fun q=>q hs),if_neg hm]);obtain⟨hst,SI⟩:=XP (y:=y) Cj;have Zg:=Z9 (ZU HB2.out HG.out (Zq y));generalize V2.setRow g4 (Zq y)=V9 at *
    go_upto_region 8 with fail;refine wl<|ZL rfl ⟨g6,0,none⟩ (.agg (Zq y)) (Za Xx.out)<|Zk rfl (hst)<|ZV (Z8 0)<|wn ?_;simp only[pu];go_wp2_with fail;exact bodyPost_ret (ZN (p:=4) (q:=5) rfl (by kernel_rfl) (Za SI) rfl) rfl ⟨rfl,Zg.out⟩
  ·go_upto_region 4 with fail;refine wl<|ZV (Z5 g6 2)<|ZL rfl ⟨g6,2,none⟩ (Z7 y.2.2) (Xx.out.ZR 2)<|ZV (Z5 g3 1)<|ZL rfl ⟨g3,1,none⟩ (Z7 t.sq) (aG4.out.ZR 1) <|
    ZM (FI rfl y.2.2 t.sq (decide_eq_false hs))<|ZV ZW<|wn ?_
   simp only[pu];obtain rfl:r=(WE,14):=(by rw[HR.out,if_neg (by decide),if_pos hs]);obtain⟨hst,SI⟩:=XP (y:=WE) Cj;have Zg:=Z9 (ZU HB2.out HG.out (Zq WE));generalize V2.setRow g4 (Zq WE)=V9 at *
   go_upto_region 5 with fail;refine wl<|ZV (.agg (Zq WE))<|Zk rfl (hst)<|ZV (Z8 14)<|wn ?_;simp only[pu];go_wp2_with fail;exact bodyPost_ret (ZN (p:=4) (q:=5) rfl (by kernel_rfl) (Za SI) rfl) rfl ⟨rfl,Zg.out⟩
theorem aF2 (t:YV)(price size:Int)(ta:Option Addr)(tk:Nat)(w:World)(hg:W64 t.Zx)(hp:W64 price) :
  Calls Tryz.prog 70 #[.agg (ZA t ta tk),Z7 price,Z8 size] w fun e w'=>e=.returned (Z8 (JG t price size))/\Below w.heap.size w w':=by
 have hb0:Below w.heap.size w (w.alloc (.cells (ZA t ta tk) 63)):=(Below.refl _ w).alloc (Nat.le_refl _) _;have hX0:Bx (w.alloc (.cells (ZA t ta tk) 63)) w.heap.size (ZA t ta tk) 63:=heap_alloc_last w _;have CU:=fun V=>Mo.lC size t.tr.length V;have CN:=fun V=>Mo.lq t.Zx price V hg hp;obtain⟨r,hr⟩:=ZQ (JG t price size);have hr0:=hr;unfold JG at hr0;generalize YK size t.tr.length=us at *
 generalize Yw t.Zx price=mv at *
 generalize Yl t.Zx price=mb at *
 have HR:=Z9 hr0.symm;rw[hr];clear hr hr0;go_enter Tryz.func70,Tryz.ntmps70;go_upto_region 1 with fail;change Code.wp _ _ _ _ (w.alloc (.cells (ZA t ta tk) 63));generalize w.alloc (.cells (ZA t ta tk) 63)=W at *
 obtain⟨g3,hg3⟩:=ZQ w.heap.size;have HB0:=Z9 hb0;rw[hg3] at hX0;simp only[hg3];have HX0:=Z9 hX0;have qW:Hid (Bx W.drew g3 (ZA t ta tk) 63):=Z9 hX0;clear hb0 hg3 hX0;by_cases hga:t.Zx<us
 ·go_upto_region 1 with fail;refine ZJ (C:=fun U=>U=W.drew) (by kernel_rfl) (by kernel_rfl) (rfl) ?_;refine gy (Z5 g3 2)<|U7 rfl ⟨g3,2,none⟩ (Z7 t.Zx) (fun U hU=>by rw[hU]; exact qW.out.ZR 2)<|gy (Z8 size)<|gy (Z5 g3 5) <|
    U7 rfl ⟨g3,5,none⟩ (.slice ta t.tr.length tk) (fun U hU=>by rw[hU]; exact qW.out.ZR 5)<|gy (Z8 t.tr.length) ?_
  refine Vy (by kernel_rfl) (some 15) rfl 107 #[Z8 size,Z8 t.tr.length] (Z7 us) (fun U hU=>by kernel_rfl) (fun U hU=>(CU U).mono fun e w2 q=>⟨q.1,q.2 ▸ hU⟩) ?_;refine XK ZW (fun U hU=>Tj rfl t.Zx us (decide_eq_true hga) (by kernel_rfl) (by kernel_rfl) _) ?_;simp only[pu];apply wpQuiet_nil;intro U hU;have HB2:Hid (Below w.heap.size w U):=Z9 (by rw[hU]; exact HB0.out.drew);have Xr:Hid (Bx U g3 (ZA t ta tk) 63):=Z9 (by rw[hU]; exact qW.out);clear hU;obtain rfl:r=15:=by rw[HR.out,if_pos hga]
  go_upto_region 2 with fail;refine wl<|ZV (Z8 15)<|wn ?_;simp only[pu];go_wp2_with fail;go_ret;exact⟨rfl,HB2.out⟩
 ·go_upto_region 1 with fail;refine ZJ (C:=fun U=>U=W.drew) (by kernel_rfl) (by kernel_rfl) (rfl) ?_;refine gy (Z5 g3 2)<|U7 rfl ⟨g3,2,none⟩ (Z7 t.Zx) (fun U hU=>by rw[hU]; exact qW.out.ZR 2)<|gy (Z8 size)<|gy (Z5 g3 5) <|
    U7 rfl ⟨g3,5,none⟩ (.slice ta t.tr.length tk) (fun U hU=>by rw[hU]; exact qW.out.ZR 5)<|gy (Z8 t.tr.length) ?_
  refine Vy (by kernel_rfl) (some 15) rfl 107 #[Z8 size,Z8 t.tr.length] (Z7 us) (fun U hU=>by kernel_rfl) (fun U hU=>(CU U).mono fun e w2 q=>⟨q.1,q.2 ▸ hU⟩) ?_;refine XK ZY (fun U hU=>Tj rfl t.Zx us (decide_eq_false hga) (by kernel_rfl) (by kernel_rfl) _) ?_;simp only[pu];apply wpQuiet_nil;intro U hU;have HB2:Hid (Below w.heap.size w U):=Z9 (by rw[hU]; exact HB0.out.drew);have Xr:Hid (Bx U g3 (ZA t ta tk) 63):=Z9 (by rw[hU]; exact qW.out);clear hU;go_upto_region 3 with fail;refine wl<|ZV (Z5 g3 2)<|ZL rfl ⟨g3,2,none⟩ (Z7 t.Zx) (Xr.out.ZR 2)<|ZV (Z7 price)<|YM (.tuple #[Z7 mv,.bool mb]) (fun w'=>U=w') (CN U) (fun V9 VK=>?_);subst VK;refine Rf (.tuple #[Z7 mv,.bool mb]) (Z7 mv) (.bool mb) (Z7 mv) (.bool mb)<|wn ?_;simp only[pu];cases mb
  ·go_upto_region 4 with fail;refine wl<|Yr ZY ZW ZW<|wn ?_;simp only[pu];obtain rfl:r=6:=(by rw[HR.out,if_neg hga]; rfl);go_upto_region 5 with fail;refine wl<|ZV (Z8 6)<|wn ?_;simp only[pu];go_wp2_with fail;go_ret;exact⟨rfl,HB2.out⟩
  ·go_upto_region 4 with fail;refine wl<|Yr ZW ZY ZY<|wn ?_;simp only[pu];by_cases hfe:t.Y8<mv
   ·go_upto_region 6 with fail;refine wl<|ZV (Z5 g3 3)<|ZL rfl ⟨g3,3,none⟩ (Z7 t.Y8) (Xr.out.ZR 3)<|ZV (Z7 mv)<|ZM (Tj rfl t.Y8 mv (decide_eq_true hfe))<|ZV ZW <|
     wpList_nil ?_
    simp only[pu];obtain rfl:r=16:=(by rw[HR.out,if_neg hga,if_neg (by decide),if_pos hfe]);go_upto_region 7 with fail;refine wl<|ZV (Z8 16)<|wn ?_;simp only[pu];go_wp2_with fail;go_ret;exact⟨rfl,HB2.out⟩
   ·go_upto_region 6 with fail;refine wl<|ZV (Z5 g3 3)<|ZL rfl ⟨g3,3,none⟩ (Z7 t.Y8) (Xr.out.ZR 3)<|ZV (Z7 mv)<|ZM (Tj rfl t.Y8 mv (decide_eq_false hfe))<|ZV ZY <|
     wpList_nil ?_
    simp only[pu];obtain rfl:r=0:=(by rw[HR.out,if_neg hga,if_neg (by decide),if_neg hfe]);go_upto_region 8 with fail;refine wl<|ZV (Z8 0)<|wn ?_;simp only[pu];go_wp2_with fail;go_ret;exact⟨rfl,HB2.out⟩
theorem yU (w:World)(x y z u:Array Value)(t1 t2 t3 t4:Nat):Below w.heap.size w ((((w.alloc (.cells x t1)).alloc (.cells y t2)).alloc (.cells z t3)).alloc (.cells u t4))/\Bx ((((w.alloc (.cells x t1)).alloc (.cells y t2)).alloc (.cells z t3)).alloc (.cells u t4)) w.heap.size x t1/\Bx ((((w.alloc (.cells x t1)).alloc (.cells y t2)).alloc (.cells z t3)).alloc (.cells u t4)) (w.heap.size+1) y t2/\Bx ((((w.alloc (.cells x t1)).alloc (.cells y t2)).alloc (.cells z t3)).alloc (.cells u t4)) (w.heap.size+2) z t3/\Bx ((((w.alloc (.cells x t1)).alloc (.cells y t2)).alloc (.cells z t3)).alloc (.cells u t4)) (w.heap.size+3) u t4:=by
 obtain⟨h1,h2,h3,h4⟩:=Xo w x y z t1 t2 t3;have hs:(((w.alloc (.cells x t1)).alloc (.cells y t2)).alloc (.cells z t3)).heap.size=w.heap.size+3:=by simp
 have hz:Bx ((((w.alloc (.cells x t1)).alloc (.cells y t2)).alloc (.cells z t3)).alloc (.cells u t4)) (((w.alloc (.cells x t1)).alloc (.cells y t2)).alloc (.cells z t3)).heap.size u t4:=heap_alloc_last _ _;generalize ((w.alloc (.cells x t1)).alloc (.cells y t2)).alloc (.cells z t3)=W at *
 have hb:Below W.heap.size W (W.alloc (.cells u t4)):=(Below.refl _ _).alloc (Nat.le_refl _) _;rw[hs] at hz;exact⟨h1.trans (hb.mono h1.size),h2.below h2.lt hb,h3.below h3.lt hb,h4.below h4.lt hb,hz⟩
theorem yT {w:World}{B:Nat}{v:Value}{A:List Ac}(h:Zd w B v A):∀ q,v.ownBlock=some q->B<=q/\q<w.heap.size:=fun q hq=>by
 rcases h.2 with⟨rfl,-⟩ | ⟨g,cap,cur,rfl,hB,hg,-⟩
 ·cases hq
 ·obtain rfl:g=q:=Option.some.inj hq;refine⟨hB,?_⟩;rcases Nat.lt_or_ge g w.heap.size with h1 | h1
  ·exact h1
  ·rw[Array.getElem?_eq_none h1] at hg; cases hg
theorem jR {w w':World}{B g:Nat}{v:Value}{A:List Ac}(h:Zd w B v A)(hn:∀ q,v.ownBlock=some q->q≠g)(hb:But g w w'):Zd w' B v A:=
 ag3 h fun q hq=>hb.2 q (yT h q hq).2 (hn q hq)
structure iO (A:List Ac)(c price:Int)(t:YV):Prop where
 q:FaQ A c price t
 g:(Zi A t.snd).2=true
 s:(Zi A t.snd).1.2.2=t.sq
 m:¬ t.sq=18446744073709551615
theorem iO.ld {A:List Ac}{c price:Int}{t:YV}(h:iO A c price t):MG A c:=⟨h.q.v,h.q.w,h.q.cw⟩
theorem iO.xz {A:List Ac}{c price:Int}{t:YV}(h:iO A c price t):(Zi A t.snd).1.1.size<=140737488355328:=by
 obtain⟨h1,h2,h3⟩:=Vt h.g;rw[h2];exact h.ld.z _ (RJ h1)
theorem iO.dn {A:List Ac}{c price:Int}{t:YV}(h:iO A c price t)(h4:VP t=true)(h5:¬ (Zi A t.snd).1.2.1<YN t):Ja A c t:=h.q.dn h.g h.s h.m h4 h5
theorem iO.bw {A:List Ac}{c price:Int}{t:YV}(h:iO A c price t):W64 (Zi A t.snd).1.2.1:=by
 obtain⟨h1,h2,h3⟩:=Vt h.g;rw[h2];exact(h.q.w _ h1).1
theorem ap9 (t:YV)(hf:W64 t.Y8)(ha:∀ x,x∈t.tr->W64 x.2):W64 (YN t):=by
 by_cases h:VP t=true
 ·obtain⟨h1,h2⟩:=Hg h;have h3:=OI t;have h4:=(Hf ha t.tr.length).1;have:=hf.1;exact⟨by omega,by omega⟩
 ·rw[ag0 (by simpa using h)]; exact Xd
theorem ap6 (A:List Ac)(c price:Int)(t:YV)(la ta:Option Addr)(lk tk:Nat)(w:World)(hL:Cs w la (acc A))(hlk:A.length<=lk)(hT:Cs w ta (QZ t.tr))(hQ:iO A c price t) :
  Calls Tryz.prog 71 #[.agg (ZT la A.length lk c),.agg (Zq (Zi A t.snd).1),.agg (ZA t ta tk)] w (Xi w (LQ A c t)):=by
 obtain⟨hb0,VJ,Xy,Jh,Ws⟩:=yU w (ZT la A.length lk c) (Zq (Zi A t.snd).1) (ZA t ta tk) (ZT none 0 0 0) 30 56 63 30;have HAW:=Z9 hL;have hA:=hL.below hb0;have CC:=fun V h=>an7 t ta tk V h (by have:=hQ.q.m; omega) hQ.q.f hQ.q.a;have hT0:=hT.below hb0;have HYW:=Z9 (fun h4 h5=>(hQ.dn h4 h5).yw);have CS:=fun V=>tu (Zi A t.snd).1.2.1 (YN t) V hQ.bw (ap9 t hQ.q.f hQ.q.a);have HST:=Z9 (fun(h4:VP t=true) (h5:¬ (Zi A t.snd).1.2.1<YN t)=>Ce hQ.q.v hQ.g (hQ.dn h4 h5).c0.1);have HSE:=Z9 (fun(x:Ac) V (h:Cs V la (acc A)) (hx:W64 x.2.1/\W64 x.2.2) (hz:x.1=(Zi A t.snd).1.1)=>ab2 la lk A c x V h hlk (by have:=hQ.ld.n; omega) hQ.q.cw hQ.q.w hQ.ld.z hx (by rw[hz]; exact hQ.xz));obtain⟨r,hr⟩:=ZQ (LQ A c t);have hr0:=hr;unfold LQ at hr0;have HR:=Z9 hr0.symm;rw[hr];obtain⟨y,hy⟩:=ZQ ((Zi A t.snd).1);rw[hy] at HYW CS HST HSE HR hb0 VJ Xy Jh Ws hA hT0 ⊢;generalize VO A t=SA at *
 generalize YN t=cv at *
 generalize VP t=cb at *
 clear hL hT hQ hr hr0 hy;go_enter Tryz.func71,Tryz.ntmps71;go_upto_region 1 with fail;change Code.wp _ _ _ _ ((((w.alloc (.cells (ZT la A.length lk c) 30)).alloc (.cells (Zq y) 56)).alloc (.cells (ZA t ta tk) 63)).alloc (.cells (ZT none 0 0 0) 30));generalize (((w.alloc (.cells (ZT la A.length lk c) 30)).alloc (.cells (Zq y) 56)).alloc (.cells (ZA t ta tk) 63)).alloc (.cells (ZT none 0 0 0) 30)=W at *
 obtain⟨g3,hg3⟩:=ZQ w.heap.size;obtain⟨g4,hg4⟩:=ZQ (g3+1);obtain⟨g5,hg5⟩:=ZQ (g4+1);obtain⟨g6,S9⟩:=ZQ (g5+1);have HB0:=Z9 hb0;rw[show w.heap.size+3=g6 by omega] at Ws;rw[show w.heap.size+2=g5 by omega] at Jh;rw[show w.heap.size+1=g4 by omega] at Xy;have HG:Hid (w.heap.size<=g6/\w.heap.size<=g4/\g3≠g4/\g6≠g4/\g6<W.heap.size):=Z9 ⟨by omega,by omega,by omega,by omega,Ws.lt⟩;rw[hg3] at VJ;simp only[hg3];simp only[hg4];simp only[hg5];simp only[S9];have Xr:=Z9 VJ;have Yh:=Z9 Xy;have HX5:=Z9 Jh;have Xx:=Z9 Ws;have HA:=Z9 hA;have CCW:=CC W hT0;clear hb0 VJ Xy Jh Ws hA hT0 hg3 hg4 hg5 S9 CC;refine wl<|ZL rfl ⟨g5,0,none⟩ (.agg (ZA t ta tk)) (ZH HX5.out)<|YM (.tuple #[Z7 cv,.bool cb]) (fun w'=>Below W.heap.size W w') (CCW) (fun W1 hW1=>?_);refine Rf (.tuple #[Z7 cv,.bool cb]) (Z7 cv) (.bool cb) (Z7 cv) (.bool cb)<|wn ?_;simp only[pu];have HB1:=Z9 (HB0.out.trans (hW1.mono HB0.out.size));have Vl:Hid (W.heap.size<=W1.heap.size):=Z9 hW1.size;have aP4:=Z9 (Xr.out.below Xr.out.lt hW1);have Fv:=Z9 (Yh.out.below Yh.out.lt hW1);have aq5:=Z9 (Xx.out.below Xx.out.lt hW1);have HA1:=Z9 (HA.out.below hW1);clear CCW hW1 Xr Yh HX5 Xx HA;cases cb
 ·go_upto_region 2 with fail;refine wl<|ZB ZY ZW<|wn ?_;simp only[pu];obtain rfl:r=([],0,6):=by rw[HR.out]; rfl
  obtain⟨hst,SI⟩:=ZC (a':=none) (n':=0) (k':=0) (c':=0) aq5.out;have SY:=ZU HB1.out HG.out.1 (ZT none 0 0 0);have HE:=Z9 (Xi.err (e:=6) SY);generalize W1.setRow g6 (ZT none 0 0 0)=V9 at *
  clear SY;go_upto_region 3 with fail;refine wl<|ZV (.agg (ZT none 0 0 0))<|Zk rfl (hst)<|ZV (Z8 6)<|wn ?_;simp only[pu];go_wp2_with fail;exact bodyPost_ret (ZN (p:=6) (q:=7) rfl (by kernel_rfl) (ZO SI) rfl) rfl HE.out
 ·go_upto_region 2 with fail;refine wl<|ZB ZW ZY<|wn ?_;simp only[pu];have CSW:=CS W1;by_cases hfu:y.2.1<cv
  ·rw[show jQ y.2.1 cv=0 from if_neg (by omega),show jP y.2.1 cv=false from decide_eq_false (by omega)] at CSW;go_upto_region 4 with fail;refine wl<|ZV (Z5 g4 1)<|ZL rfl ⟨g4,1,none⟩ (Z7 y.2.1) (Fv.out.ZR 1)<|ZV (Z7 cv)<|YM (.tuple #[Z7 (0),ZY]) (fun w'=>W1=w') (CSW) (fun V9 VK=>?_);subst VK;refine Rf (.tuple #[Z7 (0),ZY]) (Z7 (0)) ZY (Z7 (0)) ZY<|wn ?_;simp only[pu];go_upto_region 5 with fail;refine wl<|ZB ZY ZW<|wn ?_;simp only[pu];obtain rfl:r=([],0,17):=(by rw[HR.out,if_neg (by decide),if_pos hfu]);obtain⟨hst,SI⟩:=ZC (a':=none) (n':=0) (k':=0) (c':=0) aq5.out;have SY:=ZU HB1.out HG.out.1 (ZT none 0 0 0);have HE:=Z9 (Xi.err (e:=17) SY);generalize W1.setRow g6 (ZT none 0 0 0)=V9 at *
   clear SY;go_upto_region 6 with fail;refine wl<|ZV (.agg (ZT none 0 0 0))<|Zk rfl (hst)<|ZV (Z8 17)<|wn ?_;simp only[pu];go_wp2_with fail;exact bodyPost_ret (ZN (p:=6) (q:=7) rfl (by kernel_rfl) (ZO SI) rfl) rfl HE.out
  ·rw[show jQ y.2.1 cv=y.2.1-cv from if_pos (by omega),show jP y.2.1 cv=true from decide_eq_true (by omega)] at CSW;go_upto_region 4 with fail;refine wl<|ZV (Z5 g4 1)<|ZL rfl ⟨g4,1,none⟩ (Z7 y.2.1) (Fv.out.ZR 1)<|ZV (Z7 cv)<|YM (.tuple #[Z7 (y.2.1-cv),ZW]) (fun w'=>W1=w') (CSW) (fun V9 VK=>?_);subst VK;refine Rf (.tuple #[Z7 (y.2.1-cv),ZW]) (Z7 (y.2.1-cv)) ZW (Z7 (y.2.1-cv)) ZW<|wn ?_;simp only[pu];go_upto_region 5 with fail;refine wl<|ZB ZW ZY<|wn ?_;simp only[pu];obtain⟨hy1,hy2⟩:=HYW.out rfl hfu;obtain⟨V2,hst2,jX,hb2,Uk⟩:=Zl (i:=1) (ty:=24) (v:=Z7 (y.2.1-cv)) (cs':=Zq (y.1,y.2.1-cv,y.2.2)) Fv.out HB1.out HG.out.2.1 (by show 1<3; decide) rfl (by kernel_rfl) rfl;obtain⟨V3,hst3,aP5,hb3,KL⟩:=Zl (i:=2) (ty:=24) (v:=Z7 (y.2.2+1)) (cs':=Zq (y.1,y.2.1-cv,y.2.2+1)) jX hb2 HG.out.2.1 (by show 2<3; decide) rfl (by kernel_rfl) rfl;have aP6:=(aP4.out.but Uk HG.out.2.2.1).but KL HG.out.2.2.1;have aq6:=(aq5.out.but Uk HG.out.2.2.2.1).but KL HG.out.2.2.2.1;clear CSW CS;go_upto_region 7 with fail;refine wl<|ZB (Z7 (y.2.1-cv)) (Z5 g4 1)<|Zk rfl (hst2)<|wn ?_;simp only[pu];go_upto_region 8 with fail;refine wl<|ZV (Z5 g4 2)<|ZL rfl ⟨g4,2,none⟩ (Z7 y.2.2) (jX.ZR 2)<|Yn (Z7 (y.2.2+1)) (OX rfl y.2.2 1 hy2)<|ZV (Z5 g4 2)<|Zk rfl (hst3) <|
    wpList_nil ?_
   simp only[pu];obtain rfl:r=(SA,c,0):=(by rw[HR.out,if_neg (by decide),if_neg hfu]);have hA3:Cs V3 la (acc A):=HAW.out.below hb3;have CT:=HSE.out (y.1,y.2.1-cv,y.2.2+1) V3 hA3 ⟨hy1,hy2⟩ rfl;rw[HST.out rfl hfu] at CT;clear HST HSE HYW;go_upto_region 9 with fail;refine wl<|ZL rfl ⟨g3,0,none⟩ (.agg (ZT la A.length lk c)) (ZO aP6)<|ZL rfl ⟨g4,0,none⟩ (.agg (Zq (y.1,y.2.1-cv,y.2.2+1))) (Za aP5) <|
    XI (fun v w'=>∃ ad kk,v=.tuple #[.agg (ZT ad SA.length kk c),Z8 0]/\Zd w' V3.heap.size (.slice ad SA.length kk) SA/\Below V3.heap.size V3 w') (CT.mono fun e w' q=>by obtain⟨ad,kk,h1,h2,h3⟩:=q; exact⟨_,h1,ad,kk,rfl,h2,h3⟩) (fun vv V4 hq=>?_)
   obtain⟨ad,kk,rfl,hr4,hb4⟩:=hq;obtain⟨hst5,SI⟩:=ZC (a':=ad) (n':=SA.length) (k':=kk) (c':=c) (aq6.below aq6.lt hb4);have SY:=ZU (hb3.trans (hb4.mono hb3.size)) HG.out.1 (ZT ad SA.length kk c);have ND:=Zo hr4 (But.setRow (g:=g6) V4 (ZT ad SA.length kk c)) aq6.lt;have HE:Hid (Xi w (SA,c,0) (.returned (.tuple #[.agg (ZT ad SA.length kk c),Z8 0])) (V4.setRow g6 (ZT ad SA.length kk c))):=Z9 ⟨ad,kk,rfl,own_base ND hb3.size,SY⟩;generalize V4.setRow g6 (ZT ad SA.length kk c)=V5 at *
   clear hr4 hb4 SY ND;refine ZB (.agg (ZT ad SA.length kk c)) (Z8 0)<|Zk rfl (hst5)<|ZV (Z8 0)<|wn ?_;simp only[pu];go_wp2_with fail;exact bodyPost_ret (ZN (p:=6) (q:=7) rfl (by kernel_rfl) (ZO SI) rfl) rfl HE.out
def aN (B:Nat)(w:World)(r:List Ac×Int×Int)(e:Ending)(w':World):Prop:=∃ ad k,e=.returned (.tuple #[.agg (ZT ad r.1.length k r.2.1),Z8 r.2.2])/\Zd w' B (.slice ad r.1.length k) r.1/\Below w.heap.size w w'
structure GvL (w:World)(g2 g4 Bs:Nat)(A:List Ac)(c:Int)(t:YV)(j:Nat)(V:World)(B:List Ac)(ad:Option Addr)(k:Nat):Prop where
 gj:yG A t j B
 v:YE B c=0
 y7:Bx V g2 (ZT ad B.length k c) 30
 bx4:Bx V g4 (ZT none 0 0 0) 30
 row:Zd V Bs (.slice ad B.length k) B
 bel:Below w.heap.size w V
 ne:∀ q,(Value.slice ad B.length k).ownBlock=some q->q≠g2/\q≠g4
theorem aF5 {A B:List Ac}{c:Int}{t:YV}{j:Nat}(h:Ja A c t)(hJ:yG A t j B)(hj:j<t.tr.length):c+(tot (Ze B)+(tfa t.tr j).2)<18446744073709551616:=by
 have h1:=hJ.s;have h2:=h.tt;have h3:=EL hj;have h4:=(Hf h.a (j+1)).2;have h5:=OI t;have h6:=h.f.1;omega
theorem wC {A:List Ac}{c:Int}{t:YV}(h:256<(Yb A t).length):LU A c t=([],0,3):=if_pos h
theorem Cm {A:List Ac}{c:Int}{t:YV}(h:¬ 256<(Yb A t).length):LU A c t=(Yb A t,c,0):=if_neg h
theorem ap7 (A:List Ac)(c:Int)(t:YV)(la ta:Option Addr)(lk tk Bs:Nat)(w:World)(hL:Zd w Bs (.slice la (VO A t).length lk) (VO A t))(hBs:Bs<=w.heap.size)(hT:Cs w ta (QZ t.tr))(hQ:Ja A c t)(hv:YE A c=0)(hnm:∀ x,x∈t.tr->isName (nums x.1)=true) :
  Calls Tryz.prog 72 #[.agg (ZT la (VO A t).length lk c),.slice ta t.tr.length tk] w (aN Bs w (LU A c t)):=by
 obtain⟨hb0,hX2,Xy⟩:=Ym w (ZT la (VO A t).length lk c) (ZT none 0 0 0) 30 30;have HT:=Z9 hT;have HQ:=Z9 hQ;have HNM:=Z9 hnm;have Ui:Hid (A.length<=256/\t.tr.length<=16):=Z9 ⟨hQ.n,hQ.m⟩;have hgl:GvL w w.heap.size (w.heap.size+1) Bs A c t 0 ((w.alloc (.cells (ZT la (VO A t).length lk c) 30)).alloc (.cells (ZT none 0 0 0) 30)) (VO A t) la lk:=⟨hQ.j0,aK hv hQ.g hQ.c0.1,hX2,Xy,own_below hL hb0,hb0,fun q hq=>by have:=(yT hL q hq).2; omega⟩;obtain⟨SA,hSA⟩:=ZQ (VO A t);rw[hSA] at hgl hb0 hX2 Xy ⊢;clear hL hT hQ hv hnm hSA;go_enter Tryz.func72,Tryz.ntmps72;go_upto_region 1 with fail;change Code.wp _ _ _ _ ((w.alloc (.cells (ZT la SA.length lk c) 30)).alloc (.cells (ZT none 0 0 0) 30));generalize (w.alloc (.cells (ZT la SA.length lk c) 30)).alloc (.cells (ZT none 0 0 0) 30)=W at *
 obtain⟨g2,hg2⟩:=ZQ w.heap.size;obtain⟨g4,hg4⟩:=ZQ (g2+1);rw[show w.heap.size+1=g4 by omega] at Xy hgl;have HG:Hid (w.heap.size<=g2/\w.heap.size<=g4/\g2≠g4/\g4≠g2):=Z9 (by omega);have aF6:GvL w g2 g4 Bs A c t 0 W SA la lk:=by rw[<- hg2]; exact hgl
 simp only[hg2];simp only[hg4];have HGL:=Z9 aF6;clear hb0 hX2 Xy hgl aF6 hg2 hg4;refine wl<|Yr (.slice ta t.tr.length tk) (Z8 t.tr.length) (Z8 0)<|wn ?_;simp only[pu];go_wp2_with fail;go_loopg [14] t.tr.length (fun gg s14 wx=>∃ (j:Nat) (B:List Ac) (ad:Option Addr) (k:Nat),s14=Z8 j/\j<=t.tr.length/\Hid (GvL w g2 g4 Bs A c t j wx B ad k)/\t.tr.length-j=gg)
 case atStart=>exact⟨0,SA,la,lk,rfl,by omega,HGL,by omega⟩
 case round=>
  obtain⟨j,B,ad,k,rfl,hj,HL,hg⟩:=hrel;clear HGL;have hBn:B.length<=256:=(VE HL.out.v).1;by_cases hlt:j<t.tr.length
  ·obtain⟨b,off,rfl,-,hrx⟩:=Ux (HT.out.below HL.out.bel) hlt;have YD:=Z9 (Ub hrx);obtain⟨hJ1,hW1⟩:=HQ.out.js HL.out.gj hlt;have hq9:=aF5 HQ.out HL.out.gj hlt;have hxn:=HNM.out (tfa t.tr j) (by rw[VF hlt]; exact List.getElem_mem hlt);have hdl:=tq A t (j+1);rw[<- hJ1.is] at hdl;generalize tfa t.tr j=x at *
   have HXS:Hid (x.1.size<=140737488355328):=Z9 (Nat.le_trans (kS hxn) (by decide));have hset:=Cc HL.out.v hxn hq9;have hval:=fun h=>aJ HL.out.v hxn hq9 h;have hga:=H9 B x.1;have hw1:=HL.out.gj.w;have hlz:=(MG.mk HL.out.v hw1 HQ.out.cw).z;have hn16:=Ui.out.2;have HG9:=Z9 hg;obtain⟨V2,hst,hb2,hbx⟩:=Tt wr x;obtain⟨a5,c5,e5,hcs,hcd⟩:=HL.out.row.cs;simp only[Value.slice.injEq,true_and] at e5;obtain⟨rfl,rfl⟩:=e5;have CG:=ab3 ad k B c x.1 V2 (hcs.below hb2) (by omega);have hwy:W64 (Zi B x.1).1.2.2:=(by have:=(qK hw1 x.1).2.1; rw[hga] at this; exact this);rw[hga] at hW1;generalize (Zi B x.1).2=gb at *
   generalize (Zi B x.1).1=y at *
   have I8:=HL.out.y7.below HL.out.y7.lt hb2;have HVS:Hid (g2<wr.heap.size/\g4<wr.heap.size):=Z9 ⟨HL.out.y7.lt,HL.out.bx4.lt⟩;clear hrx hg;go_upto_region 2 with fail;refine wl<|ZM (Zr rfl (j) (t.tr.length) dT)<|wn ?_;simp only[pu];go_upto_region 3 with fail;refine wl<|YI (Z5 b (off+j*2)) (O7 b off t.tr.length tk j hlt _ _ _ rfl (by kernel_rfl) (by kernel_rfl))<|ZL rfl ⟨b,off+j*2,none⟩ (.agg (Yy x)) (YD.out) ?_;refine Zy rfl (some 7) rfl (Z5 wr.heap.size 0) (wr.alloc (.cells (Yy Un) 60)) (by kernel_rfl) ?_;refine Zk rfl (hst)<|wn ?_;obtain⟨g7,P6⟩:=ZQ wr.heap.size;have HG7:Hid (g2<g7/\g4<g7):=Z9 (by have:=HVS.out; omega);rw[P6] at hbx hst ⊢;clear hst YD;go_upto_region 4 with fail;refine wl<|ZL rfl ⟨g2,0,none⟩ (.agg (ZT ad B.length k c)) (ZO I8)<|ZV (Z5 g7 0)<|ZL rfl ⟨g7,0,none⟩ (.string x.1) (hbx.ZR 0)<|YM (.tuple #[.agg (Zq y),.bool gb]) (fun w'=>Below V2.heap.size V2 w') CG (fun V3 VQ=>?_);obtain⟨V4,Nu,hb4,P7⟩:=VN V3 y;refine Yr (.tuple #[.agg (Zq y),.bool gb]) (.agg (Zq y)) (.bool gb) ?_;refine Zy rfl (some 8) rfl (Z5 V3.heap.size 0) (V3.alloc (.cells (Zq WE) 56)) (by kernel_rfl) ?_;refine Zk rfl (Nu)<|ZV (.bool gb)<|wn ?_;simp only[pu];have Pn:=VQ.trans (hb4.mono VQ.size);have aq7:=hb2.trans (Pn.mono hb2.size);obtain⟨g8,L6⟩:=ZQ V3.heap.size;have hG8:wr.heap.size<=g8:=(by rw[<- L6]; exact Nat.le_trans hb2.size VQ.size);have hne:g7≠g8:=(by have:=hbx.lt; rw[<- L6]; have:=VQ.size; omega);have hne2:g2≠g8/\g4≠g8:=(by have:=HVS.out; omega);have aq8:=hbx.below hbx.lt Pn;have aF7:=I8.below I8.lt Pn;rw[L6] at P7 ⊢;obtain⟨V5,hst5,Ci,hb5,Xc⟩:=Zl (i:=0) (ty:=9) (v:=.string x.1) (cs':=Zq (x.1,y.2.1,y.2.2)) P7 aq7 hG8 (by show 0<3; decide) rfl (by kernel_rfl) rfl;have ae6:=aq8.but Xc hne;have jO:=aF7.but Xc hne2.1;obtain⟨V6,VU,aF8,hb6,Xt⟩:=Zl (i:=1) (ty:=24) (v:=Z7 (y.2.1+x.2)) (cs':=Zq (x.1,y.2.1+x.2,y.2.2)) Ci hb5 hG8 (by show 1<3; decide) rfl (by kernel_rfl) rfl;have aI:=jO.but Xt hne2.1;have aH:Bx V6 g4 (ZT none 0 0 0) 30:=((HL.out.bx4.below HL.out.bx4.lt aq7).but Xc hne2.2).but Xt hne2.2;have CS:=ab2 ad k B c (x.1,y.2.1+x.2,y.2.2) V6 (hcs.below hb6) hcd (by omega) HQ.out.cw hw1 hlz ⟨hW1,hwy⟩ HXS.out;rw[hset] at CS;have X9:=Z9 hb6;clear CG VQ hb4 Nu Pn aq7 L6 hbx P7 I8 aF7 hcs;go_upto_region 5 with fail;refine wl<|ZV (Z5 g7 0)<|ZL rfl ⟨g7,0,none⟩ (.string x.1) (aq8.ZR 0)<|ZV (Z5 g8 0)<|Zk rfl (hst5)<|wn ?_;simp only[pu];go_upto_region 6 with fail;refine wl<|ZV (Z5 g8 1)<|ZL rfl ⟨g8,1,none⟩ (Z7 y.2.1) (Ci.ZR 1)<|ZV (Z5 g7 1)<|ZL rfl ⟨g7,1,none⟩ (Z7 x.2) (ae6.ZR 1) <|
    Yn (Z7 (y.2.1+x.2)) (OX rfl y.2.1 x.2 hW1)<|ZV (Z5 g8 1)<|Zk rfl (VU)<|wn ?_
   simp only[pu];clear hst5 VU aq8 ae6 Ci Xc Xt hb5 jO;generalize Vu B x=B2 at *
   by_cases hfl:256<B2.length
   ·rw[if_pos hfl] at CS;go_upto_region 7 with fail;refine wl<|ZL rfl ⟨g2,0,none⟩ (.agg (ZT ad B.length k c)) (ZO aI)<|ZL rfl ⟨g8,0,none⟩ (.agg (Zq (x.1,y.2.1+x.2,y.2.2))) (Za aF8) <|
     XI (fun v w'=>∃ a7 k7,v=.tuple #[.agg (ZT a7 ([]:List Ac).length k7 0),Z8 3]/\Zd w' V6.heap.size (.slice a7 ([]:List Ac).length k7) []/\Below V6.heap.size V6 w') (CS.mono fun e w' q=>by obtain⟨ad,kk,h1,h2,h3⟩:=q; exact⟨_,h1,ad,kk,rfl,h2,h3⟩) (fun vv V7 hq=>?_)
    obtain⟨a7,k7,rfl,KO,hb7⟩:=hq;obtain⟨V8,XQ,hb8,OE⟩:=Vk V7 a7 ([]:List Ac).length k7 0;refine Yr (.tuple #[.agg (ZT a7 ([]:List Ac).length k7 0),Z8 3]) (.agg (ZT a7 ([]:List Ac).length k7 0)) (Z8 3) ?_;refine Zy rfl (some 10) rfl (Z5 V7.heap.size 0) (V7.alloc (.cells (ZT none 0 0 0) 30)) (by kernel_rfl) ?_;refine Zk rfl (XQ)<|ZV (Z8 3)<|wn ?_;simp only[pu];obtain⟨g10,OZ⟩:=ZQ V7.heap.size;have Cb:=hb7.trans (hb8.mono hb7.size);have yV:=aH.below aH.lt Cb;have hBel:=(HL.out.bel.trans (X9.out.mono HL.out.bel.size)).trans (Cb.mono (HL.out.bel.trans (X9.out.mono HL.out.bel.size)).size);rw[OZ];obtain⟨UY,SI⟩:=ZC (a':=none) (n':=0) (k':=0) (c':=0) yV;have SY:=ZU hBel HG.out.2.1 (ZT none 0 0 0);have hno:=wC (c:=c) (show 256<(Yb A t).length by omega);have HE:Hid (aN Bs w (LU A c t) (.returned (.tuple #[.agg (ZT none 0 0 0),Z8 3])) (V8.setRow g4 (ZT none 0 0 0))):=Z9 (by rw[hno]; exact⟨none,0,rfl,LM _ _,SY⟩);generalize V8.setRow g4 (ZT none 0 0 0)=V9 at *
    clear SY yV hBel Cb hno;go_upto_region 8 with fail;refine wl<|ZV (Z8 3)<|ZM (YL rfl 3 0 (decide_eq_false (by decide)))<|wn ?_;simp only[pu];go_upto_region 9 with fail;refine wl<|ZB (.agg (ZT none 0 0 0)) (Z8 3)<|Zk rfl (UY)<|ZV (Z8 3)<|wn ?_;simp only[pu];go_wp2_with fail;exact bodyPost_ret (ZN (p:=4) (q:=5) rfl (by kernel_rfl) (ZO SI) rfl) rfl HE.out
   ·rw[if_neg hfl] at CS;go_upto_region 7 with fail;refine wl<|ZL rfl ⟨g2,0,none⟩ (.agg (ZT ad B.length k c)) (ZO aI)<|ZL rfl ⟨g8,0,none⟩ (.agg (Zq (x.1,y.2.1+x.2,y.2.2))) (Za aF8) <|
     XI (fun v w'=>∃ a7 k7,v=.tuple #[.agg (ZT a7 B2.length k7 c),Z8 0]/\Zd w' V6.heap.size (.slice a7 B2.length k7) B2/\Below V6.heap.size V6 w') (CS.mono fun e w' q=>by obtain⟨ad,kk,h1,h2,h3⟩:=q; exact⟨_,h1,ad,kk,rfl,h2,h3⟩) (fun vv V7 hq=>?_)
    obtain⟨a7,k7,rfl,KO,hb7⟩:=hq;obtain⟨V8,XQ,hb8,OE⟩:=Vk V7 a7 B2.length k7 c;refine Yr (.tuple #[.agg (ZT a7 B2.length k7 c),Z8 0]) (.agg (ZT a7 B2.length k7 c)) (Z8 0) ?_;refine Zy rfl (some 10) rfl (Z5 V7.heap.size 0) (V7.alloc (.cells (ZT none 0 0 0) 30)) (by kernel_rfl) ?_;refine Zk rfl (XQ)<|ZV (Z8 0)<|wn ?_;simp only[pu];obtain⟨g10,OZ⟩:=ZQ V7.heap.size;have Cb:=hb7.trans (hb8.mono hb7.size);have yV:=aH.below aH.lt Cb;have aF9:=aI.below aI.lt Cb;have hBel:=(HL.out.bel.trans (X9.out.mono HL.out.bel.size)).trans (Cb.mono (HL.out.bel.trans (X9.out.mono HL.out.bel.size)).size);rw[OZ] at OE ⊢;obtain⟨UY,aG0⟩:=ZC (a':=a7) (n':=B2.length) (k':=k7) (c':=c) aF9;have SY:=ZU hBel HG.out.1 (ZT a7 B2.length k7 c);have aG1:=yV.but (But.setRow (g:=g2) V8 (ZT a7 B2.length k7 c)) HG.out.2.2.2;have aP7:g2<V6.heap.size:=(by have:=HVS.out; have:=X9.out.size; omega);have aS5:g4<V6.heap.size:=(by have:=HVS.out; have:=X9.out.size; omega);have OQ:=Zo (own_below KO hb8) (But.setRow (g:=g2) V8 (ZT a7 B2.length k7 c)) aP7;have aG2:=yT OQ;have aP8:Hid (GvL w g2 g4 Bs A c t (j+1) (V8.setRow g2 (ZT a7 B2.length k7 c)) B2 a7 k7):=Z9 ⟨hJ1,hval hfl,aG0,aG1,own_base OQ (Nat.le_trans hBs (Nat.le_trans HL.out.bel.size X9.out.size)),SY,fun q hq=>by have:=(aG2 q hq).1; omega⟩;generalize V8.setRow g2 (ZT a7 B2.length k7 c)=V9 at *
    clear SY yV aF9 hBel Cb aG0 aG1 OQ KO hb7 hb8 aG2;go_upto_region 8 with fail;refine wl<|ZV (Z8 0)<|ZM (YL rfl 0 0 (decide_eq_true rfl))<|wn ?_;simp only[pu];go_upto_region 10 with fail;refine wl<|ZL rfl ⟨g10,0,none⟩ (.agg (ZT a7 B2.length k7 c)) (ZO OE)<|Zk rfl (UY)<|wn ?_;simp only[pu];go_upto_region 11 with fail;refine wl<|Yn (Z8 (j+1:Nat)) (Zz rfl j 1 (by omega))<|ZV (Z8 (j+1:Nat))<|wn ?_;simp only[pu];go_wp2_with fail;go_roundg (t.tr.length-(j+1))
    case measure=>have:=HG9.out; omega
    case rel=>exact⟨j+1,B2,a7,k7,rfl,hlt,aP8,rfl⟩
  ·obtain rfl:t.tr.length=j:=(by omega);have hfin:Yb A t=B:=(HL.out.gj.is).symm;obtain⟨UY,SI⟩:=ZC (a':=ad) (n':=B.length) (k':=k) (c':=c) HL.out.bx4;have hrow:=jR HL.out.row (fun q hq=>(HL.out.ne q hq).2) (But.setRow (g:=g4) wr (ZT ad B.length k c));have XG:=ZU HL.out.bel HG.out.2.1 (ZT ad B.length k c);have hyes:=Cm (A:=A) (c:=c) (t:=t) (by rw[hfin]; omega);rw[hfin] at hyes;have HE:Hid (aN Bs w (LU A c t) (.returned (.tuple #[.agg (ZT ad B.length k c),Z8 0])) (wr.setRow g4 (ZT ad B.length k c))):=Z9 (by rw[hyes]; exact⟨ad,k,rfl,hrow,XG⟩);generalize wr.setRow g4 (ZT ad B.length k c)=V9 at *
   clear hrow XG hyes hfin;go_upto_region 2 with fail;refine wl<|ZM (Zr rfl (t.tr.length) (t.tr.length) dF)<|wn ?_;simp only[pu];go_upto_region 12 with fail;refine wl<|ZL rfl ⟨g2,0,none⟩ (.agg (ZT ad B.length k c)) (ZO HL.out.y7)<|Zk rfl (UY)<|ZV (Z8 0)<|wn ?_;simp only[pu];go_wp2_with fail;exact bodyPost_ret (ZN (p:=4) (q:=5) rfl (by kernel_rfl) (ZO SI) rfl) rfl HE.out
end Go.Proofs.YtfpnnmeblefkkaaGreatDoor.Lg
