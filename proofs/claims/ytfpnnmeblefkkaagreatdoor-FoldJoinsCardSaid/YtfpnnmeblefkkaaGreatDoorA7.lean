/-
  Texts joined.
-/
import Derived.Test.YtfpnnmeblefkkaaGreatDoorA6
set_option maxRecDepth 100000
set_option maxHeartbeats 8000000
set_option linter.unusedSimpArgs false
set_option linter.unusedVariables false
namespace Go.Proofs.YtfpnnmeblefkkaaGreatDoor
attribute [local irreducible] wpList wpQuiet
open Go.RowKit
theorem Sv (x:Y0)(a:Option Addr)(c:Nat)(w:World)(hR:Cs w a (Rl x.tr))(h2:x.memo.size<=140737488355328) :
  Calls Tryz.prog 103 #[.agg (ZA x a c)] w fun e w'=>e=.returned (Z8 (XA x))/\Below w.heap.size w w':=by
 have hb0:Below w.heap.size w (w.alloc (.cells (ZA x a c) 63)):=(Below.refl _ w).alloc (Nat.le_refl _) _;have hX0:Bx (w.alloc (.cells (ZA x a c) 63)) w.heap.size (ZA x a c) 63:=heap_alloc_last w _;have HA:=Z9 (hR.below hb0);have CN:=Z9 (fun V=>OQ x.snd V);have CM:=Z9 (fun V=>nV x.memo V h2);have HV:Hid (XA x=if isName (nums x.snd)=false then 10 else if x.Zu=0 then 15 else if X8 (nums x.memo)=false then 11 else if x.tr.length=0∨16<x.tr.length then 3 else Sz x.tr):=Z9 rfl;have HT:=Z9 (fun j (hj:j<x.tr.length) V=>OQ (tfa x.tr j).1 V);obtain⟨snd,sq,Zu,Y8,memo,M⟩:=x;simp only[ZA] at hb0 hX0 HA ⊢;dsimp only at *
 have HO:=Z9 (Bc.zero M);generalize XA _=r at *
 generalize isName (nums snd)=t1 at *
 generalize X8 (nums memo)=t2 at *
 obtain⟨n,hn⟩:=ZR M.length;have HN:=Z9 hn;rw[hn] at hb0 hX0 HA HV ⊢;clear hR h2;go_enter Tryz.func103,Tryz.ntmps103;go_upto_region 1 with fail;change Code.wp _ _ _ _ (w.alloc (.cells #[.string snd,Z7 sq,Z7 Zu,Z7 Y8,.string memo,.slice a n c] 63));generalize w.alloc (.cells #[.string snd,Z7 sq,Z7 Zu,Z7 Y8,.string memo,.slice a n c] 63)=W at *
 obtain⟨g0,hg0⟩:=ZR w.heap.size;have HB0:=Z9 hb0;have Jp:=Z9 (hX0.lt);have HGE:Hid (g0<=w.heap.size/\w.heap.size<=g0):=Z9 ⟨by omega,by omega⟩;rw[hg0] at hX0 Jp;simp only[hg0];clear hb0 hg0 hn;have CNW:=CN.out W;clear CN;cases t1
 ·refine wl<|ZV (Z5 g0 0)<|ZK rfl ⟨g0,0,none⟩ (.string snd) (hX0.ZQ 0)<|YW ZY (fun w'=>Below W.heap.size W w') (CNW) (fun V hV=>?_);refine ZG ZW ZW<|wn ?_;simp only[pu];have hX1:=hX0.below Jp.out hV;have HB1:=Z9 (HB0.out.trans (hV.mono HB0.out.size));have HA1:=Z9 (HA.out.below hV);clear hV CNW hX0 HB0 HA Jp;have HE:Hid (r=10):=Z9 (by rw[HV.out]; rfl);clear HV;go_upto_region 2 with fail;refine wl<|ZV (Z8 10)<|wn ?_;simp only[pu];go_wp2_with fail;go_ret;rw[HE.out];exact⟨rfl,HB1.out⟩
 ·refine wl<|ZV (Z5 g0 0)<|ZK rfl ⟨g0,0,none⟩ (.string snd) (hX0.ZQ 0)<|YW ZW (fun w'=>Below W.heap.size W w') (CNW) (fun V hV=>?_);refine ZG ZY ZY<|wn ?_;simp only[pu];have hX1:=hX0.below Jp.out hV;have HB1:=Z9 (HB0.out.trans (hV.mono HB0.out.size));have HA1:=Z9 (HA.out.below hV);clear hV CNW hX0 HB0 HA Jp;go_upto_region 3 with fail;by_cases Ru:Zu=0
  ·refine wl<|ZV (Z5 g0 2)<|ZK rfl ⟨g0,2,none⟩ (Z7 Zu) (hX1.ZQ 2)<|ZN (TF rfl Zu (decide_eq_true Ru))<|ZV ZW<|wn ?_;simp only[pu];have HE:Hid (r=15):=Z9 (by rw[HV.out]; rw[if_neg (by decide),if_pos Ru]);clear HV;go_upto_region 4 with fail;refine wl<|ZV (Z8 15)<|wn ?_;simp only[pu];go_wp2_with fail;go_ret;rw[HE.out];exact⟨rfl,HB1.out⟩
  ·refine wl<|ZV (Z5 g0 2)<|ZK rfl ⟨g0,2,none⟩ (Z7 Zu) (hX1.ZQ 2)<|ZN (TF rfl Zu (decide_eq_false Ru))<|ZV ZY<|wn ?_;simp only[pu];have CMV:=CM.out V;clear CM;go_upto_region 5 with fail;cases t2
   ·refine wl<|ZV (Z5 g0 4)<|ZK rfl ⟨g0,4,none⟩ (.string memo) (hX1.ZQ 4)<|YW ZY (fun w'=>Below V.heap.size V w') (CMV) (fun U hV=>?_);refine ZG ZW ZW<|wn ?_;simp only[pu];have hX2:=hX1.below hX1.lt hV;have HB2:=Z9 (HB1.out.trans (hV.mono HB1.out.size));have HA2:=Z9 (HA1.out.below hV);clear hV CMV hX1 HB1 HA1;have HE:Hid (r=11):=Z9 (by rw[HV.out]; rw[if_neg (by decide),if_neg Ru,if_pos rfl]);clear HV;go_upto_region 6 with fail;refine wl<|ZV (Z8 11)<|wn ?_;simp only[pu];go_wp2_with fail;go_ret;rw[HE.out];exact⟨rfl,HB2.out⟩
   ·refine wl<|ZV (Z5 g0 4)<|ZK rfl ⟨g0,4,none⟩ (.string memo) (hX1.ZQ 4)<|YW ZW (fun w'=>Below V.heap.size V w') (CMV) (fun U hV=>?_);refine ZG ZY ZY<|wn ?_;simp only[pu];have hX2:=hX1.below hX1.lt hV;have HB2:=Z9 (HB1.out.trans (hV.mono HB1.out.size));have HA2:=Z9 (HA1.out.below hV);clear hV CMV hX1 HB1 HA1;go_upto_region 7 with fail;rcases (show n=0∨16<n∨(0<n/\n<=16) by omega) with hc | hc | hc
    ·refine wl<|ZV (Z5 g0 5)<|ZK rfl ⟨g0,5,none⟩ (.slice a n c) (hX2.ZQ 5)<|ZV (Z8 n)<|ZN (Zy rfl (n) (1) dT) <|
      Zc ZW undef undef undef undef ZW<|ZV ZW<|wn ?_
     simp only[pu];have HE:Hid (r=3):=Z9 (by rw[HV.out]; rw[if_neg (by decide),if_neg Ru,if_neg (by decide),if_pos (.inl hc)]);clear HV;go_upto_region 8 with fail;refine wl<|ZV (Z8 3)<|wn ?_;simp only[pu];go_wp2_with fail;go_ret;rw[HE.out];exact⟨rfl,HB2.out⟩
    ·refine wl<|ZV (Z5 g0 5)<|ZK rfl ⟨g0,5,none⟩ (.slice a n c) (hX2.ZQ 5)<|ZV (Z8 n)<|ZN (Zy rfl (n) (1) dF) <|
      ZG ZY (Z5 g0 5)<|ZK rfl ⟨g0,5,none⟩ (.slice a n c) (hX2.ZQ 5)<|ZV (Z8 n)<|ZN (Zo rfl (n) (16) dT)<|ZG ZW ZW <|
      wpList_nil ?_
     simp only[pu];have HE:Hid (r=3):=Z9 (by rw[HV.out]; rw[if_neg (by decide),if_neg Ru,if_neg (by decide),if_pos (.inr hc)]);clear HV;go_upto_region 8 with fail;refine wl<|ZV (Z8 3)<|wn ?_;simp only[pu];go_wp2_with fail;go_ret;rw[HE.out];exact⟨rfl,HB2.out⟩
    ·refine wl<|ZV (Z5 g0 5)<|ZK rfl ⟨g0,5,none⟩ (.slice a n c) (hX2.ZQ 5)<|ZV (Z8 n)<|ZN (Zy rfl (n) (1) dF) <|
      ZG ZY (Z5 g0 5)<|ZK rfl ⟨g0,5,none⟩ (.slice a n c) (hX2.ZQ 5)<|ZV (Z8 n)<|ZN (Zo rfl (n) (16) dF) <|
      ZG ZY ZY<|wn ?_
     simp only[pu];have HE:Hid (r=Sz M):=Z9 (by rw[HV.out,if_neg (by decide),if_neg Ru,if_neg (by decide),if_neg (by omega)]);clear HV;go_upto_region 9 with fail;refine wl<|ZV (Z5 g0 5)<|ZK rfl ⟨g0,5,none⟩ (.slice a n c) (hX2.ZQ 5)<|ZG (Z8 n) (Z8 0)<|wn ?_;simp only[pu];have IX:=Z9 hX2;clear hX2;go_wp2_with fail;go_loopg [33] n (fun gg s33 wx=>∃ j:Nat,s33=Z8 j/\j<=n/\Hid (Bc M j)/\Hid (Below U.heap.size U wx)/\n-j=gg)
     case atStart=>exact⟨0,rfl,by omega,HO,Z9 (Below.refl _ _),by omega⟩
     case round=>
      obtain⟨j,rfl,hj,HK,HB,hg⟩:=hrel;clear HO;by_cases hlt:j<n
      ·have HG:Hid (n-(j+1)=gk-1/\0<gk/\j+1<=n):=Z9 ⟨by omega,by omega,by omega⟩;have hjm:j<M.length:=(by rw[HN.out]; exact hlt);obtain⟨b,off,rfl,-,hrx⟩:=Uw (HA2.out.below HB.out) (k:=j) hjm;have YL:=Z9 (Ua hrx);have CT:=Z9 (fun V=>HT.out j hjm V);have gB:=Z9 (HK.out.name hjm);have EP:=Z9 (HK.out.zam hjm);have gu:=Z9 (HK.out.step hjm);generalize tfa M j=y at *
       obtain⟨V2,hst,hb2,hbx⟩:=TI wr y;have SY:=Z9 (HB.out.trans (hb2.mono HB.out.size));clear hrx hb2 HK HB hjm hg;go_upto_region 10 with fail;refine wl<|ZN (Zy rfl (j) (n) dT)<|wn ?_;simp only[pu];go_upto_region 11 with fail;refine wl<|YN (Z5 b (off+j*2)) (Pj b off n c j hlt _ _ _ rfl (by kernel_rfl) (by kernel_rfl))<|ZK rfl ⟨b,off+j*2,none⟩ (.agg (Yz y)) (YL.out) ?_;refine Zz rfl (some 4) rfl (Z5 wr.heap.size 0) (wr.alloc (.cells (Yz Uk) 60)) (by kernel_rfl) ?_;refine Zr rfl (hst)<|wn ?_;obtain⟨g4,hg4⟩:=ZR wr.heap.size;rw[hg4] at hbx ⊢;clear hst hg4 YL;have CTV:=CT.out V2;clear CT;generalize isName (nums y.1)=ty at *
       go_upto_region 12 with fail;cases ty
       ·refine wl<|ZV (Z5 g4 0)<|ZK rfl ⟨g4,0,none⟩ (.string y.1) (hbx.ZQ 0)<|YW ZY (fun w'=>Below V2.heap.size V2 w') (CTV) (fun V3 hV=>?_);refine ZV ZW<|wn ?_;simp only[pu];have Uo:=Z9 (SY.out.trans (hV.mono SY.out.size));have hby:=hbx.below hbx.lt hV;clear CTV hV hbx SY;have HE2:Hid (r=10):=Z9 (by rw[HE.out]; exact gB.out rfl);have Zp:=Z9 (HB2.out.trans (Uo.out.mono HB2.out.size));clear HE Uo gB EP gu HB2;go_upto_region 13 with fail;refine wl<|ZV (Z8 10)<|wn ?_;simp only[pu];go_wp2_with fail;go_ret;rw[HE2.out];exact⟨rfl,Zp.out⟩
       ·refine wl<|ZV (Z5 g4 0)<|ZK rfl ⟨g4,0,none⟩ (.string y.1) (hbx.ZQ 0)<|YW ZW (fun w'=>Below V2.heap.size V2 w') (CTV) (fun V3 hV=>?_);refine ZV ZY<|wn ?_;simp only[pu];have Uo:=Z9 (SY.out.trans (hV.mono SY.out.size));have hby:=hbx.below hbx.lt hV;clear CTV hV hbx SY;go_upto_region 14 with fail;by_cases h0:y.2=0
        ·refine wl<|ZV (Z5 g4 1)<|ZK rfl ⟨g4,1,none⟩ (Z7 y.2) (hby.ZQ 1)<|ZN (TF rfl y.2 (decide_eq_true h0))<|wn ?_;simp only[pu];have HE2:Hid (r=12):=Z9 (by rw[HE.out]; exact EP.out rfl h0);have Zp:=Z9 (HB2.out.trans (Uo.out.mono HB2.out.size));clear HE Uo gB EP gu HB2;go_upto_region 15 with fail;refine wl<|ZV (Z8 12)<|wn ?_;simp only[pu];go_wp2_with fail;go_ret;rw[HE2.out];exact⟨rfl,Zp.out⟩
        ·refine wl<|ZV (Z5 g4 1)<|ZK rfl ⟨g4,1,none⟩ (Z7 y.2) (hby.ZQ 1)<|ZN (TF rfl y.2 (decide_eq_false h0))<|wn ?_;simp only[pu];have HK9:=Z9 (gu.out rfl h0);clear gB EP gu hby;go_upto_region 16 with fail;refine wl<|YN (Z8 (j+1:Nat)) (add_one rfl j (by omega) (by kernel_rfl) _)<|ZV (Z8 (j+1:Nat))<|wn ?_;simp only[pu];go_wp2_with fail;go_roundg (gk-1)
         case measure=>have:=HG.out; omega
         case rel=>exact⟨j+1,rfl,HG.out.2.2,HK9,Uo,HG.out.1⟩
      ·have HE2:Hid (r=0):=Z9 (by rw[HE.out]; exact HK.out.done (by rw[HN.out]; omega));have Zp:=Z9 (HB2.out.trans (HB.out.mono HB2.out.size));clear HE HB HK HB2 hg;go_upto_region 10 with fail;refine wl<|ZN (Zy rfl (j) (n) dF)<|wn ?_;simp only[pu];go_upto_region 17 with fail;refine wl<|ZV (Z8 0)<|wn ?_;simp only[pu];go_wp2_with fail;go_ret;rw[HE2.out];exact⟨rfl,Zp.out⟩
end Go.Proofs.YtfpnnmeblefkkaaGreatDoor
namespace Go.Proofs.YtfpnnmeblefkkaaGreatDoor
open Go.RowKit
def aA5 (w:World)(B:Nat)(L:List Int)(e:Ending)(w':World):Prop:=∃ v,e=.returned v/\Own w' B v L/\Below w.heap.size w w'
theorem YI {w:World}{g k:Nat}{x:Tf}(h:Bx w g (Yz x) k):(Instr.loadAt 60 (Z5 g 0)).run Tryz.prog w=.ok (.agg (Yz x)) w:=
 Ua fun j v hv=>by
  rw[cell_of_row w g _ _ _ (0,0) h];simpa [rQ] using hv
end Go.Proofs.YtfpnnmeblefkkaaGreatDoor
namespace Go.Proofs.YtfpnnmeblefkkaaGreatDoor
attribute [local irreducible] wpList wpQuiet
open Go.RowKit
theorem ff {a b:Bool}(h:a=true->b=true)(hb:b=false):a=false:=by
 cases a
 ·rfl
 ·rw[h rfl] at hb; cases hb
structure KF (W:World)(B g5:Nat)(y:Tf)(R3:Value)(ps:List (Zj×Value))(b0 b2 b3 b5 b6 b7 b8 b9 b10 b11:Bool)(x35 x38 x39 x40 x41 x42 x3:Value)(V:World):Prop where
 o3:b3=true->b2=true
 o5:b6=true->b5=true
 o6:b6=true->b3=true
 o7:b7=true->b6=true
 o8:b8=true->b7=true
 o9:b9=true->b8=true
 o10:b10=true->b9=true
 o11:b11=true->b10=true
 o0:b10=true->b0=true
 bel:Below B W V
 old:b10=false->Below W.heap.size W V
 r35:b3=true->b6=false->∃ qs,Ye V W.heap.size x35 qs/\qs.map Prod.fst=tF 1 y.1
 r38:b6=true->b7=false->∃ qs,Ye V W.heap.size x38 qs/\qs.map Prod.fst=Uj y
 r39:b7=true->b9=false->Own V W.heap.size x39 (msg (Uj y))
 v40:b8=true->∃ a c,x39=.slice a (msg (Uj y)).length c/\x40=.agg (Xm (TG y) a c)
 n41:b9=true->b10=false->∃ V0 a c,V=V0.alloc (.cells (Xm (TG y) a c) 77)/\x41=.slice (some ⟨V0.heap.size,0,none⟩) 1 1/\Below W.heap.size W V0/\Own V0 W.heap.size (.slice a (msg (Uj y)).length c) (msg (Uj y))
 d42:b10=true->∃ qs,Ye V B x42 qs/\qs.map Prod.fst=ps.map Prod.fst++[TG y]
 d3:b11=true->∃ qs,Ye V B x3 qs/\qs.map Prod.fst=ps.map Prod.fst++[TG y]
 n3:b11=false->x3=R3
section
variable {W : World} {B g5 : Nat} {y : Tf} {R3 : Value} {ps : List (Zj × Value)} {b0 b2 b3 b5 b6 b7 b8 b9 b10 b11 : Bool} {x35 x38 x39 x40 x41 x42 x3 : Value} {V : World}
theorem KF.init (hW:B<=W.heap.size):KF W B g5 y R3 ps false false false false false false false false false false x35 x38 x39 x40 x41 x42 R3 W.drew:=
 ⟨(fun h=>nomatch h),(fun h=>nomatch h),(fun h=>nomatch h),(fun h=>nomatch h),(fun h=>nomatch h),(fun h=>nomatch h),(fun h=>nomatch h),(fun h=>nomatch h),(fun h=>nomatch h),(Below.refl _ _).drew,fun _=>(Below.refl _ _).drew,(fun h=>nomatch h),(fun h=>nomatch h),(fun h=>nomatch h),(fun h=>nomatch h),(fun h=>nomatch h),(fun h=>nomatch h),(fun h=>nomatch h),fun _=>rfl⟩
theorem KF.s0 (h:KF W B g5 y R3 ps false b2 b3 b5 b6 b7 b8 b9 b10 b11 x35 x38 x39 x40 x41 x42 x3 V):b10=false/\b11=false/\x3=R3/\KF W B g5 y R3 ps true b2 b3 b5 b6 b7 b8 b9 b10 b11 x35 x38 x39 x40 x41 x42 x3 V:=by
 have h10:=ff h.o0 rfl;have h11:=ff h.o11 h10;exact⟨h10,h11,h.n3 h11,{ h with o0:=fun _=>rfl }⟩
theorem KF.s3 (h:KF W B g5 y R3 ps b0 b2 false b5 b6 b7 b8 b9 b10 b11 x35 x38 x39 x40 x41 x42 x3 V)(hB:B<=W.heap.size){v:Value}{V2:World}{qs:List (Zj×Value)}(hr:Ye V2 W.heap.size v qs)(hq:qs.map Prod.fst=tF 1 y.1)(h2':true=true->b2=true)(hb:Below W.heap.size V V2):KF W B g5 y R3 ps b0 b2 true b5 b6 b7 b8 b9 b10 b11 v x38 x39 x40 x41 x42 x3 V2:=by
 have h6:=ff h.o6 rfl;have h7:=ff h.o7 h6;have h8:=ff h.o8 h7;have h9:=ff h.o9 h8;have h10:=ff h.o10 h9;have h11:=ff h.o11 h10;subst h6 h7 h8 h9 h10 h11;have ho:=(h.old rfl).trans hb;exact⟨h2',(fun h=>nomatch h),fun _=>rfl,h.o7,h.o8,h.o9,h.o10,h.o11,h.o0,ho.mono hB,fun _=>ho,fun _ _=>⟨qs,hr,hq⟩,(fun h=>nomatch h),(fun h=>nomatch h),(fun h=>nomatch h),(fun h=>nomatch h),(fun h=>nomatch h),(fun h=>nomatch h),h.n3⟩
theorem KF.s6 (h:KF W B g5 y R3 ps b0 b2 true b5 false b7 b8 b9 b10 b11 x35 x38 x39 x40 x41 x42 x3 V)(hB:B<=W.heap.size){v:Value}{V2:World}{qs:List (Zj×Value)}(hr:Ye V2 W.heap.size v qs)(hq:qs.map Prod.fst=Uj y)(h5':true=true->b5=true)(hb:Below W.heap.size V V2):KF W B g5 y R3 ps b0 b2 true b5 true b7 b8 b9 b10 b11 x35 v x39 x40 x41 x42 x3 V2:=by
 have h7:=ff h.o7 rfl;have h8:=ff h.o8 h7;have h9:=ff h.o9 h8;have h10:=ff h.o10 h9;have h11:=ff h.o11 h10;subst h7 h8 h9 h10 h11;have ho:=(h.old rfl).trans hb;exact⟨h.o3,h5',fun _=>rfl,fun _=>rfl,h.o8,h.o9,h.o10,h.o11,h.o0,ho.mono hB,fun _=>ho,(fun _ h=>nomatch h),fun _ _=>⟨qs,hr,hq⟩,(fun h=>nomatch h),(fun h=>nomatch h),(fun h=>nomatch h),(fun h=>nomatch h),(fun h=>nomatch h),h.n3⟩
theorem KF.s7 (h:KF W B g5 y R3 ps b0 b2 b3 b5 true false b8 b9 b10 b11 x35 x38 x39 x40 x41 x42 x3 V)(hB:B<=W.heap.size){v:Value}{V2:World}(hr:Own V2 W.heap.size v (msg (Uj y)))(hb:Below V.heap.size V V2):KF W B g5 y R3 ps b0 b2 b3 b5 true true b8 b9 b10 b11 x35 x38 v x40 x41 x42 x3 V2:=by
 have h8:=ff h.o8 rfl;have h9:=ff h.o9 h8;have h10:=ff h.o10 h9;have h11:=ff h.o11 h10;subst h8 h9 h10 h11;have ho:=(h.old rfl).trans (hb.mono (h.old rfl).size);exact⟨h.o3,h.o5,h.o6,fun _=>rfl,fun _=>rfl,h.o9,h.o10,h.o11,h.o0,ho.mono hB,fun _=>ho,(fun _ h=>nomatch h),(fun _ h=>nomatch h),fun _ _=>hr,(fun h=>nomatch h),(fun h=>nomatch h),(fun h=>nomatch h),(fun h=>nomatch h),h.n3⟩
theorem KF.s8 (h:KF W B g5 y R3 ps b0 b2 b3 b5 b6 true false b9 b10 b11 x35 x38 x39 x40 x41 x42 x3 V):∃ a c,x39=.slice a (msg (Uj y)).length c/\KF W B g5 y R3 ps b0 b2 b3 b5 b6 true true b9 b10 b11 x35 x38 x39 (.agg (Xm (TG y) a c)) x41 x42 x3 V:=by
 have h9:=ff h.o9 rfl;have h10:=ff h.o10 h9;have h11:=ff h.o11 h10;subst h9 h10 h11;obtain⟨a,c,e,-,-⟩:=(h.r39 rfl rfl).sl;exact⟨a,c,e,h.o3,h.o5,h.o6,h.o7,fun _=>rfl,fun _=>rfl,h.o10,h.o11,h.o0,h.bel,h.old,h.r35,h.r38,h.r39,fun _=>⟨a,c,e,rfl⟩,(fun h=>nomatch h),(fun h=>nomatch h),(fun h=>nomatch h),h.n3⟩
theorem KF.s9 (h:KF W B g5 y R3 ps b0 b2 b3 b5 b6 b7 true false b10 b11 x35 x38 x39 x40 x41 x42 x3 V)(hB:B<=W.heap.size):∃ a c,x40=.agg (Xm (TG y) a c)/\KF W B g5 y R3 ps b0 b2 b3 b5 b6 b7 true true b10 b11 x35 x38 x39 x40 (.slice (some ⟨V.heap.size,0,none⟩) 1 1) x42 x3 (V.alloc (.cells (Xm (TG y) a c) 77)):=by
 have h10:=ff h.o10 rfl;have h11:=ff h.o11 h10;subst h10 h11;obtain⟨a,c,e1,e2⟩:=h.v40 rfl;have hb:Below V.heap.size V (V.alloc (.cells (Xm (TG y) a c) 77)):=(Below.refl _ V).alloc (Nat.le_refl _) _;have ho:=(h.old rfl).trans (hb.mono (h.old rfl).size);have h7:=h.o8 rfl;have h6:=h.o7 h7;have h3:=h.o6 h6;subst h3 h6 h7;refine⟨a,c,e2,h.o3,h.o5,h.o6,h.o7,h.o8,fun _=>rfl,fun _=>rfl,h.o11,h.o0,ho.mono hB,fun _=>ho,(fun _ h=>nomatch h),(fun _ h=>nomatch h),(fun _ h=>nomatch h),h.v40,fun _ _=>⟨V,a,c,rfl,rfl,h.old rfl,by rw[<- e1]; exact h.r39 rfl rfl⟩,(fun h=>nomatch h),(fun h=>nomatch h),h.n3⟩
theorem KF.s10 (h:KF W B g5 y R3 ps true b2 b3 b5 b6 b7 b8 true false b11 x35 x38 x39 x40 x41 x42 x3 V)(hR:Ye W B R3 ps)(hB:B<=W.heap.size)(hl:ps.length<=100000):∃ a V2 v2,x41=.slice a 1 1/\(Builtin.append_ #[78,78] 78 #[R3,x41]).run Tryz.prog V=.ok v2 V2/\KF W B g5 y R3 ps true b2 b3 b5 b6 b7 b8 true true b11 x35 x38 x39 x40 x41 v2 x3 V2:=by
 have h11:=ff h.o11 rfl;subst h11;obtain⟨V0,a,c,rfl,rfl,hb0,ho⟩:=h.n41 rfl rfl;obtain⟨a',c',e,hs,-⟩:=ho.sl;simp only[Value.slice.injEq,true_and] at e;obtain⟨rfl,rfl⟩:=e;obtain⟨v2,V2,hap,hr2,hb2⟩:=Ag (hR.below hb0) (Nat.le_trans hB hb0.size) (TG y) a c ⟨a,c,rfl,hs,fun x hx=>by
  refine⟨?_,?_,fun e=>?_⟩
  ·have:=ho.lt x.block (by rw[hx]; rfl);omega
  ·have:=ho.lt x.block (by rw[hx]; rfl);exact this.2
  ·have q1:=ho.lt x.block (by rw[hx]; rfl);have q2:=hR.1.lt x.block e;omega⟩ hl
 have hc:(TG y).bytes=msg (Uj y):=rfl;refine⟨_,V2,v2,rfl,hap,h.o3,h.o5,h.o6,h.o7,h.o8,h.o9,fun _=>rfl,fun _=>rfl,fun _=>rfl,(hb0.mono hB).trans hb2,(fun h=>nomatch h),?_,?_,(fun _ h=>nomatch h),h.v40,(fun _ h=>nomatch h),fun _=>⟨_,hr2,by rw[List.map_append]; rfl⟩,(fun h=>nomatch h),h.n3⟩
 ·intro _ h6;have:=h.o7 (h.o8 (h.o9 rfl));rw[this] at h6;cases h6
 ·intro _ h7;have:=h.o8 (h.o9 rfl);rw[this] at h7;cases h7
theorem KF.s11 (h:KF W B g5 y R3 ps b0 b2 b3 b5 b6 b7 b8 b9 true false x35 x38 x39 x40 x41 x42 x3 V):KF W B g5 y R3 ps b0 b2 b3 b5 b6 b7 b8 b9 true true x35 x38 x39 x40 x41 x42 x42 V:=
 ⟨h.o3,h.o5,h.o6,h.o7,h.o8,h.o9,h.o10,fun _=>rfl,h.o0,h.bel,h.old,h.r35,h.r38,h.r39,h.v40,h.n41,h.d42,h.d42,(fun h=>nomatch h)⟩
end
theorem NI (v:Value)(ps:List (Zj×Value))(B:Nat)(k:Int)(s:ByteArray)(w:World)(h:Ye w B v ps)(hB:B<=w.heap.size)(hl:ps.length<=100000):Calls Tryz.prog 62 #[v,Z8 k,.string s] w (MQ w B ps (tF k s)):=D8 v ps B k s w h hB hl
theorem Oz (v:Value)(ps:List (Zj×Value))(B:Nat)(k n:Int)(w:World)(h:Ye w B v ps)(hB:B<=w.heap.size)(hl:ps.length<=100000):Calls Tryz.prog 63 #[v,Z8 k,Z7 n] w (MQ w B ps (nF k n)):=Nq v ps B k n w h hB hl
def vO (t:Y0):List Zj:=tF 1 t.snd++nF 2 t.sq++nF 3 t.Zu++nF 4 t.Y8++tF 5 t.memo
def jq (t:Y0)(j:Nat):List Zj:=vO t++(t.tr.take j).map TG
theorem nZ (t:Y0):jq t 0=vO t:=by unfold jq; rw[List.take_zero,List.map_nil,List.append_nil]
theorem gJ (t:Y0)(j:Nat)(h:t.tr.length<=j):jq t j=IE t:=by unfold jq vO IE; rw[List.take_of_length_le h]; simp only[List.append_assoc]
theorem nY (t:Y0)(j:Nat)(h:j<t.tr.length):jq t (j+1)=jq t j++[TG (tfa t.tr j)]:=by
 unfold jq;rw[List.take_succ_eq_append_getElem h,List.map_append,<- List.append_assoc,List.map_cons,List.map_nil,Vy h]
theorem Pn (k:Int)(s:ByteArray):(tF k s).length<=1:=by unfold tF; split <;> simp
theorem QT (k v:Int):(nF k v).length<=1:=by unfold nF; split <;> simp
theorem gI (t:Y0)(j:Nat):(jq t j).length<=5+t.tr.length:=by
 unfold jq vO;simp only[List.length_append,List.length_map,List.length_take];have a:=Pn 1 t.snd;have b:=QT 2 t.sq;have c:=QT 3 t.Zu;have d:=QT 4 t.Y8;have e:=Pn 5 t.memo;omega
theorem Gu {P:List (Zj×Value)}{M:List Zj}(e:P.map Prod.fst=M)(h:∀ x,x∈M->Vf x):∀ p,p∈P->rO p.1.num p.1.kind p.1.val p.1.bytes.length/\W64 p.1.val:=fun p hp=>by
 have:=h p.1 (by rw[<- e]; exact List.mem_map_of_mem hp);exact⟨this.1,this.2.1⟩
theorem Ei (x:Y0)(a:Option Addr)(c:Nat)(w:World)(hR:Cs w a (Rl x.tr))(hok:Bz x) :
  Calls Tryz.prog 32 #[.agg (ZA x a c)] w (aA5 w w.heap.size (form x)):=by
 have hb0:Below w.heap.size w (w.alloc (.cells (ZA x a c) 63)):=(Below.refl _ w).alloc (Nat.le_refl _) _;have hX0:Bx (w.alloc (.cells (ZA x a c) 63)) w.heap.size (ZA x a c) 63:=heap_alloc_last w _;have HA:=Z9 (hR.below hb0);have HWT:=Z9 (fun j (hj:j<x.tr.length)=>hok.tr (x:=tfa x.tr j) (by rw[Vy hj]; exact List.getElem_mem hj));have HVF:=Z9 hok.vf;have jA:Hid ((msg (IE x)).length<=900000):=Z9 (by have:=(OA x).1; have:=hok.wt; unfold form at *; omega);have HST:=Z9 (fun j hj=>nY x j hj);have HHD:Hid (vO x=tF 1 x.snd++nF 2 x.sq++nF 3 x.Zu++nF 4 x.Y8++tF 5 x.memo):=Z9 rfl;have HZ:=Z9 (nZ x);have uT:=Z9 (fun j h=>gJ x j h);have nX:=Z9 (gI x);have gG:Hid (x.tr.length<=20000):=Z9 (by have:=xI x.tr; have:=hok.wt; unfold IB at this; omega);have HFO:Hid (form x=msg (IE x)):=Z9 rfl;have qH:=Z9 (Pn 1 x.snd);have HL2:=Z9 (QT 2 x.sq);have HL3:=Z9 (QT 3 x.Zu);have HL4:=Z9 (QT 4 x.Y8);have HT1:=Z9 (fun V (v:Value) ps B (h:Ye V B v ps) (hB:B<=V.heap.size) hl=>NI v ps B 1 x.snd V h hB hl);have HN2:=Z9 (fun V (v:Value) ps B (h:Ye V B v ps) (hB:B<=V.heap.size) hl=>Oz v ps B 2 x.sq V h hB hl);have jw:=Z9 (fun V (v:Value) ps B (h:Ye V B v ps) (hB:B<=V.heap.size) hl=>Oz v ps B 3 x.Zu V h hB hl);have HN4:=Z9 (fun V (v:Value) ps B (h:Ye V B v ps) (hB:B<=V.heap.size) hl=>Oz v ps B 4 x.Y8 V h hB hl);have HT5:=Z9 (fun V (v:Value) ps B (h:Ye V B v ps) (hB:B<=V.heap.size) hl=>NI v ps B 5 x.memo V h hB hl);generalize vO x=HD at *
 generalize form x=FO at *
 generalize jq x=TJ at *
 generalize IE x=TXF at *
 obtain⟨snd,sq,Zu,Y8,memo,M⟩:=x;simp only[ZA] at hb0 hX0 HA ⊢;dsimp only at *
 generalize tF 1 snd=l1 at *
 generalize nF 2 sq=l2 at *
 generalize nF 3 Zu=l3 at *
 generalize nF 4 Y8=l4 at *
 generalize tF 5 memo=l5 at *
 obtain⟨n,hn⟩:=ZR M.length;have HN:=Z9 hn;rw[hn] at hb0 hX0 HA gG nX uT ⊢;clear hR hok;go_enter Tryz.func32,Tryz.ntmps32;go_upto_region 1 with fail;change Code.wp _ _ _ _ (w.alloc (.cells #[.string snd,Z7 sq,Z7 Zu,Z7 Y8,.string memo,.slice a n c] 63));generalize w.alloc (.cells #[.string snd,Z7 sq,Z7 Zu,Z7 Y8,.string memo,.slice a n c] 63)=W at *
 obtain⟨g0,hg0⟩:=ZR w.heap.size;have HB0:=Z9 hb0;rw[hg0] at hX0;simp only[hg0];have hgl:=hX0.lt;clear hb0 hg0 hn;go_upto_region 1 with fail;refine wl<|ZV (Z5 g0 0)<|ZK rfl ⟨g0,0,none⟩ (.string snd) (hX0.ZQ 0) <|
  XZ (fun v w'=>∃ qs,qs.map Prod.fst=List.map Prod.fst ([])++l1/\Ye w' W.heap.size v qs/\Below W.heap.size W w') ((HT1.out W (.slice none 0 0) ([]) W.heap.size (Ye.nil W W.heap.size) (Below.refl W.heap.size W).size (by simp)).mono fun e w' q=>by obtain⟨v,qs,h1,h2⟩:=q; exact⟨v,h1,qs,h2⟩) (fun u1 V1 hq=>?_)
 refine ZV (u1)<|wn ?_;simp only[pu];obtain⟨q0,hq0,hO0,hb0⟩:=hq;have hB0:=(Below.refl W.heap.size W).trans hb0;have hX1:=hX0.below hgl hb0;rw[List.map_nil,List.nil_append] at hq0;have hl0:q0.length<=100000:=by have:=congrArg List.length hq0; simp only[List.length_map,List.length_append] at this; have:=qH.out; have:=HL2.out; have:=HL3.out; have:=HL4.out; omega
 clear hb0 hX0;go_upto_region 2 with fail;refine wl<|ZG (u1) (Z5 g0 1)<|ZK rfl ⟨g0,1,none⟩ (Z7 sq) (hX1.ZQ 1) <|
  XZ (fun v w'=>∃ qs,qs.map Prod.fst=List.map Prod.fst (q0)++l2/\Ye w' W.heap.size v qs/\Below W.heap.size V1 w') ((HN2.out V1 (u1) (q0) W.heap.size hO0 hB0.size hl0).mono fun e w' q=>by obtain⟨v,qs,h1,h2⟩:=q; exact⟨v,h1,qs,h2⟩) (fun u2 V2 hq=>?_)
 refine ZV (u2)<|wn ?_;simp only[pu];obtain⟨q1,hq1,hO1,hb1⟩:=hq;have hB1:=hB0.trans hb1;have hX2:=hX1.below hgl hb1;rw[hq0] at hq1;have hl1:q1.length<=100000:=by have:=congrArg List.length hq1; simp only[List.length_map,List.length_append] at this; have:=qH.out; have:=HL2.out; have:=HL3.out; have:=HL4.out; omega
 clear hb1 hX1 hO0 hB0;go_upto_region 3 with fail;refine wl<|ZG (u2) (Z5 g0 2)<|ZK rfl ⟨g0,2,none⟩ (Z7 Zu) (hX2.ZQ 2) <|
  XZ (fun v w'=>∃ qs,qs.map Prod.fst=List.map Prod.fst (q1)++l3/\Ye w' W.heap.size v qs/\Below W.heap.size V2 w') ((jw.out V2 (u2) (q1) W.heap.size hO1 hB1.size hl1).mono fun e w' q=>by obtain⟨v,qs,h1,h2⟩:=q; exact⟨v,h1,qs,h2⟩) (fun u3 V3 hq=>?_)
 refine ZV (u3)<|wn ?_;simp only[pu];obtain⟨q2,hq2,hO2,hb2⟩:=hq;have hB2:=hB1.trans hb2;have Wx:=hX2.below hgl hb2;rw[hq1] at hq2;have hl2:q2.length<=100000:=by have:=congrArg List.length hq2; simp only[List.length_map,List.length_append] at this; have:=qH.out; have:=HL2.out; have:=HL3.out; have:=HL4.out; omega
 clear hb2 hX2 hO1 hB1;go_upto_region 4 with fail;refine wl<|ZG (u3) (Z5 g0 3)<|ZK rfl ⟨g0,3,none⟩ (Z7 Y8) (Wx.ZQ 3) <|
  XZ (fun v w'=>∃ qs,qs.map Prod.fst=List.map Prod.fst (q2)++l4/\Ye w' W.heap.size v qs/\Below W.heap.size V3 w') ((HN4.out V3 (u3) (q2) W.heap.size hO2 hB2.size hl2).mono fun e w' q=>by obtain⟨v,qs,h1,h2⟩:=q; exact⟨v,h1,qs,h2⟩) (fun u4 V4 hq=>?_)
 refine ZV (u4)<|wn ?_;simp only[pu];obtain⟨q3,hq3,hO3,hb3⟩:=hq;have hB3:=hB2.trans hb3;have XD:=Wx.below hgl hb3;rw[hq2] at hq3;have hl3:q3.length<=100000:=by have:=congrArg List.length hq3; simp only[List.length_map,List.length_append] at this; have:=qH.out; have:=HL2.out; have:=HL3.out; have:=HL4.out; omega
 clear hb3 Wx hO2 hB2;go_upto_region 5 with fail;refine wl<|ZG (u4) (Z5 g0 4)<|ZK rfl ⟨g0,4,none⟩ (.string memo) (XD.ZQ 4) <|
  XZ (fun v w'=>∃ qs,qs.map Prod.fst=List.map Prod.fst (q3)++l5/\Ye w' W.heap.size v qs/\Below W.heap.size V4 w') ((HT5.out V4 (u4) (q3) W.heap.size hO3 hB3.size hl3).mono fun e w' q=>by obtain⟨v,qs,h1,h2⟩:=q; exact⟨v,h1,qs,h2⟩) (fun u5 V5 hq=>?_)
 refine ZV (u5)<|wn ?_;simp only[pu];obtain⟨q4,hq4,hO4,hb4⟩:=hq;have hB4:=hB3.trans hb4;have Jl:=XD.below hgl hb4;rw[hq3] at hq4;clear hb4 XD hO3 hB3;go_upto_region 6 with fail;refine wl<|ZV (Z5 g0 5)<|ZK rfl ⟨g0,5,none⟩ (.slice a n c) (Jl.ZQ 5)<|ZG (Z8 n) (Z8 0)<|wn ?_;simp only[pu];have Qg:=Z9 hB4;have HQ5:Hid (q4.map Prod.fst=TJ 0):=Z9 (by rw[hq4,HZ.out,HHD.out]);have HO5:=Z9 hO4;obtain⟨p5,d5,rfl,-⟩:=HO5.out.form;have hlw:=HB0.out.size;have LU:=Z9 hlw;clear hO4 hB4 Jl HT1 HN2 jw HN4 HT5 HHD HZ hq4 qH HL2 HL3 HL4 hlw hl0 hl1 hl2 hl3 hq0 hq1 hq2 hq3 hgl;go_wp2_with fail;go_loopg [3,28] n (fun gg s3 s28 wx=>∃ (j:Nat) (p3:Option Addr) (k3 d3:Nat) (ps:List (Zj×Value)),s3=.slice p3 k3 d3/\s28=Z8 j/\j<=n/\Hid (Ye wx W.heap.size (.slice p3 k3 d3) ps)/\Hid (ps.map Prod.fst=TJ j)/\Hid (Below W.heap.size V5 wx)/\n-j=gg)
 case atStart=>exact⟨0,p5,_,d5,q4,rfl,rfl,by omega,HO5,HQ5,Z9 (Below.refl _ _),by omega⟩
 case round=>
  obtain⟨j,p3,k3,d3,ps,rfl,rfl,hj,HO,HQ,HB,hg⟩:=hrel;clear HO5 HQ5;by_cases hlt:j<n
  ·have HG:Hid (n-(j+1)=gk-1/\0<gk/\j+1<=n/\j+1<=100000):=Z9 ⟨by omega,by omega,by omega,by have:=gG.out; omega⟩;have hjm:j<M.length:=(by rw[HN.out]; exact hlt);have hA5:=HA.out.below (Qg.out.trans HB.out);obtain⟨b,off,rfl,-,hrx⟩:=Uw hA5 (k:=j) hjm;have YL:=Z9 (Ua hrx);have hwt:=HWT.out j hjm;have aA6:=Z9 (HST.out j hjm);have aA7:ps.length<=100000:=(by have:=congrArg List.length HQ.out; rw[List.length_map] at this; have:=nX.out j; have:=gG.out; omega);generalize tfa M j=y at *
   obtain⟨V6,hst,hb6,hbx⟩:=TI wr y;have Uo:Hid (W.heap.size<=wr.heap.size):=Z9 (Nat.le_trans (by have:=Qg.out.size; omega) HB.out.size);have Yh:=Z9 (HB.out.trans (hb6.mono Uo.out));have HO6:=Z9 (HO.out.below hb6);have MV:Hid (W.heap.size<=V6.heap.size):=Z9 (Nat.le_trans Uo.out hb6.size);clear hrx hb6 hjm hg HO HB HWT HST nX hA5;go_upto_region 7 with fail;refine wl<|ZN (Zy rfl (j) (n) dT)<|wn ?_;simp only[pu];go_upto_region 8 with fail;refine wl<|YN (Z5 b (off+j*2)) (Pj b off n c j hlt _ _ _ rfl (by kernel_rfl) (by kernel_rfl))<|ZK rfl ⟨b,off+j*2,none⟩ (.agg (Yz y)) (YL.out) ?_;refine Zz rfl (some 5) rfl (Z5 wr.heap.size 0) (wr.alloc (.cells (Yz Uk) 60)) (by kernel_rfl) ?_;refine Zr rfl (hst)<|wn ?_;obtain⟨g4,hg4⟩:=ZR wr.heap.size;rw[hg4] at hbx ⊢;clear hst hg4 YL;have CT:∀ V,Below V6.heap.size V6 V->Calls Tryz.prog 62 #[.slice none 0 0,Z8 1,.string y.1] V (MQ V V6.heap.size [] (tF 1 y.1)):=fun V hV=>D8 (.slice none 0 0) [] V6.heap.size 1 y.1 V (Ye.nil V _) hV.size (Nat.zero_le _);have CN:∀ V u qs,Below V6.heap.size V6 V->Ye V V6.heap.size u qs->qs.map Prod.fst=tF 1 y.1->Calls Tryz.prog 63 #[u,Z8 2,Z7 y.2] V (MQ V V6.heap.size qs (nF 2 y.2)):=fun V u qs hV hu hq=>Nq u qs V6.heap.size 2 y.2 V hu hV.size (by have:=congrArg List.length hq; rw[List.length_map] at this; have:=Pn 1 y.1; omega);have CM:∀ V u qs,Below V6.heap.size V6 V->Ye V V6.heap.size u qs->qs.map Prod.fst=Uj y->Calls Tryz.prog 29 #[u] V (fun e w'=>∃ v,e=.returned v/\Own w' V6.heap.size v (msg (Uj y))/\Below V.heap.size V w'):=fun V u qs hV hu hq=>by
    obtain⟨ua,uc,rfl,-,hfs⟩:=hu.fs;have q1:=Oy y;have:=QU ua uc qs V hfs (Gu hq (Ec (by omega) hwt.2)) (by rw[hq]; omega) (by
     have:=congrArg List.length hq;rw[List.length_map] at this;have:=Pn 1 y.1;have:=QT 2 y.2;unfold Uj at *
     rw[List.length_append] at *
     omega)
    rw[hq] at this;exact this.mono fun e w' q=>by
     obtain⟨v,h1,h2,h3⟩:=q;exact⟨v,h1,h2.base hV.size,h3⟩
   have hX:∀ V,Below V6.heap.size V6 V->Bx V g4 (Yz y) 60:=fun V hV=>hbx.below hbx.lt hV;have h0:=KF.init (g5:=g4) (y:=y) (R3:=.slice p3 k3 d3) (ps:=ps) (x35:=u35) (x38:=u38) (x39:=u39) (x40:=u40) (x41:=u41) (x42:=u42) MV.out;clear hbx;go_upto_region 9 with fail;refine Zx (fun listed Zh V=>∃ b0 b1 b2 b3 b4 b5 b6 b7 b8 b9 b10 b11:Bool,∃ x35 x38 x39 x40 x41 x42 x3:Value,listed=#[b0,b1,b2,b3,b4,b5,b6,b7,b8,b9,b10,b11]/\Zh={ tmps:=#[.agg #[.string snd,Z7 sq,Z7 Zu,Z7 Y8,.string memo,.slice (some ⟨b,off,none⟩) n c],Z5 g0 0,.slice none 0 0,x3,undef,Z5 g4 0,Z5 g0 0,.string snd,u1,u1,Z5 g0 1,Z7 sq,u2,u2,Z5 g0 2,Z7 Zu,u3,u3,Z5 g0 3,Z7 Y8,u4,u4,Z5 g0 4,.string memo,.slice p5 q4.length d5,Z5 g0 5,.slice (some ⟨b,off,none⟩) n c,Z8 n,Z8 j,ZW,Z5 b (off+j*2),.agg (Yz y),(cond b0 (.slice p3 k3 d3) (u32)),(cond b1 (Z5 g4 0) (u33)),(cond b2 (.string y.1) (u34)),x35,(cond b4 (Z5 g4 1) (u36)),(cond b5 (Z7 y.2) (u37)),x38,x39,x40,x41,x42,u43,undef,undef],defers:=[] }/\KF V6 W.heap.size g4 y (.slice p3 k3 d3) ps b0 b2 b3 b5 b6 b7 b8 b9 b10 b11 x35 x38 x39 x40 x41 x42 x3 V) (by kernel_rfl) (by kernel_rfl) ?_ ?_ ?_
   ·exact⟨false,false,false,false,false,false,false,false,false,false,false,false,u35,u38,u39,u40,u41,u42,.slice p3 k3 d3,rfl,rfl,h0⟩
   ·intro i9 listed Zh V hi9 hr hJ;obtain⟨b0,b1,b2,b3,b4,b5,b6,b7,b8,b9,b10,b11,x35,x38,x39,x40,x41,x42,x3,rfl,rfl,hF⟩:=hJ;have hi2:i9<12:=hi9;have hi3:i9=0∨i9=1∨i9=2∨i9=3∨i9=4∨i9=5∨i9=6∨i9=7∨i9=8∨i9=9∨i9=10∨i9=11:=(by omega);rcases hi3 with rfl | rfl | rfl | rfl | rfl | rfl | rfl | rfl | rfl | rfl | rfl | rfl
    ·obtain rfl:b0=false:=Z4 hr;obtain⟨rfl,rfl,rfl,hF2⟩:=hF.s0;refine ZM rfl (by kernel_rfl) (some 32) rfl (.slice p3 k3 d3) V (by kernel_rfl) ?_;exact⟨_,_,_,_,_,_,_,_,_,_,_,_,_,_,_,_,_,_,_,rfl,rfl,hF2⟩
    ·obtain rfl:b1=false:=Z4 hr;refine ZM rfl (by kernel_rfl) (some 33) rfl (Z5 g4 0) V (by kernel_rfl) ?_;exact⟨_,_,_,_,_,_,_,_,_,_,_,_,_,_,_,_,_,_,_,rfl,rfl,hF⟩
    ·obtain rfl:b2=false:=Z4 hr;obtain rfl:b1=true:=ZX hr 1;have h10:=(ff hF.o10 (ff hF.o9 (ff hF.o8 (ff hF.o7 (ff hF.o6 (ff hF.o3 rfl))))));refine Zv rfl (by kernel_rfl) (some 34) rfl 9 (.tmp 33) rfl ⟨g4,0,none⟩ (.string y.1) (by kernel_rfl) ((hX V (hF.old h10)).ZQ 0) ?_;exact⟨_,_,_,_,_,_,_,_,_,_,_,_,_,_,_,_,_,_,_,rfl,rfl,{ hF with o3:=fun _=>rfl }⟩
    ·obtain rfl:b3=false:=Z4 hr;obtain rfl:b2=true:=ZX hr 2;have h10:=(ff hF.o10 (ff hF.o9 (ff hF.o8 (ff hF.o7 (ff hF.o6 rfl)))));refine Ym rfl (by kernel_rfl) (some 35) rfl 62 #[.slice none 0 0,Z8 1,.string y.1] (by kernel_rfl) ((CT V (hF.old h10)).mono ?_);rintro e V2 ⟨v,qs,rfl,hq,hr,hb⟩;exact⟨v,rfl,b0,b1,true,true,b4,b5,b6,b7,b8,b9,b10,b11,v,x38,x39,x40,x41,x42,x3,rfl,rfl,hF.s3 MV.out hr (by simpa using hq) (fun _=>rfl) hb⟩
    ·obtain rfl:b4=false:=Z4 hr;refine ZM rfl (by kernel_rfl) (some 36) rfl (Z5 g4 1) V (by kernel_rfl) ?_;exact⟨_,_,_,_,_,_,_,_,_,_,_,_,_,_,_,_,_,_,_,rfl,rfl,hF⟩
    ·obtain rfl:b5=false:=Z4 hr;obtain rfl:b4=true:=ZX hr 4;have h10:=(ff hF.o10 (ff hF.o9 (ff hF.o8 (ff hF.o7 (ff hF.o5 rfl)))));refine Zv rfl (by kernel_rfl) (some 37) rfl 24 (.tmp 36) rfl ⟨g4,1,none⟩ (Z7 y.2) (by kernel_rfl) ((hX V (hF.old h10)).ZQ 1) ?_;exact⟨_,_,_,_,_,_,_,_,_,_,_,_,_,_,_,_,_,_,_,rfl,rfl,{ hF with o5:=fun _=>rfl }⟩
    ·obtain rfl:b6=false:=Z4 hr;obtain rfl:b3=true:=ZX hr 3;obtain rfl:b5=true:=ZX hr 5;have h10:=(ff hF.o10 (ff hF.o9 (ff hF.o8 (ff hF.o7 rfl))));obtain⟨q35,aN8,aA8⟩:=hF.r35 rfl rfl;refine Ym rfl (by kernel_rfl) (some 38) rfl 63 #[x35,Z8 2,Z7 y.2] (by kernel_rfl) ((CN V x35 q35 (hF.old h10) aN8 aA8).mono ?_);rintro e V2 ⟨v,qs,rfl,hq,hr,hb⟩;exact⟨v,rfl,b0,b1,b2,true,b4,true,true,b7,b8,b9,b10,b11,x35,v,x39,x40,x41,x42,x3,rfl,rfl,hF.s6 MV.out hr (by rw[hq,aA8]; rfl) (fun _=>rfl) hb⟩
    ·obtain rfl:b7=false:=Z4 hr;obtain rfl:b6=true:=ZX hr 6;have h10:=(ff hF.o10 (ff hF.o9 (ff hF.o8 rfl)));obtain⟨q38,aN9,aO0⟩:=hF.r38 rfl rfl;refine Ym rfl (by kernel_rfl) (some 39) rfl 29 #[x38] (by kernel_rfl) ((CM V x38 q38 (hF.old h10) aN9 aO0).mono ?_);rintro e V2 ⟨v,rfl,hO,hb⟩;exact⟨v,rfl,b0,b1,b2,b3,b4,b5,true,true,b8,b9,b10,b11,x35,x38,v,x40,x41,x42,x3,rfl,rfl,hF.s7 MV.out hO hb⟩
    ·obtain rfl:b8=false:=Z4 hr;obtain rfl:b7=true:=ZX hr 7;obtain⟨a9,c9,rfl,hF2⟩:=hF.s8;refine ZM rfl (by kernel_rfl) (some 40) rfl (.agg (Xm (TG y) a9 c9)) V (by kernel_rfl) ?_;exact⟨_,_,_,_,_,_,_,_,_,_,_,_,_,_,_,_,_,_,_,rfl,rfl,hF2⟩
    ·obtain rfl:b9=false:=Z4 hr;obtain rfl:b8=true:=ZX hr 8;obtain⟨a9,c9,rfl,hF2⟩:=hF.s9 MV.out;refine Uz rfl (by kernel_rfl) (some 41) rfl 78 1 #[(0,.tmp 40)] rfl #[(0,.agg (Xm (TG y) a9 c9))] (by kernel_rfl) (.slice (some ⟨V.heap.size,0,none⟩) 1 1) _ (Kv (TG y) a9 c9 V) ?_;exact⟨_,_,_,_,_,_,_,_,_,_,_,_,_,_,_,_,_,_,_,rfl,rfl,hF2⟩
    ·obtain rfl:b10=false:=Z4 hr;obtain rfl:b0=true:=ZX hr 0;obtain rfl:b9=true:=ZX hr 9;obtain⟨a9,V2,v,-,hap,hF2⟩:=hF.s10 HO6.out MV.out aA7;refine VK rfl (by kernel_rfl) (some 42) rfl 78 rfl (.tmp 32) (.tmp 41) 78 rfl (.slice p3 k3 d3) x41 v V2 (by kernel_rfl) (by kernel_rfl) hap ?_;exact⟨true,b1,b2,b3,b4,b5,b6,b7,b8,true,true,b11,x35,x38,x39,x40,x41,v,x3,rfl,rfl,hF2⟩
    ·obtain rfl:b11=false:=Z4 hr;obtain rfl:b10=true:=ZX hr 10;refine ZM rfl (by kernel_rfl) (some 3) rfl x42 V (by kernel_rfl) ?_;exact⟨_,_,_,_,_,_,_,_,_,_,_,_,_,_,_,_,_,_,_,rfl,rfl,hF.s11⟩
   ·intro Zh V hJ;obtain⟨b0,b1,b2,b3,b4,b5,b6,b7,b8,b9,b10,b11,x35,x38,x39,x40,x41,x42,x3,he,rfl,hF⟩:=hJ;have he:(#[true,true,true,true,true,true,true,true,true,true,true,true]:Array Bool)=#[b0,b1,b2,b3,b4,b5,b6,b7,b8,b9,b10,b11]:=he;simp only[Array.mk.injEq,List.cons.injEq,and_true] at he;obtain⟨rfl,rfl,rfl,rfl,rfl,rfl,rfl,rfl,rfl,rfl,rfl,rfl⟩:=he;simp only[cond_true];obtain⟨qs,hrow,hqs⟩:=hF.d3 rfl;have Ry:=Z9 (Yh.out.trans hF.bel);have HO8:=Z9 hrow;obtain⟨b8,d8,rfl,-⟩:=hrow.form;have HQ8:Hid (qs.map Prod.fst=TJ (j+1)):=Z9 (by rw[hqs,HQ.out,aA6.out]);clear hF hrow hqs HQ aA6 h0 CT CN CM hX Yh HO6 hwt aA7;go_upto_region 10 with fail;refine wl<|YN (Z8 (j+1:Nat)) (add_one rfl j (by have:=HG.out; omega) (by kernel_rfl) _)<|ZV (Z8 (j+1:Nat))<|wn ?_;simp only[pu];go_wp2_with fail;go_roundg (gk-1)
    case measure=>have:=HG.out; omega
    case rel=>exact⟨j+1,b8,_,d8,qs,rfl,rfl,HG.out.2.2.1,HO8,HQ8,Ry,HG.out.1⟩
  ·have hqx:ps.map Prod.fst=TXF:=(by rw[HQ.out,uT.out j (by omega)]);obtain⟨ua,uc,e3,-,hfs⟩:=HO.out.fs;simp only[Value.slice.injEq] at e3;obtain⟨rfl,rfl,rfl⟩:=e3;have CM:=QU p3 d3 ps wr hfs (Gu hqx HVF.out) (by rw[hqx]; exact jA.out) (by have:=congrArg List.length HQ.out; rw[List.length_map] at this; have:=nX.out j; have:=gG.out; omega);rw[hqx] at CM;have Uo:Hid (W.heap.size<=wr.heap.size):=Z9 (Nat.le_trans (by have:=Qg.out.size; omega) HB.out.size);have L9:=Z9 (Qg.out.trans HB.out);clear HO HQ HB hg uT HWT HST nX hqx hfs HVF jA;go_upto_region 7 with fail;refine wl<|ZN (Zy rfl (j) (n) dF)<|wn ?_;simp only[pu];go_upto_region 11 with fail;refine wl<|ZV (.slice p3 ps.length d3)<|XZ (fun v w'=>Own w' wr.heap.size v (msg TXF)/\Below wr.heap.size wr w') CM (fun u9 V9 hq=>?_);refine ZV (u9)<|wn ?_;simp only[pu];have HE:=Z9 (⟨u9,rfl,by rw[HFO.out]; exact hq.1.base (Nat.le_trans HB0.out.size Uo.out),HB0.out.trans ((L9.out.trans (hq.2.mono Uo.out)).mono HB0.out.size)⟩:aA5 w w.heap.size FO (.returned u9) V9);clear hq CM L9 Uo HFO;go_wp2_with fail;go_ret;exact HE.out
structure TxB (t:Y0):Prop where
 sq:W64 t.sq
 Zu:W64 t.Zu
 Y8:W64 t.Y8
 am:∀ x,x∈t.tr->W64 x.2
 s1:t.snd.size<=140737488355328
 s2:t.memo.size<=140737488355328
 s3:∀ x,x∈t.tr->x.1.size<=140737488355328
theorem Bz.b {t:Y0}(h:Bz t):TxB t:=⟨h.sq,h.Zu,h.Y8,h.am,by have:=h.wt; unfold IB at this; omega,by have:=h.wt; unfold IB at this; omega,fun x hx=>by have:=(h.tr hx).1; omega⟩
def ak1 (w:World)(t:Y0)(e:Ending)(w':World):Prop:=∃ v,e=.returned (.tuple #[v,Z8 (Ri t).2])/\Own w' w.heap.size v (Ri t).1/\Below w.heap.size w w'
theorem og {w:World}{g k:Nat}{x:Y0}{a:Option Addr}{c:Nat}(h:Bx w g (ZA x a c) k):w.rangeAt g 0 (ZA x a c).toList:=fun j v hv=>by
 rw[cell_of_row w g _ _ _ (0,0) h];simpa using hv
theorem ZE {w:World}{g k:Nat}{x:Y0}{a:Option Addr}{c:Nat}(h:Bx w g (ZA x a c) k):(Instr.loadAt 63 (Z5 g 0)).run Tryz.prog w=.ok (.agg (ZA x a c)) w:=
 run_loadAt_mid w g 0 63 _ _ (og h) Tryz.underlying63 rfl (by kernel_rfl)
theorem Za {ρ:Operand->Value}{o:Oper}{x y:Operand}(ho:o.op=.binOp .neq 42 x y 42)(a b:Int){t:Bool}(ht:decide (a=b)=t)(hx:ρ x=Z8 a)(hy:ρ y=Z8 b)(w:World):(execOp ρ o).run Tryz.prog w=.ok (.value (.bool (!t))) w:=by
 have e:(a != b) = !t:=by rw[<- ht]; rfl
 unfold execOp;simp only[ho,hx,hy];go_simp
theorem OV {ρ:Operand->Value}{o:Oper}{x y:Operand}(ho:o.op=.binOp .eql 42 x y 42)(a b:Int){t:Bool}(ht:decide (a=b)=t)(hx:ρ x=Z8 a)(hy:ρ y=Z8 b)(w:World):(execOp ρ o).run Tryz.prog w=.ok (.value (.bool t)) w:=by
 have e:(a == b)=t:=ht;unfold execOp;simp only[ho,hx,hy];go_simp
theorem Lj (x:Y0)(a:Option Addr)(c:Nat)(w:World)(hR:Cs w a (Rl x.tr))(h2:TxB x) :
  Calls Tryz.prog 20 #[.agg (ZA x a c)] w (ak1 w x):=by
 have hb0:Below w.heap.size w (w.alloc (.cells (ZA x a c) 63)):=(Below.refl _ w).alloc (Nat.le_refl _) _;have hX0:Bx (w.alloc (.cells (ZA x a c) 63)) w.heap.size (ZA x a c) 63:=heap_alloc_last w _;have HA:=Z9 (hR.below hb0);have CV:=Z9 (fun V (h1:Cs V a (Rl x.tr))=>U6 x a c V h1 h2.s1 h2.s2 h2.s3);have CW:=Z9 (fun V (h1:Cs V a (Rl x.tr)) (hv:XA x=0)=>have hok:=(val_ok hv h2.sq h2.Zu h2.Y8 h2.am).1; Ei x a c V h1 hok);have EG:Hid (XA x≠0->Ri x=([],XA x)):=Z9 fun h=>by unfold Ri; rw[if_pos h]
 have HE2:Hid (XA x=0->4096<(form x).length->Ri x=([],3)):=Z9 fun h h3=>by unfold Ri; rw[if_neg (by rw[h]; decide),if_pos h3]
 have MC:Hid (XA x=0->¬ 4096<(form x).length->Ri x=(form x,0)):=Z9 fun h h3=>by unfold Ri; rw[if_neg (by rw[h]; decide),if_neg h3]
 have HEO:Hid (∀ v V r,Ri x=r->Own V w.heap.size v r.1->Below w.heap.size w V->ak1 w x (.returned (.tuple #[v,Z8 r.2])) V):=Z9 fun v V r h1 h3 h4=>⟨v,by rw[h1],by rw[h1]; exact h3,h4⟩;generalize Ri x=EX at *
 generalize XA x=vx at *
 generalize form x=FO at *
 clear hR h2;go_enter Tryz.func20,Tryz.ntmps20;go_upto_region 1 with fail;change Code.wp _ _ _ _ (w.alloc (.cells (ZA x a c) 63));generalize w.alloc (.cells (ZA x a c) 63)=W at *
 obtain⟨g0,hg0⟩:=ZR w.heap.size;have HB0:=Z9 hb0;rw[hg0] at hX0;simp only[hg0];have PU:=CV.out W HA.out;clear hb0 hg0 CV;refine wl<|ZK rfl ⟨g0,0,none⟩ (.agg (ZA x a c)) (ZE hX0)<|YW (Z8 vx) (fun w'=>Below W.heap.size W w') PU (fun V hV=>?_);refine ZV (Z8 vx)<|wn ?_;simp only[pu];have hX1:=hX0.below hX0.lt hV;have HB1:=Z9 (HB0.out.trans (hV.mono HB0.out.size));have HA1:=Z9 (HA.out.below hV);clear hV PU hX0 HB0 HA;go_upto_region 2 with fail;by_cases hv:vx=0
 ·have CWV:=CW.out V HA1.out hv;clear CW;refine wl<|ZV (Z8 vx)<|ZN (Za rfl vx 0 (decide_eq_true hv))<|wn ?_;simp only[pu];go_upto_region 4 with fail;refine wl<|ZK rfl ⟨g0,0,none⟩ (.agg (ZA x a c)) (ZE hX1)<|XZ (fun v w'=>Own w' V.heap.size v FO/\Below V.heap.size V w') CWV (fun u U hq=>?_);obtain⟨hO,hb⟩:=hq;obtain⟨b5,d5,rfl,-,-⟩:=hO.sl;refine ZV (.slice b5 FO.length d5)<|wn ?_;simp only[pu];have HB2:=Z9 (HB1.out.trans (hb.mono HB1.out.size));have HO:=Z9 (hO.base HB1.out.size);clear hO hb CWV hX1 HA1 HB1;go_upto_region 5 with fail;by_cases hl:4096<FO.length
  ·have HE:=Z9 (HEO.out (.slice none 0 0) U _ (HE2.out hv hl) (Own.nil _ _) HB2.out);clear HEO EG HE2 MC HO HB2;refine wl<|ZG (.slice b5 FO.length d5) (Z8 FO.length)<|ZN (Zo rfl (FO.length) (4096) dT)<|wn ?_;simp only[pu];go_upto_region 6 with fail;refine wl<|ZG (.slice none 0 0) (Z8 3)<|wn ?_;simp only[pu];go_wp2_with fail;go_ret2;exact HE.out
  ·have HE:=Z9 (HEO.out (.slice b5 FO.length d5) U _ (MC.out hv hl) HO.out HB2.out);clear HEO EG HE2 MC HO HB2;refine wl<|ZG (.slice b5 FO.length d5) (Z8 FO.length)<|ZN (Zo rfl (FO.length) (4096) dF)<|wn ?_;simp only[pu];go_upto_region 7 with fail;refine wl<|YG (.slice b5 FO.length d5) (.slice b5 FO.length d5) (Z8 0)<|wn ?_;simp only[pu];go_wp2_with fail;go_ret2;exact HE.out
 ·have HE:=Z9 (HEO.out (.slice none 0 0) V _ (EG.out hv) (Own.nil _ _) HB1.out);clear HEO EG HE2 MC HA1 HB1 CW hX1;refine wl<|ZV (Z8 vx)<|ZN (Za rfl vx 0 (decide_eq_false hv))<|wn ?_;simp only[pu];go_upto_region 3 with fail;refine wl<|YG (Z8 vx) (.slice none 0 0) (Z8 vx)<|wn ?_;simp only[pu];go_wp2_with fail;go_ret2;exact HE.out
end Go.Proofs.YtfpnnmeblefkkaaGreatDoor
