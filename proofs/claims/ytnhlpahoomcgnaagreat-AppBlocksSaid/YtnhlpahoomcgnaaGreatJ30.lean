/-
  Texts joined.
-/
import Derived.Test.YtnhlpahoomcgnaaGreatJ27
import Derived.Test.YtnhlpahoomcgnaaGreatRows
import Derived.ProofKit
import Derived.ChangeOld
import Derived.SizedLaws
import Derived.Deep.Strs
set_option maxRecDepth 100000
set_option maxHeartbeats 8000000
set_option linter.unusedSimpArgs false
set_option linter.unusedVariables false
namespace Go.Proofs.YtnhlpahoomcgnaaGreat.Lg
attribute [local irreducible] wpList wpQuiet
open Mo (YU Y9 Ym Yz)
open Go.RowKit
theorem Iu (C:Nat->Int):∀ n,(∀ j,j<n->C j=0)∨∃ i,i<n/\(∀ j,j<i->C j=0)/\C i≠0
 | 0=>.inl fun j hj=>absurd hj (Nat.not_lt_zero j)
 | n+1=>by
  rcases Iu C n with h | ⟨i,hi,h1,h2⟩
  ·by_cases hc:C n=0
   ·exact .inl fun j hj=>by
     rcases Nat.lt_succ_iff_lt_or_eq.1 hj with h3 | h3
     ·exact h j h3
     ·rw[h3]; exact hc
   ·exact .inr ⟨n,Nat.lt_succ_self n,h,hc⟩
  ·exact .inr ⟨i,Nat.lt_succ_of_lt hi,h1,h2⟩
theorem lG (A:List Ac)(c p:Int)(Ls:List (List Int)):((VD A c p Ls).2.2=0/\(VD A c p Ls).1=YP A c p Ls Ls.length/\∀ j,j<Ls.length->(VE A c p Ls j).code=0)∨((VD A c p Ls).2.2≠0/\(∀ j,j<(VD A c p Ls).2.1->(VE A c p Ls j).code=0)/\(VE A c p Ls (VD A c p Ls).2.1).code=(VD A c p Ls).2.2):=by
 rcases Iu (fun j=>(VE A c p Ls j).code) Ls.length with h | ⟨i,hi,hb,he⟩
 ·rw[LH h]; exact .inl ⟨rfl,rfl,h⟩
 ·rw[Gp hi hb he]; exact .inr ⟨he,hb,rfl⟩
theorem bW (A:List Ac)(c p:Int)(Ls:List (List Int)){j n:Nat}(h:j<n):CQ (UW A c p Ls n) j=VE A c p Ls j:=by
 rw[eF (by rw[Ru]; exact h)];simp[UW]
def allB (C:Nat->Int)(n:Nat):Bool:=(List.range n).all fun j=>decide (C j=0)
theorem uT (C:Nat->Int):allB C 0=true:=rfl
theorem uS (C:Nat->Int)(n:Nat):allB C (n+1)=(allB C n && decide (C n=0)):=by
 unfold allB;rw[List.range_succ,List.all_append];simp
theorem JM (C:Nat->Int)(n:Nat):allB C n=true↔∀ j,j<n->C j=0:=by
 unfold allB;rw[List.all_eq_true];constructor
 ·intro h j hj;exact of_decide_eq_true (h j (List.mem_range.2 hj))
 ·intro h j hj;exact decide_eq_true (h j (List.mem_range.1 hj))
theorem Dk {A:List Ac}{c p:Int}{Ls:List (List Int)}{t:Y8}:∀ (d k:Nat),k+d<=Ls.length->Past (YP A c p Ls k).1 t->Past (YP A c p Ls (k+d)).1 t
 | 0,_,_,h=>h
 | d+1,k,hk,h=>by
  have h1:=Dk d k (by omega) h;rw[<- Nat.add_assoc,Xb (by omega)];exact fQ h1
theorem bV {A:List Ac}{c p:Int}{Ls:List (List Int)}(h:RH A c)(hp:W64 p)(h8:∀ L,L∈Ls->∀ y,y∈L->W8 y){j:Nat}(hj:j<Ls.length)(h0:(VE A c p Ls j).code=0):(WZ (YP A c p Ls Ls.length).1 (YP A c p Ls Ls.length).2 p (Ls.getD j [])).2.code=14:=by
 have h1:Past (YP A c p Ls (j+1)).1 (Zj (Ls.getD j [])).1:=by
  rw[Xb hj];exact vM h0
 have h2:=Dk (Ls.length-(j+1)) (j+1) (by omega) h1;rw[show j+1+(Ls.length-(j+1))=Ls.length by omega] at h2;have hd:(Zj (Ls.getD j [])).2=0:=by
  rcases Am (A:=(YP A c p Ls j).1) (c:=(YP A c p Ls j).2) (price:=p) (L:=Ls.getD j []) with h | h
  ·exact absurd h0 h.1
  ·exact h.2.2.2.1
 exact(fP h2 (h.run hp h8 Ls.length (Nat.le_refl _)).v hd).1
theorem uQ {D:X0}{E:List Bs}(hq:Qv D)(ho:D.o=false)(hn:E.length<=512)(h8:∀ L,L∈lsB E->∀ y,y∈L->W8 y):∃ (X:X0) (Q:List XO) (Y:X0),Xv D (lsB E)=(X,Q,0)/\Ue X=(Y,0)/\Qv X/\Qv Y/\Y.k=Y.c/\Q.length=E.length/\(∀ j,j<E.length->(CQ Q j).code=0->(Pq Y (VO E j).2.2).code=14)/\Px D (lsB E)=allB (fun j=>(CQ Q j).code) E.length:=by
 have hl:=Yn E;have e1:∀ j,j<E.length->CQ (JF D (lsB E)) j=VE D.c.1 D.c.2 D.p (lsB E) j:=fun j hj=>bW _ _ _ _ (by rw[hl]; exact hj);refine⟨Qa D (lsB E),JF D (lsB E),Jm (Qa D (lsB E)),?_,?_,hq.fin h8,(hq.fin h8).com,rfl,?_,fun j hj h0=>?_,?_⟩
 ·unfold Xv;rw[if_neg (by rw[ho]; decide),if_neg (by rw[hl]; omega)]
 ·unfold Ue;rw[if_pos (show(Qa D (lsB E)).o=true from rfl)]
 ·unfold JF;rw[Ru,hl]
 ·rw[e1 j hj] at h0;have h1:=bV hq.c hq.p h8 (by rw[hl]; exact hj) h0;rw[QO hj] at h1;exact h1
 ·have e2:allB (fun j=>(CQ (JF D (lsB E)) j).code) E.length=allB (fun j=>(VE D.c.1 D.c.2 D.p (lsB E) j).code) E.length:=by
   rw[Bool.eq_iff_iff,JM,JM];exact⟨fun h j hj=>by rw[<- e1 j hj]; exact h j hj,fun h j hj=>by rw[e1 j hj]; exact h j hj⟩
  rw[e2,Bool.eq_iff_iff,JM];unfold Px;rw[decide_eq_true_iff];rcases lG D.c.1 D.c.2 D.p (lsB E) with⟨h1,-,h3⟩ | ⟨h1,h2,h3⟩
  ·exact⟨fun _ j hj=>h3 j (by rw[hl]; exact hj),fun _=>h1⟩
  ·refine⟨fun h=>absurd h h1,fun h=>?_⟩;by_cases h4:(VD D.c.1 D.c.2 D.p (lsB E)).2.1<E.length
   ·rw[<- h3];exact h _ h4
   ·rw[LH (fun j hj=>h2 j (by rw[hl] at hj; omega))]
theorem bU (V:World)(r:XO):∃ V2,(Instr.storeAt 40 (Z5 V.heap.size 0) (.agg (ZI r))).run Tryz.prog (V.alloc (.cells (ZI (YR 0)) 40))=.ok () V2/\Below V.heap.size V V2/\Bx V2 V.heap.size (ZI r) 40:=by
 obtain⟨h1,h2⟩:=XY (q:=r) (heap_alloc_last V _:Bx (V.alloc (.cells (ZI (YR 0)) 40)) V.heap.size (ZI (YR 0)) 40);exact⟨_,h1,ZQ ((Below.refl _ V).alloc (Nat.le_refl _) _) (Nat.le_refl _) _,h2⟩
theorem F5 (ak:Option Addr)(ck:Nat)(L:List Int)(w:World)(hl:L.length<=9223372036854775807)(hk:Cs w ak (XL L)) :
  Calls Tryz.prog 5 #[.slice ak L.length ck] w fun e w'=>e=.returned ZW/\Below w.heap.size w w':=by
 have HK:=Z9 (fun(V:World) (h:Below w.heap.size w V)=>(Qb V).mono fun e w' (q:e=.returned ZW/\Below V.heap.size V w')=>(⟨q.1,h.trans (q.2.mono h.size)⟩:e=.returned ZW/\Below w.heap.size w w'));have U5:=Z9 hl;have HCK:=Z9 hk;clear hl hk;go_enter Tryz.func5,Tryz.ntmps5;go_upto_region 1 with fail;have MR:=LX w.heap.size ak L.length ck (w.alloc (.cells #[.slice ak L.length ck] 22)) (heap_alloc_last w _) U5.out;have hor:=one_row ak L.length ck w;have hb1:Below w.heap.size w (w.alloc (.cells #[.slice ak L.length ck] 22)):=(Below.refl _ w).alloc (Nat.le_refl _) _;have FQ:=Z9 (HCK.out.below hb1);generalize w.alloc (.cells #[.slice ak L.length ck] 22)=W1 at *
 have HB1:=Z9 hb1;clear hb1;by_cases hL:160<L.length
 ·rw[decide_eq_true (by omega)] at MR;refine wl<|ZV (.slice ak L.length ck) ?_;refine Zr (by kernel_rfl) (some 15) rfl 57 1 #[(0,.tmp 14)] rfl #[(0,.slice ak L.length ck)] (by kernel_rfl) (.slice (some ⟨w.heap.size,0,none⟩) 1 1) _ hor ?_;refine YS ZW (fun w'=>W1=w') MR (fun W2 hW=>?_);subst hW;simp only[pu];apply wpList_nil;clear MR hor;go_upto_region 2 with fail;refine wl<|YS ZW (fun w'=>Below w.heap.size w w') (HK.out W1 (HB1.out)) (fun V9 Xo=>?_);refine ZV ZW<|wn ?_;simp only[pu];have HE:=Z9 Xo;clear Xo;go_wp2_with fail;go_ret;exact⟨rfl,HE.out⟩
 rw[decide_eq_false (by omega)] at MR;refine wl<|ZV (.slice ak L.length ck) ?_;refine Zr (by kernel_rfl) (some 15) rfl 57 1 #[(0,.tmp 14)] rfl #[(0,.slice ak L.length ck)] (by kernel_rfl) (.slice (some ⟨w.heap.size,0,none⟩) 1 1) _ hor ?_;refine YS ZY (fun w'=>W1=w') MR (fun W2 hW=>?_);subst hW;simp only[pu];apply wpList_nil;clear MR hor;have bP:=LW ak ck L W1 FQ.out (by omega);go_upto_region 3 with fail;refine wl<|ZV (.slice ak L.length ck) <|
  Yi (fun v w'=>∃ D l0 l1 l2 v2 E gs,v=.tuple #[.agg (ZM D l0 l1 l2),v2,Z5 gs 0]/\XR w' D l0 l1 l2/\Qv D/\D.n=([],0)/\D.o=false/\OA w' (gs+1) v2 E/\E.length<=5/\NS w' gs ak ck L 411/\W1.heap.size<=gs/\Below W1.heap.size W1 w'/\∀ q,v2.ownBlock=some q->kL q D l0 l1 l2) (bP.mono fun e w' q=>by obtain⟨D,l0,l1,l2,v2,E,gs,h1,h2⟩:=q; exact⟨_,h1,D,l0,l1,l2,v2,E,gs,rfl,h2⟩) (fun vv V2 hq=>?_)
 obtain⟨D,l0,l1,l2,v2,E2,gs,rfl,hai,hQ,hDn,uj,FZ,h25,hns,hgs,hbm,hon⟩:=hq;obtain⟨a2,c2,rfl,-,hc2⟩:=FZ.bM;obtain⟨V3,hst3,hb3,WY⟩:=Xm V2 D l0 l1 l2;refine WL (.tuple #[.agg (ZM D l0 l1 l2),.slice a2 E2.length c2,Z5 gs 0]) (.agg (ZM D l0 l1 l2)) (.slice a2 E2.length c2) (Z5 gs 0) ?_;refine Zy rfl (some 3) rfl (Z5 V2.heap.size 0) (V2.alloc (.cells (#[.slice none 0 0,Z4 0,.slice none 0 0,Z4 0,.slice none 0 0,Z4 0,ZY,Z4 0]) 31)) (by kernel_rfl) ?_;refine Zu rfl (hst3)<|ZA (.slice a2 E2.length c2) (Z5 gs 0)<|wn ?_;simp only[pu];obtain⟨ga,hga⟩:=ZR V2.heap.size;have LV:=hbm.trans (hb3.mono hbm.size);have Ou:=Z9 hQ;have lu:=Z9 hDn;have HOA:=Z9 uj;have lq:Hid (w.heap.size<=gs/\gs<ga/\ga<V3.heap.size):=Z9 ⟨Nat.le_trans HB1.out.size hgs,by rw[<- hga]; exact hns.lt,by rw[<- hga]; exact WY.lt⟩;have HOB:Hid (∀ q,(Value.slice a2 E2.length c2).ownBlock=some q->gs<q/\q<ga):=Z9 fun q hq=>by
  rw[<- hga];rcases FZ.own.2 with⟨e,-⟩ | ⟨q2,cap,cur,e,hB,hh,-⟩
  ·rw[e] at hq; cases hq
  ·rw[e] at hq; simp only[Value.ownBlock,Option.some.injEq] at hq; have:=(Array.getElem?_eq_some_iff.1 hh).1; omega
 rw[hga] at WY ⊢;have LU:=Z9 WY;have HB3:=Z9 (HB1.out.trans (LV.mono HB1.out.size));have FP:=Z9 (hai.below hb3);have HEE:=Z9 (FZ.below hb3);have HC2:Hid (E2.length<=c2/\E2.length<=5):=Z9 ⟨hc2,h25⟩;have FN:=Z9 (hns.below hb3);have Dj:=Z9 hon;clear bP hai hQ hDn uj FZ h25 hns hgs hbm hon hc2 hst3 hb3 WY LV hga;obtain⟨a9,c9,e9,hbe,-⟩:=HEE.out.bM;obtain⟨rfl,-,rfl⟩:=by simpa only[Value.slice.injEq] using e9
 obtain⟨X,Q,Y,f1,f2,hqx,hqy,hyk,hql,h14,hpr⟩:=uQ Ou.out HOA.out (by have:=HC2.out; omega) hbe.all;have MS:=Z9 hbe;have HF2:=Z9 f2;have Ux:=Z9 hqx;have HQY:=Z9 hqy;have HYK:=Z9 hyk;have HQL:=Z9 hql;have H14:=Z9 h14;have HPR:=Z9 hpr;have CF:=MQ D l0 l1 l2 E2 a2 c2 V3 FP.out Ou.out.w hbe (by have:=HC2.out; omega);rw[f1] at CF;clear f1 f2 hbe hqx hqy hyk hql h14 hpr HEE Dj lu FN e9;go_upto_region 4 with fail;refine wl<|ZL rfl ⟨ga,0,none⟩ (.agg (ZM D l0 l1 l2)) (YE LU.out)<|ZV (.slice a2 E2.length c2) <|
  Yi (fun v w'=>∃ m0 m1 m2 r,v=.tuple #[.agg (ZM X m0 m1 m2),r,Z8 0]/\XR w' X m0 m1 m2/\Wq w' V3.heap.size r Q/\Below V3.heap.size V3 w') (CF.mono fun e w' q=>by obtain⟨m0,m1,m2,r,h1,h2⟩:=q; exact⟨_,h1,m0,m1,m2,r,rfl,h2⟩) (fun vv V4 hq=>?_)
 obtain⟨m0,m1,m2,r,rfl,hi4,hr4,hb4⟩:=hq;obtain⟨ar,cr,rfl,hcr,-⟩:=Yq hr4;obtain⟨V5,hst5,hb5,au⟩:=Xm V4 X m0 m1 m2;refine WL (.tuple #[.agg (ZM X m0 m1 m2),.slice ar Q.length cr,Z8 0]) (.agg (ZM X m0 m1 m2)) (.slice ar Q.length cr) (Z8 0) ?_;refine Zy rfl (some 6) rfl (Z5 V4.heap.size 0) (V4.alloc (.cells (#[.slice none 0 0,Z4 0,.slice none 0 0,Z4 0,.slice none 0 0,Z4 0,ZY,Z4 0]) 31)) (by kernel_rfl) ?_;refine Zu rfl (hst5)<|ZA (.slice ar Q.length cr) (Z8 0)<|wn ?_;simp only[pu];obtain⟨g6,WG⟩:=ZR V4.heap.size;rw[WG] at au ⊢;have aF2:=hb4.trans (hb5.mono hb4.size);have ao6:=Z9 aF2;have Jq:=Z9 (hi4.below hb5);have HXX:=Z9 au;have HCR:=Z9 (hcr.below hb5);have CC:=LP X m0 m1 m2 V5 Jq.out Ux.out.w;rw[HF2.out] at CC;clear CF hi4 hr4 hb4 hcr hst5 hb5 au WG aF2 HB1 FQ;go_upto_region 5 with fail;refine wl<|ZL rfl ⟨g6,0,none⟩ (.agg (ZM X m0 m1 m2)) (YE HXX.out) <|
  Yi (fun v w'=>∃ m0 m1 m2,v=.tuple #[.agg (ZM Y m0 m1 m2),Z8 0]/\XR w' Y m0 m1 m2/\Below V5.heap.size V5 w') (CC.mono fun e w' q=>by obtain⟨m0,m1,m2,h1,h2⟩:=q; exact⟨_,h1,m0,m1,m2,rfl,h2⟩) (fun vv V6 hq=>?_)
 obtain⟨n0,n1,n2,rfl,kE,hb6⟩:=hq;obtain⟨V7,Xx,hb7,Cm⟩:=Xm V6 Y n0 n1 n2;refine Yr (.tuple #[.agg (ZM Y n0 n1 n2),Z8 0]) (.agg (ZM Y n0 n1 n2)) (Z8 0) ?_;refine Zy rfl (some 9) rfl (Z5 V6.heap.size 0) (V6.alloc (.cells (#[.slice none 0 0,Z4 0,.slice none 0 0,Z4 0,.slice none 0 0,Z4 0,ZY,Z4 0]) 31)) (by kernel_rfl) ?_;refine Zu rfl (Xx)<|ZV (Z8 0)<|wn ?_;simp only[pu];obtain⟨g9,FH⟩:=ZR V6.heap.size;rw[FH] at Cm ⊢;have bT:=hb6.trans (hb7.mono hb6.size);have ao7:=Z9 (ao6.out.trans (bT.mono ao6.out.size));have HIY:=Z9 (kE.below hb7);have HXY:=Z9 Cm;have CS:=Vh Y.c.1 Y.c.2 n1.a n0.a n1.k n0.k V7 (by have:=HIY.out.k.cs; rw[HYK.out] at this; exact this) HIY.out.c.cs (by have:=HQY.out.c.n; omega);clear CC kE hb6 Xx hb7 Cm FH;go_upto_region 6 with fail;refine wl<|ZV (Z8 0)<|ZJ (YX rfl 0 0 (decide_eq_true rfl))<|ZA ZY (Z8 0)<|ZJ (YX rfl 0 0 (decide_eq_true rfl)) <|
  YW ZY ZY (.slice ar Q.length cr) (Z8 Q.length) (.slice a2 E2.length c2) (Z8 E2.length)<|ZJ (Fq rfl Q.length E2.length (decide_eq_true (by rw[HQL.out]))) <|
  Yr ZY ZY (Z5 g9 2)<|ZL rfl ⟨g9,2,none⟩ (.agg (ZU n1.a Y.c.1.length n1.k Y.c.2)) (by rw[<- HYK.out]; exact DR HXY.out)<|ZV (Z5 g9 0)<|ZL rfl ⟨g9,0,none⟩ (.agg (ZU n0.a Y.c.1.length n0.k Y.c.2)) (JY HXY.out) <|
  YS ZW (fun w'=>Below V7.heap.size V7 w') CS (fun V8 hV8=>?_)
 refine ZA ZY ZY<|wn ?_;simp only[pu];have uP:=ao7.out.trans (hV8.mono ao7.out.size);have aM9:=Z9 uP;have aN0:=Z9 (HCR.out.below (bT.trans (hV8.mono bT.size)));have aN1:=Z9 (HIY.out.below hV8);have aF3:=Z9 (HXY.out.below HXY.out.lt hV8);have aF4:=Z9 (LU.out.below LU.out.lt uP);have aN2:=Z9 (FP.out.below uP);have uO:=Z9 (MS.out.below uP);have aF5:=Z9 (HB3.out.trans (uP.mono HB3.out.size));clear CS hV8 uP bT ao6 ao7 aM9 Jq HXX HCR HIY HXY LU FP MS HB3;go_upto_region 8 with fail;refine wl<|ZV ZW<|wn ?_;simp only[pu];go_upto_region 9 with fail;refine wl<|Yr (.slice ar Q.length cr) (Z8 Q.length) (Z8 0)<|wn ?_;simp only[pu];go_wp2_with fail;go_loopg [2,11,59] Q.length (fun gg s2 s11 s59 wx=>∃ (j:Nat) (tj:Bool),s2=ZY/\s11=.bool tj/\s59=Z8 j/\j<=Q.length/\Hid (tj=allB (fun j=>(CQ Q j).code) j)/\Hid (Below V8.heap.size V8 wx)/\Q.length-j=gg)
 case atStart=>exact⟨0,true,rfl,rfl,rfl,by omega,Z9 (uT _).symm,Z9 (Below.refl _ _),by omega⟩
 case round=>
  obtain⟨j,tj,rfl,rfl,rfl,hj,ay,HB,hg⟩:=hrel;generalize wr=wR at *
  have aN3:=HQL.out;have hc29:=HC2.out;by_cases hlt:j<Q.length
  ·obtain⟨br,NP,rfl,-,hrg⟩:=JV (aN0.out.below HB.out) hlt;obtain⟨be,oe,rfl,hld⟩:=(uO.out).at (show j<E2.length by omega);have aF6:=Gh hrg;have aN4:=Z9 (H14.out j (by omega));have HTS:Hid (allB (fun j=>(CQ Q j).code) (j+1)=(tj && decide ((CQ Q j).code=0))):=Z9 (by rw[uS,<- ay.out]);obtain⟨W,YT,Yb,WJ⟩:=bU wR (CQ Q j);obtain⟨g13,aF7⟩:=ZR wR.heap.size;have aN5:Hid (∀ V,Below V8.heap.size V8 V->(Instr.loadAt 23 (Z5 be (oe+j*1))).run Tryz.prog V=.ok (.slice (VO E2 j).1 (VO E2 j).2.2.length (VO E2 j).2.1) V):=Z9 fun V hV=>by
    obtain⟨b5,o5,e5,h5⟩:=(uO.out.below hV).at (show j<E2.length by omega);simp only[Option.some.injEq,Addr.mk.injEq,and_true] at e5;obtain⟨rfl,rfl⟩:=e5;exact h5
   have HYR:Hid (OnR V8 (VO E2 j).1 (VO E2 j).2.1 (VO E2 j).2.2):=Z9 ⟨uO.out.sl _ (UE (by omega)),uO.out.le _ (UE (by omega)),uO.out.b _ (UE (by omega))⟩;generalize VO E2 j=y at *
   generalize CQ Q j=X9 at *
   have HG:=Z9 hg;clear hld hrg hg;go_upto_region 10 with fail;refine wl<|ZJ (Zv rfl (j) (Q.length) dT)<|wn ?_;simp only[pu];go_upto_region 11 with fail;refine wl<|ZV (Z8 j)<|YG (Z5 br (NP+j*5)) (Af br NP Q.length cr j hlt _ _ _ rfl (by kernel_rfl) (by kernel_rfl))<|ZL rfl ⟨br,NP+j*5,none⟩ (.agg (ZI X9)) (aF6) ?_;refine Zy rfl (some 13) rfl (Z5 wR.heap.size 0) (wR.alloc (.cells (ZI (YR 0)) 40)) (by kernel_rfl) ?_;refine ZV (Z8 j)<|Zu rfl (YT)<|wn ?_;simp only[pu];rw[aF7] at WJ ⊢;have Wu:=Z9 (HB.out.trans (Yb.mono HB.out.size));have zS:=Z9 WJ;clear YT Yb WJ aF6 aF7 HB;obtain⟨t0,ht0⟩:∃ t:Bool,decide (X9.code=0)=t:=⟨_,rfl⟩;have HT0:=Z9 ht0;go_upto_region 12 with fail;go_cut [11] (fun s11 wx=>s11=.bool (tj && t0)/\wx=W)
   case first=>
    cases tj
    ·refine wl<|YW ZY ZY undef undef undef ZY<|ZV ZY<|wn ?_;simp only[pu];go_wp2_with fail;go_meet;exact⟨rfl,rfl⟩
    ·refine wl<|Yr ZW ZW (Z5 g13 0)<|ZL rfl ⟨g13,0,none⟩ (Z8 X9.code) (zS.out.ZP 0)<|Yy (.bool t0) (Uw rfl X9.code 0 ht0)<|ZA (.bool t0) (.bool t0) <|
      wpList_nil ?_
     simp only[pu];go_wp2_with fail;go_meet;exact⟨rfl,rfl⟩
   case rest=>
    obtain⟨rfl,rfl⟩:=hcut;clear ht0;cases t0
    ·go_upto_region 13 with fail;have h0:Below wc.heap.size wc wc.drew:=(Below.refl _ wc).drew;refine Wi (by kernel_rfl) ?_;refine YL 0 4 (fun listed ZG V=>∃ b0 b1 b2 b3:Bool,listed=#[b0,b1,b2,b3,false,false,false,false,false,false,false,false,false]/\ZG={ tmps:=#[.slice ak L.length ck,undef,ZY,Z5 ga 0,.slice (some ⟨be,oe,none⟩) E2.length c2,Z5 gs 0,Z5 g6 0,.slice (some ⟨br,NP,none⟩) Q.length cr,Z8 0,Z5 g9 0,Z8 0,.bool (tj && false),Z8 j,Z5 g13 0,.slice ak L.length ck,.slice (some ⟨w.heap.size,0,none⟩) 1 1,ZY,undef,.tuple #[.agg (ZM D l0 l1 l2),.slice (some ⟨be,oe,none⟩) E2.length c2,Z5 gs 0],.slice ak L.length ck,.tuple #[.agg (ZM D l0 l1 l2),.slice (some ⟨be,oe,none⟩) E2.length c2,Z5 gs 0],.agg (ZM D l0 l1 l2),.slice (some ⟨be,oe,none⟩) E2.length c2,Z5 gs 0,.tuple #[.agg (ZM X m0 m1 m2),.slice (some ⟨br,NP,none⟩) Q.length cr,Z8 0],.agg (ZM D l0 l1 l2),.slice (some ⟨be,oe,none⟩) E2.length c2,.tuple #[.agg (ZM X m0 m1 m2),.slice (some ⟨br,NP,none⟩) Q.length cr,Z8 0],.agg (ZM X m0 m1 m2),.slice (some ⟨br,NP,none⟩) Q.length cr,Z8 0,.tuple #[.agg (ZM Y n0 n1 n2),Z8 0],.agg (ZM X m0 m1 m2),.tuple #[.agg (ZM Y n0 n1 n2),Z8 0],.agg (ZM Y n0 n1 n2),Z8 0,Z8 0,ZY,ZY,Z8 0,ZY,ZY,ZY,.slice (some ⟨br,NP,none⟩) Q.length cr,Z8 Q.length,.slice (some ⟨be,oe,none⟩) E2.length c2,Z8 E2.length,ZY,ZY,ZY,Z5 g9 2,.agg (ZU n1.a Y.c.1.length n1.k Y.c.2),Z5 g9 0,.agg (ZU n0.a Y.c.1.length n0.k Y.c.2),ZW,ZY,ZY,.slice (some ⟨br,NP,none⟩) Q.length cr,Z8 Q.length,Z8 j,u60,u61,u62,u63,u64,u65,u66,u67,u68,u69,(cond b0 (Z5 g13 0) u70),(cond b1 (Z8 X9.code) u71),(cond b2 ZY u72),(cond b3 ZY u73),u74,u75,u76,u77,u78,u79,u80,u81,u82,u83,undef,undef,undef,undef,undef,undef,undef,undef],defers:=[] }/\Below wc.heap.size wc V) (by kernel_rfl) (by kernel_rfl) ?_ ?_ ?_
     ·exact⟨false,false,false,false,by kernel_rfl,rfl,h0⟩
     ·intro i9 listed ZG V hk9 hi9 hr hJ;obtain⟨b0,b1,b2,b3,rfl,rfl,hF⟩:=hJ;have hi3:i9=0∨i9=1∨i9=2∨i9=3:=(by omega);rcases hi3 with rfl | rfl | rfl | rfl
      ·obtain rfl:b0=false:=Z7 hr;refine ZT rfl (by kernel_rfl) (some 70) rfl (Z5 g13 0) V (by kernel_rfl) ?_;exact⟨_,_,_,_,rfl,rfl,hF⟩
      ·obtain rfl:b1=false:=Z7 hr;obtain rfl:b0=true:=ZX hr 0;refine ZE rfl (by kernel_rfl) (some 71) rfl 38 (.tmp 70) rfl ⟨g13,0,none⟩ (Z8 X9.code) (by kernel_rfl) ((zS.out.below zS.out.lt hF).ZP 0) ?_;exact⟨_,_,_,_,rfl,rfl,hF⟩
      ·obtain rfl:b2=false:=Z7 hr;obtain rfl:b1=true:=ZX hr 1;refine ZT rfl (by kernel_rfl) (some 72) rfl ZY V (Uw rfl X9.code 0 HT0.out (by kernel_rfl) (by kernel_rfl) _) ?_;exact⟨_,_,_,_,rfl,rfl,hF⟩
      ·obtain rfl:b3=false:=Z7 hr;obtain rfl:b2=true:=ZX hr 2;refine ZT rfl (by kernel_rfl) (some 73) rfl ZY V (by kernel_rfl) ?_;exact⟨_,_,_,_,rfl,rfl,hF⟩
     ·intro ZG V hJ;obtain⟨b0,b1,b2,b3,he,rfl,hF⟩:=hJ;have he:(#[true,true,true,true,false,false,false,false,false,false,false,false,false]:Array Bool)=#[b0,b1,b2,b3,false,false,false,false,false,false,false,false,false]:=Eq.trans (by kernel_rfl) he;simp only[Array.mk.injEq,List.cons.injEq,and_true,true_and] at he;obtain⟨rfl,rfl,rfl,rfl⟩:=he;simp only[cond_true];have Tq:=hF;clear hF;refine YL 4 9 (fun listed ZG V=>∃ b4 b5 b6 b7 b8 b9 b10 b11 b12:Bool,listed=#[true,true,true,true,b4,b5,b6,b7,b8,b9,b10,b11,b12]/\ZG={ tmps:=#[.slice ak L.length ck,undef,ZY,Z5 ga 0,.slice (some ⟨be,oe,none⟩) E2.length c2,Z5 gs 0,Z5 g6 0,.slice (some ⟨br,NP,none⟩) Q.length cr,Z8 0,Z5 g9 0,Z8 0,.bool (tj && false),Z8 j,Z5 g13 0,.slice ak L.length ck,.slice (some ⟨w.heap.size,0,none⟩) 1 1,ZY,undef,.tuple #[.agg (ZM D l0 l1 l2),.slice (some ⟨be,oe,none⟩) E2.length c2,Z5 gs 0],.slice ak L.length ck,.tuple #[.agg (ZM D l0 l1 l2),.slice (some ⟨be,oe,none⟩) E2.length c2,Z5 gs 0],.agg (ZM D l0 l1 l2),.slice (some ⟨be,oe,none⟩) E2.length c2,Z5 gs 0,.tuple #[.agg (ZM X m0 m1 m2),.slice (some ⟨br,NP,none⟩) Q.length cr,Z8 0],.agg (ZM D l0 l1 l2),.slice (some ⟨be,oe,none⟩) E2.length c2,.tuple #[.agg (ZM X m0 m1 m2),.slice (some ⟨br,NP,none⟩) Q.length cr,Z8 0],.agg (ZM X m0 m1 m2),.slice (some ⟨br,NP,none⟩) Q.length cr,Z8 0,.tuple #[.agg (ZM Y n0 n1 n2),Z8 0],.agg (ZM X m0 m1 m2),.tuple #[.agg (ZM Y n0 n1 n2),Z8 0],.agg (ZM Y n0 n1 n2),Z8 0,Z8 0,ZY,ZY,Z8 0,ZY,ZY,ZY,.slice (some ⟨br,NP,none⟩) Q.length cr,Z8 Q.length,.slice (some ⟨be,oe,none⟩) E2.length c2,Z8 E2.length,ZY,ZY,ZY,Z5 g9 2,.agg (ZU n1.a Y.c.1.length n1.k Y.c.2),Z5 g9 0,.agg (ZU n0.a Y.c.1.length n0.k Y.c.2),ZW,ZY,ZY,.slice (some ⟨br,NP,none⟩) Q.length cr,Z8 Q.length,Z8 j,u60,u61,u62,u63,u64,u65,u66,u67,u68,u69,Z5 g13 0,Z8 X9.code,ZY,ZY,(cond b4 (undef) u74),(cond b5 (undef) u75),(cond b6 (undef) u76),(cond b7 (undef) u77),(cond b8 (undef) u78),(cond b9 (undef) u79),(cond b10 (undef) u80),(cond b11 (undef) u81),(cond b12 ZY u82),u83,undef,undef,undef,undef,undef,undef,undef,undef],defers:=[] }/\Below wc.heap.size wc V) (by kernel_rfl) (by kernel_rfl) ?_ ?_ ?_
      ·exact⟨false,false,false,false,false,false,false,false,false,by kernel_rfl,rfl,Tq⟩
      ·intro i9 listed ZG V hk9 hi9 hr hJ;obtain⟨b4,b5,b6,b7,b8,b9,b10,b11,b12,rfl,rfl,hF⟩:=hJ;have hi3:i9=4∨i9=5∨i9=6∨i9=7∨i9=8∨i9=9∨i9=10∨i9=11∨i9=12:=(by omega);rcases hi3 with rfl | rfl | rfl | rfl | rfl | rfl | rfl | rfl | rfl
       ·obtain rfl:b4=false:=Z7 hr;refine Xh rfl (by kernel_rfl) ?_;exact⟨_,_,_,_,_,_,_,_,_,rfl,rfl,hF⟩
       ·obtain rfl:b5=false:=Z7 hr;refine Xh rfl (by kernel_rfl) ?_;exact⟨_,_,_,_,_,_,_,_,_,rfl,rfl,hF⟩
       ·obtain rfl:b6=false:=Z7 hr;refine Xh rfl (by kernel_rfl) ?_;exact⟨_,_,_,_,_,_,_,_,_,rfl,rfl,hF⟩
       ·obtain rfl:b7=false:=Z7 hr;refine Xh rfl (by kernel_rfl) ?_;exact⟨_,_,_,_,_,_,_,_,_,rfl,rfl,hF⟩
       ·obtain rfl:b8=false:=Z7 hr;refine Xh rfl (by kernel_rfl) ?_;exact⟨_,_,_,_,_,_,_,_,_,rfl,rfl,hF⟩
       ·obtain rfl:b9=false:=Z7 hr;refine Xh rfl (by kernel_rfl) ?_;exact⟨_,_,_,_,_,_,_,_,_,rfl,rfl,hF⟩
       ·obtain rfl:b10=false:=Z7 hr;refine Xh rfl (by kernel_rfl) ?_;exact⟨_,_,_,_,_,_,_,_,_,rfl,rfl,hF⟩
       ·obtain rfl:b11=false:=Z7 hr;refine Xh rfl (by kernel_rfl) ?_;exact⟨_,_,_,_,_,_,_,_,_,rfl,rfl,hF⟩
       ·obtain rfl:b12=false:=Z7 hr;obtain rfl:b11=true:=ZX hr 11;refine ZT rfl (by kernel_rfl) (some 82) rfl ZY V (by kernel_rfl) ?_;exact⟨_,_,_,_,_,_,_,_,_,rfl,rfl,hF⟩
      ·intro ZG V hJ;obtain⟨b4,b5,b6,b7,b8,b9,b10,b11,b12,he,rfl,hF⟩:=hJ;have he:(#[true,true,true,true,true,true,true,true,true,true,true,true,true]:Array Bool)=#[true,true,true,true,b4,b5,b6,b7,b8,b9,b10,b11,b12]:=Eq.trans (by kernel_rfl) he;simp only[Array.mk.injEq,List.cons.injEq,and_true,true_and] at he;obtain⟨rfl,rfl,rfl,rfl,rfl,rfl,rfl,rfl,rfl⟩:=he;simp only[cond_true];refine Rt ?_;have Zl:=Z9 (Wu.out.trans (hF.mono Wu.out.size));clear hF h0 Wu zS;go_upto_region 15 with fail;refine wl<|Yy (Z8 (j+1:Nat)) (ZF rfl j 1 (by omega))<|ZV (Z8 (j+1:Nat))<|wn ?_;simp only[pu];go_wp2_with fail;go_roundg (Q.length-(j+1))
       case measure=>have:=HG.out; omega
       case rel=>exact⟨j+1,_,rfl,rfl,rfl,hlt,Z9 (by rw[HTS.out,HT0.out]),Zl,rfl⟩
    ·go_upto_region 13 with fail;have h0:Below wc.heap.size wc wc.drew:=(Below.refl _ wc).drew;refine Wi (by kernel_rfl) ?_;refine YL 0 4 (fun listed ZG V=>∃ b0 b1 b2 b3:Bool,listed=#[b0,b1,b2,b3,false,false,false,false,false,false,false,false,false]/\ZG={ tmps:=#[.slice ak L.length ck,undef,ZY,Z5 ga 0,.slice (some ⟨be,oe,none⟩) E2.length c2,Z5 gs 0,Z5 g6 0,.slice (some ⟨br,NP,none⟩) Q.length cr,Z8 0,Z5 g9 0,Z8 0,.bool (tj && true),Z8 j,Z5 g13 0,.slice ak L.length ck,.slice (some ⟨w.heap.size,0,none⟩) 1 1,ZY,undef,.tuple #[.agg (ZM D l0 l1 l2),.slice (some ⟨be,oe,none⟩) E2.length c2,Z5 gs 0],.slice ak L.length ck,.tuple #[.agg (ZM D l0 l1 l2),.slice (some ⟨be,oe,none⟩) E2.length c2,Z5 gs 0],.agg (ZM D l0 l1 l2),.slice (some ⟨be,oe,none⟩) E2.length c2,Z5 gs 0,.tuple #[.agg (ZM X m0 m1 m2),.slice (some ⟨br,NP,none⟩) Q.length cr,Z8 0],.agg (ZM D l0 l1 l2),.slice (some ⟨be,oe,none⟩) E2.length c2,.tuple #[.agg (ZM X m0 m1 m2),.slice (some ⟨br,NP,none⟩) Q.length cr,Z8 0],.agg (ZM X m0 m1 m2),.slice (some ⟨br,NP,none⟩) Q.length cr,Z8 0,.tuple #[.agg (ZM Y n0 n1 n2),Z8 0],.agg (ZM X m0 m1 m2),.tuple #[.agg (ZM Y n0 n1 n2),Z8 0],.agg (ZM Y n0 n1 n2),Z8 0,Z8 0,ZY,ZY,Z8 0,ZY,ZY,ZY,.slice (some ⟨br,NP,none⟩) Q.length cr,Z8 Q.length,.slice (some ⟨be,oe,none⟩) E2.length c2,Z8 E2.length,ZY,ZY,ZY,Z5 g9 2,.agg (ZU n1.a Y.c.1.length n1.k Y.c.2),Z5 g9 0,.agg (ZU n0.a Y.c.1.length n0.k Y.c.2),ZW,ZY,ZY,.slice (some ⟨br,NP,none⟩) Q.length cr,Z8 Q.length,Z8 j,u60,u61,u62,u63,u64,u65,u66,u67,u68,u69,(cond b0 (Z5 g13 0) u70),(cond b1 (Z8 X9.code) u71),(cond b2 ZW u72),(cond b3 ZW u73),u74,u75,u76,u77,u78,u79,u80,u81,u82,u83,undef,undef,undef,undef,undef,undef,undef,undef],defers:=[] }/\Below wc.heap.size wc V) (by kernel_rfl) (by kernel_rfl) ?_ ?_ ?_
     ·exact⟨false,false,false,false,by kernel_rfl,rfl,h0⟩
     ·intro i9 listed ZG V hk9 hi9 hr hJ;obtain⟨b0,b1,b2,b3,rfl,rfl,hF⟩:=hJ;have hi3:i9=0∨i9=1∨i9=2∨i9=3:=(by omega);rcases hi3 with rfl | rfl | rfl | rfl
      ·obtain rfl:b0=false:=Z7 hr;refine ZT rfl (by kernel_rfl) (some 70) rfl (Z5 g13 0) V (by kernel_rfl) ?_;exact⟨_,_,_,_,rfl,rfl,hF⟩
      ·obtain rfl:b1=false:=Z7 hr;obtain rfl:b0=true:=ZX hr 0;refine ZE rfl (by kernel_rfl) (some 71) rfl 38 (.tmp 70) rfl ⟨g13,0,none⟩ (Z8 X9.code) (by kernel_rfl) ((zS.out.below zS.out.lt hF).ZP 0) ?_;exact⟨_,_,_,_,rfl,rfl,hF⟩
      ·obtain rfl:b2=false:=Z7 hr;obtain rfl:b1=true:=ZX hr 1;refine ZT rfl (by kernel_rfl) (some 72) rfl ZW V (Uw rfl X9.code 0 HT0.out (by kernel_rfl) (by kernel_rfl) _) ?_;exact⟨_,_,_,_,rfl,rfl,hF⟩
      ·obtain rfl:b3=false:=Z7 hr;obtain rfl:b2=true:=ZX hr 2;refine ZT rfl (by kernel_rfl) (some 73) rfl ZW V (by kernel_rfl) ?_;exact⟨_,_,_,_,rfl,rfl,hF⟩
     ·intro ZG V hJ;obtain⟨b0,b1,b2,b3,he,rfl,hF⟩:=hJ;have he:(#[true,true,true,true,false,false,false,false,false,false,false,false,false]:Array Bool)=#[b0,b1,b2,b3,false,false,false,false,false,false,false,false,false]:=Eq.trans (by kernel_rfl) he;simp only[Array.mk.injEq,List.cons.injEq,and_true,true_and] at he;obtain⟨rfl,rfl,rfl,rfl⟩:=he;simp only[cond_true];have Tq:=hF;clear hF;refine YL 4 9 (fun listed ZG V=>∃ b4 b5 b6 b7 b8 b9 b10 b11 b12:Bool,listed=#[true,true,true,true,b4,b5,b6,b7,b8,b9,b10,b11,b12]/\ZG={ tmps:=#[.slice ak L.length ck,undef,ZY,Z5 ga 0,.slice (some ⟨be,oe,none⟩) E2.length c2,Z5 gs 0,Z5 g6 0,.slice (some ⟨br,NP,none⟩) Q.length cr,Z8 0,Z5 g9 0,Z8 0,.bool (tj && true),Z8 j,Z5 g13 0,.slice ak L.length ck,.slice (some ⟨w.heap.size,0,none⟩) 1 1,ZY,undef,.tuple #[.agg (ZM D l0 l1 l2),.slice (some ⟨be,oe,none⟩) E2.length c2,Z5 gs 0],.slice ak L.length ck,.tuple #[.agg (ZM D l0 l1 l2),.slice (some ⟨be,oe,none⟩) E2.length c2,Z5 gs 0],.agg (ZM D l0 l1 l2),.slice (some ⟨be,oe,none⟩) E2.length c2,Z5 gs 0,.tuple #[.agg (ZM X m0 m1 m2),.slice (some ⟨br,NP,none⟩) Q.length cr,Z8 0],.agg (ZM D l0 l1 l2),.slice (some ⟨be,oe,none⟩) E2.length c2,.tuple #[.agg (ZM X m0 m1 m2),.slice (some ⟨br,NP,none⟩) Q.length cr,Z8 0],.agg (ZM X m0 m1 m2),.slice (some ⟨br,NP,none⟩) Q.length cr,Z8 0,.tuple #[.agg (ZM Y n0 n1 n2),Z8 0],.agg (ZM X m0 m1 m2),.tuple #[.agg (ZM Y n0 n1 n2),Z8 0],.agg (ZM Y n0 n1 n2),Z8 0,Z8 0,ZY,ZY,Z8 0,ZY,ZY,ZY,.slice (some ⟨br,NP,none⟩) Q.length cr,Z8 Q.length,.slice (some ⟨be,oe,none⟩) E2.length c2,Z8 E2.length,ZY,ZY,ZY,Z5 g9 2,.agg (ZU n1.a Y.c.1.length n1.k Y.c.2),Z5 g9 0,.agg (ZU n0.a Y.c.1.length n0.k Y.c.2),ZW,ZY,ZY,.slice (some ⟨br,NP,none⟩) Q.length cr,Z8 Q.length,Z8 j,u60,u61,u62,u63,u64,u65,u66,u67,u68,u69,Z5 g13 0,Z8 X9.code,ZW,ZW,(cond b4 (.agg (ZM Y n0 n1 n2)) u74),(cond b5 (.slice (some ⟨be,oe,none⟩) E2.length c2) u75),(cond b6 (Z8 j) u76),(cond b7 (Z5 be (oe+j*1)) u77),(cond b8 (.slice y.1 y.2.2.length y.2.1) u78),(cond b9 (.agg (ZI (Pq Y y.2.2))) u79),(cond b10 (Z8 (Pq Y y.2.2).code) u80),(cond b11 ZY u81),(cond b12 ZY u82),u83,undef,undef,undef,undef,undef,undef,undef,undef],defers:=[] }/\Below wc.heap.size wc V) (by kernel_rfl) (by kernel_rfl) ?_ ?_ ?_
      ·exact⟨false,false,false,false,false,false,false,false,false,by kernel_rfl,rfl,Tq⟩
      ·intro i9 listed ZG V hk9 hi9 hr hJ;obtain⟨b4,b5,b6,b7,b8,b9,b10,b11,b12,rfl,rfl,hF⟩:=hJ;have hi3:i9=4∨i9=5∨i9=6∨i9=7∨i9=8∨i9=9∨i9=10∨i9=11∨i9=12:=(by omega);rcases hi3 with rfl | rfl | rfl | rfl | rfl | rfl | rfl | rfl | rfl
       ·obtain rfl:b4=false:=Z7 hr;refine ZE rfl (by kernel_rfl) (some 74) rfl 31 (.tmp 9) rfl ⟨g9,0,none⟩ (.agg (ZM Y n0 n1 n2)) (by kernel_rfl) (YE (aF3.out.below aF3.out.lt (Wu.out.trans (hF.mono Wu.out.size)))) ?_;exact⟨_,_,_,_,_,_,_,_,_,rfl,rfl,hF⟩
       ·obtain rfl:b5=false:=Z7 hr;refine ZT rfl (by kernel_rfl) (some 75) rfl (.slice (some ⟨be,oe,none⟩) E2.length c2) V (by kernel_rfl) ?_;exact⟨_,_,_,_,_,_,_,_,_,rfl,rfl,hF⟩
       ·obtain rfl:b6=false:=Z7 hr;refine ZT rfl (by kernel_rfl) (some 76) rfl (Z8 j) V (by kernel_rfl) ?_;exact⟨_,_,_,_,_,_,_,_,_,rfl,rfl,hF⟩
       ·obtain rfl:b7=false:=Z7 hr;obtain rfl:b5=true:=ZX hr 5;obtain rfl:b6=true:=ZX hr 6;refine ZT rfl (by kernel_rfl) (some 77) rfl (Z5 be (oe+j*1)) V (PI be oe E2.length c2 j (by omega) _ _ _ rfl (by kernel_rfl) (by kernel_rfl)) ?_;exact⟨_,_,_,_,_,_,_,_,_,rfl,rfl,hF⟩
       ·obtain rfl:b8=false:=Z7 hr;obtain rfl:b7=true:=ZX hr 7;refine ZE rfl (by kernel_rfl) (some 78) rfl 23 (.tmp 77) rfl ⟨be,oe+j*1,none⟩ (.slice y.1 y.2.2.length y.2.1) (by kernel_rfl) (aN5.out V (Wu.out.trans (hF.mono Wu.out.size))) ?_;exact⟨_,_,_,_,_,_,_,_,_,rfl,rfl,hF⟩
       ·obtain rfl:b9=false:=Z7 hr;obtain rfl:b4=true:=ZX hr 4;obtain rfl:b8=true:=ZX hr 8;refine Zc rfl (by kernel_rfl) (some 79) rfl 11 #[.agg (ZM Y n0 n1 n2),.slice y.1 y.2.2.length y.2.1] (by kernel_rfl) ((MP Y n0 n1 n2 y.2.2 y.1 y.2.1 V (aN1.out.below (Wu.out.trans (hF.mono Wu.out.size))) HQY.out.w (HYR.out.below (Wu.out.trans (hF.mono Wu.out.size))).1 (HYR.out.below (Wu.out.trans (hF.mono Wu.out.size))).2.1 (HYR.out.below (Wu.out.trans (hF.mono Wu.out.size))).2.2).mono fun e w' z=>?_);obtain⟨rfl,hb⟩:=z;exact⟨_,rfl,_,_,_,_,_,_,_,_,_,rfl,rfl,hF.trans (hb.mono hF.size)⟩
       ·obtain rfl:b10=false:=Z7 hr;obtain rfl:b9=true:=ZX hr 9;refine ZT rfl (by kernel_rfl) (some 80) rfl (Z8 (Pq Y y.2.2).code) V (by kernel_rfl) ?_;exact⟨_,_,_,_,_,_,_,_,_,rfl,rfl,hF⟩
       ·obtain rfl:b11=false:=Z7 hr;obtain rfl:b10=true:=ZX hr 10;refine ZT rfl (by kernel_rfl) (some 81) rfl ZY V (YX rfl (Pq Y y.2.2).code 14 (decide_eq_true (aN4.out (of_decide_eq_true HT0.out))) (by kernel_rfl) (by kernel_rfl) _) ?_;exact⟨_,_,_,_,_,_,_,_,_,rfl,rfl,hF⟩
       ·obtain rfl:b12=false:=Z7 hr;obtain rfl:b11=true:=ZX hr 11;refine ZT rfl (by kernel_rfl) (some 82) rfl ZY V (by kernel_rfl) ?_;exact⟨_,_,_,_,_,_,_,_,_,rfl,rfl,hF⟩
      ·intro ZG V hJ;obtain⟨b4,b5,b6,b7,b8,b9,b10,b11,b12,he,rfl,hF⟩:=hJ;have he:(#[true,true,true,true,true,true,true,true,true,true,true,true,true]:Array Bool)=#[true,true,true,true,b4,b5,b6,b7,b8,b9,b10,b11,b12]:=Eq.trans (by kernel_rfl) he;simp only[Array.mk.injEq,List.cons.injEq,and_true,true_and] at he;obtain⟨rfl,rfl,rfl,rfl,rfl,rfl,rfl,rfl,rfl⟩:=he;simp only[cond_true];refine Rt ?_;have Zl:=Z9 (Wu.out.trans (hF.mono Wu.out.size));clear hF h0 Wu zS;go_upto_region 15 with fail;refine wl<|Yy (Z8 (j+1:Nat)) (ZF rfl j 1 (by omega))<|ZV (Z8 (j+1:Nat))<|wn ?_;simp only[pu];go_wp2_with fail;go_roundg (Q.length-(j+1))
       case measure=>have:=HG.out; omega
       case rel=>exact⟨j+1,_,rfl,rfl,rfl,hlt,Z9 (by rw[HTS.out,HT0.out]),Zl,rfl⟩
  ·obtain rfl:Q.length=j:=(by omega);have CP:=Ot D l0 l1 l2 E2 a2 c2 wR (aN2.out.below HB.out) Ou.out.w (uO.out.below HB.out) (by omega);have hp9:Px D (lsB E2)=tj:=(by rw[HPR.out,<- aN3]; exact ay.out.symm);rw[hp9] at CP;clear hp9;go_upto_region 10 with fail;refine wl<|ZJ (Zv rfl (Q.length) (Q.length) dF)<|wn ?_;simp only[pu];go_upto_region 16 with fail;refine wl<|ZL rfl ⟨ga,0,none⟩ (.agg (ZM D l0 l1 l2)) (YE (aF4.out.below aF4.out.lt HB.out))<|ZV (.slice a2 E2.length c2)<|YS (.bool tj) (fun w'=>Below wR.heap.size wR w') CP (fun V9 Xo=>?_);have hbz:=HB.out.trans (Xo.mono HB.out.size);have hbe:=aF5.out.trans (hbz.mono aF5.out.size);refine ZV (.bool tj)<|Yy ZW (ab4 rfl tj)<|ZV ZW<|YS ZW (fun w'=>Below w.heap.size w w') (HK.out V9 hbe) (fun Va Oq=>?_);have HE:=Z9 Oq;clear Oq;refine ZA ZW ZW<|wn ?_;simp only[pu];go_wp2_with fail;go_ret;exact⟨rfl,HE.out⟩
end Go.Proofs.YtnhlpahoomcgnaaGreat.Lg
namespace Go.Proofs.YtnhlpahoomcgnaaGreat.Lg
open Go.ChangeShapes Go.WideShapes Go.ChangeAt Go.RowKit Go.Deep Go.Joins
theorem JL {H:Type}{enc:TypeId×Value->H}{W:World}{fuel:Nat}{cs:List Value}{y:DataW H×List MemPlace}(h:DataW.trod enc Tryz.prog W 0 (fun _=>true) true fuel 22 cs=some y) :
  ∃ a cap L,cs=[.slice a (List.length L) cap]/\L.length<=9223372036854775807/\Cs W a (XL L):=by
 rcases open_ints Tryz.underlying22 Tryz.underlying3 (by kernel_rfl) h with⟨rfl,rfl⟩ | ⟨x,l,c,zs,rfl,_,hl,hm,hz,rfl,hcell,hwz⟩
 ·exact⟨none,0,[],rfl,by simp,Cs.nil _ _⟩
 ·have hz':zs.length=c:=by simpa using hz
  have hlen:(zs.take l).length=l:=by rw[List.length_take]; omega
  refine⟨some x,c,zs.take l,by rw[hlen],by rw[hlen]; unfold maxLen at hm; omega,fun j v hj=>?_⟩;have hjl:j<(zs.take l).length:=by
   have:=(List.getElem?_eq_some_iff.1 hj).1;simpa [XL] using this
  have hjz:j<zs.length:=by omega
  obtain⟨b,off,rfl,hc⟩:=ints_at hcell (by omega);rw[IL _ _ hjl] at hj;simp only[Option.some.injEq] at hj;have hcj:=hc j hjz;refine⟨b,off,rfl,World.block_lt_of_cell? W _ hcj,?_⟩;rw[hcj,<- hj];simp[List.getD,show j<l by omega]
theorem bQ {α:Type}{Q:Nat->α->Prop}(n:Nat)(h:∀ i,i<n->∃ p,Q i p):∃ ps:List α,ps.length=n/\∀ i p,ps[i]?=some p->Q i p:=by
 induction n with
 | zero=>exact⟨[],rfl,fun i p hi=>by simp at hi⟩
 | succ n ih=>
  obtain⟨ps,hl,hq⟩:=ih (fun i hi=>h i (by omega));obtain⟨p,hp⟩:=h n (by omega);refine⟨ps++[p],by simp[hl],fun i q hi=>?_⟩;by_cases hlt:i<n
  ·rw[List.getElem?_append_left (by omega)] at hi;exact hq i q hi
  ·have hb:=(List.getElem?_eq_some_iff.1 hi).1;rw[List.length_append,List.length_singleton] at hb;obtain rfl:i=n:=(by omega);rw[List.getElem?_append_right (by omega),hl] at hi;simp at hi;exact hi ▸ hp
theorem NM (x:ByteArray):x.data.toList.length=x.size:=Array.length_toList
theorem lF {x:Int}(h:(Lit.int .u8 x).wf=true):0<=x/\x<=255:=by
 simp[Lit.wf,IntKind.min,IntKind.max,IntKind.signed,IntKind.bits] at h;exact⟨by omega,by omega⟩
theorem Ir {H:Type}{enc:TypeId×Value->H}{W:World}{fuel:Nat}{cs:List Value}{y:DataW H×List MemPlace}(h:DataW.trod enc Tryz.prog W 0 (fun _=>true) true fuel 23 cs=some y) :
  ∃ a cap L,cs=[.slice a (List.length L) cap]/\L.length<=cap/\Sl W a cap L/\(∀ x,x∈L->W8 x):=by
 rcases open_ints Tryz.underlying23 Tryz.underlying5 (by kernel_rfl) h with⟨rfl,rfl⟩ | ⟨x,l,c,zs,rfl,_,hl,hm,hz,rfl,hcell,hwz⟩
 ·exact⟨none,0,[],rfl,by simp,.inl ⟨rfl,rfl,rfl⟩,by simp⟩
 ·have hz':zs.length=c:=by simpa using hz
  have hlen:(zs.take l).length=l:=by rw[List.length_take]; omega
  refine⟨some x,c,zs.take l,by rw[hlen],by omega,.inr ⟨x,rfl,fun k hk=>?_⟩,fun y hy=>lF (hwz y (List.mem_of_mem_take hy))⟩;obtain⟨b,off,rfl,hc⟩:=ints_at hcell (by omega);refine⟨b,off,rfl,?_⟩;rw[hc k (by omega),List.getD_eq_getElem?_getD,List.getD_eq_getElem?_getD,List.getElem?_take,if_pos (by omega)]
theorem lD {H:Type}{enc:TypeId×Value->H}{W:World}{fuel:Nat}{cs:List Value}{y:DataW H×List MemPlace}(h:DataW.trod enc Tryz.prog W 0 (fun _=>true) true fuel 32 cs=some y) :
  ∃ a cap E,cs=[.slice a (List.length E) cap]/\E.length<=9223372036854775807/\PE W a E:=by
 rcases open_slice1 Tryz.underlying32 (by kernel_rfl) h with⟨rfl,rfl⟩ | ⟨a,len,cap,m,n,V,D,Pl,rfl,_,hl,hm,hmm,rfl,hV⟩
 ·exact⟨none,0,[],rfl,by simp,Cs.nil _ _,(fun e he=>by cases he),(fun e he=>by cases he),fun e he=>by cases he⟩
 ·have hm':m=cap:=by simpa using hmm
  obtain⟨E,hE,hq⟩:=bQ (Q:=fun i (e:Bs)=>∃ b off,a=⟨b,off,none⟩/\b<W.heap.size/\W.cell? ⟨b,off+i,none⟩=some (.slice e.1 e.2.2.length e.2.1)/\Sl W e.1 e.2.1 e.2.2/\e.2.2.length<=e.2.1/\∀ y,y∈e.2.2->W8 y) len (by
   intro i hi;obtain⟨hc,ht⟩:=hV i (by omega);obtain⟨a',c',L,e,h1,h2,h3⟩:=Ir ht;have hVi:V i=.slice a' L.length c':=(by simpa using e);obtain⟨b,off,spot⟩:=a;have hspot:spot=none:=by
    obtain⟨hc0,ht0⟩:=hV 0 (by omega);have h0:W.cell? ⟨b,off,spot⟩=some (V 0):=(by simpa [Addr.add] using hc0);simpa using World.cell?_spot (v:=V 0) h0
   subst hspot;rw[hVi,Addr.add_mid] at hc;exact⟨(a',c',L),b,off,rfl,World.block_lt_of_cell? W _ hc,hc,h2,h1,h3⟩)
  have hm2:∀ e,e∈E->Sl W e.1 e.2.1 e.2.2/\e.2.2.length<=e.2.1/\∀ y,y∈e.2.2->W8 y:=fun e he=>by
   obtain⟨i,hi⟩:=List.getElem?_of_mem he;obtain⟨b,off,-,-,-,h3⟩:=hq i e hi;exact h3
  refine⟨some a,cap,E,by rw[hE],by unfold maxLen at hm; omega,fun j v hj=>?_,fun e he=>(hm2 e he).1,fun e he=>(hm2 e he).2.1,fun e he=>(hm2 e he).2.2⟩;unfold RJ at hj;rw[List.getElem?_map] at hj;cases hj2:E[j]? with
  | none=>rw[hj2] at hj; cases hj
  | some e=>
   rw[hj2] at hj;obtain⟨b,off,rfl,hb,hc,-⟩:=hq j e hj2;simp only[Option.map_some,Option.some.injEq] at hj;exact⟨b,off,rfl,hb,by rw[<- hj]; exact hc⟩
end Go.Proofs.YtnhlpahoomcgnaaGreat.Lg
