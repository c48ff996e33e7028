/-
  Texts joined.
-/
import Derived.Test.YtnhlpahoomcgnaaGreatJ8
set_option maxRecDepth 100000
set_option maxHeartbeats 8000000
set_option linter.unusedSimpArgs false
set_option linter.unusedVariables false
namespace Go.Proofs.YtnhlpahoomcgnaaGreat
attribute [local irreducible] wpList wpQuiet
open Go.RowKit
theorem But.more {g:Nat}{a b c:World}(h:But g a b)(hb:Below a.heap.size b c)(hg:g<=a.heap.size):But g a c:=⟨h.1.trans (hb.mono hg),fun k hk hn=>(hb.block k hk).trans (h.2 k hk hn)⟩
theorem Ro (x:Tf)(V:World):(Instr.buildSlice 65 1 #[(0,.agg (Yx x))]).run Tryz.prog V=.ok (.slice (some ⟨V.heap.size,0,none⟩) 1 1) (V.alloc (.cells (Yx x) 64)):=by
 obtain⟨i0,hi,hz0,hz1,hz2⟩:=info_parts aA;refine run_buildSlice V 65 64 1 _ (Yx x) i0 _ Tryz.underlying65 hi hz0 (by rw[hz1]; omega) (by rw[hz1]; omega) ?_;rw[hz1];kernel_rfl
def Yj (w:World)(B:Nat)(v:Value)(A:List Tf):Prop:=w.ownsRow B 64 2 v A.length (Rq A)
theorem Yj.nil (w:World)(B:Nat):Yj w B (.slice none 0 0) []:=World.ownsRow_nil _ _ _ _
theorem Yj.below {w w':World}{B:Nat}{v:Value}{A:List Tf}(h:Yj w B v A)(hb:Below w.heap.size w w'):Yj w' B v A:=own_below h hb
theorem Yj.base {w:World}{B B':Nat}{v:Value}{A:List Tf}(h:Yj w B' v A)(hB:B<=B'):Yj w B v A:=own_base h hB
theorem Yj.but {w w':World}{B g:Nat}{v:Value}{A:List Tf}(h:Yj w B v A)(hb:But g w w')(hg:g<B):Yj w' B v A:=Zt h hb hg
theorem Yj.cs {w:World}{B:Nat}{v:Value}{A:List Tf}(h:Yj w B v A):∃ a c,v=.slice a A.length c/\Cs w a (Rq A)/\A.length<=c:=Yq h
theorem MG {w:World}{B:Nat}{v:Value}{A:List Tf}(h:Yj w B v A)(hB:B<=w.heap.size)(x:Tf)(hl:A.length<=100000) :
  ∃ a c V2,(Builtin.append_ #[65,65] 65 #[v,.slice (some ⟨w.heap.size,0,none⟩) 1 1]).run Tryz.prog (w.alloc (.cells (Yx x) 64))=.ok (.slice a (A++[x]).length c) V2/\Yj V2 B (.slice a (A++[x]).length c) (A++[x])/\Below B w V2:=by
 have hb:Below w.heap.size w (w.alloc (.cells (Yx x) 64)):=(Below.refl _ w).alloc (Nat.le_refl _) _;have hO:=own_below h hb;have hc:Cs (w.alloc (.cells (Yx x) 64)) (some ⟨w.heap.size,0,none⟩) (uH x):=Cs.block (t:=64) (fr:=(0,0)) (heap_alloc_last w _);obtain⟨v2,V2,hr,hO2,hb2,-⟩:=Og (P:=Tryz.prog) (t:=65) (m:=1) Tryz.underlying65 aA (by kernel_rfl) (by omega) (by omega) hO (some ⟨w.heap.size,0,none⟩) 1 (uH x) hc rfl (fun u hu=>by
  simp only[uH,List.mem_cons,List.not_mem_nil,or_false] at hu;rcases hu with rfl | rfl <;> rfl) (by simp; omega) hl (by omega)
 have e:Rq (A++[x])=Rq A++uH x:=by rw[jg]; simp[Rq]
 have hO3:Yj V2 B v2 (A++[x]):=by unfold Yj; rw[e,List.length_append]; exact hO2
 obtain⟨a,c,rfl,-,-⟩:=hO3.cs;exact⟨a,c,V2,hr,hO3,(hb.mono hB).trans hb2⟩
theorem yM (k:Int)(l:List Ze):(Xz k l).2.length<=l.length:=by
 cases l with
 | nil=>exact Nat.le_refl _
 | cons f r=>
  by_cases h:f.num=k/\f.kind=2/\f.bytes.length≠0
  ·rw[OU h]; simp
  ·rw[QH h]; exact Nat.le_refl _
theorem G8 (k:Int)(l:List Ze):(XV k l).2.length<=l.length:=by
 cases l with
 | nil=>exact Nat.le_refl _
 | cons f r=>
  by_cases h:f.num=k/\f.kind=0/\f.val≠0
  ·rw[QW h]; simp
  ·rw[RU h]; exact Nat.le_refl _
def Ja (L:List Int):Option Y8:=if (YN L).2.2≠0 then none else yN (YN L).1
def RdO (w:World)(r:Option Y8)(e:Ending)(w':World):Prop:=∃ t ok a c,e=.returned (.tuple #[.agg (Zx t a c),.bool ok])/\r=(if ok=true then some t else none)/\Yj w' w.heap.size (.slice a t.tr.length c) t.tr/\Below w.heap.size w w'
def Bq (P:List Ze)(j:Nat)(A:List Tf):Prop:=Qm P=(Qm (P.drop j)).map (A++·)
theorem Bq.zero (P:List Ze):Bq P 0 []:=by
 unfold Bq;rw[List.drop_zero];cases Qm P <;> simp
theorem Bq.step {P:List Ze}{j:Nat}{A:List Tf}(h:Bq P j A)(hj:j<P.length){x:Tf}(hx:RS P[j]=some x):Bq P (j+1) (A++[x]):=by
 unfold Bq at *
 rw[h,List.drop_eq_getElem_cons hj,Qm,hx];cases Qm (P.drop (j+1)) <;> simp
theorem Bq.fail {P:List Ze}{j:Nat}{A:List Tf}(h:Bq P j A)(hj:j<P.length)(hx:RS P[j]=none):Qm P=none:=by
 unfold Bq at *
 rw[h,List.drop_eq_getElem_cons hj,Qm,hx];rfl
theorem Bq.done {P:List Ze}{j:Nat}{A:List Tf}(h:Bq P j A)(hj:P.length<=j):Qm P=some A:=by
 unfold Bq at *
 rw[h,List.drop_eq_nil_of_le hj,Qm];simp
theorem Zg {w:World}{g:Nat}{x y:Y8}{a a':Option Addr}{c c':Nat}(h:Bx w g (Zx x a c) 67):(Instr.storeAt 67 (Z5 g 0) (.agg (Zx y a' c'))).run Tryz.prog w=.ok () (w.setRow g (Zx y a' c'))/\Bx (w.setRow g (Zx y a' c')) g (Zx y a' c') 67:=
 ⟨Ya h rfl (by simp[Value.oneCell']) (by kernel_rfl),h.set⟩
theorem WQ {w:World}{B g:Nat}{v:Value}{A:List Tf}(h:Yj w B v A)(cs:Array Value)(hg:g<B):Yj (w.setRow g cs) B v A:=h.but (But.setRow w cs) hg
theorem ag3 (a:Option Addr)(c:Nat)(L:List Int)(w:World)(hs:Sl w a c L)(hc:L.length<=c)(hl:L.length<=100000)(h8:∀ y,y∈L->W8 y) :
  Calls Tryz.prog 95 #[.slice a L.length c] w (RdO w (Ja L)):=by
 have hb0:Below w.heap.size w (w.alloc (.cells (Zx zX none 0) 67)):=(Below.refl _ w).alloc (Nat.le_refl _) _;have hX0:Bx (w.alloc (.cells (Zx zX none 0) 67)) w.heap.size (Zx zX none 0) 67:=heap_alloc_last w _;have CF:=NI a c L (w.alloc (.cells (Zx zX none 0) 67)) (by omega) (ZK hs hb0) h8 hc;have BD:Hid ((YN L).2.2=0->(∀ f,f∈(YN L).1->Vf f)/\2*(YN L).1.length<=100000):=Z9 fun h=>by
  rcases TU (fun y hy=>h8 y hy) (by omega) with⟨-,q⟩ | ⟨P,e,hm,hP⟩
  ·exact absurd h q
  ·rw[e]; exact⟨hP,by have:=BA P; rw[hm] at this; simp only; omega⟩
 have HR1:Hid ((YN L).2.2≠0->Ja L=none):=Z9 fun h=>by unfold Ja; rw[if_pos h]
 have HR2:Hid ((YN L).2.2=0->Ja L=yN (YN L).1):=Z9 fun h=>by unfold Ja; rw[if_neg (by rw[h]; decide)]
 have FV:Hid (∀ V,Below w.heap.size w V->Ja L=none->RdO w (Ja L) (.returned (.tuple #[.agg (Zx zX none 0),ZY])) V):=Z9 fun V hb e=>⟨zX,false,none,0,rfl,by rw[e]; rfl,Yj.nil _ _,hb⟩;have qp:Hid (∀ V t a2 c2,Below w.heap.size w V->Ja L=some t->Yj V w.heap.size (.slice a2 t.tr.length c2) t.tr->RdO w (Ja L) (.returned (.tuple #[.agg (Zx t a2 c2),ZW])) V):=Z9 fun V t a2 c2 hb e hr=>⟨t,true,a2,c2,rfl,by rw[e]; rfl,hr,hb⟩;generalize Ja L=RR at *
 generalize YN L=FR at *
 go_enter Tryz.func95,Tryz.ntmps95;go_upto_region 1 with fail;change Code.wp _ _ _ _ (w.alloc (.cells (Zx zX none 0) 67));generalize w.alloc (.cells (Zx zX none 0) 67)=W at *
 obtain⟨g2,hg2⟩:=ZR w.heap.size;have HB0:=Z9 hb0;have HG2:Hid (w.heap.size<=g2):=Z9 (by omega);rw[hg2] at hX0;rw[hg2];have Xn:Hid (g2<W.heap.size):=Z9 hX0.lt;clear hb0 hg2 hs;refine wl<|ZV (.slice a L.length c) <|
  Yi (fun v w'=>∃ a c ps,v=.tuple #[.slice a ps.length c,Z8 FR.2.1,Z8 FR.2.2]/\ps.map Prod.fst=FR.1/\ps.length<=c/\Ov w' W.heap.size a ps/\UH w' W.heap.size (.slice a ps.length c) ps/\Below W.heap.size W w') (CF.mono fun e w' q=>by obtain⟨v,ps,h1,h2,h3,h4⟩:=q; obtain⟨a,c,rfl,hc,hf⟩:=h3.fsb; exact⟨_,h1,a,c,ps,rfl,h2,hc,hf,h3,h4⟩) (fun v5 V5 hq=>?_)
 obtain⟨a5,c5,ps,rfl,hps,hc5,aB,hR5,hb5⟩:=hq;refine YW (.tuple #[.slice a5 ps.length c5,Z8 FR.2.1,Z8 FR.2.2]) (.slice a5 ps.length c5) (Z8 FR.2.1) (Z8 FR.2.2) (.slice a5 ps.length c5) (Z8 FR.2.1)<|ZV (Z8 FR.2.2)<|wn ?_;simp only[pu];have Nk:=hX0.below hX0.lt hb5;have JG:=Z9 (HB0.out.trans (hb5.mono HB0.out.size));have HW5:Hid (W.heap.size<=V5.heap.size):=Z9 hb5.size;obtain⟨P,n5,e5⟩:=FR;dsimp only at *
 clear hb5 hX0 HB0 CF hR5;go_upto_region 2 with fail;by_cases he:e5=0
 ·have hvf:=(BD.out he).1;have hlen:=(BD.out he).2;have HRR:=Z9 (HR2.out he);rw[<- hps] at hvf hlen HRR;have FY:Hid (2*ps.length<=100000):=Z9 (by rw[List.length_map] at hlen; exact hlen);clear BD hps hlen HR1 HR2;refine wl<|ZV (Z8 e5)<|ZJ (YX rfl e5 0 (decide_eq_true he))<|wn ?_;simp only[pu];unfold yN at HRR;have HW:=HW5;have CT:=PX a5 c5 ps W.heap.size 1 V5 aB hc5 hvf;have hv2:=RQ (k:=1) hvf;have htl:=yM 1 (ps.map Prod.fst);generalize Xz 1 (ps.map Prod.fst)=TT at *
  obtain⟨s1,R1⟩:=TT;dsimp only at *
  clear hvf;go_upto_region 4 with fail;refine wl<|ZV (.slice a5 ps.length c5) <|
   Yi (fun v w'=>∃ a c qs,v=.tuple #[.string s1,.slice a qs.length c]/\Ov w' W.heap.size a qs/\qs.length<=c/\qs.map Prod.fst=R1/\Below V5.heap.size V5 w') (CT.mono fun e w' q=>by obtain⟨a,c,qs,h1,h2⟩:=q; exact⟨_,h1,a,c,qs,rfl,h2⟩) (fun v6 U0 hq=>?_)
  obtain⟨aq0,cq0,q0,rfl,EH,hcq0,hq1,hb6⟩:=hq;have Jz:=Nk.below Nk.lt hb6;have Yd:=Z9 (JG.out.trans (hb6.mono JG.out.size));obtain⟨W0,Xx,ag6,P5,XH⟩:=Zn (i:=0) (ty:=9) (v:=.string s1) (cs':=Zx (⟨s1,0,0,0,WE,[]⟩:Y8) none 0) Jz Yd.out HG2.out (by show 0<6; decide) rfl (by kernel_rfl) rfl;have ax2:=EH.but XH Xn.out;have ag7:=Z9 P5;have aI4:Hid (W.heap.size<=W0.heap.size):=Z9 (Nat.le_trans (Nat.le_trans HW.out hb6.size) XH.1.size);refine WL (.tuple #[.string s1,.slice aq0 q0.length cq0]) (.string s1) (.slice aq0 q0.length cq0) (Z5 g2 0)<|Zu rfl (Xx)<|ZV (.slice aq0 q0.length cq0)<|wn ?_;simp only[pu];rw[<- hq1] at hv2 HRR;have hvf:=hv2;rw[<- hq1,List.length_map,List.length_map] at htl;have OT:Hid (2*q0.length<=100000):=Z9 (by have:=FY.out; omega);clear FY htl;have FY:=OT;clear OT;clear CT hv2 Xx hb6 Jz Yd P5 XH EH hq1 Nk JG aB hc5 HW;have HW:=aI4;have CT:=UG aq0 cq0 q0 W.heap.size 2 W0 ax2 hcq0 hvf;have hv2:=QG (k:=2) hvf;have htl:=G8 2 (q0.map Prod.fst);generalize XV 2 (q0.map Prod.fst)=TT at *
  obtain⟨m2,R1⟩:=TT;dsimp only at *
  clear hvf;go_upto_region 5 with fail;refine wl<|ZV (.slice aq0 q0.length cq0) <|
   Yi (fun v w'=>∃ a c qs,v=.tuple #[Z4 m2,.slice a qs.length c]/\Ov w' W.heap.size a qs/\qs.length<=c/\qs.map Prod.fst=R1/\Below W0.heap.size W0 w') (CT.mono fun e w' q=>by obtain⟨a,c,qs,h1,h2⟩:=q; exact⟨_,h1,a,c,qs,rfl,h2⟩) (fun v6 U1 hq=>?_)
  obtain⟨aq1,cq1,q1,rfl,EH,hcq1,hq1,hb6⟩:=hq;have Jz:=ag6.below ag6.lt hb6;have Yd:=Z9 (ag7.out.trans (hb6.mono ag7.out.size));obtain⟨W1,Xx,ag8,P5,XH⟩:=Zn (i:=1) (ty:=27) (v:=Z4 m2) (cs':=Zx (⟨s1,m2,0,0,WE,[]⟩:Y8) none 0) Jz Yd.out HG2.out (by show 1<6; decide) rfl (by kernel_rfl) rfl;have ax3:=EH.but XH Xn.out;have ag9:=Z9 P5;have aI5:Hid (W.heap.size<=W1.heap.size):=Z9 (Nat.le_trans (Nat.le_trans HW.out hb6.size) XH.1.size);refine WL (.tuple #[Z4 m2,.slice aq1 q1.length cq1]) (Z4 m2) (.slice aq1 q1.length cq1) (Z5 g2 1)<|Zu rfl (Xx)<|ZV (.slice aq1 q1.length cq1)<|wn ?_;simp only[pu];rw[<- hq1] at hv2 HRR;have hvf:=hv2;rw[<- hq1,List.length_map,List.length_map] at htl;have OT:Hid (2*q1.length<=100000):=Z9 (by have:=FY.out; omega);clear FY htl;have FY:=OT;clear OT;clear CT hv2 Xx hb6 Jz Yd P5 XH EH hq1 ag6 ag7 ax2 hcq0 HW;have HW:=aI5;have CT:=UG aq1 cq1 q1 W.heap.size 3 W1 ax3 hcq1 hvf;have hv2:=QG (k:=3) hvf;have htl:=G8 3 (q1.map Prod.fst);generalize XV 3 (q1.map Prod.fst)=TT at *
  obtain⟨m3,R1⟩:=TT;dsimp only at *
  clear hvf;go_upto_region 6 with fail;refine wl<|ZV (.slice aq1 q1.length cq1) <|
   Yi (fun v w'=>∃ a c qs,v=.tuple #[Z4 m3,.slice a qs.length c]/\Ov w' W.heap.size a qs/\qs.length<=c/\qs.map Prod.fst=R1/\Below W1.heap.size W1 w') (CT.mono fun e w' q=>by obtain⟨a,c,qs,h1,h2⟩:=q; exact⟨_,h1,a,c,qs,rfl,h2⟩) (fun v6 U2 hq=>?_)
  obtain⟨aq2,cq2,q2,rfl,EH,ax4,hq1,hb6⟩:=hq;have Jz:=ag8.below ag8.lt hb6;have Yd:=Z9 (ag9.out.trans (hb6.mono ag9.out.size));obtain⟨W2,Xx,ah0,P5,XH⟩:=Zn (i:=2) (ty:=27) (v:=Z4 m3) (cs':=Zx (⟨s1,m2,m3,0,WE,[]⟩:Y8) none 0) Jz Yd.out HG2.out (by show 2<6; decide) rfl (by kernel_rfl) rfl;have ax5:=EH.but XH Xn.out;have ah1:=Z9 P5;have aI6:Hid (W.heap.size<=W2.heap.size):=Z9 (Nat.le_trans (Nat.le_trans HW.out hb6.size) XH.1.size);refine WL (.tuple #[Z4 m3,.slice aq2 q2.length cq2]) (Z4 m3) (.slice aq2 q2.length cq2) (Z5 g2 2)<|Zu rfl (Xx)<|ZV (.slice aq2 q2.length cq2)<|wn ?_;simp only[pu];rw[<- hq1] at hv2 HRR;have hvf:=hv2;rw[<- hq1,List.length_map,List.length_map] at htl;have OT:Hid (2*q2.length<=100000):=Z9 (by have:=FY.out; omega);clear FY htl;have FY:=OT;clear OT;clear CT hv2 Xx hb6 Jz Yd P5 XH EH hq1 ag8 ag9 ax3 hcq1 HW;have HW:=aI6;have CT:=UG aq2 cq2 q2 W.heap.size 4 W2 ax5 ax4 hvf;have hv2:=QG (k:=4) hvf;have htl:=G8 4 (q2.map Prod.fst);generalize XV 4 (q2.map Prod.fst)=TT at *
  obtain⟨m4,R1⟩:=TT;dsimp only at *
  clear hvf;go_upto_region 7 with fail;refine wl<|ZV (.slice aq2 q2.length cq2) <|
   Yi (fun v w'=>∃ a c qs,v=.tuple #[Z4 m4,.slice a qs.length c]/\Ov w' W.heap.size a qs/\qs.length<=c/\qs.map Prod.fst=R1/\Below W2.heap.size W2 w') (CT.mono fun e w' q=>by obtain⟨a,c,qs,h1,h2⟩:=q; exact⟨_,h1,a,c,qs,rfl,h2⟩) (fun v6 U3 hq=>?_)
  obtain⟨aq3,cq3,q3,rfl,EH,ax6,hq1,hb6⟩:=hq;have Jz:=ah0.below ah0.lt hb6;have Yd:=Z9 (ah1.out.trans (hb6.mono ah1.out.size));obtain⟨W3,Xx,ah2,P5,XH⟩:=Zn (i:=3) (ty:=27) (v:=Z4 m4) (cs':=Zx (⟨s1,m2,m3,m4,WE,[]⟩:Y8) none 0) Jz Yd.out HG2.out (by show 3<6; decide) rfl (by kernel_rfl) rfl;have ax7:=EH.but XH Xn.out;have ah3:=Z9 P5;have aI7:Hid (W.heap.size<=W3.heap.size):=Z9 (Nat.le_trans (Nat.le_trans HW.out hb6.size) XH.1.size);refine WL (.tuple #[Z4 m4,.slice aq3 q3.length cq3]) (Z4 m4) (.slice aq3 q3.length cq3) (Z5 g2 3)<|Zu rfl (Xx)<|ZV (.slice aq3 q3.length cq3)<|wn ?_;simp only[pu];rw[<- hq1] at hv2 HRR;have hvf:=hv2;rw[<- hq1,List.length_map,List.length_map] at htl;have OT:Hid (2*q3.length<=100000):=Z9 (by have:=FY.out; omega);clear FY htl;have FY:=OT;clear OT;clear CT hv2 Xx hb6 Jz Yd P5 XH EH hq1 ah0 ah1 ax5 ax4 HW;have HW:=aI7;have CT:=PX aq3 cq3 q3 W.heap.size 5 W3 ax7 ax6 hvf;have hv2:=RQ (k:=5) hvf;have htl:=yM 5 (q3.map Prod.fst);generalize Xz 5 (q3.map Prod.fst)=TT at *
  obtain⟨s5,R1⟩:=TT;dsimp only at *
  clear hvf;go_upto_region 8 with fail;refine wl<|ZV (.slice aq3 q3.length cq3) <|
   Yi (fun v w'=>∃ a c qs,v=.tuple #[.string s5,.slice a qs.length c]/\Ov w' W.heap.size a qs/\qs.length<=c/\qs.map Prod.fst=R1/\Below W3.heap.size W3 w') (CT.mono fun e w' q=>by obtain⟨a,c,qs,h1,h2⟩:=q; exact⟨_,h1,a,c,qs,rfl,h2⟩) (fun v6 U4 hq=>?_)
  obtain⟨aq4,cq4,q4,rfl,EH,ah4,hq1,hb6⟩:=hq;have Jz:=ah2.below ah2.lt hb6;have Yd:=Z9 (ah3.out.trans (hb6.mono ah3.out.size));obtain⟨W4,Xx,ah5,P5,XH⟩:=Zn (i:=4) (ty:=9) (v:=.string s5) (cs':=Zx (⟨s1,m2,m3,m4,s5,[]⟩:Y8) none 0) Jz Yd.out HG2.out (by show 4<6; decide) rfl (by kernel_rfl) rfl;have ah6:=EH.but XH Xn.out;have ax8:=Z9 P5;have aI8:Hid (W.heap.size<=W4.heap.size):=Z9 (Nat.le_trans (Nat.le_trans HW.out hb6.size) XH.1.size);refine WL (.tuple #[.string s5,.slice aq4 q4.length cq4]) (.string s5) (.slice aq4 q4.length cq4) (Z5 g2 4)<|Zu rfl (Xx)<|ZV (.slice aq4 q4.length cq4)<|wn ?_;simp only[pu];rw[<- hq1] at hv2 HRR;have hvf:=hv2;rw[<- hq1,List.length_map,List.length_map] at htl;have OT:Hid (2*q4.length<=100000):=Z9 (by have:=FY.out; omega);clear FY htl;have FY:=OT;clear OT;clear CT hv2 Xx hb6 Jz Yd P5 XH EH hq1 ah2 ah3 ax7 ax6 HW;have HW:=aI8;go_upto_region 9 with fail;refine wl<|Yr (.slice aq4 q4.length cq4) (Z8 q4.length) (Z8 0)<|wn ?_;simp only[pu];obtain⟨n,hn⟩:=ZR q4.length;have HN:=Z9 hn;have HF:=Z9 ah6;have HCQ:=Z9 ah4;have HVF:=Z9 hvf;have ax9:=Z9 (Bq.zero (q4.map Prod.fst));have YV:=Z9 ah5;have U5:Hid (n<=100000):=Z9 (by have:=FY.out; omega);have HBC:=Z9 ah6.cap;have wK:Hid (g2<W4.heap.size):=Z9 ah5.lt;rw[hn] at ah4 ⊢;clear ah6 ah4 hvf ah5 hn HW;go_wp2_with fail;go_loopg [52] n (fun gg s52 wx=>∃ (j:Nat) (A:List Tf) (a6:Option Addr) (c6:Nat),s52=Z8 j/\j<=n/\Hid (A.length=j)/\Hid (Bx wx g2 (Zx ⟨s1,m2,m3,m4,s5,A⟩ a6 c6) 67)/\Hid (Yj wx W4.heap.size (.slice a6 A.length c6) A)/\Hid (Bq (q4.map Prod.fst) j A)/\Hid (But g2 W4 wx)/\n-j=gg)
  case atStart=>exact⟨0,[],none,0,rfl,by omega,Z9 rfl,YV,Z9 (Yj.nil _ _),ax9,Z9 (But.refl _ _),by omega⟩
  case round=>
   obtain⟨j,A,a6,c6,rfl,hj,CZ,BP,I5,ay,Pz,hg⟩:=hrel;clear YV ax9;by_cases hlt:j<n
   ·have HG:Hid (n-(j+1)=gk-1/\0<gk/\j+1<=n/\j+1<=100000):=Z9 ⟨by omega,by omega,by omega,by have:=U5.out; omega⟩;have hjq:j<q4.length:=(by rw[HN.out]; exact hlt);have hFr:=HF.out.but Pz.out Xn.out;obtain⟨b,off,ba,bc,rfl,hp2,hsl,hbox⟩:=hFr.fs j q4[j] (List.getElem?_eq_getElem hjq);have JH:=HVF.out q4[j].1 (by exact List.mem_map_of_mem (List.getElem_mem hjq));have hjm:j<(q4.map Prod.fst).length:=(by rw[List.length_map]; exact hjq);have hgx:(q4.map Prod.fst)[j]=q4[j].1:=List.getElem_map ..;have HST:=Z9 (fun x (hx:RS q4[j].1=some x)=>ay.out.step hjm (by rw[hgx]; exact hx));have kW:=Z9 (fun(hx:RS q4[j].1=none)=>ay.out.fail hjm (by rw[hgx]; exact hx));have hba:q4[j].1.bytes.length<=bc:=HBC.out q4[j] (List.getElem_mem hjq) ba q4[j].1.bytes.length bc hp2;generalize q4[j].1=x at *
    have hld:=RV (S9 hbox);obtain⟨V6,hst,hb6,hbx⟩:=Hf wr x ba bc;have CR:=KN x ba bc V6 (ZK hsl hb6) hba JH.2.2.2 JH.2.2.1 (by rcases JH.1.2.2 with q | q; exact .inl q.1; exact .inr q.1);have Yd:=Z9 hb6;clear hFr hp2 hsl hbox JH hjm hgx hba ay hb6 hg hjq;generalize RS x=rx at *
    go_upto_region 10 with fail;refine wl<|ZJ (Zv rfl (j) (n) dT)<|wn ?_;simp only[pu];go_upto_region 11 with fail;refine wl<|YG (Z5 b (off+j*4)) (Xr b off n cq4 j hlt _ _ _ rfl (by kernel_rfl) (by kernel_rfl))<|ZL rfl ⟨b,off+j*4,none⟩ (.agg (Xd x ba bc)) (hld) ?_;refine Zy rfl (some 8) rfl (Z5 wr.heap.size 0) (wr.alloc (.cells (Xd VJ none 0) 111)) (by kernel_rfl) ?_;refine Zu rfl (hst)<|wn ?_;obtain⟨g8,Nh⟩:=ZR wr.heap.size;rw[Nh] at hbx ⊢;clear hst Nh hld;go_upto_region 12 with fail;refine wl<|ZL rfl ⟨g8,0,none⟩ (.agg (Xd x ba bc)) (OQ hbx) <|
     Yi (fun v w'=>∃ y ok,v=.tuple #[.agg (Yx y),.bool ok]/\rx=(if ok=true then some y else none)/\Below V6.heap.size V6 w') (CR.mono fun e w' q=>by obtain⟨y,ok,h1,h2⟩:=q; exact⟨_,h1,y,ok,rfl,h2⟩) (fun v7 V7 hq=>?_)
    obtain⟨y,ok,rfl,hok,hb7⟩:=hq;obtain⟨V8,XK,hb8,Pg⟩:=TF V7 y;refine Yr (.tuple #[.agg (Yx y),.bool ok]) (.agg (Yx y)) (.bool ok) ?_;refine Zy rfl (some 9) rfl (Z5 V7.heap.size 0) (V7.alloc (.cells (Yx Uc) 64)) (by kernel_rfl) ?_;refine Zu rfl (XK)<|ZV (.bool ok)<|wn ?_;simp only[pu];obtain⟨g9,FH⟩:=ZR V7.heap.size;have KO:=(Yd.out.trans (hb7.mono Yd.out.size)).trans (hb8.mono (Nat.le_trans Yd.out.size hb7.size));have Wy:=BP.out.below BP.out.lt KO;have ay0:=Z9 (I5.out.below KO);have ES:=Z9 (Pz.out.more (KO.mono Pz.out.1.size) (Nat.le_of_lt wK.out));rw[FH] at Pg ⊢;clear XK FH hb7 hb8 KO hbx CR Yd BP I5 Pz;go_upto_region 13 with fail;cases ok
    ·refine wl<|ZA ZY ZW<|wn ?_;simp only[pu];have NJ:Hid (RR=none):=Z9 (by rw[HRR.out,kW.out hok]; rfl);have OX:=Z9 (ax8.out.trans (ES.out.1.mono (Nat.le_trans HG2.out (Nat.le_refl _))));obtain⟨hst,hZ⟩:=Zg (y:=zX) (a':=none) (c':=0) Wy;have Zl:=Z9 (ZQ OX.out HG2.out (Zx zX none 0));have HE:=Z9 (FV.out _ Zl.out (NJ.out));generalize World.setRow _ g2 (Zx zX none 0)=V9 at *
     clear FV qp HRR HST kW hok NJ;go_upto_region 14 with fail;refine wl<|ZV (.agg #[.string ⟨#[]⟩,Z4 0,Z4 0,Z4 0,.string ⟨#[]⟩,.slice none 0 0])<|Zu rfl (hst)<|ZV ZY<|wn ?_;simp only[pu];go_wp2_with fail;exact bodyPost_ret (ZO (p:=2) (q:=3) rfl (by kernel_rfl) (Zz hZ) rfl) rfl HE.out
    ·refine wl<|ZA ZW ZY<|wn ?_;simp only[pu];have aI9:=Z9 (HST.out y hok);obtain⟨a7,c7,V9,hap,Rx,Yb⟩:=MG ay0.out ES.out.1.size y (by have:=CZ.out; have:=HG.out; omega);have SY:Bx V9 g2 (Zx ⟨s1,m2,m3,m4,s5,A⟩ a6 c6) 67:=Wy.below wK.out Yb;obtain⟨V10,EM,qB,-,Q5⟩:=Zn (i:=5) (ty:=65) (v:=.slice a7 (A++[y]).length c7) (cs':=Zx ⟨s1,m2,m3,m4,s5,A++[y]⟩ a7 c7) (w0:=V9) (B:=g2) SY (Below.refl _ _) (Nat.le_refl _) (by show 5<6; decide) rfl (by kernel_rfl) rfl;have OO:=Z9 qB;have aJ0:=Z9 (Rx.but Q5 wK.out);have ay1:=Z9 ((ES.out.more Yb (Nat.le_of_lt wK.out)).trans Q5);have aJ1:Hid ((A++[y]).length=j+1):=Z9 (by rw[List.length_append,CZ.out]; rfl);clear HST kW hok ay0 ES Rx Yb SY qB Q5;go_upto_region 15 with fail;refine wl<|ZV (Z5 g2 5)<|ZL rfl ⟨g2,5,none⟩ (.slice a6 A.length c6) (Wy.ZP 5)<|ZL rfl ⟨g9,0,none⟩ (.agg (Yx y)) (Yu Pg) ?_;refine Zr (by kernel_rfl) (some 67) rfl 65 1 #[(0,.tmp 66)] rfl #[(0,.agg (Yx y))] (by kernel_rfl) (.slice (some ⟨V8.heap.size,0,none⟩) 1 1) _ (Ro y V8) ?_;refine Zh rfl (some 68) rfl 65 rfl (.tmp 65) (.tmp 67) 65 rfl (.slice a6 A.length c6) (.slice (some ⟨V8.heap.size,0,none⟩) 1 1) (.slice a7 (A++[y]).length c7) V9 (by kernel_rfl) (by kernel_rfl) hap ?_;refine ZV (Z5 g2 5)<|Zu rfl (EM)<|wn ?_;simp only[pu];clear hap EM Wy Pg;go_upto_region 16 with fail;refine wl<|YG (Z8 (j+1:Nat)) (add_one rfl j (by have:=HG.out; omega) (by kernel_rfl) _)<|ZV (Z8 (j+1:Nat))<|wn ?_;simp only[pu];go_wp2_with fail;go_roundg (gk-1)
     case measure=>have:=HG.out; omega
     case rel=>exact⟨j+1,A++[y],a7,c7,rfl,HG.out.2.2.1,aJ1,OO,aJ0,aI9,ay1,HG.out.1⟩
   ·have Jc:Hid (RR=some ⟨s1,m2,m3,m4,s5,A⟩):=Z9 (by rw[HRR.out,ay.out.done (by rw[List.length_map,HN.out]; omega)]; rfl);obtain⟨hst,hZ⟩:=Zg (y:=⟨s1,m2,m3,m4,s5,A⟩) (a':=a6) (c':=c6) BP.out;have YO:=Z9 (Zz BP.out);have OX:=Z9 (ax8.out.trans (Pz.out.1.mono HG2.out));have Zl:=Z9 (ZQ OX.out HG2.out (Zx ⟨s1,m2,m3,m4,s5,A⟩ a6 c6));have HRW:=Z9 ((WQ (g:=g2) I5.out (Zx ⟨s1,m2,m3,m4,s5,A⟩ a6 c6) wK.out).base (B:=w.heap.size) (Nat.le_trans HG2.out (Nat.le_of_lt wK.out)));have HE:=Z9 (qp.out _ _ a6 c6 Zl.out Jc.out HRW.out);generalize World.setRow _ g2 (Zx ⟨s1,m2,m3,m4,s5,A⟩ a6 c6)=V9 at *
    clear FV qp HRR ay Jc OX Zl HRW BP I5 Pz hg;go_upto_region 10 with fail;refine wl<|ZJ (Zv rfl (j) (n) dF)<|wn ?_;simp only[pu];go_upto_region 17 with fail;refine wl<|ZL rfl ⟨g2,0,none⟩ (.agg (Zx ⟨s1,m2,m3,m4,s5,A⟩ a6 c6)) (YO.out)<|Zu rfl (hst)<|ZV ZW<|wn ?_;simp only[pu];go_wp2_with fail;exact bodyPost_ret (ZO (p:=2) (q:=3) rfl (by kernel_rfl) (Zz hZ) rfl) rfl HE.out
 ·refine wl<|ZV (Z8 e5)<|ZJ (YX rfl e5 0 (decide_eq_false he))<|wn ?_;simp only[pu];obtain⟨hst,hZ⟩:=Zg (y:=zX) (a':=none) (c':=0) Nk;have Zl:=Z9 (ZQ JG.out HG2.out (Zx zX none 0));have HE:=Z9 (FV.out _ Zl.out (HR1.out he));generalize World.setRow _ g2 (Zx zX none 0)=V9 at *
  clear FV qp HR1 HR2 BD;go_upto_region 3 with fail;refine wl<|ZV (.agg #[.string ⟨#[]⟩,Z4 0,Z4 0,Z4 0,.string ⟨#[]⟩,.slice none 0 0])<|Zu rfl (hst)<|ZV ZY<|wn ?_;simp only[pu];go_wp2_with fail;exact bodyPost_ret (ZO (p:=2) (q:=3) rfl (by kernel_rfl) (Zz hZ) rfl) rfl HE.out
theorem KW (a1:Option Addr)(c1:Nat)(L:List Int)(a2:Option Addr)(c2:Nat)(M:List Int)(w:World)(h1:Sl w a1 c1 L)(h2:Sl w a2 c2 M)(hL:∀ x,x∈L->W8 x)(hM:∀ x,x∈M->W8 x) :
  Calls Tryz.prog 80 #[.slice a1 L.length c1,.slice a2 M.length c2] w fun e w'=>e=.returned (.bool (decide (L=M)))/\w=w':=by
 have HE:Hid ((strOfNums L == strOfNums M)=decide (L=M)):=Z9 (by rw[EL,QZ L hL,QZ M hM]);generalize decide (L=M)=tb at *
 go_enter Tryz.func80,Tryz.ntmps80;go_upto_region 1 with fail;refine wl<|ZV (.slice a1 L.length c1)<|YG (.string (strOfNums L)) (N8 rfl h1 (by kernel_rfl))<|ZV (.slice a2 M.length c2)<|YG (.string (strOfNums M)) (N8 rfl h2 (by kernel_rfl)) <|
  Yy (.bool tb) (TW rfl (strOfNums L) (strOfNums M) HE.out)<|ZV (.bool tb)<|wn ?_
 simp only[pu];go_wp2_with fail;go_ret;exact⟨rfl,rfl⟩
def Jt (P:List Ze)(j:Nat)(x:Tf):Prop:=Ve (WE,0) P=Ve x (P.drop j)
theorem Jt.zero (P:List Ze):Jt P 0 (WE,0):=by unfold Jt; rw[List.drop_zero]
theorem Jt.to {P:List Ze}{j:Nat}{x:Tf}(h:Jt P j x)(hj:j<P.length)(hc:P[j].num=1/\P[j].kind=2):Jt P (j+1) (strOfNums P[j].bytes,x.2):=by
 unfold Jt at *
 rw[h,List.drop_eq_getElem_cons hj,Ve,if_pos hc]
theorem Jt.am {P:List Ze}{j:Nat}{x:Tf}(h:Jt P j x)(hj:j<P.length)(hc:P[j].num=2/\P[j].kind=0):Jt P (j+1) (x.1,P[j].val):=by
 unfold Jt at *
 rw[h,List.drop_eq_getElem_cons hj,Ve,if_neg (by omega),if_pos hc]
theorem Jt.no {P:List Ze}{j:Nat}{x:Tf}(h:Jt P j x)(hj:j<P.length)(h1:¬ (P[j].num=1/\P[j].kind=2))(h2:¬ (P[j].num=2/\P[j].kind=0)):Ve (WE,0) P=none:=by
 unfold Jt at *
 rw[h,List.drop_eq_getElem_cons hj,Ve,if_neg h1,if_neg h2]
theorem Jt.done {P:List Ze}{j:Nat}{x:Tf}(h:Jt P j x)(hj:P.length<=j):Ve (WE,0) P=some x:=by
 unfold Jt at *
 rw[h,List.drop_eq_nil_of_le hj,Ve]
theorem EP {P:List Ze}{f:Ze}(h:f∈P):f.bytes.length<=(msg P).length:=by
 induction P with
 | nil=>cases h
 | cons x r ih=>
  rw[WU,List.length_append];rcases List.mem_cons.1 h with rfl | h
  ·have:=Vd f.num f.kind f.val f.bytes;have e:(encI f.num f.kind f.val f.bytes)=Ye f:=rfl;rw[e] at this;omega
  ·have:=ih h; omega
structure KR (W:World)(g2 g7:Nat)(x:Tf)(b6 b9 b10 b14:Bool)(x55 x58 x59:Value)(V:World):Prop where
 o9:b9=true->b6=true
 o10:b10=true->b9=true
 but:But g2 W V
 bx:Bx V g7 (Yx x) 64
 bz:b14=false->Bx V g2 (Yx Uc) 64
 bd:b14=true->Bx V g2 (Yx x) 64
 r55:b6=true->b9=false->∃ qs,X7 V W.heap.size x55 qs/\qs.map Prod.fst=tF 1 x.1
 r58:b9=true->b10=false->∃ qs,X7 V W.heap.size x58 qs/\qs.map Prod.fst=Ub x
 r59:b10=true->Own V W.heap.size x59 (msg (Ub x))
section
variable {W : World} {g2 g7 : Nat} {x : Tf} {b6 b9 b10 b14 : Bool} {x55 x58 x59 : Value} {V : World}
theorem KR.lt (h:KR W g2 g7 x b6 b9 b10 b14 x55 x58 x59 V):W.heap.size<=V.heap.size:=h.but.1.size
theorem KR.s6 (h:KR W g2 g7 x false b9 b10 b14 x55 x58 x59 V)(hg:g2<W.heap.size)(RF:g7<W.heap.size){v:Value}{V2:World}{qs:List (Ze×Value)}(hr:X7 V2 W.heap.size v qs)(hq:qs.map Prod.fst=tF 1 x.1)(hb:Below W.heap.size V V2):KR W g2 g7 x true b9 b10 b14 v x58 x59 V2:=by
 have h9:=ff h.o9 rfl;have h10:=ff h.o10 h9;subst h9 h10;exact⟨fun _=>rfl,h.o10,h.but.more hb (Nat.le_of_lt hg),h.bx.below RF hb,fun e=>(h.bz e).below hg hb,fun e=>(h.bd e).below hg hb,fun _ _=>⟨qs,hr,hq⟩,(fun e=>nomatch e),(fun e=>nomatch e)⟩
theorem KR.s9 (h:KR W g2 g7 x true false b10 b14 x55 x58 x59 V)(hg:g2<W.heap.size)(RF:g7<W.heap.size){v:Value}{V2:World}{qs:List (Ze×Value)}(hr:X7 V2 W.heap.size v qs)(hq:qs.map Prod.fst=Ub x)(hb:Below W.heap.size V V2):KR W g2 g7 x true true b10 b14 x55 v x59 V2:=by
 have h10:=ff h.o10 rfl;subst h10;exact⟨fun _=>rfl,fun _=>rfl,h.but.more hb (Nat.le_of_lt hg),h.bx.below RF hb,fun e=>(h.bz e).below hg hb,fun e=>(h.bd e).below hg hb,(fun _ e=>nomatch e),fun _ _=>⟨qs,hr,hq⟩,(fun e=>nomatch e)⟩
theorem KR.s10 (h:KR W g2 g7 x b6 true false b14 x55 x58 x59 V)(hg:g2<W.heap.size)(RF:g7<W.heap.size){v:Value}{V2:World}(hr:Own V2 W.heap.size v (msg (Ub x)))(hb:Below V.heap.size V V2):KR W g2 g7 x b6 true true b14 x55 x58 v V2:=by
 have hb':=hb.mono h.lt;exact⟨h.o9,fun _=>rfl,h.but.more hb' (Nat.le_of_lt hg),h.bx.below RF hb',fun e=>(h.bz e).below hg hb',fun e=>(h.bd e).below hg hb',(fun _ e=>nomatch e),(fun _ e=>nomatch e),fun _=>hr⟩
theorem KR.s14 (h:KR W g2 g7 x b6 b9 b10 false x55 x58 x59 V)(hg:g2<W.heap.size)(hne:g7≠g2):(Instr.storeAt 64 (Z5 g2 0) (.agg (Yx x))).run Tryz.prog V=.ok () (V.setRow g2 (Yx x))/\KR W g2 g7 x b6 b9 b10 true x55 x58 x59 (V.setRow g2 (Yx x)):=by
 obtain⟨hst,hZ⟩:=VT (y:=x) (h.bz rfl);have hbt:But g2 V (V.setRow g2 (Yx x)):=But.setRow V _;exact⟨hst,h.o9,h.o10,h.but.trans hbt,h.bx.but hbt hne,(fun e=>nomatch e),fun _=>hZ,fun e1 e2=>by obtain⟨qs,q1,q2⟩:=h.r55 e1 e2; exact⟨qs,q1.but hbt hg,q2⟩,fun e1 e2=>by obtain⟨qs,q1,q2⟩:=h.r58 e1 e2; exact⟨qs,q1.but hbt hg,q2⟩,fun e1=>Zt (h.r59 e1) hbt hg⟩
end
theorem aC {w:World}{a:Option Addr}{c:Nat}{L:List Int}(h:Sl w a c L)(hne:L≠[])(x:Addr)(hx:a=some x):x.block<w.heap.size:=by
 obtain⟨b,off,e,hb,-⟩:=EK h (k:=0) (List.length_pos_iff.2 hne);rw[hx] at e;cases e;exact hb
theorem wL {b:List Int}(h:Ve (WE,0) (YN b).1=none):EN b=none:=by unfold EN; rw[h]
theorem qA {b:List Int}{x:Tf}(h:Ve (WE,0) (YN b).1=some x):EN b=if (YN b).2.2=0/\msg (Ub x)=b then some x else none:=by unfold EN; rw[h]
theorem He (a:Option Addr)(c:Nat)(L:List Int)(w:World)(hs:Sl w a c L)(hc:L.length<=c)(hl:L.length<=100000)(h8:∀ y,y∈L->W8 y) :
  Calls Tryz.prog 107 #[.slice a L.length c] w (TfO w (EN L)):=by
 have hb0:Below w.heap.size w (w.alloc (.cells (Yx Uc) 64)):=(Below.refl _ w).alloc (Nat.le_refl _) _;have hX0:Bx (w.alloc (.cells (Yx Uc) 64)) w.heap.size (Yx Uc) 64:=heap_alloc_last w _;have CF:=KX a c L (w.alloc (.cells (Yx Uc) 64)) (by omega) (ZK hs hb0) h8 hc;have BD:Hid ((∀ f,f∈(YN L).1->Vf f)/\(YN L).1.length<=100000/\(∀ f,f∈(YN L).1->f.bytes.length<=100000)/\((YN L).2.2≠0->(YN L).1=[])):=Z9 (by
  rcases TU (fun y hy=>h8 y hy) (by omega) with⟨e,q⟩ | ⟨P,e,hm,hP⟩
  ·rw[e]; exact⟨(fun f h=>nomatch h),by simp,(fun f h=>nomatch h),fun _=>rfl⟩
  ·rw[e]; exact⟨hP,by have:=BA P; rw[hm] at this; simp only; omega,fun f hf=>by have:=EP hf; rw[hm] at this; omega,fun h=>absurd rfl h⟩)
 have HR1:Hid (Ve (WE,0) (YN L).1=none->EN L=none):=Z9 wL;have HR2:=Z9 (fun x h=>@qA L x h);have Un:Hid (∀ V y ok,Below w.heap.size w V->EN L=(if ok=true then some y else none)->TfO w (EN L) (.returned (.tuple #[.agg (Yx y),.bool ok])) V):=Z9 fun V y ok hb e=>⟨y,ok,rfl,e,hb⟩;have H8:=Z9 h8;have jh:=Z9 (aC hs);generalize EN L=RR at *
 generalize YN L=FR at *
 go_enter Tryz.func107,Tryz.ntmps107;go_upto_region 1 with fail;change Code.wp _ _ _ _ (w.alloc (.cells (Yx Uc) 64));generalize w.alloc (.cells (Yx Uc) 64)=W at *
 obtain⟨g2,hg2⟩:=ZR w.heap.size;have hsW:=ZK hs hb0;have HB0:=Z9 hb0;have HG2:Hid (w.heap.size<=g2):=Z9 (by omega);rw[hg2] at hX0;rw[hg2];clear hb0 hg2 hs h8;refine wl<|ZV (.slice a L.length c) <|
  Yi (fun v w'=>∃ a c ps,v=.tuple #[.slice a ps.length c,Z8 FR.2.1,Z8 FR.2.2]/\ps.map Prod.fst=FR.1/\ps.length<=c/\Ov w' W.heap.size a ps/\Below W.heap.size W w') (CF.mono fun e w' q=>by obtain⟨v,ps,h1,h2,h3,h4⟩:=q; obtain⟨a,c,rfl,hc,hf⟩:=h3.fsb; exact⟨_,h1,a,c,ps,rfl,h2,hc,hf,h4⟩) (fun v5 V5 hq=>?_)
 obtain⟨a5,c5,ps,rfl,hps,hc5,aB,hb5⟩:=hq;refine YW (.tuple #[.slice a5 ps.length c5,Z8 FR.2.1,Z8 FR.2.2]) (.slice a5 ps.length c5) (Z8 FR.2.1) (Z8 FR.2.2) (.slice a5 ps.length c5) (Z8 FR.2.1)<|ZV (Z8 FR.2.2)<|wn ?_;simp only[pu];have Nk:=hX0.below hX0.lt hb5;have JG:=Z9 (HB0.out.trans (hb5.mono HB0.out.size));have ax0:=ZK hsW hb5;have HWL:Hid (W.heap.size<=V5.heap.size):=Z9 hb5.size;obtain⟨P,n5,e5⟩:=FR;dsimp only at *
 subst hps;clear hb5 hX0 HB0 CF hsW;go_upto_region 2 with fail;apply wp_region_lit;refine Zy rfl (some 7) rfl (Z5 V5.heap.size 0) (V5.alloc (.cells (Yx Uc) 64)) (by kernel_rfl) ?_;simp only[pu];apply wpList_nil;have hb6:Below V5.heap.size V5 (V5.alloc (.cells (Yx Uc) 64)):=(Below.refl _ V5).alloc (Nat.le_refl _) _;have Rz:Bx (V5.alloc (.cells (Yx Uc) 64)) V5.heap.size (Yx Uc) 64:=heap_alloc_last V5 _;generalize V5.alloc (.cells (Yx Uc) 64)=V6 at *
 obtain⟨g7,RF⟩:=ZR V5.heap.size;rw[RF] at Rz ⊢;have HG7:Hid (V5.heap.size<=g7):=Z9 (by omega);have HGL:Hid (g2<V5.heap.size):=Z9 Nk.lt;have YK:=Z9 Nk;have HF5:=Z9 aB;have aN:=Z9 ax0;have Yd:=Z9 hb6;have Tv:=Z9 Rz;have uI:=Z9 (Jt.zero (ps.map Prod.fst));have HWV:Hid (w.heap.size<=V5.heap.size):=Z9 JG.out.size;obtain⟨n,hn⟩:=ZR ps.length;have HN:=Z9 hn;have U5:Hid (n<=100000):=Z9 (by have:=BD.out.2.1; rw[List.length_map] at this; omega);rw[hn];clear hb6 Rz Nk aB ax0 RF hn;go_upto_region 3 with fail;refine wl<|Yr (.slice a5 n c5) (Z8 n) (Z8 0)<|wn ?_;simp only[pu];go_wp2_with fail;go_loopg [18] n (fun gg s18 wx=>∃ (j:Nat) (x:Tf),s18=Z8 j/\j<=n/\Hid (Bx wx g7 (Yx x) 64)/\Hid (Jt (ps.map Prod.fst) j x)/\Hid (x.1.size<=100000/\W64 x.2)/\Hid (Below V5.heap.size V5 wx)/\n-j=gg)
 case atStart=>exact⟨0,(WE,0),rfl,by omega,Tv,uI,Z9 ⟨by decide,Xq⟩,Yd,by omega⟩
 case round=>
  obtain⟨j,x,rfl,hj,BP,HJ,HXB,HB,hg⟩:=hrel;clear Tv uI Yd;by_cases hlt:j<n
  ·have HG:Hid (n-(j+1)=gk-1/\0<gk/\j+1<=n/\j+1<=100000):=Z9 ⟨by omega,by omega,by omega,by have:=U5.out; omega⟩;have hjq:j<ps.length:=(by rw[HN.out]; exact hlt);obtain⟨b,off,ba,bc,rfl,hp2,hsl,hbox⟩:=(HF5.out.below HB.out).fs j ps[j] (List.getElem?_eq_getElem hjq);have JH:=BD.out.1 ps[j].1 (by exact List.mem_map_of_mem (List.getElem_mem hjq));have hbl:=BD.out.2.2.1 ps[j].1 (by exact List.mem_map_of_mem (List.getElem_mem hjq));have hjm:j<(ps.map Prod.fst).length:=(by rw[List.length_map]; exact hjq);have hgx:(ps.map Prod.fst)[j]=ps[j].1:=List.getElem_map ..;have Vx:Hid (ps[j].1.num=1/\ps[j].1.kind=2->Jt (ps.map Prod.fst) (j+1) (strOfNums ps[j].1.bytes,x.2)):=Z9 fun hc=>(by rw[<- hgx] at hc ⊢; exact HJ.out.to hjm hc);have HS2:Hid (ps[j].1.num=2/\ps[j].1.kind=0->Jt (ps.map Prod.fst) (j+1) (x.1,ps[j].1.val)):=Z9 fun hc=>(by rw[<- hgx] at hc ⊢; exact HJ.out.am hjm hc);have wV:Hid (¬ (ps[j].1.num=1/\ps[j].1.kind=2)->¬ (ps[j].1.num=2/\ps[j].1.kind=0)->RR=none):=Z9 fun h1 h2=>HR1.out (by rw[<- hgx] at h1 h2; exact HJ.out.no hjm h1 h2);have aF:Hid ((strOfNums ps[j].1.bytes).size<=100000/\W64 ps[j].1.val):=Z9 ⟨by rw[EJ _ JH.2.2.1]; exact hbl,JH.2.1⟩;generalize ps[j].1=y at *
   have hld:=RV (S9 hbox);obtain⟨V6,hst,hb6,hbx⟩:=Hf wr y ba bc;have Rz:=BP.out.below BP.out.lt hb6;have Sm:=Z9 (HB.out.trans (hb6.mono HB.out.size));have hs6:=ZK hsl hb6;clear hp2 hsl hbox JH hjm hgx HJ hb6 hg hjq BP HB hbl;go_upto_region 4 with fail;refine wl<|ZJ (Zv rfl (j) (n) dT)<|wn ?_;simp only[pu];go_upto_region 5 with fail;refine wl<|YG (Z5 b (off+j*4)) (Xr b off n c5 j hlt _ _ _ rfl (by kernel_rfl) (by kernel_rfl))<|ZL rfl ⟨b,off+j*4,none⟩ (.agg (Xd y ba bc)) (hld) ?_;refine Zy rfl (some 9) rfl (Z5 wr.heap.size 0) (wr.alloc (.cells (Xd VJ none 0) 111)) (by kernel_rfl) ?_;refine Zu rfl (hst)<|wn ?_;obtain⟨g9,FH⟩:=ZR wr.heap.size;rw[FH] at hbx ⊢;clear hst FH hld;rcases (show(y.num=1/\y.kind=2)∨(y.num=2/\y.kind=0)∨(¬ (y.num=1/\y.kind=2)/\¬ (y.num=2/\y.kind=0)) by omega) with hcs | hcs | hcs
   ·have qH:=Z9 (Vx.out hcs);have ag4:Hid ((strOfNums y.bytes).size<=100000/\W64 x.2):=Z9 ⟨aF.out.1,HXB.out.2⟩;go_upto_region 7 with fail;refine wl<|ZV (Z5 g9 0)<|ZL rfl ⟨g9,0,none⟩ (Z8 y.num) (hbx.ZP 0)<|ZJ (ZB rfl (y.num) (1) (decide_eq_true (hcs.1))) <|
     ZA ZW (Z5 g9 1)<|ZL rfl ⟨g9,1,none⟩ (Z8 y.kind) (hbx.ZP 1)<|ZJ (ZB rfl (y.kind) (2) (decide_eq_true (hcs.2)))<|ZA ZW ZW<|wn ?_
    simp only[pu];obtain⟨V8,XK,Wy,hb8,-⟩:=Zn (i:=0) (ty:=9) (v:=.string (strOfNums y.bytes)) (cs':=Yx (strOfNums y.bytes,x.2)) Rz Sm.out HG7.out (by show 0<2; decide) rfl (by kernel_rfl) rfl;have TS:=Z9 Wy;have OX:=Z9 hb8;go_upto_region 8 with fail;refine wl<|ZV (Z5 g9 3)<|ZL rfl ⟨g9,3,none⟩ (.slice ba y.bytes.length bc) (hbx.ZP 3)<|YG (.string (strOfNums y.bytes)) (N8 rfl hs6 (by kernel_rfl))<|ZV (Z5 g7 0)<|Zu rfl (XK) <|
     wpList_nil ?_
    simp only[pu];clear XK Wy hb8 hbx Rz Sm hs6 Vx HS2 wV aF HXB;go_upto_region 11 with fail;refine wl<|YG (Z8 (j+1:Nat)) (add_one rfl j (by have:=HG.out; omega) (by kernel_rfl) _)<|ZV (Z8 (j+1:Nat))<|wn ?_;simp only[pu];go_wp2_with fail;go_roundg (gk-1)
    case measure=>have:=HG.out; omega
    case rel=>exact⟨j+1,(strOfNums y.bytes,x.2),rfl,HG.out.2.2.1,TS,qH,ag4,OX,HG.out.1⟩
   ·have qH:=Z9 (HS2.out hcs);have ag4:Hid (x.1.size<=100000/\W64 y.val):=Z9 ⟨HXB.out.1,aF.out.2⟩;go_upto_region 7 with fail;refine wl<|ZV (Z5 g9 0)<|ZL rfl ⟨g9,0,none⟩ (Z8 y.num) (hbx.ZP 0)<|ZJ (ZB rfl (y.num) (1) dF) <|
     YW ZY undef undef undef ZY ZY<|wn ?_
    simp only[pu];go_upto_region 9 with fail;refine wl<|ZV (Z5 g9 0)<|ZL rfl ⟨g9,0,none⟩ (Z8 y.num) (hbx.ZP 0)<|ZJ (ZB rfl (y.num) (2) (decide_eq_true (hcs.1))) <|
     ZA ZW (Z5 g9 1)<|ZL rfl ⟨g9,1,none⟩ (Z8 y.kind) (hbx.ZP 1)<|ZJ (ZB rfl (y.kind) (0) (decide_eq_true (hcs.2)))<|ZA ZW ZW<|wn ?_
    simp only[pu];obtain⟨V8,XK,Wy,hb8,-⟩:=Zn (i:=1) (ty:=27) (v:=Z4 y.val) (cs':=Yx (x.1,y.val)) Rz Sm.out HG7.out (by show 1<2; decide) rfl (by kernel_rfl) rfl;have TS:=Z9 Wy;have OX:=Z9 hb8;go_upto_region 10 with fail;refine wl<|ZV (Z5 g9 2)<|ZL rfl ⟨g9,2,none⟩ (Z4 y.val) (hbx.ZP 2)<|ZV (Z5 g7 1)<|Zu rfl (XK)<|wn ?_;simp only[pu];clear XK Wy hb8 hbx Rz Sm hs6 Vx HS2 wV aF HXB;go_upto_region 11 with fail;refine wl<|YG (Z8 (j+1:Nat)) (add_one rfl j (by have:=HG.out; omega) (by kernel_rfl) _)<|ZV (Z8 (j+1:Nat))<|wn ?_;simp only[pu];go_wp2_with fail;go_roundg (gk-1)
    case measure=>have:=HG.out; omega
    case rel=>exact⟨j+1,(x.1,y.val),rfl,HG.out.2.2.1,TS,qH,ag4,OX,HG.out.1⟩
   ·have NJ:=Z9 (wV.out hcs.1 hcs.2);have hX2:=YK.out.below HGL.out Sm.out;obtain⟨hst,hZ⟩:=VT (y:=x) hX2;have Zl:=Z9 (ZQ (JG.out.trans (Sm.out.mono HWV.out)) HG2.out (Yx x));have HE:=Z9 (Un.out _ x false Zl.out NJ.out);generalize World.setRow _ g2 (Yx x)=V9 at *
    clear Un Vx HS2 wV aF HXB Sm hs6 NJ Zl hX2;go_upto_region 7 with fail;by_cases h1:y.num=1
    ·refine wl<|ZV (Z5 g9 0)<|ZL rfl ⟨g9,0,none⟩ (Z8 y.num) (hbx.ZP 0)<|ZJ (ZB rfl (y.num) (1) (decide_eq_true (h1))) <|
      ZA ZW (Z5 g9 1)<|ZL rfl ⟨g9,1,none⟩ (Z8 y.kind) (hbx.ZP 1)<|ZJ (ZB rfl (y.kind) (2) dF)<|ZA ZY ZY <|
      wpList_nil ?_
     simp only[pu];go_upto_region 9 with fail;refine wl<|ZV (Z5 g9 0)<|ZL rfl ⟨g9,0,none⟩ (Z8 y.num) (hbx.ZP 0)<|ZJ (ZB rfl (y.num) (2) dF) <|
      YW ZY undef undef undef ZY ZY<|wn ?_
     simp only[pu];go_upto_region 6 with fail;refine wl<|ZL rfl ⟨g7,0,none⟩ (.agg (Yx x)) (Yu Rz)<|Zu rfl (hst)<|ZV ZY<|wn ?_;simp only[pu];go_wp2_with fail;exact bodyPost_ret (ZO (p:=2) (q:=3) rfl (by kernel_rfl) (Yu hZ) rfl) rfl HE.out
    ·refine wl<|ZV (Z5 g9 0)<|ZL rfl ⟨g9,0,none⟩ (Z8 y.num) (hbx.ZP 0)<|ZJ (ZB rfl (y.num) (1) dF) <|
      YW ZY undef undef undef ZY ZY<|wn ?_
     simp only[pu];go_upto_region 9 with fail;by_cases h2:y.num=2
     ·refine wl<|ZV (Z5 g9 0)<|ZL rfl ⟨g9,0,none⟩ (Z8 y.num) (hbx.ZP 0)<|ZJ (ZB rfl (y.num) (2) (decide_eq_true (h2))) <|
       ZA ZW (Z5 g9 1)<|ZL rfl ⟨g9,1,none⟩ (Z8 y.kind) (hbx.ZP 1)<|ZJ (ZB rfl (y.kind) (0) dF)<|ZA ZY ZY <|
       wpList_nil ?_
      simp only[pu];go_upto_region 6 with fail;refine wl<|ZL rfl ⟨g7,0,none⟩ (.agg (Yx x)) (Yu Rz)<|Zu rfl (hst)<|ZV ZY<|wn ?_;simp only[pu];go_wp2_with fail;exact bodyPost_ret (ZO (p:=2) (q:=3) rfl (by kernel_rfl) (Yu hZ) rfl) rfl HE.out
     ·refine wl<|ZV (Z5 g9 0)<|ZL rfl ⟨g9,0,none⟩ (Z8 y.num) (hbx.ZP 0)<|ZJ (ZB rfl (y.num) (2) dF) <|
       YW ZY undef undef undef ZY ZY<|wn ?_
      simp only[pu];go_upto_region 6 with fail;refine wl<|ZL rfl ⟨g7,0,none⟩ (.agg (Yx x)) (Yu Rz)<|Zu rfl (hst)<|ZV ZY<|wn ?_;simp only[pu];go_wp2_with fail;exact bodyPost_ret (ZO (p:=2) (q:=3) rfl (by kernel_rfl) (Yu hZ) rfl) rfl HE.out
  ·have Jc:=Z9 (HR2.out x (HJ.out.done (by rw[List.length_map,HN.out]; omega)));have hX2:=YK.out.below HGL.out HB.out;have Rz:=BP.out;have hs9:=ZK aN.out HB.out;have qx:=hX2.lt;have ag5:=Rz.lt;have hne:g7≠g2:=(by have:=HG7.out; have:=HGL.out; omega);have Zl:=Z9 (JG.out.trans (HB.out.mono HWV.out));have HWR:Hid (W.heap.size<=wr.heap.size):=Z9 (Nat.le_trans HWL.out HB.out.size);clear HJ BP HB hg HR1;go_upto_region 4 with fail;refine wl<|ZJ (Zv rfl (j) (n) dF)<|wn ?_;simp only[pu];go_upto_region 12 with fail;by_cases he:e5=0
   ·have CT:∀ V,W.heap.size<=V.heap.size->wr.heap.size<=V.heap.size->Calls Tryz.prog 66 #[.slice none 0 0,Z8 1,.string x.1] V (Nj V wr.heap.size [] (tF 1 x.1)):=fun V _ hV=>N7 (.slice none 0 0) [] wr.heap.size 1 x.1 V (X7.nil V _) hV (Nat.zero_le _);have CN:∀ V u qs,wr.heap.size<=V.heap.size->X7 V wr.heap.size u qs->qs.map Prod.fst=tF 1 x.1->Calls Tryz.prog 67 #[u,Z8 2,Z4 x.2] V (Nj V wr.heap.size qs (nF 2 x.2)):=fun V u qs hV hu hq=>OW u qs wr.heap.size 2 x.2 V hu hV (by have:=congrArg List.length hq; rw[List.length_map] at this; have:=PY 1 x.1; omega);have CM:∀ V u qs,wr.heap.size<=V.heap.size->X7 V wr.heap.size u qs->qs.map Prod.fst=Ub x->Calls Tryz.prog 68 #[u] V (fun e w'=>∃ v,e=.returned v/\Own w' wr.heap.size v (msg (Ub x))/\Below V.heap.size V w'):=fun V u qs hV hu hq=>by
     obtain⟨ua,uc,rfl,-,hfs⟩:=hu.fs;have q1:=OV x;have q2:=HXB.out;have:=QY ua uc qs V hfs (G9 hq (EI (by omega) q2.2)) (by rw[hq]; omega) (by
      have:=congrArg List.length hq;rw[List.length_map] at this;have:=PY 1 x.1;have:=QX 2 x.2;unfold Ub at *
      rw[List.length_append] at *
      omega)
     rw[hq] at this;exact this.mono fun e w' q=>by
      obtain⟨v,h1,h2,h3⟩:=q;exact⟨v,h1,h2.base hV,h3⟩
    obtain⟨tb,htb⟩:=ZR (decide (msg (Ub x)=L));have CS:∀ V u,But g2 wr V->Own V wr.heap.size u (msg (Ub x))->Calls Tryz.prog 80 #[u,.slice a L.length c] V (fun e w'=>e=.returned (.bool tb)/\V=w'):=fun V u hV hu=>by
     obtain⟨ua,uc,rfl,hus,-⟩:=hu.sl;have:=KW ua uc (msg (Ub x)) a c L V hus (qw hs9 hV (fun hne y hy=>by have:=jh.out hne y hy; have:=HG2.out; omega)) (Tj (EI (by have:=HXB.out.1; omega) HXB.out.2)) H8.out;rw[htb] at this;exact this
    have I5:Hid (RR=if tb=true then some x else none):=Z9 (by
     rw[Jc.out,<- htb];by_cases hm:msg (Ub x)=L
     ·rw[if_pos ⟨he,hm⟩,decide_eq_true hm]; rfl
     ·rw[if_neg (fun q=>hm q.2),decide_eq_false hm]; rfl)
    have h0:KR wr g2 g7 x false false false false undef undef undef wr.drew:=⟨(fun h=>nomatch h),(fun h=>nomatch h),⟨(Below.refl _ _).drew,fun k hk _=>rfl⟩,Rz,fun _=>hX2,(fun h=>nomatch h),(fun h=>nomatch h),(fun h=>nomatch h),(fun h=>nomatch h)⟩;clear Rz hX2;refine Zw (fun listed ZG V=>∃ b0 b1 b2 b3 b4 b5 b6 b7 b8 b9 b10 b11 b12 b13 b14 b15:Bool,∃ x55 x58 x59:Value,listed=#[b0,b1,b2,b3,b4,b5,b6,b7,b8,b9,b10,b11,b12,b13,b14,b15]/\ZG={ tmps:=#[.slice a L.length c,undef,Z5 g2 0,(cond b15 (.bool tb) (u3)),.slice a5 n c5,Z8 n5,Z8 e5,Z5 g7 0,undef,u9,.tuple #[.slice a5 n c5,Z8 n5,Z8 e5],.slice a L.length c,.tuple #[.slice a5 n c5,Z8 n5,Z8 e5],.slice a5 n c5,Z8 n5,Z8 e5,.slice a5 n c5,Z8 n,Z8 j,ZY,u20,u21,u22,u23,u24,u25,u26,u27,u28,u29,u30,u31,u32,u33,u34,u35,u36,u37,u38,u39,u40,u41,u42,u43,u44,u45,u46,u47,u48,(cond b0 (.agg (Yx x)) undef),(cond b1 (Z8 e5) undef),(cond b2 ZW undef),(cond b3 ZW undef),(cond b4 (Z5 g7 0) undef),(cond b5 (.string x.1) undef),x55,(cond b7 (Z5 g7 1) undef),(cond b8 (Z4 x.2) undef),x58,x59,(cond b11 (.slice a L.length c) undef),(cond b12 (.bool tb) undef),(cond b13 (.bool tb) undef)],defers:=[] }/\KR wr g2 g7 x b6 b9 b10 b14 x55 x58 x59 V) (by kernel_rfl) (by kernel_rfl) ?_ ?_ ?_
    ·exact⟨_,_,_,_,_,_,_,_,_,_,_,_,_,_,_,_,_,_,_,rfl,rfl,h0⟩
    ·intro i9 listed ZG V hi9 hr hJ;obtain⟨b0,b1,b2,b3,b4,b5,b6,b7,b8,b9,b10,b11,b12,b13,b14,b15,x55,x58,x59,rfl,rfl,hF⟩:=hJ;have hi2:i9<16:=hi9;have hi3:i9=0∨i9=1∨i9=2∨i9=3∨i9=4∨i9=5∨i9=6∨i9=7∨i9=8∨i9=9∨i9=10∨i9=11∨i9=12∨i9=13∨i9=14∨i9=15:=(by omega);rcases hi3 with rfl | rfl | rfl | rfl | rfl | rfl | rfl | rfl | rfl | rfl | rfl | rfl | rfl | rfl | rfl | rfl
     ·obtain rfl:b0=false:=Z7 hr;refine ZE rfl (by kernel_rfl) (some 49) rfl 64 (.tmp 7) rfl ⟨g7,0,none⟩ (.agg (Yx x)) (by kernel_rfl) (Yu hF.bx) ?_;exact⟨_,_,_,_,_,_,_,_,_,_,_,_,_,_,_,_,_,_,_,rfl,rfl,hF⟩
     ·obtain rfl:b1=false:=Z7 hr;refine ZT rfl (by kernel_rfl) (some 50) rfl (Z8 e5) V (by kernel_rfl) ?_;exact⟨_,_,_,_,_,_,_,_,_,_,_,_,_,_,_,_,_,_,_,rfl,rfl,hF⟩
     ·obtain rfl:b2=false:=Z7 hr;obtain rfl:b1=true:=ZX hr 1;refine ZT rfl (by kernel_rfl) (some 51) rfl ZW V (Uw rfl e5 0 (decide_eq_true he) (by kernel_rfl) (by kernel_rfl) _) ?_;exact⟨_,_,_,_,_,_,_,_,_,_,_,_,_,_,_,_,_,_,_,rfl,rfl,hF⟩
     ·obtain rfl:b3=false:=Z7 hr;obtain rfl:b2=true:=ZX hr 2;refine ZT rfl (by kernel_rfl) (some 52) rfl ZW V (by kernel_rfl) ?_;exact⟨_,_,_,_,_,_,_,_,_,_,_,_,_,_,_,_,_,_,_,rfl,rfl,hF⟩
     ·obtain rfl:b4=false:=Z7 hr;obtain rfl:b3=true:=ZX hr 3;refine ZT rfl (by kernel_rfl) (some 53) rfl (Z5 g7 0) V (by kernel_rfl) ?_;exact⟨_,_,_,_,_,_,_,_,_,_,_,_,_,_,_,_,_,_,_,rfl,rfl,hF⟩
     ·obtain rfl:b5=false:=Z7 hr;obtain rfl:b4=true:=ZX hr 4;obtain rfl:b3=true:=ZX hr 3;refine ZE rfl (by kernel_rfl) (some 54) rfl 9 (.tmp 53) rfl ⟨g7,0,none⟩ (.string x.1) (by kernel_rfl) (hF.bx.ZP 0) ?_;exact⟨_,_,_,_,_,_,_,_,_,_,_,_,_,_,_,_,_,_,_,rfl,rfl,hF⟩
     ·obtain rfl:b6=false:=Z7 hr;obtain rfl:b5=true:=ZX hr 5;obtain rfl:b3=true:=ZX hr 3;refine Zc rfl (by kernel_rfl) (some 55) rfl 66 #[.slice none 0 0,Z8 1,.string x.1] (by kernel_rfl) ((CT V (Nat.le_trans HWR.out hF.lt) hF.lt).mono ?_);rintro e V2 ⟨v,qs,rfl,hq,hr,hb⟩;exact⟨v,rfl,b0,b1,b2,true,b4,true,true,b7,b8,b9,b10,b11,b12,b13,b14,b15,v,x58,x59,rfl,rfl,hF.s6 qx ag5 hr (by simpa using hq) hb⟩
     ·obtain rfl:b7=false:=Z7 hr;obtain rfl:b3=true:=ZX hr 3;refine ZT rfl (by kernel_rfl) (some 56) rfl (Z5 g7 1) V (by kernel_rfl) ?_;exact⟨_,_,_,_,_,_,_,_,_,_,_,_,_,_,_,_,_,_,_,rfl,rfl,hF⟩
     ·obtain rfl:b8=false:=Z7 hr;obtain rfl:b7=true:=ZX hr 7;obtain rfl:b3=true:=ZX hr 3;refine ZE rfl (by kernel_rfl) (some 57) rfl 27 (.tmp 56) rfl ⟨g7,1,none⟩ (Z4 x.2) (by kernel_rfl) (hF.bx.ZP 1) ?_;exact⟨_,_,_,_,_,_,_,_,_,_,_,_,_,_,_,_,_,_,_,rfl,rfl,hF⟩
     ·obtain rfl:b9=false:=Z7 hr;obtain rfl:b6=true:=ZX hr 6;obtain rfl:b8=true:=ZX hr 8;obtain rfl:b3=true:=ZX hr 3;obtain⟨q55,aI1,ax1⟩:=hF.r55 rfl rfl;refine Zc rfl (by kernel_rfl) (some 58) rfl 67 #[x55,Z8 2,Z4 x.2] (by kernel_rfl) ((CN V x55 q55 hF.lt aI1 ax1).mono ?_);rintro e V2 ⟨v,qs,rfl,hq,hr,hb⟩;exact⟨v,rfl,b0,b1,b2,true,b4,b5,true,b7,true,true,b10,b11,b12,b13,b14,b15,x55,v,x59,rfl,rfl,hF.s9 qx ag5 hr (by rw[hq,ax1]; rfl) hb⟩
     ·obtain rfl:b10=false:=Z7 hr;obtain rfl:b9=true:=ZX hr 9;obtain rfl:b3=true:=ZX hr 3;obtain⟨q58,aI2,aI3⟩:=hF.r58 rfl rfl;refine Zc rfl (by kernel_rfl) (some 59) rfl 68 #[x58] (by kernel_rfl) ((CM V x58 q58 hF.lt aI2 aI3).mono ?_);rintro e V2 ⟨v,rfl,hO,hb⟩;exact⟨v,rfl,b0,b1,b2,true,b4,b5,b6,b7,b8,true,true,b11,b12,b13,b14,b15,x55,x58,v,rfl,rfl,hF.s10 qx ag5 hO hb⟩
     ·obtain rfl:b11=false:=Z7 hr;obtain rfl:b3=true:=ZX hr 3;refine ZT rfl (by kernel_rfl) (some 60) rfl (.slice a L.length c) V (by kernel_rfl) ?_;exact⟨_,_,_,_,_,_,_,_,_,_,_,_,_,_,_,_,_,_,_,rfl,rfl,hF⟩
     ·obtain rfl:b12=false:=Z7 hr;obtain rfl:b10=true:=ZX hr 10;obtain rfl:b11=true:=ZX hr 11;obtain rfl:b3=true:=ZX hr 3;refine Zc rfl (by kernel_rfl) (some 61) rfl 80 #[x59,.slice a L.length c] (by kernel_rfl) ((CS V x59 hF.but (hF.r59 rfl)).mono ?_);rintro e V2 ⟨rfl,rfl⟩;exact⟨_,rfl,_,_,_,_,_,_,_,_,_,_,_,_,_,_,_,_,_,_,_,rfl,rfl,hF⟩
     ·obtain rfl:b13=false:=Z7 hr;obtain rfl:b3=true:=ZX hr 3;obtain rfl:b12=true:=ZX hr 12;refine ZT rfl (by kernel_rfl) (some 62) rfl (.bool tb) V (by kernel_rfl) ?_;exact⟨_,_,_,_,_,_,_,_,_,_,_,_,_,_,_,_,_,_,_,rfl,rfl,hF⟩
     ·obtain rfl:b14=false:=Z7 hr;obtain rfl:b0=true:=ZX hr 0;obtain⟨hst,hF2⟩:=hF.s14 qx hne;refine Zf rfl (by kernel_rfl) rfl 64 (.tmp 2) (.tmp 49) rfl _ _ (by kernel_rfl) (by kernel_rfl) _ hst ?_;exact⟨_,_,_,_,_,_,_,_,_,_,_,_,_,_,_,_,_,_,_,rfl,rfl,hF2⟩
     ·obtain rfl:b15=false:=Z7 hr;obtain rfl:b13=true:=ZX hr 13;refine ZT rfl (by kernel_rfl) (some 3) rfl (.bool tb) V (by kernel_rfl) ?_;exact⟨_,_,_,_,_,_,_,_,_,_,_,_,_,_,_,_,_,_,_,rfl,rfl,hF⟩
    ·intro ZG V hJ;obtain⟨b0,b1,b2,b3,b4,b5,b6,b7,b8,b9,b10,b11,b12,b13,b14,b15,x55,x58,x59,he,rfl,hF⟩:=hJ;have he:(#[true,true,true,true,true,true,true,true,true,true,true,true,true,true,true,true]:Array Bool)=#[b0,b1,b2,b3,b4,b5,b6,b7,b8,b9,b10,b11,b12,b13,b14,b15]:=he;simp only[Array.mk.injEq,List.cons.injEq,and_true] at he;obtain⟨rfl,rfl,rfl,rfl,rfl,rfl,rfl,rfl,rfl,rfl,rfl,rfl,rfl,rfl,rfl,rfl⟩:=he;simp only[cond_true];have VI:=Z9 (Zl.out.trans (hF.but.1.mono HG2.out));have hZ:=hF.bd rfl;have HE:=Z9 (Un.out V x tb VI.out I5.out);clear hF h0 CT CN CM CS Un Jc I5 VI Zl;go_wp2_with fail;exact bodyPost_ret (ZO (p:=2) (q:=3) rfl (by kernel_rfl) (Yu hZ) rfl) rfl HE.out
   ·have I5:Hid (RR=none):=Z9 (by rw[Jc.out,if_neg (fun q=>he q.1)]);have h0:KR wr g2 g7 x false false false false undef undef undef wr.drew:=⟨(fun h=>nomatch h),(fun h=>nomatch h),⟨(Below.refl _ _).drew,fun k hk _=>rfl⟩,Rz,fun _=>hX2,(fun h=>nomatch h),(fun h=>nomatch h),(fun h=>nomatch h),(fun h=>nomatch h)⟩;clear Rz hX2;refine Zw (fun listed ZG V=>∃ b0 b1 b2 b3 b4 b5 b6 b7 b8 b9 b10 b11 b12 b13 b14 b15:Bool,listed=#[b0,b1,b2,b3,b4,b5,b6,b7,b8,b9,b10,b11,b12,b13,b14,b15]/\ZG={ tmps:=#[.slice a L.length c,undef,Z5 g2 0,(cond b15 ZY (u3)),.slice a5 n c5,Z8 n5,Z8 e5,Z5 g7 0,undef,u9,.tuple #[.slice a5 n c5,Z8 n5,Z8 e5],.slice a L.length c,.tuple #[.slice a5 n c5,Z8 n5,Z8 e5],.slice a5 n c5,Z8 n5,Z8 e5,.slice a5 n c5,Z8 n,Z8 j,ZY,u20,u21,u22,u23,u24,u25,u26,u27,u28,u29,u30,u31,u32,u33,u34,u35,u36,u37,u38,u39,u40,u41,u42,u43,u44,u45,u46,u47,u48,(cond b0 (.agg (Yx x)) undef),(cond b1 (Z8 e5) undef),(cond b2 ZY undef),(cond b3 ZY undef),(cond b4 (undef) undef),(cond b5 (undef) undef),(cond b6 (undef) undef),(cond b7 (undef) undef),(cond b8 (undef) undef),(cond b9 (undef) undef),(cond b10 (undef) undef),(cond b11 (undef) undef),(cond b12 (undef) undef),(cond b13 ZY undef)],defers:=[] }/\KR wr g2 g7 x false false false b14 undef undef undef V) (by kernel_rfl) (by kernel_rfl) ?_ ?_ ?_
    ·exact⟨_,_,_,_,_,_,_,_,_,_,_,_,_,_,_,_,rfl,rfl,h0⟩
    ·intro i9 listed ZG V hi9 hr hJ;obtain⟨b0,b1,b2,b3,b4,b5,b6,b7,b8,b9,b10,b11,b12,b13,b14,b15,rfl,rfl,hF⟩:=hJ;have hi2:i9<16:=hi9;have hi3:i9=0∨i9=1∨i9=2∨i9=3∨i9=4∨i9=5∨i9=6∨i9=7∨i9=8∨i9=9∨i9=10∨i9=11∨i9=12∨i9=13∨i9=14∨i9=15:=(by omega);rcases hi3 with rfl | rfl | rfl | rfl | rfl | rfl | rfl | rfl | rfl | rfl | rfl | rfl | rfl | rfl | rfl | rfl
     ·obtain rfl:b0=false:=Z7 hr;refine ZE rfl (by kernel_rfl) (some 49) rfl 64 (.tmp 7) rfl ⟨g7,0,none⟩ (.agg (Yx x)) (by kernel_rfl) (Yu hF.bx) ?_;exact⟨_,_,_,_,_,_,_,_,_,_,_,_,_,_,_,_,rfl,rfl,hF⟩
     ·obtain rfl:b1=false:=Z7 hr;refine ZT rfl (by kernel_rfl) (some 50) rfl (Z8 e5) V (by kernel_rfl) ?_;exact⟨_,_,_,_,_,_,_,_,_,_,_,_,_,_,_,_,rfl,rfl,hF⟩
     ·obtain rfl:b2=false:=Z7 hr;obtain rfl:b1=true:=ZX hr 1;refine ZT rfl (by kernel_rfl) (some 51) rfl ZY V (Uw rfl e5 0 (decide_eq_false he) (by kernel_rfl) (by kernel_rfl) _) ?_;exact⟨_,_,_,_,_,_,_,_,_,_,_,_,_,_,_,_,rfl,rfl,hF⟩
     ·obtain rfl:b3=false:=Z7 hr;obtain rfl:b2=true:=ZX hr 2;refine ZT rfl (by kernel_rfl) (some 52) rfl ZY V (by kernel_rfl) ?_;exact⟨_,_,_,_,_,_,_,_,_,_,_,_,_,_,_,_,rfl,rfl,hF⟩
     ·obtain rfl:b4=false:=Z7 hr;obtain rfl:b3=true:=ZX hr 3;refine Xh rfl (by kernel_rfl) ?_;exact⟨_,_,_,_,_,_,_,_,_,_,_,_,_,_,_,_,rfl,rfl,hF⟩
     ·obtain rfl:b5=false:=Z7 hr;obtain rfl:b3=true:=ZX hr 3;refine Xh rfl (by kernel_rfl) ?_;exact⟨_,_,_,_,_,_,_,_,_,_,_,_,_,_,_,_,rfl,rfl,hF⟩
     ·obtain rfl:b6=false:=Z7 hr;obtain rfl:b3=true:=ZX hr 3;refine Xh rfl (by kernel_rfl) ?_;exact⟨_,_,_,_,_,_,_,_,_,_,_,_,_,_,_,_,rfl,rfl,hF⟩
     ·obtain rfl:b7=false:=Z7 hr;obtain rfl:b3=true:=ZX hr 3;refine Xh rfl (by kernel_rfl) ?_;exact⟨_,_,_,_,_,_,_,_,_,_,_,_,_,_,_,_,rfl,rfl,hF⟩
     ·obtain rfl:b8=false:=Z7 hr;obtain rfl:b3=true:=ZX hr 3;refine Xh rfl (by kernel_rfl) ?_;exact⟨_,_,_,_,_,_,_,_,_,_,_,_,_,_,_,_,rfl,rfl,hF⟩
     ·obtain rfl:b9=false:=Z7 hr;obtain rfl:b3=true:=ZX hr 3;refine Xh rfl (by kernel_rfl) ?_;exact⟨_,_,_,_,_,_,_,_,_,_,_,_,_,_,_,_,rfl,rfl,hF⟩
     ·obtain rfl:b10=false:=Z7 hr;obtain rfl:b3=true:=ZX hr 3;refine Xh rfl (by kernel_rfl) ?_;exact⟨_,_,_,_,_,_,_,_,_,_,_,_,_,_,_,_,rfl,rfl,hF⟩
     ·obtain rfl:b11=false:=Z7 hr;obtain rfl:b3=true:=ZX hr 3;refine Xh rfl (by kernel_rfl) ?_;exact⟨_,_,_,_,_,_,_,_,_,_,_,_,_,_,_,_,rfl,rfl,hF⟩
     ·obtain rfl:b12=false:=Z7 hr;obtain rfl:b3=true:=ZX hr 3;refine Xh rfl (by kernel_rfl) ?_;exact⟨_,_,_,_,_,_,_,_,_,_,_,_,_,_,_,_,rfl,rfl,hF⟩
     ·obtain rfl:b13=false:=Z7 hr;obtain rfl:b3=true:=ZX hr 3;refine ZT rfl (by kernel_rfl) (some 62) rfl ZY V (by kernel_rfl) ?_;exact⟨_,_,_,_,_,_,_,_,_,_,_,_,_,_,_,_,rfl,rfl,hF⟩
     ·obtain rfl:b14=false:=Z7 hr;obtain rfl:b0=true:=ZX hr 0;obtain⟨hst,hF2⟩:=hF.s14 qx hne;refine Zf rfl (by kernel_rfl) rfl 64 (.tmp 2) (.tmp 49) rfl _ _ (by kernel_rfl) (by kernel_rfl) _ hst ?_;exact⟨_,_,_,_,_,_,_,_,_,_,_,_,_,_,_,_,rfl,rfl,hF2⟩
     ·obtain rfl:b15=false:=Z7 hr;obtain rfl:b13=true:=ZX hr 13;refine ZT rfl (by kernel_rfl) (some 3) rfl ZY V (by kernel_rfl) ?_;exact⟨_,_,_,_,_,_,_,_,_,_,_,_,_,_,_,_,rfl,rfl,hF⟩
    ·intro ZG V hJ;obtain⟨b0,b1,b2,b3,b4,b5,b6,b7,b8,b9,b10,b11,b12,b13,b14,b15,he,rfl,hF⟩:=hJ;have he:(#[true,true,true,true,true,true,true,true,true,true,true,true,true,true,true,true]:Array Bool)=#[b0,b1,b2,b3,b4,b5,b6,b7,b8,b9,b10,b11,b12,b13,b14,b15]:=he;simp only[Array.mk.injEq,List.cons.injEq,and_true] at he;obtain⟨rfl,rfl,rfl,rfl,rfl,rfl,rfl,rfl,rfl,rfl,rfl,rfl,rfl,rfl,rfl,rfl⟩:=he;simp only[cond_true];have VI:=Z9 (Zl.out.trans (hF.but.1.mono HG2.out));have hZ:=hF.bd rfl;have HE:=Z9 (Un.out V x false VI.out I5.out);clear hF h0 Un Jc I5 VI Zl;go_wp2_with fail;exact bodyPost_ret (ZO (p:=2) (q:=3) rfl (by kernel_rfl) (Yu hZ) rfl) rfl HE.out
end Go.Proofs.YtnhlpahoomcgnaaGreat
