/-
  Texts joined.
-/
import Derived.Test.YtfpnnmeblefkkaaGreatDoorD8
set_option maxRecDepth 100000
set_option maxHeartbeats 8000000
set_option linter.unusedSimpArgs false
set_option linter.unusedVariables false
namespace Go.Proofs.YtfpnnmeblefkkaaGreatDoor
attribute [local irreducible] wpList wpQuiet
open Go.RowKit
theorem But.more {g:Nat}{a b c:World}(h:But g a b)(hb:Below a.heap.size b c)(hg:g<=a.heap.size):But g a c:=⟨h.1.trans (hb.mono hg),fun k hk hn=>(hb.block k hk).trans (h.2 k hk hn)⟩
theorem QY (x:Tf)(V:World):(Instr.buildSlice 61 1 #[(0,.agg (Yy x))]).run Tryz.prog V=.ok (.slice (some ⟨V.heap.size,0,none⟩) 1 1) (V.alloc (.cells (Yy x) 60)):=by
 obtain⟨i0,hi,hz0,hz1,hz2⟩:=info_parts ac7;refine run_buildSlice V 61 60 1 _ (Yy x) i0 _ Tryz.underlying61 hi hz0 (by rw[hz1]; omega) (by rw[hz1]; omega) ?_;rw[hz1];kernel_rfl
def Yv (w:World)(B:Nat)(v:Value)(A:List Tf):Prop:=w.ownsRow B 60 2 v A.length (QZ A)
theorem Yv.nil (w:World)(B:Nat):Yv w B (.slice none 0 0) []:=World.ownsRow_nil _ _ _ _
theorem Yv.below {w w':World}{B:Nat}{v:Value}{A:List Tf}(h:Yv w B v A)(hb:Below w.heap.size w w'):Yv w' B v A:=own_below h hb
theorem Yv.base {w:World}{B B':Nat}{v:Value}{A:List Tf}(h:Yv w B' v A)(hB:B<=B'):Yv w B v A:=own_base h hB
theorem Yv.but {w w':World}{B g:Nat}{v:Value}{A:List Tf}(h:Yv w B v A)(hb:But g w w')(hg:g<B):Yv w' B v A:=Zo h hb hg
theorem Yv.cs {w:World}{B:Nat}{v:Value}{A:List Tf}(h:Yv w B v A):∃ a c,v=.slice a A.length c/\Cs w a (QZ A)/\A.length<=c:=Yd h
theorem Lp {w:World}{B:Nat}{v:Value}{A:List Tf}(h:Yv w B v A)(hB:B<=w.heap.size)(x:Tf)(hl:A.length<=100000) :
  ∃ a c V2,(Builtin.append_ #[61,61] 61 #[v,.slice (some ⟨w.heap.size,0,none⟩) 1 1]).run Tryz.prog (w.alloc (.cells (Yy x) 60))=.ok (.slice a (A++[x]).length c) V2/\Yv V2 B (.slice a (A++[x]).length c) (A++[x])/\Below B w V2:=by
 have hb:Below w.heap.size w (w.alloc (.cells (Yy x) 60)):=(Below.refl _ w).alloc (Nat.le_refl _) _;have hO:=own_below h hb;have hc:Cs (w.alloc (.cells (Yy x) 60)) (some ⟨w.heap.size,0,none⟩) (rG x):=Cs.block (t:=60) (fr:=(0,0)) (heap_alloc_last w _);obtain⟨v2,V2,hr,hO2,hb2,-⟩:=Nz (P:=Tryz.prog) (t:=61) (m:=1) Tryz.underlying61 ac7 (by kernel_rfl) (by omega) (by omega) hO (some ⟨w.heap.size,0,none⟩) 1 (rG x) hc rfl (fun u hu=>by
  simp only[rG,List.mem_cons,List.not_mem_nil,or_false] at hu;rcases hu with rfl | rfl <;> rfl) (by simp; omega) hl (by omega)
 have e:QZ (A++[x])=QZ A++rG x:=by rw[fG]; simp[QZ]
 have hO3:Yv V2 B v2 (A++[x]):=by unfold Yv; rw[e,List.length_append]; exact hO2
 obtain⟨a,c,rfl,-,-⟩:=hO3.cs;exact⟨a,c,V2,hr,hO3,(hb.mono hB).trans hb2⟩
theorem xI (k:Int)(l:List Zj):(XD k l).2.length<=l.length:=by
 cases l with
 | nil=>exact Nat.le_refl _
 | cons f r=>
  by_cases h:f.num=k/\f.kind=2/\f.bytes.length≠0
  ·rw[Ol h]; simp
  ·rw[Qm h]; exact Nat.le_refl _
theorem Gt (k:Int)(l:List Zj):(X0 k l).2.length<=l.length:=by
 cases l with
 | nil=>exact Nat.le_refl _
 | cons f r=>
  by_cases h:f.num=k/\f.kind=0/\f.val≠0
  ·rw[QG h]; simp
  ·rw[Rq h]; exact Nat.le_refl _
def IE (L:List Int):Option YV:=if (YO L).2.2≠0 then none else xJ (YO L).1
def RdO (w:World)(r:Option YV)(e:Ending)(w':World):Prop:=∃ t ok a c,e=.returned (.tuple #[.agg (ZA t a c),.bool ok])/\r=(if ok=true then some t else none)/\Yv w' w.heap.size (.slice a t.tr.length c) t.tr/\Below w.heap.size w w'
def zW (P:List Zj)(j:Nat)(A:List Tf):Prop:=PU P=(PU (P.drop j)).map (A++·)
theorem zW.zero (P:List Zj):zW P 0 []:=by
 unfold zW;rw[List.drop_zero];cases PU P <;> simp
theorem zW.step {P:List Zj}{j:Nat}{A:List Tf}(h:zW P j A)(hj:j<P.length){x:Tf}(hx:Ro P[j]=some x):zW P (j+1) (A++[x]):=by
 unfold zW at *
 rw[h,List.drop_eq_getElem_cons hj,PU,hx];cases PU (P.drop (j+1)) <;> simp
theorem zW.fail {P:List Zj}{j:Nat}{A:List Tf}(h:zW P j A)(hj:j<P.length)(hx:Ro P[j]=none):PU P=none:=by
 unfold zW at *
 rw[h,List.drop_eq_getElem_cons hj,PU,hx];rfl
theorem zW.done {P:List Zj}{j:Nat}{A:List Tf}(h:zW P j A)(hj:P.length<=j):PU P=some A:=by
 unfold zW at *
 rw[h,List.drop_eq_nil_of_le hj,PU];simp
theorem Zm {w:World}{g:Nat}{x y:YV}{a a':Option Addr}{c c':Nat}(h:Bx w g (ZA x a c) 63):(Instr.storeAt 63 (Z5 g 0) (.agg (ZA y a' c'))).run Tryz.prog w=.ok () (w.setRow g (ZA y a' c'))/\Bx (w.setRow g (ZA y a' c')) g (ZA y a' c') 63:=
 ⟨Yj h rfl (by simp[Value.oneCell']) (by kernel_rfl),h.set⟩
theorem WS {w:World}{B g:Nat}{v:Value}{A:List Tf}(h:Yv w B v A)(cs:Array Value)(hg:g<B):Yv (w.setRow g cs) B v A:=h.but (But.setRow w cs) hg
theorem ai6 (a:Option Addr)(c:Nat)(L:List Int)(w:World)(hs:Sl w a c L)(hc:L.length<=c)(hl:L.length<=100000)(h8:∀ y,y∈L->W8 y) :
  Calls Tryz.prog 102 #[.slice a L.length c] w (RdO w (IE L)):=by
 have hb0:Below w.heap.size w (w.alloc (.cells (ZA zX none 0) 63)):=(Below.refl _ w).alloc (Nat.le_refl _) _;have hX0:Bx (w.alloc (.cells (ZA zX none 0) 63)) w.heap.size (ZA zX none 0) 63:=heap_alloc_last w _;have CF:=MO a c L (w.alloc (.cells (ZA zX none 0) 63)) (by omega) (ZP hs hb0) h8 hc;have Aa:Hid ((YO L).2.2=0->(∀ f,f∈(YO L).1->Vf f)/\2*(YO L).1.length<=100000):=Z9 fun h=>by
  rcases Ud (fun y hy=>h8 y hy) (by omega) with⟨-,q⟩ | ⟨P,e,hm,hP⟩
  ·exact absurd h q
  ·rw[e]; exact⟨hP,by have:=zZ P; rw[hm] at this; simp only; omega⟩
 have HR1:Hid ((YO L).2.2≠0->IE L=none):=Z9 fun h=>by unfold IE; rw[if_pos h]
 have HR2:Hid ((YO L).2.2=0->IE L=xJ (YO L).1):=Z9 fun h=>by unfold IE; rw[if_neg (by rw[h]; decide)]
 have ES:Hid (∀ V,Below w.heap.size w V->IE L=none->RdO w (IE L) (.returned (.tuple #[.agg (ZA zX none 0),ZY])) V):=Z9 fun V hb e=>⟨zX,false,none,0,rfl,by rw[e]; rfl,Yv.nil _ _,hb⟩;have nZ:Hid (∀ V t a2 c2,Below w.heap.size w V->IE L=some t->Yv V w.heap.size (.slice a2 t.tr.length c2) t.tr->RdO w (IE L) (.returned (.tuple #[.agg (ZA t a2 c2),ZW])) V):=Z9 fun V t a2 c2 hb e hr=>⟨t,true,a2,c2,rfl,by rw[e]; rfl,hr,hb⟩;generalize IE L=RR at *
 generalize YO L=FR at *
 go_enter Tryz.func102,Tryz.ntmps102;go_upto_region 1 with fail;change Code.wp _ _ _ _ (w.alloc (.cells (ZA zX none 0) 63));generalize w.alloc (.cells (ZA zX none 0) 63)=W at *
 obtain⟨g2,hg2⟩:=ZQ w.heap.size;have HB0:=Z9 hb0;have HG2:Hid (w.heap.size<=g2):=Z9 (by omega);rw[hg2] at hX0;rw[hg2];have XA:Hid (g2<W.heap.size):=Z9 hX0.lt;clear hb0 hg2 hs;refine wl<|ZV (.slice a L.length c) <|
  XI (fun v w'=>∃ a c ps,v=.tuple #[.slice a ps.length c,Z8 FR.2.1,Z8 FR.2.2]/\ps.map Prod.fst=FR.1/\ps.length<=c/\NH w' W.heap.size a ps/\U5 w' W.heap.size (.slice a ps.length c) ps/\Below W.heap.size W w') (CF.mono fun e w' q=>by obtain⟨v,ps,h1,h2,h3,h4⟩:=q; obtain⟨a,c,rfl,hc,hf⟩:=h3.fsb; exact⟨_,h1,a,c,ps,rfl,h2,hc,hf,h3,h4⟩) (fun v5 V5 hq=>?_)
 obtain⟨a5,c5,ps,rfl,hps,hc5,hF5,hR5,hb5⟩:=hq;refine Y0 (.tuple #[.slice a5 ps.length c5,Z8 FR.2.1,Z8 FR.2.2]) (.slice a5 ps.length c5) (Z8 FR.2.1) (Z8 FR.2.2) (.slice a5 ps.length c5) (Z8 FR.2.1)<|ZV (Z8 FR.2.2)<|wn ?_;simp only[pu];have Jh:=hX0.below hX0.lt hb5;have Q8:=Z9 (HB0.out.trans (hb5.mono HB0.out.size));have HW5:Hid (W.heap.size<=V5.heap.size):=Z9 hb5.size;obtain⟨P,n5,e5⟩:=FR;dsimp only at *
 clear hb5 hX0 HB0 CF hR5;go_upto_region 2 with fail;by_cases he:e5=0
 ·have hvf:=(Aa.out he).1;have hlen:=(Aa.out he).2;have HRR:=Z9 (HR2.out he);rw[<- hps] at hvf hlen HRR;have LP:Hid (2*ps.length<=100000):=Z9 (by rw[List.length_map] at hlen; exact hlen);clear Aa hps hlen HR1 HR2;refine wl<|ZV (Z8 e5)<|ZM (YL rfl e5 0 (decide_eq_true he))<|wn ?_;simp only[pu];unfold xJ at HRR;have HW:=HW5;have CT:=O8 a5 c5 ps W.heap.size 1 V5 hF5 hc5 hvf;have hv2:=Rn (k:=1) hvf;have htl:=xI 1 (ps.map Prod.fst);generalize XD 1 (ps.map Prod.fst)=TT at *
  obtain⟨s1,R1⟩:=TT;dsimp only at *
  clear hvf;go_upto_region 4 with fail;refine wl<|ZV (.slice a5 ps.length c5) <|
   XI (fun v w'=>∃ a c qs,v=.tuple #[.string s1,.slice a qs.length c]/\NH w' W.heap.size a qs/\qs.length<=c/\qs.map Prod.fst=R1/\Below V5.heap.size V5 w') (CT.mono fun e w' q=>by obtain⟨a,c,qs,h1,h2⟩:=q; exact⟨_,h1,a,c,qs,rfl,h2⟩) (fun v6 U0 hq=>?_)
  obtain⟨aq0,cq0,q0,rfl,Eb,hcq0,hq1,hb6⟩:=hq;have Ea:=Jh.below Jh.lt hb6;have X9:=Z9 (Q8.out.trans (hb6.mono Q8.out.size));obtain⟨W0,WZ,ai9,MQ,XO⟩:=Zl (i:=0) (ty:=9) (v:=.string s1) (cs':=ZA (⟨s1,0,0,0,WM,[]⟩:YV) none 0) Ea X9.out HG2.out (by show 0<6; decide) rfl (by kernel_rfl) rfl;have az5:=Eb.but XO XA.out;have aj0:=Z9 MQ;have aL8:Hid (W.heap.size<=W0.heap.size):=Z9 (Nat.le_trans (Nat.le_trans HW.out hb6.size) XO.1.size);refine U8 (.tuple #[.string s1,.slice aq0 q0.length cq0]) (.string s1) (.slice aq0 q0.length cq0) (Z5 g2 0)<|Zk rfl (WZ)<|ZV (.slice aq0 q0.length cq0)<|wn ?_;simp only[pu];rw[<- hq1] at hv2 HRR;have hvf:=hv2;rw[<- hq1,List.length_map,List.length_map] at htl;have Oj:Hid (2*q0.length<=100000):=Z9 (by have:=LP.out; omega);clear LP htl;have LP:=Oj;clear Oj;clear CT hv2 WZ hb6 Ea X9 MQ XO Eb hq1 Jh Q8 hF5 hc5 HW;have HW:=aL8;have CT:=UZ aq0 cq0 q0 W.heap.size 2 W0 az5 hcq0 hvf;have hv2:=Ql (k:=2) hvf;have htl:=Gt 2 (q0.map Prod.fst);generalize X0 2 (q0.map Prod.fst)=TT at *
  obtain⟨m2,R1⟩:=TT;dsimp only at *
  clear hvf;go_upto_region 5 with fail;refine wl<|ZV (.slice aq0 q0.length cq0) <|
   XI (fun v w'=>∃ a c qs,v=.tuple #[Z7 m2,.slice a qs.length c]/\NH w' W.heap.size a qs/\qs.length<=c/\qs.map Prod.fst=R1/\Below W0.heap.size W0 w') (CT.mono fun e w' q=>by obtain⟨a,c,qs,h1,h2⟩:=q; exact⟨_,h1,a,c,qs,rfl,h2⟩) (fun v6 U1 hq=>?_)
  obtain⟨aq1,cq1,q1,rfl,Eb,hcq1,hq1,hb6⟩:=hq;have Ea:=ai9.below ai9.lt hb6;have X9:=Z9 (aj0.out.trans (hb6.mono aj0.out.size));obtain⟨W1,WZ,aj1,MQ,XO⟩:=Zl (i:=1) (ty:=24) (v:=Z7 m2) (cs':=ZA (⟨s1,m2,0,0,WM,[]⟩:YV) none 0) Ea X9.out HG2.out (by show 1<6; decide) rfl (by kernel_rfl) rfl;have az6:=Eb.but XO XA.out;have aj2:=Z9 MQ;have aL9:Hid (W.heap.size<=W1.heap.size):=Z9 (Nat.le_trans (Nat.le_trans HW.out hb6.size) XO.1.size);refine U8 (.tuple #[Z7 m2,.slice aq1 q1.length cq1]) (Z7 m2) (.slice aq1 q1.length cq1) (Z5 g2 1)<|Zk rfl (WZ)<|ZV (.slice aq1 q1.length cq1)<|wn ?_;simp only[pu];rw[<- hq1] at hv2 HRR;have hvf:=hv2;rw[<- hq1,List.length_map,List.length_map] at htl;have Oj:Hid (2*q1.length<=100000):=Z9 (by have:=LP.out; omega);clear LP htl;have LP:=Oj;clear Oj;clear CT hv2 WZ hb6 Ea X9 MQ XO Eb hq1 ai9 aj0 az5 hcq0 HW;have HW:=aL9;have CT:=UZ aq1 cq1 q1 W.heap.size 3 W1 az6 hcq1 hvf;have hv2:=Ql (k:=3) hvf;have htl:=Gt 3 (q1.map Prod.fst);generalize X0 3 (q1.map Prod.fst)=TT at *
  obtain⟨m3,R1⟩:=TT;dsimp only at *
  clear hvf;go_upto_region 6 with fail;refine wl<|ZV (.slice aq1 q1.length cq1) <|
   XI (fun v w'=>∃ a c qs,v=.tuple #[Z7 m3,.slice a qs.length c]/\NH w' W.heap.size a qs/\qs.length<=c/\qs.map Prod.fst=R1/\Below W1.heap.size W1 w') (CT.mono fun e w' q=>by obtain⟨a,c,qs,h1,h2⟩:=q; exact⟨_,h1,a,c,qs,rfl,h2⟩) (fun v6 U2 hq=>?_)
  obtain⟨aq2,cq2,q2,rfl,Eb,az7,hq1,hb6⟩:=hq;have Ea:=aj1.below aj1.lt hb6;have X9:=Z9 (aj2.out.trans (hb6.mono aj2.out.size));obtain⟨W2,WZ,aj3,MQ,XO⟩:=Zl (i:=2) (ty:=24) (v:=Z7 m3) (cs':=ZA (⟨s1,m2,m3,0,WM,[]⟩:YV) none 0) Ea X9.out HG2.out (by show 2<6; decide) rfl (by kernel_rfl) rfl;have az8:=Eb.but XO XA.out;have aj6:=Z9 MQ;have aM0:Hid (W.heap.size<=W2.heap.size):=Z9 (Nat.le_trans (Nat.le_trans HW.out hb6.size) XO.1.size);refine U8 (.tuple #[Z7 m3,.slice aq2 q2.length cq2]) (Z7 m3) (.slice aq2 q2.length cq2) (Z5 g2 2)<|Zk rfl (WZ)<|ZV (.slice aq2 q2.length cq2)<|wn ?_;simp only[pu];rw[<- hq1] at hv2 HRR;have hvf:=hv2;rw[<- hq1,List.length_map,List.length_map] at htl;have Oj:Hid (2*q2.length<=100000):=Z9 (by have:=LP.out; omega);clear LP htl;have LP:=Oj;clear Oj;clear CT hv2 WZ hb6 Ea X9 MQ XO Eb hq1 aj1 aj2 az6 hcq1 HW;have HW:=aM0;have CT:=UZ aq2 cq2 q2 W.heap.size 4 W2 az8 az7 hvf;have hv2:=Ql (k:=4) hvf;have htl:=Gt 4 (q2.map Prod.fst);generalize X0 4 (q2.map Prod.fst)=TT at *
  obtain⟨m4,R1⟩:=TT;dsimp only at *
  clear hvf;go_upto_region 7 with fail;refine wl<|ZV (.slice aq2 q2.length cq2) <|
   XI (fun v w'=>∃ a c qs,v=.tuple #[Z7 m4,.slice a qs.length c]/\NH w' W.heap.size a qs/\qs.length<=c/\qs.map Prod.fst=R1/\Below W2.heap.size W2 w') (CT.mono fun e w' q=>by obtain⟨a,c,qs,h1,h2⟩:=q; exact⟨_,h1,a,c,qs,rfl,h2⟩) (fun v6 U3 hq=>?_)
  obtain⟨aq3,cq3,q3,rfl,Eb,az9,hq1,hb6⟩:=hq;have Ea:=aj3.below aj3.lt hb6;have X9:=Z9 (aj6.out.trans (hb6.mono aj6.out.size));obtain⟨W3,WZ,aj7,MQ,XO⟩:=Zl (i:=3) (ty:=24) (v:=Z7 m4) (cs':=ZA (⟨s1,m2,m3,m4,WM,[]⟩:YV) none 0) Ea X9.out HG2.out (by show 3<6; decide) rfl (by kernel_rfl) rfl;have aA0:=Eb.but XO XA.out;have aj8:=Z9 MQ;have aM1:Hid (W.heap.size<=W3.heap.size):=Z9 (Nat.le_trans (Nat.le_trans HW.out hb6.size) XO.1.size);refine U8 (.tuple #[Z7 m4,.slice aq3 q3.length cq3]) (Z7 m4) (.slice aq3 q3.length cq3) (Z5 g2 3)<|Zk rfl (WZ)<|ZV (.slice aq3 q3.length cq3)<|wn ?_;simp only[pu];rw[<- hq1] at hv2 HRR;have hvf:=hv2;rw[<- hq1,List.length_map,List.length_map] at htl;have Oj:Hid (2*q3.length<=100000):=Z9 (by have:=LP.out; omega);clear LP htl;have LP:=Oj;clear Oj;clear CT hv2 WZ hb6 Ea X9 MQ XO Eb hq1 aj3 aj6 az8 az7 HW;have HW:=aM1;have CT:=O8 aq3 cq3 q3 W.heap.size 5 W3 aA0 az9 hvf;have hv2:=Rn (k:=5) hvf;have htl:=xI 5 (q3.map Prod.fst);generalize XD 5 (q3.map Prod.fst)=TT at *
  obtain⟨s5,R1⟩:=TT;dsimp only at *
  clear hvf;go_upto_region 8 with fail;refine wl<|ZV (.slice aq3 q3.length cq3) <|
   XI (fun v w'=>∃ a c qs,v=.tuple #[.string s5,.slice a qs.length c]/\NH w' W.heap.size a qs/\qs.length<=c/\qs.map Prod.fst=R1/\Below W3.heap.size W3 w') (CT.mono fun e w' q=>by obtain⟨a,c,qs,h1,h2⟩:=q; exact⟨_,h1,a,c,qs,rfl,h2⟩) (fun v6 U4 hq=>?_)
  obtain⟨aq4,cq4,q4,rfl,Eb,aj9,hq1,hb6⟩:=hq;have Ea:=aj7.below aj7.lt hb6;have X9:=Z9 (aj8.out.trans (hb6.mono aj8.out.size));obtain⟨W4,WZ,ak0,MQ,XO⟩:=Zl (i:=4) (ty:=9) (v:=.string s5) (cs':=ZA (⟨s1,m2,m3,m4,s5,[]⟩:YV) none 0) Ea X9.out HG2.out (by show 4<6; decide) rfl (by kernel_rfl) rfl;have ak1:=Eb.but XO XA.out;have aA1:=Z9 MQ;have aM2:Hid (W.heap.size<=W4.heap.size):=Z9 (Nat.le_trans (Nat.le_trans HW.out hb6.size) XO.1.size);refine U8 (.tuple #[.string s5,.slice aq4 q4.length cq4]) (.string s5) (.slice aq4 q4.length cq4) (Z5 g2 4)<|Zk rfl (WZ)<|ZV (.slice aq4 q4.length cq4)<|wn ?_;simp only[pu];rw[<- hq1] at hv2 HRR;have hvf:=hv2;rw[<- hq1,List.length_map,List.length_map] at htl;have Oj:Hid (2*q4.length<=100000):=Z9 (by have:=LP.out; omega);clear LP htl;have LP:=Oj;clear Oj;clear CT hv2 WZ hb6 Ea X9 MQ XO Eb hq1 aj7 aj8 aA0 az9 HW;have HW:=aM2;go_upto_region 9 with fail;refine wl<|Yr (.slice aq4 q4.length cq4) (Z8 q4.length) (Z8 0)<|wn ?_;simp only[pu];obtain⟨n,hn⟩:=ZQ q4.length;have HN:=Z9 hn;have HF:=Z9 ak1;have HCQ:=Z9 aj9;have HVF:=Z9 hvf;have aA2:=Z9 (zW.zero (q4.map Prod.fst));have Yh:=Z9 ak0;have Ui:Hid (n<=100000):=Z9 (by have:=LP.out; omega);have HBC:=Z9 ak1.cap;have uV:Hid (g2<W4.heap.size):=Z9 ak0.lt;rw[hn] at aj9 ⊢;clear ak1 aj9 hvf ak0 hn HW;go_wp2_with fail;go_loopg [52] n (fun gg s52 wx=>∃ (j:Nat) (A:List Tf) (a6:Option Addr) (c6:Nat),s52=Z8 j/\j<=n/\Hid (A.length=j)/\Hid (Bx wx g2 (ZA ⟨s1,m2,m3,m4,s5,A⟩ a6 c6) 63)/\Hid (Yv wx W4.heap.size (.slice a6 A.length c6) A)/\Hid (zW (q4.map Prod.fst) j A)/\Hid (But g2 W4 wx)/\n-j=gg)
  case atStart=>exact⟨0,[],none,0,rfl,by omega,Z9 rfl,Yh,Z9 (Yv.nil _ _),aA2,Z9 (But.refl _ _),by omega⟩
  case round=>
   obtain⟨j,A,a6,c6,rfl,hj,AZ,Ap,Iy,HTJ,OM,hg⟩:=hrel;clear Yh aA2;by_cases hlt:j<n
   ·have HG:Hid (n-(j+1)=gk-1/\0<gk/\j+1<=n/\j+1<=100000):=Z9 ⟨by omega,by omega,by omega,by have:=Ui.out; omega⟩;have hjq:j<q4.length:=(by rw[HN.out]; exact hlt);have hFr:=HF.out.but OM.out XA.out;obtain⟨b,off,ba,bc,rfl,hp2,hsl,hbox⟩:=hFr.fs j q4[j] (List.getElem?_eq_getElem hjq);have Jm:=HVF.out q4[j].1 (by exact List.mem_map_of_mem (List.getElem_mem hjq));have hjm:j<(q4.map Prod.fst).length:=(by rw[List.length_map]; exact hjq);have hgx:(q4.map Prod.fst)[j]=q4[j].1:=List.getElem_map ..;have HST:=Z9 (fun x (hx:Ro q4[j].1=some x)=>HTJ.out.step hjm (by rw[hgx]; exact hx));have iY:=Z9 (fun(hx:Ro q4[j].1=none)=>HTJ.out.fail hjm (by rw[hgx]; exact hx));have hba:q4[j].1.bytes.length<=bc:=HBC.out q4[j] (List.getElem_mem hjq) ba q4[j].1.bytes.length bc hp2;generalize q4[j].1=x at *
    have hld:=Rx (SK hbox);obtain⟨V6,hst,hb6,hbx⟩:=Gw wr x ba bc;have CR:=Ko x ba bc V6 (ZP hsl hb6) hba Jm.2.2.2 Jm.2.2.1 (by rcases Jm.1.2.2 with q | q; exact .inl q.1; exact .inr q.1);have X9:=Z9 hb6;clear hFr hp2 hsl hbox Jm hjm hgx hba HTJ hb6 hg hjq;generalize Ro x=rx at *
    go_upto_region 10 with fail;refine wl<|ZM (Zr rfl (j) (n) dT)<|wn ?_;simp only[pu];go_upto_region 11 with fail;refine wl<|YI (Z5 b (off+j*4)) (Xu b off n cq4 j hlt _ _ _ rfl (by kernel_rfl) (by kernel_rfl))<|ZL rfl ⟨b,off+j*4,none⟩ (.agg (XR x ba bc)) (hld) ?_;refine Zy rfl (some 8) rfl (Z5 wr.heap.size 0) (wr.alloc (.cells (XR VT none 0) 77)) (by kernel_rfl) ?_;refine Zk rfl (hst)<|wn ?_;obtain⟨g8,L6⟩:=ZQ wr.heap.size;rw[L6] at hbx ⊢;clear hst L6 hld;go_upto_region 12 with fail;refine wl<|ZL rfl ⟨g8,0,none⟩ (.agg (XR x ba bc)) (Oi hbx) <|
     XI (fun v w'=>∃ y ok,v=.tuple #[.agg (Yy y),.bool ok]/\rx=(if ok=true then some y else none)/\Below V6.heap.size V6 w') (CR.mono fun e w' q=>by obtain⟨y,ok,h1,h2⟩:=q; exact⟨_,h1,y,ok,rfl,h2⟩) (fun v7 V7 hq=>?_)
    obtain⟨y,ok,rfl,hok,hb7⟩:=hq;obtain⟨V8,XQ,hb8,OE⟩:=Tt V7 y;refine Yr (.tuple #[.agg (Yy y),.bool ok]) (.agg (Yy y)) (.bool ok) ?_;refine Zy rfl (some 9) rfl (Z5 V7.heap.size 0) (V7.alloc (.cells (Yy Un) 60)) (by kernel_rfl) ?_;refine Zk rfl (XQ)<|ZV (.bool ok)<|wn ?_;simp only[pu];obtain⟨g9,oG⟩:=ZQ V7.heap.size;have Kq:=(X9.out.trans (hb7.mono X9.out.size)).trans (hb8.mono (Nat.le_trans X9.out.size hb7.size));have Wh:=Ap.out.below Ap.out.lt Kq;have aA3:=Z9 (Iy.out.below Kq);have En:=Z9 (OM.out.more (Kq.mono OM.out.1.size) (Nat.le_of_lt uV.out));rw[oG] at OE ⊢;clear XQ oG hb7 hb8 Kq hbx CR X9 Ap Iy OM;go_upto_region 13 with fail;cases ok
    ·refine wl<|ZB ZY ZW<|wn ?_;simp only[pu];have MP:Hid (RR=none):=Z9 (by rw[HRR.out,iY.out hok]; rfl);have Qr:=Z9 (aA1.out.trans (En.out.1.mono (Nat.le_trans HG2.out (Nat.le_refl _))));obtain⟨hst,hZ⟩:=Zm (y:=zX) (a':=none) (c':=0) Wh;have Zg:=Z9 (ZU Qr.out HG2.out (ZA zX none 0));have HE:=Z9 (ES.out _ Zg.out (MP.out));generalize World.setRow _ g2 (ZA zX none 0)=V9 at *
     clear ES nZ HRR HST iY hok MP;go_upto_region 14 with fail;refine wl<|ZV (.agg #[.string ⟨#[]⟩,Z7 0,Z7 0,Z7 0,.string ⟨#[]⟩,.slice none 0 0])<|Zk rfl (hst)<|ZV ZY<|wn ?_;simp only[pu];go_wp2_with fail;exact bodyPost_ret (ZN (p:=2) (q:=3) rfl (by kernel_rfl) (ZH hZ) rfl) rfl HE.out
    ·refine wl<|ZB ZW ZY<|wn ?_;simp only[pu];have aM3:=Z9 (HST.out y hok);obtain⟨a7,c7,V9,hap,OQ,XG⟩:=Lp aA3.out En.out.1.size y (by have:=AZ.out; have:=HG.out; omega);have SI:Bx V9 g2 (ZA ⟨s1,m2,m3,m4,s5,A⟩ a6 c6) 63:=Wh.below uV.out XG;obtain⟨V10,Ef,ou,-,QJ⟩:=Zl (i:=5) (ty:=61) (v:=.slice a7 (A++[y]).length c7) (cs':=ZA ⟨s1,m2,m3,m4,s5,A++[y]⟩ a7 c7) (w0:=V9) (B:=g2) SI (Below.refl _ _) (Nat.le_refl _) (by show 5<6; decide) rfl (by kernel_rfl) rfl;have Oh:=Z9 ou;have aM4:=Z9 (OQ.but QJ uV.out);have aA4:=Z9 ((En.out.more XG (Nat.le_of_lt uV.out)).trans QJ);have aM5:Hid ((A++[y]).length=j+1):=Z9 (by rw[List.length_append,AZ.out]; rfl);clear HST iY hok aA3 En OQ XG SI ou QJ;go_upto_region 15 with fail;refine wl<|ZV (Z5 g2 5)<|ZL rfl ⟨g2,5,none⟩ (.slice a6 A.length c6) (Wh.ZR 5)<|ZL rfl ⟨g9,0,none⟩ (.agg (Yy y)) (YH OE) ?_;refine Zv (by kernel_rfl) (some 67) rfl 61 1 #[(0,.tmp 66)] rfl #[(0,.agg (Yy y))] (by kernel_rfl) (.slice (some ⟨V8.heap.size,0,none⟩) 1 1) _ (QY y V8) ?_;refine Zh rfl (some 68) rfl 61 rfl (.tmp 65) (.tmp 67) 61 rfl (.slice a6 A.length c6) (.slice (some ⟨V8.heap.size,0,none⟩) 1 1) (.slice a7 (A++[y]).length c7) V9 (by kernel_rfl) (by kernel_rfl) hap ?_;refine ZV (Z5 g2 5)<|Zk rfl (Ef)<|wn ?_;simp only[pu];clear hap Ef Wh OE;go_upto_region 16 with fail;refine wl<|YI (Z8 (j+1:Nat)) (add_one rfl j (by have:=HG.out; omega) (by kernel_rfl) _)<|ZV (Z8 (j+1:Nat))<|wn ?_;simp only[pu];go_wp2_with fail;go_roundg (gk-1)
     case measure=>have:=HG.out; omega
     case rel=>exact⟨j+1,A++[y],a7,c7,rfl,HG.out.2.2.1,aM5,Oh,aM4,aM3,aA4,HG.out.1⟩
   ·have EW:Hid (RR=some ⟨s1,m2,m3,m4,s5,A⟩):=Z9 (by rw[HRR.out,HTJ.out.done (by rw[List.length_map,HN.out]; omega)]; rfl);obtain⟨hst,hZ⟩:=Zm (y:=⟨s1,m2,m3,m4,s5,A⟩) (a':=a6) (c':=c6) Ap.out;have YD:=Z9 (ZH Ap.out);have Qr:=Z9 (aA1.out.trans (OM.out.1.mono HG2.out));have Zg:=Z9 (ZU Qr.out HG2.out (ZA ⟨s1,m2,m3,m4,s5,A⟩ a6 c6));have HRW:=Z9 ((WS (g:=g2) Iy.out (ZA ⟨s1,m2,m3,m4,s5,A⟩ a6 c6) uV.out).base (B:=w.heap.size) (Nat.le_trans HG2.out (Nat.le_of_lt uV.out)));have HE:=Z9 (nZ.out _ _ a6 c6 Zg.out EW.out HRW.out);generalize World.setRow _ g2 (ZA ⟨s1,m2,m3,m4,s5,A⟩ a6 c6)=V9 at *
    clear ES nZ HRR HTJ EW Qr Zg HRW Ap Iy OM hg;go_upto_region 10 with fail;refine wl<|ZM (Zr rfl (j) (n) dF)<|wn ?_;simp only[pu];go_upto_region 17 with fail;refine wl<|ZL rfl ⟨g2,0,none⟩ (.agg (ZA ⟨s1,m2,m3,m4,s5,A⟩ a6 c6)) (YD.out)<|Zk rfl (hst)<|ZV ZW<|wn ?_;simp only[pu];go_wp2_with fail;exact bodyPost_ret (ZN (p:=2) (q:=3) rfl (by kernel_rfl) (ZH hZ) rfl) rfl HE.out
 ·refine wl<|ZV (Z8 e5)<|ZM (YL rfl e5 0 (decide_eq_false he))<|wn ?_;simp only[pu];obtain⟨hst,hZ⟩:=Zm (y:=zX) (a':=none) (c':=0) Jh;have Zg:=Z9 (ZU Q8.out HG2.out (ZA zX none 0));have HE:=Z9 (ES.out _ Zg.out (HR1.out he));generalize World.setRow _ g2 (ZA zX none 0)=V9 at *
  clear ES nZ HR1 HR2 Aa;go_upto_region 3 with fail;refine wl<|ZV (.agg #[.string ⟨#[]⟩,Z7 0,Z7 0,Z7 0,.string ⟨#[]⟩,.slice none 0 0])<|Zk rfl (hst)<|ZV ZY<|wn ?_;simp only[pu];go_wp2_with fail;exact bodyPost_ret (ZN (p:=2) (q:=3) rfl (by kernel_rfl) (ZH hZ) rfl) rfl HE.out
theorem Kt (a1:Option Addr)(c1:Nat)(L:List Int)(a2:Option Addr)(c2:Nat)(M:List Int)(w:World)(h1:Sl w a1 c1 L)(h2:Sl w a2 c2 M)(hL:∀ x,x∈L->W8 x)(hM:∀ x,x∈M->W8 x) :
  Calls Tryz.prog 76 #[.slice a1 L.length c1,.slice a2 M.length c2] w fun e w'=>e=.returned (.bool (decide (L=M)))/\w=w':=by
 have HE:Hid ((strOfNums L == strOfNums M)=decide (L=M)):=Z9 (by rw[Ee,QI L hL,QI M hM]);generalize decide (L=M)=tb at *
 go_enter Tryz.func76,Tryz.ntmps76;go_upto_region 1 with fail;refine wl<|ZV (.slice a1 L.length c1)<|YI (.string (strOfNums L)) (Nr rfl h1 (by kernel_rfl))<|ZV (.slice a2 M.length c2)<|YI (.string (strOfNums M)) (Nr rfl h2 (by kernel_rfl)) <|
  Yn (.bool tb) (Uf rfl (strOfNums L) (strOfNums M) HE.out)<|ZV (.bool tb)<|wn ?_
 simp only[pu];go_wp2_with fail;go_ret;exact⟨rfl,rfl⟩
def Je (P:List Zj)(j:Nat)(x:Tf):Prop:=Vs (WM,0) P=Vs x (P.drop j)
theorem Je.zero (P:List Zj):Je P 0 (WM,0):=by unfold Je; rw[List.drop_zero]
theorem Je.to {P:List Zj}{j:Nat}{x:Tf}(h:Je P j x)(hj:j<P.length)(hc:P[j].num=1/\P[j].kind=2):Je P (j+1) (strOfNums P[j].bytes,x.2):=by
 unfold Je at *
 rw[h,List.drop_eq_getElem_cons hj,Vs,if_pos hc]
theorem Je.am {P:List Zj}{j:Nat}{x:Tf}(h:Je P j x)(hj:j<P.length)(hc:P[j].num=2/\P[j].kind=0):Je P (j+1) (x.1,P[j].val):=by
 unfold Je at *
 rw[h,List.drop_eq_getElem_cons hj,Vs,if_neg (by omega),if_pos hc]
theorem Je.no {P:List Zj}{j:Nat}{x:Tf}(h:Je P j x)(hj:j<P.length)(h1:¬ (P[j].num=1/\P[j].kind=2))(h2:¬ (P[j].num=2/\P[j].kind=0)):Vs (WM,0) P=none:=by
 unfold Je at *
 rw[h,List.drop_eq_getElem_cons hj,Vs,if_neg h1,if_neg h2]
theorem Je.done {P:List Zj}{j:Nat}{x:Tf}(h:Je P j x)(hj:P.length<=j):Vs (WM,0) P=some x:=by
 unfold Je at *
 rw[h,List.drop_eq_nil_of_le hj,Vs]
theorem Ej {P:List Zj}{f:Zj}(h:f∈P):f.bytes.length<=(msg P).length:=by
 induction P with
 | nil=>cases h
 | cons x r ih=>
  rw[WX,List.length_append];rcases List.mem_cons.1 h with rfl | h
  ·have:=Vr f.num f.kind f.val f.bytes;have e:(encI f.num f.kind f.val f.bytes)=Yq f:=rfl;rw[e] at this;omega
  ·have:=ih h; omega
structure KR (W:World)(g2 g7:Nat)(x:Tf)(b6 b9 b10 b14:Bool)(x55 x58 x59:Value)(V:World):Prop where
 o9:b9=true->b6=true
 o10:b10=true->b9=true
 but:But g2 W V
 bx:Bx V g7 (Yy x) 60
 bz:b14=false->Bx V g2 (Yy Un) 60
 bd:b14=true->Bx V g2 (Yy x) 60
 r55:b6=true->b9=false->∃ qs,Yg V W.heap.size x55 qs/\qs.map Prod.fst=tF 1 x.1
 r58:b9=true->b10=false->∃ qs,Yg V W.heap.size x58 qs/\qs.map Prod.fst=Um x
 r59:b10=true->Own V W.heap.size x59 (msg (Um x))
section
variable {W : World} {g2 g7 : Nat} {x : Tf} {b6 b9 b10 b14 : Bool} {x55 x58 x59 : Value} {V : World}
theorem KR.lt (h:KR W g2 g7 x b6 b9 b10 b14 x55 x58 x59 V):W.heap.size<=V.heap.size:=h.but.1.size
theorem KR.s6 (h:KR W g2 g7 x false b9 b10 b14 x55 x58 x59 V)(hg:g2<W.heap.size)(P6:g7<W.heap.size){v:Value}{V2:World}{qs:List (Zj×Value)}(hr:Yg V2 W.heap.size v qs)(hq:qs.map Prod.fst=tF 1 x.1)(hb:Below W.heap.size V V2):KR W g2 g7 x true b9 b10 b14 v x58 x59 V2:=by
 have h9:=ff h.o9 rfl;have h10:=ff h.o10 h9;subst h9 h10;exact⟨fun _=>rfl,h.o10,h.but.more hb (Nat.le_of_lt hg),h.bx.below P6 hb,fun e=>(h.bz e).below hg hb,fun e=>(h.bd e).below hg hb,fun _ _=>⟨qs,hr,hq⟩,(fun e=>nomatch e),(fun e=>nomatch e)⟩
theorem KR.s9 (h:KR W g2 g7 x true false b10 b14 x55 x58 x59 V)(hg:g2<W.heap.size)(P6:g7<W.heap.size){v:Value}{V2:World}{qs:List (Zj×Value)}(hr:Yg V2 W.heap.size v qs)(hq:qs.map Prod.fst=Um x)(hb:Below W.heap.size V V2):KR W g2 g7 x true true b10 b14 x55 v x59 V2:=by
 have h10:=ff h.o10 rfl;subst h10;exact⟨fun _=>rfl,fun _=>rfl,h.but.more hb (Nat.le_of_lt hg),h.bx.below P6 hb,fun e=>(h.bz e).below hg hb,fun e=>(h.bd e).below hg hb,(fun _ e=>nomatch e),fun _ _=>⟨qs,hr,hq⟩,(fun e=>nomatch e)⟩
theorem KR.s10 (h:KR W g2 g7 x b6 true false b14 x55 x58 x59 V)(hg:g2<W.heap.size)(P6:g7<W.heap.size){v:Value}{V2:World}(hr:Own V2 W.heap.size v (msg (Um x)))(hb:Below V.heap.size V V2):KR W g2 g7 x b6 true true b14 x55 x58 v V2:=by
 have hb':=hb.mono h.lt;exact⟨h.o9,fun _=>rfl,h.but.more hb' (Nat.le_of_lt hg),h.bx.below P6 hb',fun e=>(h.bz e).below hg hb',fun e=>(h.bd e).below hg hb',(fun _ e=>nomatch e),(fun _ e=>nomatch e),fun _=>hr⟩
theorem KR.s14 (h:KR W g2 g7 x b6 b9 b10 false x55 x58 x59 V)(hg:g2<W.heap.size)(hne:g7≠g2):(Instr.storeAt 60 (Z5 g2 0) (.agg (Yy x))).run Tryz.prog V=.ok () (V.setRow g2 (Yy x))/\KR W g2 g7 x b6 b9 b10 true x55 x58 x59 (V.setRow g2 (Yy x)):=by
 obtain⟨hst,hZ⟩:=Wp (y:=x) (h.bz rfl);have hbt:But g2 V (V.setRow g2 (Yy x)):=But.setRow V _;exact⟨hst,h.o9,h.o10,h.but.trans hbt,h.bx.but hbt hne,(fun e=>nomatch e),fun _=>hZ,fun e1 e2=>by obtain⟨qs,q1,q2⟩:=h.r55 e1 e2; exact⟨qs,q1.but hbt hg,q2⟩,fun e1 e2=>by obtain⟨qs,q1,q2⟩:=h.r58 e1 e2; exact⟨qs,q1.but hbt hg,q2⟩,fun e1=>Zo (h.r59 e1) hbt hg⟩
end
theorem az2 {w:World}{a:Option Addr}{c:Nat}{L:List Int}(h:Sl w a c L)(hne:L≠[])(x:Addr)(hx:a=some x):x.block<w.heap.size:=by
 obtain⟨b,off,e,hb,-⟩:=Oq h (k:=0) (List.length_pos_iff.2 hne);rw[hx] at e;cases e;exact hb
theorem uX {b:List Int}(h:Vs (WM,0) (YO b).1=none):Eh b=none:=by unfold Eh; rw[h]
theorem oq {b:List Int}{x:Tf}(h:Vs (WM,0) (YO b).1=some x):Eh b=if (YO b).2.2=0/\msg (Um x)=b then some x else none:=by unfold Eh; rw[h]
theorem Gv (a:Option Addr)(c:Nat)(L:List Int)(w:World)(hs:Sl w a c L)(hc:L.length<=c)(hl:L.length<=100000)(h8:∀ y,y∈L->W8 y) :
  Calls Tryz.prog 114 #[.slice a L.length c] w (TfO w (Eh L)):=by
 have hb0:Below w.heap.size w (w.alloc (.cells (Yy Un) 60)):=(Below.refl _ w).alloc (Nat.le_refl _) _;have hX0:Bx (w.alloc (.cells (Yy Un) 60)) w.heap.size (Yy Un) 60:=heap_alloc_last w _;have CF:=Ku a c L (w.alloc (.cells (Yy Un) 60)) (by omega) (ZP hs hb0) h8 hc;have Aa:Hid ((∀ f,f∈(YO L).1->Vf f)/\(YO L).1.length<=100000/\(∀ f,f∈(YO L).1->f.bytes.length<=100000)/\((YO L).2.2≠0->(YO L).1=[])):=Z9 (by
  rcases Ud (fun y hy=>h8 y hy) (by omega) with⟨e,q⟩ | ⟨P,e,hm,hP⟩
  ·rw[e]; exact⟨(fun f h=>nomatch h),by simp,(fun f h=>nomatch h),fun _=>rfl⟩
  ·rw[e]; exact⟨hP,by have:=zZ P; rw[hm] at this; simp only; omega,fun f hf=>by have:=Ej hf; rw[hm] at this; omega,fun h=>absurd rfl h⟩)
 have HR1:Hid (Vs (WM,0) (YO L).1=none->Eh L=none):=Z9 uX;have HR2:=Z9 (fun x h=>@oq L x h);have UL:Hid (∀ V y ok,Below w.heap.size w V->Eh L=(if ok=true then some y else none)->TfO w (Eh L) (.returned (.tuple #[.agg (Yy y),.bool ok])) V):=Z9 fun V y ok hb e=>⟨y,ok,rfl,e,hb⟩;have H8:=Z9 h8;have fH:=Z9 (az2 hs);generalize Eh L=RR at *
 generalize YO L=FR at *
 go_enter Tryz.func114,Tryz.ntmps114;go_upto_region 1 with fail;change Code.wp _ _ _ _ (w.alloc (.cells (Yy Un) 60));generalize w.alloc (.cells (Yy Un) 60)=W at *
 obtain⟨g2,hg2⟩:=ZQ w.heap.size;have hsW:=ZP hs hb0;have HB0:=Z9 hb0;have HG2:Hid (w.heap.size<=g2):=Z9 (by omega);rw[hg2] at hX0;rw[hg2];clear hb0 hg2 hs h8;refine wl<|ZV (.slice a L.length c) <|
  XI (fun v w'=>∃ a c ps,v=.tuple #[.slice a ps.length c,Z8 FR.2.1,Z8 FR.2.2]/\ps.map Prod.fst=FR.1/\ps.length<=c/\NH w' W.heap.size a ps/\Below W.heap.size W w') (CF.mono fun e w' q=>by obtain⟨v,ps,h1,h2,h3,h4⟩:=q; obtain⟨a,c,rfl,hc,hf⟩:=h3.fsb; exact⟨_,h1,a,c,ps,rfl,h2,hc,hf,h4⟩) (fun v5 V5 hq=>?_)
 obtain⟨a5,c5,ps,rfl,hps,hc5,hF5,hb5⟩:=hq;refine Y0 (.tuple #[.slice a5 ps.length c5,Z8 FR.2.1,Z8 FR.2.2]) (.slice a5 ps.length c5) (Z8 FR.2.1) (Z8 FR.2.2) (.slice a5 ps.length c5) (Z8 FR.2.1)<|ZV (Z8 FR.2.2)<|wn ?_;simp only[pu];have Jh:=hX0.below hX0.lt hb5;have Q8:=Z9 (HB0.out.trans (hb5.mono HB0.out.size));have az3:=ZP hsW hb5;have HWL:Hid (W.heap.size<=V5.heap.size):=Z9 hb5.size;obtain⟨P,n5,e5⟩:=FR;dsimp only at *
 subst hps;clear hb5 hX0 HB0 CF hsW;go_upto_region 2 with fail;apply wp_region_lit;refine Zy rfl (some 7) rfl (Z5 V5.heap.size 0) (V5.alloc (.cells (Yy Un) 60)) (by kernel_rfl) ?_;simp only[pu];apply wpList_nil;have hb6:Below V5.heap.size V5 (V5.alloc (.cells (Yy Un) 60)):=(Below.refl _ V5).alloc (Nat.le_refl _) _;have P5:Bx (V5.alloc (.cells (Yy Un) 60)) V5.heap.size (Yy Un) 60:=heap_alloc_last V5 _;generalize V5.alloc (.cells (Yy Un) 60)=V6 at *
 obtain⟨g7,P6⟩:=ZQ V5.heap.size;rw[P6] at P5 ⊢;have HG7:Hid (V5.heap.size<=g7):=Z9 (by omega);have HGL:Hid (g2<V5.heap.size):=Z9 Jh.lt;have RU:=Z9 Jh;have HF5:=Z9 hF5;have AL:=Z9 az3;have X9:=Z9 hb6;have PE:=Z9 P5;have rH:=Z9 (Je.zero (ps.map Prod.fst));have HWV:Hid (w.heap.size<=V5.heap.size):=Z9 Q8.out.size;obtain⟨n,hn⟩:=ZQ ps.length;have HN:=Z9 hn;have Ui:Hid (n<=100000):=Z9 (by have:=Aa.out.2.1; rw[List.length_map] at this; omega);rw[hn];clear hb6 P5 Jh hF5 az3 P6 hn;go_upto_region 3 with fail;refine wl<|Yr (.slice a5 n c5) (Z8 n) (Z8 0)<|wn ?_;simp only[pu];go_wp2_with fail;go_loopg [18] n (fun gg s18 wx=>∃ (j:Nat) (x:Tf),s18=Z8 j/\j<=n/\Hid (Bx wx g7 (Yy x) 60)/\Hid (Je (ps.map Prod.fst) j x)/\Hid (x.1.size<=100000/\W64 x.2)/\Hid (Below V5.heap.size V5 wx)/\n-j=gg)
 case atStart=>exact⟨0,(WM,0),rfl,by omega,PE,rH,Z9 ⟨by decide,Xd⟩,X9,by omega⟩
 case round=>
  obtain⟨j,x,rfl,hj,Ap,HJ,HXB,HB,hg⟩:=hrel;clear PE rH X9;by_cases hlt:j<n
  ·have HG:Hid (n-(j+1)=gk-1/\0<gk/\j+1<=n/\j+1<=100000):=Z9 ⟨by omega,by omega,by omega,by have:=Ui.out; omega⟩;have hjq:j<ps.length:=(by rw[HN.out]; exact hlt);obtain⟨b,off,ba,bc,rfl,hp2,hsl,hbox⟩:=(HF5.out.below HB.out).fs j ps[j] (List.getElem?_eq_getElem hjq);have Jm:=Aa.out.1 ps[j].1 (by exact List.mem_map_of_mem (List.getElem_mem hjq));have hbl:=Aa.out.2.2.1 ps[j].1 (by exact List.mem_map_of_mem (List.getElem_mem hjq));have hjm:j<(ps.map Prod.fst).length:=(by rw[List.length_map]; exact hjq);have hgx:(ps.map Prod.fst)[j]=ps[j].1:=List.getElem_map ..;have Vl:Hid (ps[j].1.num=1/\ps[j].1.kind=2->Je (ps.map Prod.fst) (j+1) (strOfNums ps[j].1.bytes,x.2)):=Z9 fun hc=>(by rw[<- hgx] at hc ⊢; exact HJ.out.to hjm hc);have HS2:Hid (ps[j].1.num=2/\ps[j].1.kind=0->Je (ps.map Prod.fst) (j+1) (x.1,ps[j].1.val)):=Z9 fun hc=>(by rw[<- hgx] at hc ⊢; exact HJ.out.am hjm hc);have vH:Hid (¬ (ps[j].1.num=1/\ps[j].1.kind=2)->¬ (ps[j].1.num=2/\ps[j].1.kind=0)->RR=none):=Z9 fun h1 h2=>HR1.out (by rw[<- hgx] at h1 h2; exact HJ.out.no hjm h1 h2);have HSZ:Hid ((strOfNums ps[j].1.bytes).size<=100000/\W64 ps[j].1.val):=Z9 ⟨by rw[Ed _ Jm.2.2.1]; exact hbl,Jm.2.1⟩;generalize ps[j].1=y at *
   have hld:=Rx (SK hbox);obtain⟨V6,hst,hb6,hbx⟩:=Gw wr y ba bc;have P5:=Ap.out.below Ap.out.lt hb6;have TG:=Z9 (HB.out.trans (hb6.mono HB.out.size));have hs6:=ZP hsl hb6;clear hp2 hsl hbox Jm hjm hgx HJ hb6 hg hjq Ap HB hbl;go_upto_region 4 with fail;refine wl<|ZM (Zr rfl (j) (n) dT)<|wn ?_;simp only[pu];go_upto_region 5 with fail;refine wl<|YI (Z5 b (off+j*4)) (Xu b off n c5 j hlt _ _ _ rfl (by kernel_rfl) (by kernel_rfl))<|ZL rfl ⟨b,off+j*4,none⟩ (.agg (XR y ba bc)) (hld) ?_;refine Zy rfl (some 9) rfl (Z5 wr.heap.size 0) (wr.alloc (.cells (XR VT none 0) 77)) (by kernel_rfl) ?_;refine Zk rfl (hst)<|wn ?_;obtain⟨g9,oG⟩:=ZQ wr.heap.size;rw[oG] at hbx ⊢;clear hst oG hld;rcases (show(y.num=1/\y.kind=2)∨(y.num=2/\y.kind=0)∨(¬ (y.num=1/\y.kind=2)/\¬ (y.num=2/\y.kind=0)) by omega) with hcs | hcs | hcs
   ·have oI:=Z9 (Vl.out hcs);have ai7:Hid ((strOfNums y.bytes).size<=100000/\W64 x.2):=Z9 ⟨HSZ.out.1,HXB.out.2⟩;go_upto_region 7 with fail;refine wl<|ZV (Z5 g9 0)<|ZL rfl ⟨g9,0,none⟩ (Z8 y.num) (hbx.ZR 0)<|ZM (ZI rfl (y.num) (1) (decide_eq_true (hcs.1))) <|
     ZB ZW (Z5 g9 1)<|ZL rfl ⟨g9,1,none⟩ (Z8 y.kind) (hbx.ZR 1)<|ZM (ZI rfl (y.kind) (2) (decide_eq_true (hcs.2)))<|ZB ZW ZW<|wn ?_
    simp only[pu];obtain⟨V8,XQ,Wh,hb8,-⟩:=Zl (i:=0) (ty:=9) (v:=.string (strOfNums y.bytes)) (cs':=Yy (strOfNums y.bytes,x.2)) P5 TG.out HG7.out (by show 0<2; decide) rfl (by kernel_rfl) rfl;have Ul:=Z9 Wh;have Qr:=Z9 hb8;go_upto_region 8 with fail;refine wl<|ZV (Z5 g9 3)<|ZL rfl ⟨g9,3,none⟩ (.slice ba y.bytes.length bc) (hbx.ZR 3)<|YI (.string (strOfNums y.bytes)) (Nr rfl hs6 (by kernel_rfl))<|ZV (Z5 g7 0)<|Zk rfl (XQ) <|
     wpList_nil ?_
    simp only[pu];clear XQ Wh hb8 hbx P5 TG hs6 Vl HS2 vH HSZ HXB;go_upto_region 11 with fail;refine wl<|YI (Z8 (j+1:Nat)) (add_one rfl j (by have:=HG.out; omega) (by kernel_rfl) _)<|ZV (Z8 (j+1:Nat))<|wn ?_;simp only[pu];go_wp2_with fail;go_roundg (gk-1)
    case measure=>have:=HG.out; omega
    case rel=>exact⟨j+1,(strOfNums y.bytes,x.2),rfl,HG.out.2.2.1,Ul,oI,ai7,Qr,HG.out.1⟩
   ·have oI:=Z9 (HS2.out hcs);have ai7:Hid (x.1.size<=100000/\W64 y.val):=Z9 ⟨HXB.out.1,HSZ.out.2⟩;go_upto_region 7 with fail;refine wl<|ZV (Z5 g9 0)<|ZL rfl ⟨g9,0,none⟩ (Z8 y.num) (hbx.ZR 0)<|ZM (ZI rfl (y.num) (1) dF) <|
     Y0 ZY undef undef undef ZY ZY<|wn ?_
    simp only[pu];go_upto_region 9 with fail;refine wl<|ZV (Z5 g9 0)<|ZL rfl ⟨g9,0,none⟩ (Z8 y.num) (hbx.ZR 0)<|ZM (ZI rfl (y.num) (2) (decide_eq_true (hcs.1))) <|
     ZB ZW (Z5 g9 1)<|ZL rfl ⟨g9,1,none⟩ (Z8 y.kind) (hbx.ZR 1)<|ZM (ZI rfl (y.kind) (0) (decide_eq_true (hcs.2)))<|ZB ZW ZW<|wn ?_
    simp only[pu];obtain⟨V8,XQ,Wh,hb8,-⟩:=Zl (i:=1) (ty:=24) (v:=Z7 y.val) (cs':=Yy (x.1,y.val)) P5 TG.out HG7.out (by show 1<2; decide) rfl (by kernel_rfl) rfl;have Ul:=Z9 Wh;have Qr:=Z9 hb8;go_upto_region 10 with fail;refine wl<|ZV (Z5 g9 2)<|ZL rfl ⟨g9,2,none⟩ (Z7 y.val) (hbx.ZR 2)<|ZV (Z5 g7 1)<|Zk rfl (XQ)<|wn ?_;simp only[pu];clear XQ Wh hb8 hbx P5 TG hs6 Vl HS2 vH HSZ HXB;go_upto_region 11 with fail;refine wl<|YI (Z8 (j+1:Nat)) (add_one rfl j (by have:=HG.out; omega) (by kernel_rfl) _)<|ZV (Z8 (j+1:Nat))<|wn ?_;simp only[pu];go_wp2_with fail;go_roundg (gk-1)
    case measure=>have:=HG.out; omega
    case rel=>exact⟨j+1,(x.1,y.val),rfl,HG.out.2.2.1,Ul,oI,ai7,Qr,HG.out.1⟩
   ·have MP:=Z9 (vH.out hcs.1 hcs.2);have hX2:=RU.out.below HGL.out TG.out;obtain⟨hst,hZ⟩:=Wp (y:=x) hX2;have Zg:=Z9 (ZU (Q8.out.trans (TG.out.mono HWV.out)) HG2.out (Yy x));have HE:=Z9 (UL.out _ x false Zg.out MP.out);generalize World.setRow _ g2 (Yy x)=V9 at *
    clear UL Vl HS2 vH HSZ HXB TG hs6 MP Zg hX2;go_upto_region 7 with fail;by_cases h1:y.num=1
    ·refine wl<|ZV (Z5 g9 0)<|ZL rfl ⟨g9,0,none⟩ (Z8 y.num) (hbx.ZR 0)<|ZM (ZI rfl (y.num) (1) (decide_eq_true (h1))) <|
      ZB ZW (Z5 g9 1)<|ZL rfl ⟨g9,1,none⟩ (Z8 y.kind) (hbx.ZR 1)<|ZM (ZI rfl (y.kind) (2) dF)<|ZB ZY ZY <|
      wpList_nil ?_
     simp only[pu];go_upto_region 9 with fail;refine wl<|ZV (Z5 g9 0)<|ZL rfl ⟨g9,0,none⟩ (Z8 y.num) (hbx.ZR 0)<|ZM (ZI rfl (y.num) (2) dF) <|
      Y0 ZY undef undef undef ZY ZY<|wn ?_
     simp only[pu];go_upto_region 6 with fail;refine wl<|ZL rfl ⟨g7,0,none⟩ (.agg (Yy x)) (YH P5)<|Zk rfl (hst)<|ZV ZY<|wn ?_;simp only[pu];go_wp2_with fail;exact bodyPost_ret (ZN (p:=2) (q:=3) rfl (by kernel_rfl) (YH hZ) rfl) rfl HE.out
    ·refine wl<|ZV (Z5 g9 0)<|ZL rfl ⟨g9,0,none⟩ (Z8 y.num) (hbx.ZR 0)<|ZM (ZI rfl (y.num) (1) dF) <|
      Y0 ZY undef undef undef ZY ZY<|wn ?_
     simp only[pu];go_upto_region 9 with fail;by_cases h2:y.num=2
     ·refine wl<|ZV (Z5 g9 0)<|ZL rfl ⟨g9,0,none⟩ (Z8 y.num) (hbx.ZR 0)<|ZM (ZI rfl (y.num) (2) (decide_eq_true (h2))) <|
       ZB ZW (Z5 g9 1)<|ZL rfl ⟨g9,1,none⟩ (Z8 y.kind) (hbx.ZR 1)<|ZM (ZI rfl (y.kind) (0) dF)<|ZB ZY ZY <|
       wpList_nil ?_
      simp only[pu];go_upto_region 6 with fail;refine wl<|ZL rfl ⟨g7,0,none⟩ (.agg (Yy x)) (YH P5)<|Zk rfl (hst)<|ZV ZY<|wn ?_;simp only[pu];go_wp2_with fail;exact bodyPost_ret (ZN (p:=2) (q:=3) rfl (by kernel_rfl) (YH hZ) rfl) rfl HE.out
     ·refine wl<|ZV (Z5 g9 0)<|ZL rfl ⟨g9,0,none⟩ (Z8 y.num) (hbx.ZR 0)<|ZM (ZI rfl (y.num) (2) dF) <|
       Y0 ZY undef undef undef ZY ZY<|wn ?_
      simp only[pu];go_upto_region 6 with fail;refine wl<|ZL rfl ⟨g7,0,none⟩ (.agg (Yy x)) (YH P5)<|Zk rfl (hst)<|ZV ZY<|wn ?_;simp only[pu];go_wp2_with fail;exact bodyPost_ret (ZN (p:=2) (q:=3) rfl (by kernel_rfl) (YH hZ) rfl) rfl HE.out
  ·have EW:=Z9 (HR2.out x (HJ.out.done (by rw[List.length_map,HN.out]; omega)));have hX2:=RU.out.below HGL.out HB.out;have P5:=Ap.out;have hs9:=ZP AL.out HB.out;have oh:=hX2.lt;have ai8:=P5.lt;have hne:g7≠g2:=(by have:=HG7.out; have:=HGL.out; omega);have Zg:=Z9 (Q8.out.trans (HB.out.mono HWV.out));have HWR:Hid (W.heap.size<=wr.heap.size):=Z9 (Nat.le_trans HWL.out HB.out.size);clear HJ Ap HB hg HR1;go_upto_region 4 with fail;refine wl<|ZM (Zr rfl (j) (n) dF)<|wn ?_;simp only[pu];go_upto_region 12 with fail;by_cases he:e5=0
   ·have CT:∀ V,W.heap.size<=V.heap.size->wr.heap.size<=V.heap.size->Calls Tryz.prog 62 #[.slice none 0 0,Z8 1,.string x.1] V (L8 V wr.heap.size [] (tF 1 x.1)):=fun V _ hV=>Nq (.slice none 0 0) [] wr.heap.size 1 x.1 V (Yg.nil V _) hV (Nat.zero_le _);have CN:∀ V u qs,wr.heap.size<=V.heap.size->Yg V wr.heap.size u qs->qs.map Prod.fst=tF 1 x.1->Calls Tryz.prog 63 #[u,Z8 2,Z7 x.2] V (L8 V wr.heap.size qs (nF 2 x.2)):=fun V u qs hV hu hq=>Oo u qs wr.heap.size 2 x.2 V hu hV (by have:=congrArg List.length hq; rw[List.length_map] at this; have:=O9 1 x.1; omega);have CM:∀ V u qs,wr.heap.size<=V.heap.size->Yg V wr.heap.size u qs->qs.map Prod.fst=Um x->Calls Tryz.prog 29 #[u] V (fun e w'=>∃ v,e=.returned v/\Own w' wr.heap.size v (msg (Um x))/\Below V.heap.size V w'):=fun V u qs hV hu hq=>by
     obtain⟨ua,uc,rfl,-,hfs⟩:=hu.fs;have q1:=Om x;have q2:=HXB.out;have:=Uc ua uc qs V hfs (Gu hq (Ec (by omega) q2.2)) (by rw[hq]; omega) (by
      have:=congrArg List.length hq;rw[List.length_map] at this;have:=O9 1 x.1;have:=QH 2 x.2;unfold Um at *
      rw[List.length_append] at *
      omega)
     rw[hq] at this;exact this.mono fun e w' q=>by
      obtain⟨v,h1,h2,h3⟩:=q;exact⟨v,h1,h2.base hV,h3⟩
    obtain⟨tb,htb⟩:=ZQ (decide (msg (Um x)=L));have CS:∀ V u,But g2 wr V->Own V wr.heap.size u (msg (Um x))->Calls Tryz.prog 76 #[u,.slice a L.length c] V (fun e w'=>e=.returned (.bool tb)/\V=w'):=fun V u hV hu=>by
     obtain⟨ua,uc,rfl,hus,-⟩:=hu.sl;have:=Kt ua uc (msg (Um x)) a c L V hus (og hs9 hV (fun hne y hy=>by have:=fH.out hne y hy; have:=HG2.out; omega)) (UQ (Ec (by have:=HXB.out.1; omega) HXB.out.2)) H8.out;rw[htb] at this;exact this
    have Iy:Hid (RR=if tb=true then some x else none):=Z9 (by
     rw[EW.out,<- htb];by_cases hm:msg (Um x)=L
     ·rw[if_pos ⟨he,hm⟩,decide_eq_true hm]; rfl
     ·rw[if_neg (fun q=>hm q.2),decide_eq_false hm]; rfl)
    have h0:KR wr g2 g7 x false false false false undef undef undef wr.drew:=⟨(fun h=>nomatch h),(fun h=>nomatch h),⟨(Below.refl _ _).drew,fun k hk _=>rfl⟩,P5,fun _=>hX2,(fun h=>nomatch h),(fun h=>nomatch h),(fun h=>nomatch h),(fun h=>nomatch h)⟩;clear P5 hX2;refine Zw (fun listed YZ V=>∃ b0 b1 b2 b3 b4 b5 b6 b7 b8 b9 b10 b11 b12 b13 b14 b15:Bool,∃ x55 x58 x59:Value,listed=#[b0,b1,b2,b3,b4,b5,b6,b7,b8,b9,b10,b11,b12,b13,b14,b15]/\YZ={ tmps:=#[.slice a L.length c,undef,Z5 g2 0,(cond b15 (.bool tb) (u3)),.slice a5 n c5,Z8 n5,Z8 e5,Z5 g7 0,undef,u9,.tuple #[.slice a5 n c5,Z8 n5,Z8 e5],.slice a L.length c,.tuple #[.slice a5 n c5,Z8 n5,Z8 e5],.slice a5 n c5,Z8 n5,Z8 e5,.slice a5 n c5,Z8 n,Z8 j,ZY,u20,u21,u22,u23,u24,u25,u26,u27,u28,u29,u30,u31,u32,u33,u34,u35,u36,u37,u38,u39,u40,u41,u42,u43,u44,u45,u46,u47,u48,(cond b0 (.agg (Yy x)) undef),(cond b1 (Z8 e5) undef),(cond b2 ZW undef),(cond b3 ZW undef),(cond b4 (Z5 g7 0) undef),(cond b5 (.string x.1) undef),x55,(cond b7 (Z5 g7 1) undef),(cond b8 (Z7 x.2) undef),x58,x59,(cond b11 (.slice a L.length c) undef),(cond b12 (.bool tb) undef),(cond b13 (.bool tb) undef)],defers:=[] }/\KR wr g2 g7 x b6 b9 b10 b14 x55 x58 x59 V) (by kernel_rfl) (by kernel_rfl) ?_ ?_ ?_
    ·exact⟨_,_,_,_,_,_,_,_,_,_,_,_,_,_,_,_,_,_,_,rfl,rfl,h0⟩
    ·intro i9 listed YZ V hi9 hr hJ;obtain⟨b0,b1,b2,b3,b4,b5,b6,b7,b8,b9,b10,b11,b12,b13,b14,b15,x55,x58,x59,rfl,rfl,hF⟩:=hJ;have hi2:i9<16:=hi9;have hi3:i9=0∨i9=1∨i9=2∨i9=3∨i9=4∨i9=5∨i9=6∨i9=7∨i9=8∨i9=9∨i9=10∨i9=11∨i9=12∨i9=13∨i9=14∨i9=15:=(by omega);rcases hi3 with rfl | rfl | rfl | rfl | rfl | rfl | rfl | rfl | rfl | rfl | rfl | rfl | rfl | rfl | rfl | rfl
     ·obtain rfl:b0=false:=Z4 hr;refine Zu rfl (by kernel_rfl) (some 49) rfl 60 (.tmp 7) rfl ⟨g7,0,none⟩ (.agg (Yy x)) (by kernel_rfl) (YH hF.bx) ?_;exact⟨_,_,_,_,_,_,_,_,_,_,_,_,_,_,_,_,_,_,_,rfl,rfl,hF⟩
     ·obtain rfl:b1=false:=Z4 hr;refine ZK rfl (by kernel_rfl) (some 50) rfl (Z8 e5) V (by kernel_rfl) ?_;exact⟨_,_,_,_,_,_,_,_,_,_,_,_,_,_,_,_,_,_,_,rfl,rfl,hF⟩
     ·obtain rfl:b2=false:=Z4 hr;obtain rfl:b1=true:=ZX hr 1;refine ZK rfl (by kernel_rfl) (some 51) rfl ZW V (EN rfl e5 0 (decide_eq_true he) (by kernel_rfl) (by kernel_rfl) _) ?_;exact⟨_,_,_,_,_,_,_,_,_,_,_,_,_,_,_,_,_,_,_,rfl,rfl,hF⟩
     ·obtain rfl:b3=false:=Z4 hr;obtain rfl:b2=true:=ZX hr 2;refine ZK rfl (by kernel_rfl) (some 52) rfl ZW V (by kernel_rfl) ?_;exact⟨_,_,_,_,_,_,_,_,_,_,_,_,_,_,_,_,_,_,_,rfl,rfl,hF⟩
     ·obtain rfl:b4=false:=Z4 hr;obtain rfl:b3=true:=ZX hr 3;refine ZK rfl (by kernel_rfl) (some 53) rfl (Z5 g7 0) V (by kernel_rfl) ?_;exact⟨_,_,_,_,_,_,_,_,_,_,_,_,_,_,_,_,_,_,_,rfl,rfl,hF⟩
     ·obtain rfl:b5=false:=Z4 hr;obtain rfl:b4=true:=ZX hr 4;obtain rfl:b3=true:=ZX hr 3;refine Zu rfl (by kernel_rfl) (some 54) rfl 9 (.tmp 53) rfl ⟨g7,0,none⟩ (.string x.1) (by kernel_rfl) (hF.bx.ZR 0) ?_;exact⟨_,_,_,_,_,_,_,_,_,_,_,_,_,_,_,_,_,_,_,rfl,rfl,hF⟩
     ·obtain rfl:b6=false:=Z4 hr;obtain rfl:b5=true:=ZX hr 5;obtain rfl:b3=true:=ZX hr 3;refine X8 rfl (by kernel_rfl) (some 55) rfl 62 #[.slice none 0 0,Z8 1,.string x.1] (by kernel_rfl) ((CT V (Nat.le_trans HWR.out hF.lt) hF.lt).mono ?_);rintro e V2 ⟨v,qs,rfl,hq,hr,hb⟩;exact⟨v,rfl,b0,b1,b2,true,b4,true,true,b7,b8,b9,b10,b11,b12,b13,b14,b15,v,x58,x59,rfl,rfl,hF.s6 oh ai8 hr (by simpa using hq) hb⟩
     ·obtain rfl:b7=false:=Z4 hr;obtain rfl:b3=true:=ZX hr 3;refine ZK rfl (by kernel_rfl) (some 56) rfl (Z5 g7 1) V (by kernel_rfl) ?_;exact⟨_,_,_,_,_,_,_,_,_,_,_,_,_,_,_,_,_,_,_,rfl,rfl,hF⟩
     ·obtain rfl:b8=false:=Z4 hr;obtain rfl:b7=true:=ZX hr 7;obtain rfl:b3=true:=ZX hr 3;refine Zu rfl (by kernel_rfl) (some 57) rfl 24 (.tmp 56) rfl ⟨g7,1,none⟩ (Z7 x.2) (by kernel_rfl) (hF.bx.ZR 1) ?_;exact⟨_,_,_,_,_,_,_,_,_,_,_,_,_,_,_,_,_,_,_,rfl,rfl,hF⟩
     ·obtain rfl:b9=false:=Z4 hr;obtain rfl:b6=true:=ZX hr 6;obtain rfl:b8=true:=ZX hr 8;obtain rfl:b3=true:=ZX hr 3;obtain⟨q55,aL5,az4⟩:=hF.r55 rfl rfl;refine X8 rfl (by kernel_rfl) (some 58) rfl 63 #[x55,Z8 2,Z7 x.2] (by kernel_rfl) ((CN V x55 q55 hF.lt aL5 az4).mono ?_);rintro e V2 ⟨v,qs,rfl,hq,hr,hb⟩;exact⟨v,rfl,b0,b1,b2,true,b4,b5,true,b7,true,true,b10,b11,b12,b13,b14,b15,x55,v,x59,rfl,rfl,hF.s9 oh ai8 hr (by rw[hq,az4]; rfl) hb⟩
     ·obtain rfl:b10=false:=Z4 hr;obtain rfl:b9=true:=ZX hr 9;obtain rfl:b3=true:=ZX hr 3;obtain⟨q58,aL6,aL7⟩:=hF.r58 rfl rfl;refine X8 rfl (by kernel_rfl) (some 59) rfl 29 #[x58] (by kernel_rfl) ((CM V x58 q58 hF.lt aL6 aL7).mono ?_);rintro e V2 ⟨v,rfl,hO,hb⟩;exact⟨v,rfl,b0,b1,b2,true,b4,b5,b6,b7,b8,true,true,b11,b12,b13,b14,b15,x55,x58,v,rfl,rfl,hF.s10 oh ai8 hO hb⟩
     ·obtain rfl:b11=false:=Z4 hr;obtain rfl:b3=true:=ZX hr 3;refine ZK rfl (by kernel_rfl) (some 60) rfl (.slice a L.length c) V (by kernel_rfl) ?_;exact⟨_,_,_,_,_,_,_,_,_,_,_,_,_,_,_,_,_,_,_,rfl,rfl,hF⟩
     ·obtain rfl:b12=false:=Z4 hr;obtain rfl:b10=true:=ZX hr 10;obtain rfl:b11=true:=ZX hr 11;obtain rfl:b3=true:=ZX hr 3;refine X8 rfl (by kernel_rfl) (some 61) rfl 76 #[x59,.slice a L.length c] (by kernel_rfl) ((CS V x59 hF.but (hF.r59 rfl)).mono ?_);rintro e V2 ⟨rfl,rfl⟩;exact⟨_,rfl,_,_,_,_,_,_,_,_,_,_,_,_,_,_,_,_,_,_,_,rfl,rfl,hF⟩
     ·obtain rfl:b13=false:=Z4 hr;obtain rfl:b3=true:=ZX hr 3;obtain rfl:b12=true:=ZX hr 12;refine ZK rfl (by kernel_rfl) (some 62) rfl (.bool tb) V (by kernel_rfl) ?_;exact⟨_,_,_,_,_,_,_,_,_,_,_,_,_,_,_,_,_,_,_,rfl,rfl,hF⟩
     ·obtain rfl:b14=false:=Z4 hr;obtain rfl:b0=true:=ZX hr 0;obtain⟨hst,hF2⟩:=hF.s14 oh hne;refine YU rfl (by kernel_rfl) rfl 60 (.tmp 2) (.tmp 49) rfl _ _ (by kernel_rfl) (by kernel_rfl) _ hst ?_;exact⟨_,_,_,_,_,_,_,_,_,_,_,_,_,_,_,_,_,_,_,rfl,rfl,hF2⟩
     ·obtain rfl:b15=false:=Z4 hr;obtain rfl:b13=true:=ZX hr 13;refine ZK rfl (by kernel_rfl) (some 3) rfl (.bool tb) V (by kernel_rfl) ?_;exact⟨_,_,_,_,_,_,_,_,_,_,_,_,_,_,_,_,_,_,_,rfl,rfl,hF⟩
    ·intro YZ V hJ;obtain⟨b0,b1,b2,b3,b4,b5,b6,b7,b8,b9,b10,b11,b12,b13,b14,b15,x55,x58,x59,he,rfl,hF⟩:=hJ;have he:(#[true,true,true,true,true,true,true,true,true,true,true,true,true,true,true,true]:Array Bool)=#[b0,b1,b2,b3,b4,b5,b6,b7,b8,b9,b10,b11,b12,b13,b14,b15]:=he;simp only[Array.mk.injEq,List.cons.injEq,and_true] at he;obtain⟨rfl,rfl,rfl,rfl,rfl,rfl,rfl,rfl,rfl,rfl,rfl,rfl,rfl,rfl,rfl,rfl⟩:=he;simp only[cond_true];have Ru:=Z9 (Zg.out.trans (hF.but.1.mono HG2.out));have hZ:=hF.bd rfl;have HE:=Z9 (UL.out V x tb Ru.out Iy.out);clear hF h0 CT CN CM CS UL EW Iy Ru Zg;go_wp2_with fail;exact bodyPost_ret (ZN (p:=2) (q:=3) rfl (by kernel_rfl) (YH hZ) rfl) rfl HE.out
   ·have Iy:Hid (RR=none):=Z9 (by rw[EW.out,if_neg (fun q=>he q.1)]);have h0:KR wr g2 g7 x false false false false undef undef undef wr.drew:=⟨(fun h=>nomatch h),(fun h=>nomatch h),⟨(Below.refl _ _).drew,fun k hk _=>rfl⟩,P5,fun _=>hX2,(fun h=>nomatch h),(fun h=>nomatch h),(fun h=>nomatch h),(fun h=>nomatch h)⟩;clear P5 hX2;refine Zw (fun listed YZ V=>∃ b0 b1 b2 b3 b4 b5 b6 b7 b8 b9 b10 b11 b12 b13 b14 b15:Bool,listed=#[b0,b1,b2,b3,b4,b5,b6,b7,b8,b9,b10,b11,b12,b13,b14,b15]/\YZ={ tmps:=#[.slice a L.length c,undef,Z5 g2 0,(cond b15 ZY (u3)),.slice a5 n c5,Z8 n5,Z8 e5,Z5 g7 0,undef,u9,.tuple #[.slice a5 n c5,Z8 n5,Z8 e5],.slice a L.length c,.tuple #[.slice a5 n c5,Z8 n5,Z8 e5],.slice a5 n c5,Z8 n5,Z8 e5,.slice a5 n c5,Z8 n,Z8 j,ZY,u20,u21,u22,u23,u24,u25,u26,u27,u28,u29,u30,u31,u32,u33,u34,u35,u36,u37,u38,u39,u40,u41,u42,u43,u44,u45,u46,u47,u48,(cond b0 (.agg (Yy x)) undef),(cond b1 (Z8 e5) undef),(cond b2 ZY undef),(cond b3 ZY undef),(cond b4 (undef) undef),(cond b5 (undef) undef),(cond b6 (undef) undef),(cond b7 (undef) undef),(cond b8 (undef) undef),(cond b9 (undef) undef),(cond b10 (undef) undef),(cond b11 (undef) undef),(cond b12 (undef) undef),(cond b13 ZY undef)],defers:=[] }/\KR wr g2 g7 x false false false b14 undef undef undef V) (by kernel_rfl) (by kernel_rfl) ?_ ?_ ?_
    ·exact⟨_,_,_,_,_,_,_,_,_,_,_,_,_,_,_,_,rfl,rfl,h0⟩
    ·intro i9 listed YZ V hi9 hr hJ;obtain⟨b0,b1,b2,b3,b4,b5,b6,b7,b8,b9,b10,b11,b12,b13,b14,b15,rfl,rfl,hF⟩:=hJ;have hi2:i9<16:=hi9;have hi3:i9=0∨i9=1∨i9=2∨i9=3∨i9=4∨i9=5∨i9=6∨i9=7∨i9=8∨i9=9∨i9=10∨i9=11∨i9=12∨i9=13∨i9=14∨i9=15:=(by omega);rcases hi3 with rfl | rfl | rfl | rfl | rfl | rfl | rfl | rfl | rfl | rfl | rfl | rfl | rfl | rfl | rfl | rfl
     ·obtain rfl:b0=false:=Z4 hr;refine Zu rfl (by kernel_rfl) (some 49) rfl 60 (.tmp 7) rfl ⟨g7,0,none⟩ (.agg (Yy x)) (by kernel_rfl) (YH hF.bx) ?_;exact⟨_,_,_,_,_,_,_,_,_,_,_,_,_,_,_,_,rfl,rfl,hF⟩
     ·obtain rfl:b1=false:=Z4 hr;refine ZK rfl (by kernel_rfl) (some 50) rfl (Z8 e5) V (by kernel_rfl) ?_;exact⟨_,_,_,_,_,_,_,_,_,_,_,_,_,_,_,_,rfl,rfl,hF⟩
     ·obtain rfl:b2=false:=Z4 hr;obtain rfl:b1=true:=ZX hr 1;refine ZK rfl (by kernel_rfl) (some 51) rfl ZY V (EN rfl e5 0 (decide_eq_false he) (by kernel_rfl) (by kernel_rfl) _) ?_;exact⟨_,_,_,_,_,_,_,_,_,_,_,_,_,_,_,_,rfl,rfl,hF⟩
     ·obtain rfl:b3=false:=Z4 hr;obtain rfl:b2=true:=ZX hr 2;refine ZK rfl (by kernel_rfl) (some 52) rfl ZY V (by kernel_rfl) ?_;exact⟨_,_,_,_,_,_,_,_,_,_,_,_,_,_,_,_,rfl,rfl,hF⟩
     ·obtain rfl:b4=false:=Z4 hr;obtain rfl:b3=true:=ZX hr 3;refine Rt rfl (by kernel_rfl) ?_;exact⟨_,_,_,_,_,_,_,_,_,_,_,_,_,_,_,_,rfl,rfl,hF⟩
     ·obtain rfl:b5=false:=Z4 hr;obtain rfl:b3=true:=ZX hr 3;refine Rt rfl (by kernel_rfl) ?_;exact⟨_,_,_,_,_,_,_,_,_,_,_,_,_,_,_,_,rfl,rfl,hF⟩
     ·obtain rfl:b6=false:=Z4 hr;obtain rfl:b3=true:=ZX hr 3;refine Rt rfl (by kernel_rfl) ?_;exact⟨_,_,_,_,_,_,_,_,_,_,_,_,_,_,_,_,rfl,rfl,hF⟩
     ·obtain rfl:b7=false:=Z4 hr;obtain rfl:b3=true:=ZX hr 3;refine Rt rfl (by kernel_rfl) ?_;exact⟨_,_,_,_,_,_,_,_,_,_,_,_,_,_,_,_,rfl,rfl,hF⟩
     ·obtain rfl:b8=false:=Z4 hr;obtain rfl:b3=true:=ZX hr 3;refine Rt rfl (by kernel_rfl) ?_;exact⟨_,_,_,_,_,_,_,_,_,_,_,_,_,_,_,_,rfl,rfl,hF⟩
     ·obtain rfl:b9=false:=Z4 hr;obtain rfl:b3=true:=ZX hr 3;refine Rt rfl (by kernel_rfl) ?_;exact⟨_,_,_,_,_,_,_,_,_,_,_,_,_,_,_,_,rfl,rfl,hF⟩
     ·obtain rfl:b10=false:=Z4 hr;obtain rfl:b3=true:=ZX hr 3;refine Rt rfl (by kernel_rfl) ?_;exact⟨_,_,_,_,_,_,_,_,_,_,_,_,_,_,_,_,rfl,rfl,hF⟩
     ·obtain rfl:b11=false:=Z4 hr;obtain rfl:b3=true:=ZX hr 3;refine Rt rfl (by kernel_rfl) ?_;exact⟨_,_,_,_,_,_,_,_,_,_,_,_,_,_,_,_,rfl,rfl,hF⟩
     ·obtain rfl:b12=false:=Z4 hr;obtain rfl:b3=true:=ZX hr 3;refine Rt rfl (by kernel_rfl) ?_;exact⟨_,_,_,_,_,_,_,_,_,_,_,_,_,_,_,_,rfl,rfl,hF⟩
     ·obtain rfl:b13=false:=Z4 hr;obtain rfl:b3=true:=ZX hr 3;refine ZK rfl (by kernel_rfl) (some 62) rfl ZY V (by kernel_rfl) ?_;exact⟨_,_,_,_,_,_,_,_,_,_,_,_,_,_,_,_,rfl,rfl,hF⟩
     ·obtain rfl:b14=false:=Z4 hr;obtain rfl:b0=true:=ZX hr 0;obtain⟨hst,hF2⟩:=hF.s14 oh hne;refine YU rfl (by kernel_rfl) rfl 60 (.tmp 2) (.tmp 49) rfl _ _ (by kernel_rfl) (by kernel_rfl) _ hst ?_;exact⟨_,_,_,_,_,_,_,_,_,_,_,_,_,_,_,_,rfl,rfl,hF2⟩
     ·obtain rfl:b15=false:=Z4 hr;obtain rfl:b13=true:=ZX hr 13;refine ZK rfl (by kernel_rfl) (some 3) rfl ZY V (by kernel_rfl) ?_;exact⟨_,_,_,_,_,_,_,_,_,_,_,_,_,_,_,_,rfl,rfl,hF⟩
    ·intro YZ V hJ;obtain⟨b0,b1,b2,b3,b4,b5,b6,b7,b8,b9,b10,b11,b12,b13,b14,b15,he,rfl,hF⟩:=hJ;have he:(#[true,true,true,true,true,true,true,true,true,true,true,true,true,true,true,true]:Array Bool)=#[b0,b1,b2,b3,b4,b5,b6,b7,b8,b9,b10,b11,b12,b13,b14,b15]:=he;simp only[Array.mk.injEq,List.cons.injEq,and_true] at he;obtain⟨rfl,rfl,rfl,rfl,rfl,rfl,rfl,rfl,rfl,rfl,rfl,rfl,rfl,rfl,rfl,rfl⟩:=he;simp only[cond_true];have Ru:=Z9 (Zg.out.trans (hF.but.1.mono HG2.out));have hZ:=hF.bd rfl;have HE:=Z9 (UL.out V x false Ru.out Iy.out);clear hF h0 UL EW Iy Ru Zg;go_wp2_with fail;exact bodyPost_ret (ZN (p:=2) (q:=3) rfl (by kernel_rfl) (YH hZ) rfl) rfl HE.out
end Go.Proofs.YtfpnnmeblefkkaaGreatDoor
