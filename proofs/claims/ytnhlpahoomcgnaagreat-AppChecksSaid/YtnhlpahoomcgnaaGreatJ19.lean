/-
  Texts joined.
-/
import Derived.Test.YtnhlpahoomcgnaaGreatJ18
set_option maxRecDepth 100000
set_option maxHeartbeats 8000000
set_option linter.unusedSimpArgs false
set_option linter.unusedVariables false
namespace Go.Proofs.YtnhlpahoomcgnaaGreat.Lg
open Mo (YU Y9 Ym Yz)
open Go.RowKit
theorem res_one (r:XO):(ZI r).all (·.oneCell')=true:=by simp[Value.oneCell']
theorem XY {w:World}{g:Nat}{r q:XO}(h:Bx w g (ZI r) 40):(Instr.storeAt 40 (Z5 g 0) (.agg (ZI q))).run Tryz.prog w=.ok () (w.setRow g (ZI q))/\Bx (w.setRow g (ZI q)) g (ZI q) 40:=
 ⟨Ya h rfl (res_one q) (by kernel_rfl),h.set⟩
theorem Yg {w:World}{g k:Nat}{r:XO}(h:Bx w g (ZI r) k):(Instr.loadAt 40 (Z5 g 0)).run Tryz.prog w=.ok (.agg (ZI r)) w:=
 run_loadAt_mid w g 0 40 (ZI r).toList _ (fun j v hv=>by
  rw[cell_of_row w g _ _ _ (0,0) h];simpa using hv) Tryz.underlying40 rfl (by kernel_rfl)
theorem Wx {fn:Func}{tmps:Array Value}{w:World}{p ty g q ty2 g2:Nat}{v v2:Value}(hr:fn.results=#[.cell p ty,.cell q ty2])(h2:tmps.getD p undef=Z5 g 0)(hl:(Instr.loadAt ty (Z5 g 0)).run Tryz.prog w=.ok v w)(h4:tmps.getD q undef=Z5 g2 0)(hl2:(Instr.loadAt ty2 (Z5 g2 0)).run Tryz.prog w=.ok v2 w):(results fn tmps).run Tryz.prog w=.ok (.tuple #[v,v2]) w:=by
 unfold results;rw[hr];have h2':tmps[p]?.getD undef=Z5 g 0:=by simpa using h2
 have h4':tmps[q]?.getD undef=Z5 g2 0:=by simpa using h4
 have hl':=hl;have aB3:=hl2;simp only[Instr.loadAt,Instr.sureAddr,Sem.run_bind,Sem.run_pure,Result.andThen_ok] at hl' aB3;simp[h2',h4',asAddr,hl',aB3,Result.andThen]
def ny (w:World)(la:Option Addr)(A:List Ac)(X:(List Ac×Int)×XO)(e:Ending)(w':World):Prop:=∃ ad k,e=.returned (.tuple #[.agg (ZU ad X.1.1.length k X.1.2),.agg (ZI X.2)])/\Cs w' ad (acc X.1.1)/\X.1.1.length<=k/\((ad=la/\X.1.1=A)∨∀ x,ad=some x->w.heap.size<=x.block)/\Below w.heap.size w w'
theorem J4 {w:World}{B n k:Nat}{ad:Option Addr}{A:List Ac}(h:Zi w B (.slice ad n k) A):∀ x,ad=some x->B<=x.block:=fun x hx=>by
 rcases h.2 with⟨e,-⟩ | ⟨g,cap,cur,e,hB,-⟩
 ·simp only[Value.slice.injEq] at e; rw[e.1] at hx; cases hx
 ·simp only[Value.slice.injEq] at e; rw[e.1] at hx; cases hx; exact hB
structure KT (W:World)(r:XO)(bA bS:Bool)(x:Value)(V:World):Prop where
 bel:Below W.heap.size W V
 o:bS=true->bA=true
 box:bA=true->∃ g,x=Z5 g 0/\W.heap.size<=g/\(bS=false->Bx V g (ZI (YR 0)) 40)/\(bS=true->Bx V g (ZI r) 40)
theorem KT.alloc {W:World}{r:XO}{bS:Bool}{x:Value}{V:World}(h:KT W r false bS x V):KT W r true bS (Z5 V.heap.size 0) (V.alloc (.cells (ZI (YR 0)) 40)):=by
 obtain rfl:=ff h.o rfl;have hb:Below V.heap.size V (V.alloc (.cells (ZI (YR 0)) 40)):=(Below.refl _ V).alloc (Nat.le_refl _) _;exact⟨h.bel.trans (hb.mono h.bel.size),fun _=>rfl,fun _=>⟨V.heap.size,rfl,h.bel.size,fun _=>heap_alloc_last V _,(fun e=>nomatch e)⟩⟩
theorem KT.more {W:World}{r:XO}{bA bS:Bool}{x:Value}{V V2:World}(h:KT W r bA bS x V)(hb:Below V.heap.size V V2):KT W r bA bS x V2:=
 ⟨h.bel.trans (hb.mono h.bel.size),h.o,fun e=>by
  obtain⟨g,h1,h2,h3,h4⟩:=h.box e;exact⟨g,h1,h2,fun e=>(h3 e).below (h3 e).lt hb,fun e=>(h4 e).below (h4 e).lt hb⟩⟩
theorem KT.store {W:World}{r:XO}{x:Value}{V:World}(h:KT W r true false x V):∃ g V2,x=Z5 g 0/\(Instr.storeAt 40 (Z5 g 0) (.agg (ZI r))).run Tryz.prog V=.ok () V2/\KT W r true true (Z5 g 0) V2:=by
 obtain⟨g,rfl,h2,h3,-⟩:=h.box rfl;have hst:=XY (q:=r) (h3 rfl);exact⟨g,_,rfl,hst.1,ZQ h.bel h2 _,fun _=>rfl,fun _=>⟨g,rfl,h2,(fun e=>nomatch e),fun _=>hst.2⟩⟩
structure PZ (g3 g8 g10 B:Nat)(lc:Array Value)(t:Y8)(ta:Option Addr)(tk:Nat)(r:XO)(V:World):Prop where
 x3:Bx V g3 lc 29
 x8:Bx V g8 (Zx t ta tk) 67
 x10:Bx V g10 (ZI r) 40
 row:Yj V B (.slice ta t.tr.length tk) t.tr
theorem PZ.but {g3 g8 g10 B g:Nat}{lc:Array Value}{t:Y8}{ta:Option Addr}{tk:Nat}{r:XO}{V V2:World}(h:PZ g3 g8 g10 B lc t ta tk r V)(hb:But g V V2)(h3:g3≠g)(h8:g8≠g)(h10:g10≠g)(hB:g<B):PZ g3 g8 g10 B lc t ta tk r V2:=
 ⟨h.x3.but hb h3,h.x8.but hb h8,h.x10.but hb h10,Zt h.row hb hB⟩
theorem PZ.more {g3 g8 g10 B:Nat}{lc:Array Value}{t:Y8}{ta:Option Addr}{tk:Nat}{r:XO}{V V2:World}(h:PZ g3 g8 g10 B lc t ta tk r V)(hb:Below V.heap.size V V2):PZ g3 g8 g10 B lc t ta tk r V2:=
 ⟨h.x3.below h.x3.lt hb,h.x8.below h.x8.lt hb,h.x10.below h.x10.lt hb,own_below h.row hb⟩
structure KS (w:World)(g6 g7 B:Nat)(P:World->Prop)(Q:List Ac)(cc:Int)(r:XO)(bC s6 s7:Bool)(x:Value)(V:World):Prop where
 bel:Below w.heap.size w V
 p:P V
 o:s6=true->bC=true
 row:bC=true->∃ ad k,x=.agg (ZU ad Q.length k cc)/\Q.length<=k/\Zi V B (.slice ad Q.length k) Q
 x6:s6=false->Bx V g6 (ZU none 0 0 0) 29
 y6:s6=true->∃ ad k,x=.agg (ZU ad Q.length k cc)/\Bx V g6 (ZU ad Q.length k cc) 29
 x7:Bx V g7 (ZI (cond s7 r (YR 0))) 40
theorem KS.call {w:World}{g6 g7 B:Nat}{P:World->Prop}{Q:List Ac}{cc:Int}{r:XO}{s6 s7:Bool}{x:Value}{V V2:World}(h:KS w g6 g7 B P Q cc r false s6 s7 x V)(hB:B<=V.heap.size)(hP:P V2)(hb:Below V.heap.size V V2){ad:Option Addr}{k:Nat}(hr:Zi V2 V.heap.size (.slice ad Q.length k) Q):KS w g6 g7 B P Q cc r true s6 s7 (.agg (ZU ad Q.length k cc)) V2:=by
 obtain rfl:=ff h.o rfl;obtain⟨a9,k9,e9,-,hk⟩:=hr.cs;simp only[Value.slice.injEq,true_and] at e9;obtain⟨rfl,rfl⟩:=e9;exact⟨h.bel.trans (hb.mono h.bel.size),hP,(fun e=>nomatch e),fun _=>⟨_,_,rfl,hk,own_base hr hB⟩,fun e=>(h.x6 e).below (h.x6 e).lt hb,(fun e=>nomatch e),h.x7.below h.x7.lt hb⟩
theorem KS.st6 {w:World}{g6 g7 B:Nat}{P:World->Prop}{Q:List Ac}{cc:Int}{r:XO}{s7:Bool}{x:Value}{V:World}(h:KS w g6 g7 B P Q cc r true false s7 x V)(hP:∀ V2,But g6 V V2->P V2)(h6:w.heap.size<=g6)(hB:g6<B)(hn:g7≠g6):∃ ad k V2,x=.agg (ZU ad Q.length k cc)/\(Instr.storeAt 29 (Z5 g6 0) (.agg (ZU ad Q.length k cc))).run Tryz.prog V=.ok () V2/\KS w g6 g7 B P Q cc r true true s7 (.agg (ZU ad Q.length k cc)) V2:=by
 obtain⟨ad,k,rfl,hk,hr⟩:=h.row rfl;have hst:=ZC (a':=ad) (n':=Q.length) (k':=k) (c':=cc) (h.x6 rfl);have hbt:But g6 V (V.setRow g6 (ZU ad Q.length k cc)):=But.setRow _ _;exact⟨ad,k,_,rfl,hst.1,ZQ h.bel h6 _,hP _ hbt,fun _=>rfl,fun _=>⟨ad,k,rfl,hk,Zt hr hbt hB⟩,(fun e=>nomatch e),fun _=>⟨ad,k,rfl,hst.2⟩,h.x7.but hbt hn⟩
theorem KS.st7 {w:World}{g6 g7 B:Nat}{P:World->Prop}{Q:List Ac}{cc:Int}{r:XO}{bC s6:Bool}{x:Value}{V:World}(h:KS w g6 g7 B P Q cc r bC s6 false x V)(hP:∀ V2,But g7 V V2->P V2)(h7:w.heap.size<=g7)(hB:g7<B)(hn:g6≠g7):∃ V2,(Instr.storeAt 40 (Z5 g7 0) (.agg (ZI r))).run Tryz.prog V=.ok () V2/\KS w g6 g7 B P Q cc r bC s6 true x V2:=by
 have hst:=XY (q:=r) h.x7;have hbt:But g7 V (V.setRow g7 (ZI r)):=But.setRow _ _;exact⟨_,hst.1,ZQ h.bel h7 _,hP _ hbt,h.o,fun e=>by obtain⟨ad,k,e1,hk,hr⟩:=h.row e; exact⟨ad,k,e1,hk,Zt hr hbt hB⟩,fun e=>(h.x6 e).but hbt hn,fun e=>by obtain⟨ad,k,e1,h2⟩:=h.y6 e; exact⟨ad,k,e1,h2.but hbt hn⟩,hst.2⟩
structure K8 (w:World)(g6 g7:Nat)(P:World->Prop)(lc:Array Value)(r:XO)(s6 s7:Bool)(V:World):Prop where
 bel:Below w.heap.size w V
 p:P V
 x6:Bx V g6 (cond s6 lc (ZU none 0 0 0)) 29
 x7:Bx V g7 (ZI (cond s7 r (YR 0))) 40
theorem K8.st6 {w:World}{g6 g7:Nat}{P:World->Prop}{la:Option Addr}{n k:Nat}{c:Int}{r:XO}{s7:Bool}{V:World}(h:K8 w g6 g7 P (ZU la n k c) r false s7 V)(hP:∀ V2,But g6 V V2->P V2)(h6:w.heap.size<=g6)(hn:g7≠g6):∃ V2,(Instr.storeAt 29 (Z5 g6 0) (.agg (ZU la n k c))).run Tryz.prog V=.ok () V2/\K8 w g6 g7 P (ZU la n k c) r true s7 V2:=by
 have hst:=ZC (a':=la) (n':=n) (k':=k) (c':=c) h.x6;have hbt:But g6 V (V.setRow g6 (ZU la n k c)):=But.setRow _ _;exact⟨_,hst.1,ZQ h.bel h6 _,hP _ hbt,hst.2,h.x7.but hbt hn⟩
theorem K8.st7 {w:World}{g6 g7:Nat}{P:World->Prop}{lc:Array Value}{r:XO}{s6:Bool}{V:World}(h:K8 w g6 g7 P lc r s6 false V)(hP:∀ V2,But g7 V V2->P V2)(h7:w.heap.size<=g7)(hn:g6≠g7):∃ V2,(Instr.storeAt 40 (Z5 g7 0) (.agg (ZI r))).run Tryz.prog V=.ok () V2/\K8 w g6 g7 P lc r s6 true V2:=by
 have hst:=XY (q:=r) h.x7;have hbt:But g7 V (V.setRow g7 (ZI r)):=But.setRow _ _;exact⟨_,hst.1,ZQ h.bel h7 _,hP _ hbt,h.x6.but hbt hn,hst.2⟩
theorem K8.start {w V:World}{g6 g7:Nat}{P:World->Prop}{lc:Array Value}{r:XO}(hb:Below w.heap.size w V)(hp:P V.drew)(h6:Bx V g6 (ZU none 0 0 0) 29)(h7:Bx V g7 (ZI (YR 0)) 40):K8 w g6 g7 P lc r false false V.drew:=⟨hb.drew,hp,h6,h7⟩
theorem KS.start {w V:World}{g6 g7 B:Nat}{P:World->Prop}{Q:List Ac}{cc:Int}{r:XO}(hb:Below w.heap.size w V)(hp:P V.drew)(h6:Bx V g6 (ZU none 0 0 0) 29)(h7:Bx V g7 (ZI (YR 0)) 40):KS w g6 g7 B P Q cc r false false false undef V.drew:=⟨hb.drew,hp,(fun e=>nomatch e),(fun e=>nomatch e),fun _=>h6,(fun e=>nomatch e),h7⟩
theorem KT.start (V:World)(r:XO):KT V r false false undef V.drew:=⟨(Below.refl _ V).drew,(fun e=>nomatch e),(fun e=>nomatch e)⟩
theorem PZ.drew {g3 g8 g10 B:Nat}{lc:Array Value}{t:Y8}{ta:Option Addr}{tk:Nat}{r:XO}{V:World}(h:PZ g3 g8 g10 B lc t ta tk r V):PZ g3 g8 g10 B lc t ta tk r V.drew:=⟨h.x3,h.x8,h.x10,h.row⟩
theorem ak2 {A:List Ac}{c price:Int}{L:List Int}(h:YD A c≠0):WZ A c price L=((A,c),YR 1):=if_pos h
theorem ak6 {A:List Ac}{c price:Int}{L:List Int}(h:YD A c=0)(h2:(Zj L).2≠0):WZ A c price L=((A,c),YR (Zj L).2):=by
 unfold WZ; rw[if_neg (by rw[h]; decide),if_pos h2]
theorem aA5 {A:List Ac}{c price:Int}{L:List Int}(h:YD A c=0)(h2:(Zj L).2=0)(h3:Yp A price (Zj L).1 L.length≠0):WZ A c price L=((A,c),⟨Yp A price (Zj L).1 L.length,(Zj L).1.snd,(Zj L).1.sq,(Zj L).1.Zp,Y9 (Zj L).1.YZ (Zj L).1.Zp⟩):=by
 unfold WZ; rw[if_neg (by rw[h]; decide),if_neg (by rw[h2]; decide),if_pos h3]
theorem aA4 {A:List Ac}{c price:Int}{L:List Int}(h:YD A c=0)(h2:(Zj L).2=0)(h3:Yp A price (Zj L).1 L.length=0):WZ A c price L=((Yl A (Zj L).1,c+(Zj L).1.YZ),⟨Yp A price (Zj L).1 L.length,(Zj L).1.snd,(Zj L).1.sq,(Zj L).1.Zp,Y9 (Zj L).1.YZ (Zj L).1.Zp⟩):=by
 unfold WZ; rw[if_neg (by rw[h]; decide),if_neg (by rw[h2]; decide),if_neg (by rw[h3]; decide),h3]
theorem ak5 {A:List Ac}{c price:Int}{L:List Int}(h8:∀ y,y∈L->W8 y)(hv:YD A c=0)(hw:Vj A)(hc:W64 c)(hp:W64 price)(h2:(Zj L).2=0):FaQ A c price (Zj L).1:=by
 obtain⟨h3,-,h4,-⟩:=Ba (t:=(Zj L).1) (fun x hx=>h8 x hx) (by rw[<- h2]);exact⟨hv,hw,hc,hp,h4.sq,h4.Zp,h4.YZ,h4.am,(val_ok h3 h4.sq h4.Zp h4.YZ h4.am).2.2⟩
theorem xY {A:List Ac}{c price size:Int}{t:Y8}(h:FaQ A c price t)(h0:Yp A price t size=0):Jo A c t/\(Yl A t).length<=256:=by
 unfold Yp at h0
 split at h0
 ·omega
 rename_i c1
 split at h0
 ·omega
 rename_i c2
 split at h0
 ·omega
 rename_i c3
 split at h0
 ·omega
 split at h0
 ·omega
 split at h0
 ·omega
 split at h0
 ·omega
 rename_i c4
 split at h0
 ·omega
 rename_i c5
 split at h0
 ·omega
 rename_i c6
 exact⟨h.dn (by simpa using c1) (by simpa using c2) c3 (by simpa using c4) c5,by omega⟩
end Go.Proofs.YtnhlpahoomcgnaaGreat.Lg
namespace Go.Proofs.YtnhlpahoomcgnaaGreat.Lg
attribute [local irreducible] wpList wpQuiet
open Mo (YU Y9 Ym Yz)
open Go.RowKit
theorem NU (A:List Ac)(c price:Int)(L:List Int)(la ra:Option Addr)(lk rc:Nat)(w:World)(hL:Cs w la (acc A))(hlk:A.length<=lk)(hn:A.length<=4398046511104)(hc:W64 c)(hw:Vj A)(hz:∀ x,x∈A->x.1.size<=140737488355328)(hp:W64 price)(hR:Sl w ra rc L)(hrc:L.length<=rc)(h8:∀ y,y∈L->W8 y) :
  Calls Tryz.prog 34 #[.agg (ZU la A.length lk c),Z4 price,.slice ra L.length rc] w (ny w la A (WZ A c price L)):=by
 obtain⟨hb0,Wj,WX,Rz⟩:=Xk w (ZU la A.length lk c) (ZU none 0 0 0) (ZI (YR 0)) 29 29 40;have hA:=hL.below hb0;have HLW:=Z9 hL;have HRW:=Z9 hR;obtain⟨X,hX⟩:=ZR (WZ A c price L);have H1:=Z9 (fun h=>hX.symm.trans (ak2 (price:=price) (L:=L) (A:=A) (c:=c) h));have H2:=Z9 (fun h h2=>hX.symm.trans (ak6 (price:=price) (L:=L) (A:=A) (c:=c) h h2));have H3:=Z9 (fun h h2 h3=>hX.symm.trans (aA5 (price:=price) (L:=L) (A:=A) (c:=c) h h2 h3));have H4:=Z9 (fun h h2 h3=>hX.symm.trans (aA4 (price:=price) (L:=L) (A:=A) (c:=c) h h2 h3));have HFQ:=Z9 (fun h h2=>ak5 h8 h hw hc hp h2 (A:=A) (L:=L));have CV:=fun V h=>UJ la lk A c V h hn hc hw hz;have CD:=Z9 (fun V (h:Sl V ra rc L)=>BF ra rc L V h hrc h8);rw[hX];generalize YD A c=ve at *
 clear hL hR hz h8 hX;go_enter Tryz.func34,Tryz.ntmps34;go_upto_region 1 with fail;change Code.wp _ _ _ _ (((w.alloc (.cells (ZU la A.length lk c) 29)).alloc (.cells (ZU none 0 0 0) 29)).alloc (.cells (ZI (YR 0)) 40));generalize ((w.alloc (.cells (ZU la A.length lk c) 29)).alloc (.cells (ZU none 0 0 0) 29)).alloc (.cells (ZI (YR 0)) 40)=W at *
 obtain⟨g3,hg3⟩:=ZR w.heap.size;obtain⟨g6,WG⟩:=ZR (g3+1);obtain⟨g7,RF⟩:=ZR (g6+1);have HB0:=Z9 hb0;rw[show w.heap.size+2=g7 by omega] at Rz;rw[show w.heap.size+1=g6 by omega] at WX;have HG:Hid (w.heap.size<=g6/\w.heap.size<=g7/\g7≠g6/\g3≠g6/\g3≠g7/\g6<W.heap.size/\g7<W.heap.size):=Z9 ⟨by omega,by omega,by omega,by omega,by omega,WX.lt,Rz.lt⟩;rw[hg3] at Wj;simp only[hg3];simp only[WG];simp only[RF];have XD:=Z9 Wj;have XQ:=Z9 WX;have Tv:=Z9 Rz;have Qh:=CV W hA;clear hb0 Wj WX Rz hA hg3 WG RF CV;refine wl<|ZL rfl ⟨g3,0,none⟩ (.agg (ZU la A.length lk c)) (ZN XD.out)<|YS (Z8 ve) (fun w'=>Below W.heap.size W w') (Qh) (fun W1 hW1=>?_);simp only[pu];have HB1:=Z9 (HB0.out.trans (hW1.mono HB0.out.size));have Vx:Hid (W.heap.size<=W1.heap.size):=Z9 hW1.size;have XD:=Z9 (XD.out.below XD.out.lt hW1);have XQ:=Z9 (XQ.out.below XQ.out.lt hW1);have Tv:=Z9 (Tv.out.below Tv.out.lt hW1);clear Qh hW1;by_cases hv:ve=0
 ·subst hv;refine ZJ (YX rfl 0 0 (decide_eq_true rfl))<|wn ?_;simp only[pu];have CDW:=CD.out W1 (ZK HRW.out HB1.out);obtain⟨D,hD⟩:=ZR (Zj L);rw[hD] at CDW H2 H3 H4 HFQ;clear hD CD H1;go_upto_region 3 with fail;refine wl<|ZV (.slice ra L.length rc)<|Yi (fun v w'=>∃ a c,v=.tuple #[.agg (Zx D.1 a c),Z8 D.2]/\Yj w' W1.heap.size (.slice a D.1.tr.length c) D.1.tr/\Below W1.heap.size W1 w') (CDW.mono fun e w' q=>by obtain⟨a,c,h1,h2⟩:=q; exact⟨_,h1,a,c,rfl,h2⟩) (fun vv W2 hq=>?_);obtain⟨ta,tk,rfl,hrt,hb2⟩:=hq;obtain⟨V3,hst3,hb3,WY⟩:=O5 W2 D.1 ta tk;refine Yr (.tuple #[.agg (Zx D.1 ta tk),Z8 D.2]) (.agg (Zx D.1 ta tk)) (Z8 D.2) ?_;refine Zy rfl (some 8) rfl (Z5 W2.heap.size 0) (W2.alloc (.cells (Zx zX none 0) 67)) (by kernel_rfl) ?_;refine Zu rfl (hst3)<|ZV (Z8 D.2)<|wn ?_;simp only[pu];have hb4:=hb2.trans (hb3.mono hb2.size);obtain⟨g8,Nh⟩:=ZR W2.heap.size;have HG8:Hid (g8≠g6/\g8≠g7/\W.heap.size<=g8):=Z9 (by have:=HG.out.2.2.2.2.2; have:=Vx.out; have:=hb2.size; omega);rw[Nh] at WY hst3 ⊢;have I5:=Z9 (own_base (own_below hrt hb3) Vx.out);have XD:=Z9 (XD.out.below XD.out.lt hb4);have XQ:=Z9 (XQ.out.below XQ.out.lt hb4);have Tv:=Z9 (Tv.out.below Tv.out.lt hb4);have TS:=Z9 WY;have VI:=Z9 (HB1.out.trans (hb4.mono HB1.out.size));have HSV:Hid (W.heap.size<=V3.heap.size):=Z9 (Nat.le_trans Vx.out hb4.size);clear CDW hst3 hb2 hb3 hb4 Nh WY hrt HB1;by_cases hd:D.2=0
  ·go_upto_region 4 with fail;refine wl<|ZV (Z8 D.2)<|ZJ (YX rfl D.2 0 (decide_eq_true hd))<|wn ?_;simp only[pu];have vJ:=HFQ.out rfl hd;have H3:=Z9 (H3.out rfl hd);have H4:=Z9 (H4.out rfl hd);obtain⟨t,hdt⟩:=ZR D.1;rw[hdt] at vJ H3 H4 I5 TS;simp only[hdt];have HQ:=Z9 vJ;have HF0:=Z9 (fun h0=>xY (size:=L.length) vJ h0);have CF:=Z9 (fun V (hl:Cs V la (acc A)) (ht:Cs V ta (Rq t.tr))=>vI A c price L.length t la ta lk tk V hl hlk ht vJ);have CP:=fun V=>Mo.nM t.YZ t.Zp V vJ.f vJ.Zp;generalize Y9 t.YZ t.Zp=pr at *
   obtain⟨fx,hfx⟩:=ZR (Yp A price t L.length);rw[hfx] at H3 H4 HF0 CF;clear vJ hdt hd H2 HFQ hfx;go_upto_region 6 with fail;have h0:=KT.start V3 ⟨fx,t.snd,t.sq,t.Zp,pr⟩;refine Zw (fun listed ZG V=>∃ b0 b1 b2 b3 b4 b5 b6 b7 b8 b9 b10 b11 b12 b13 b14 b15 b16 b17 b18 b19:Bool,∃ x10:Value,listed=#[b0,b1,b2,b3,b4,b5,b6,b7,b8,b9,b10,b11,b12,b13,b14,b15,b16,b17,b18,b19]/\ZG={ tmps:=#[.agg (ZU la A.length lk c),Z4 price,.slice ra L.length rc,Z5 g3 0,undef,undef,Z5 g6 0,Z5 g7 0,Z5 g8 0,Z8 D.2,x10,undef,undef,.agg (ZU la A.length lk c),Z8 0,ZY,undef,undef,.tuple #[.agg (Zx t ta tk),Z8 D.2],.slice ra L.length rc,.tuple #[.agg (Zx t ta tk),Z8 D.2],.agg (Zx t ta tk),Z8 D.2,Z8 D.2,ZY,undef,undef,undef,(cond b0 (.agg (ZU la A.length lk c)) undef),(cond b1 (Z4 price) undef),(cond b2 (.agg (Zx t ta tk)) undef),(cond b3 (.slice ra L.length rc) undef),(cond b4 (Z8 L.length) undef),(cond b5 (Z8 fx) undef),(cond b6 (Z5 g8 0) undef),(cond b7 (.string t.snd) undef),(cond b8 (Z5 g8 1) undef),(cond b9 (Z4 t.sq) undef),(cond b10 (Z5 g8 2) undef),(cond b11 (Z4 t.Zp) undef),(cond b12 (Z5 g8 3) undef),(cond b13 (Z4 t.YZ) undef),(cond b14 (Z5 g8 2) undef),(cond b15 (Z4 t.Zp) undef),(cond b16 (Z4 pr) undef),(cond b17 (.agg (ZI ⟨fx,t.snd,t.sq,t.Zp,pr⟩)) undef),undef,undef,undef,undef,undef,undef,undef,undef,undef,undef,undef,undef,undef,undef,undef],defers:=[] }/\KT V3 ⟨fx,t.snd,t.sq,t.Zp,pr⟩ b18 b19 x10 V) (by kernel_rfl) (by kernel_rfl) ?_ ?_ ?_
   ·exact⟨_,_,_,_,_,_,_,_,_,_,_,_,_,_,_,_,_,_,_,_,_,rfl,rfl,h0⟩
   ·intro i9 listed ZG V hi9 hr hJ;obtain⟨b0,b1,b2,b3,b4,b5,b6,b7,b8,b9,b10,b11,b12,b13,b14,b15,b16,b17,b18,b19,x10,rfl,rfl,hF⟩:=hJ;have hi2:i9<20:=hi9;have hi3:i9=0∨i9=1∨i9=2∨i9=3∨i9=4∨i9=5∨i9=6∨i9=7∨i9=8∨i9=9∨i9=10∨i9=11∨i9=12∨i9=13∨i9=14∨i9=15∨i9=16∨i9=17∨i9=18∨i9=19:=(by omega);rcases hi3 with rfl | rfl | rfl | rfl | rfl | rfl | rfl | rfl | rfl | rfl | rfl | rfl | rfl | rfl | rfl | rfl | rfl | rfl | rfl | rfl
    ·obtain rfl:b0=false:=Z7 hr;refine ZE rfl (by kernel_rfl) (some 28) rfl 29 (.tmp 3) rfl ⟨g3,0,none⟩ (.agg (ZU la A.length lk c)) (by kernel_rfl) (ZN (XD.out.below XD.out.lt hF.bel)) ?_;exact⟨_,_,_,_,_,_,_,_,_,_,_,_,_,_,_,_,_,_,_,_,_,rfl,rfl,hF⟩
    ·obtain rfl:b1=false:=Z7 hr;refine ZT rfl (by kernel_rfl) (some 29) rfl (Z4 price) V (by kernel_rfl) ?_;exact⟨_,_,_,_,_,_,_,_,_,_,_,_,_,_,_,_,_,_,_,_,_,rfl,rfl,hF⟩
    ·obtain rfl:b2=false:=Z7 hr;refine ZE rfl (by kernel_rfl) (some 30) rfl 67 (.tmp 8) rfl ⟨g8,0,none⟩ (.agg (Zx t ta tk)) (by kernel_rfl) (Zz (TS.out.below TS.out.lt hF.bel)) ?_;exact⟨_,_,_,_,_,_,_,_,_,_,_,_,_,_,_,_,_,_,_,_,_,rfl,rfl,hF⟩
    ·obtain rfl:b3=false:=Z7 hr;refine ZT rfl (by kernel_rfl) (some 31) rfl (.slice ra L.length rc) V (by kernel_rfl) ?_;exact⟨_,_,_,_,_,_,_,_,_,_,_,_,_,_,_,_,_,_,_,_,_,rfl,rfl,hF⟩
    ·obtain rfl:b4=false:=Z7 hr;obtain rfl:b3=true:=ZX hr 3;refine ZT rfl (by kernel_rfl) (some 32) rfl (Z8 L.length) V (by kernel_rfl) ?_;exact⟨_,_,_,_,_,_,_,_,_,_,_,_,_,_,_,_,_,_,_,_,_,rfl,rfl,hF⟩
    ·obtain rfl:b5=false:=Z7 hr;obtain rfl:b0=true:=ZX hr 0;obtain rfl:b1=true:=ZX hr 1;obtain rfl:b2=true:=ZX hr 2;obtain rfl:b4=true:=ZX hr 4;refine Zc rfl (by kernel_rfl) (some 33) rfl 55 #[.agg (ZU la A.length lk c),Z4 price,.agg (Zx t ta tk),Z8 L.length] (by kernel_rfl) ((CF.out V (HLW.out.below (VI.out.trans (hF.bel.mono VI.out.size))) (by obtain⟨a9,c9,e9,h9,-⟩:=Yq (own_below I5.out hF.bel); simp only[Value.slice.injEq,true_and] at e9; obtain⟨rfl,rfl⟩:=e9; exact h9)).mono fun e w' z=>?_);obtain⟨rfl,hb⟩:=z;exact⟨_,rfl,_,_,_,_,_,_,_,_,_,_,_,_,_,_,_,_,_,_,_,_,_,rfl,rfl,hF.more hb⟩
    ·obtain rfl:b6=false:=Z7 hr;refine ZT rfl (by kernel_rfl) (some 34) rfl (Z5 g8 0) V (by kernel_rfl) ?_;exact⟨_,_,_,_,_,_,_,_,_,_,_,_,_,_,_,_,_,_,_,_,_,rfl,rfl,hF⟩
    ·obtain rfl:b7=false:=Z7 hr;obtain rfl:b6=true:=ZX hr 6;refine ZE rfl (by kernel_rfl) (some 35) rfl 9 (.tmp 34) rfl ⟨g8,0,none⟩ (.string t.snd) (by kernel_rfl) ((TS.out.below TS.out.lt hF.bel).ZP 0) ?_;exact⟨_,_,_,_,_,_,_,_,_,_,_,_,_,_,_,_,_,_,_,_,_,rfl,rfl,hF⟩
    ·obtain rfl:b8=false:=Z7 hr;refine ZT rfl (by kernel_rfl) (some 36) rfl (Z5 g8 1) V (by kernel_rfl) ?_;exact⟨_,_,_,_,_,_,_,_,_,_,_,_,_,_,_,_,_,_,_,_,_,rfl,rfl,hF⟩
    ·obtain rfl:b9=false:=Z7 hr;obtain rfl:b8=true:=ZX hr 8;refine ZE rfl (by kernel_rfl) (some 37) rfl 27 (.tmp 36) rfl ⟨g8,1,none⟩ (Z4 t.sq) (by kernel_rfl) ((TS.out.below TS.out.lt hF.bel).ZP 1) ?_;exact⟨_,_,_,_,_,_,_,_,_,_,_,_,_,_,_,_,_,_,_,_,_,rfl,rfl,hF⟩
    ·obtain rfl:b10=false:=Z7 hr;refine ZT rfl (by kernel_rfl) (some 38) rfl (Z5 g8 2) V (by kernel_rfl) ?_;exact⟨_,_,_,_,_,_,_,_,_,_,_,_,_,_,_,_,_,_,_,_,_,rfl,rfl,hF⟩
    ·obtain rfl:b11=false:=Z7 hr;obtain rfl:b10=true:=ZX hr 10;refine ZE rfl (by kernel_rfl) (some 39) rfl 27 (.tmp 38) rfl ⟨g8,2,none⟩ (Z4 t.Zp) (by kernel_rfl) ((TS.out.below TS.out.lt hF.bel).ZP 2) ?_;exact⟨_,_,_,_,_,_,_,_,_,_,_,_,_,_,_,_,_,_,_,_,_,rfl,rfl,hF⟩
    ·obtain rfl:b12=false:=Z7 hr;refine ZT rfl (by kernel_rfl) (some 40) rfl (Z5 g8 3) V (by kernel_rfl) ?_;exact⟨_,_,_,_,_,_,_,_,_,_,_,_,_,_,_,_,_,_,_,_,_,rfl,rfl,hF⟩
    ·obtain rfl:b13=false:=Z7 hr;obtain rfl:b12=true:=ZX hr 12;refine ZE rfl (by kernel_rfl) (some 41) rfl 27 (.tmp 40) rfl ⟨g8,3,none⟩ (Z4 t.YZ) (by kernel_rfl) ((TS.out.below TS.out.lt hF.bel).ZP 3) ?_;exact⟨_,_,_,_,_,_,_,_,_,_,_,_,_,_,_,_,_,_,_,_,_,rfl,rfl,hF⟩
    ·obtain rfl:b14=false:=Z7 hr;refine ZT rfl (by kernel_rfl) (some 42) rfl (Z5 g8 2) V (by kernel_rfl) ?_;exact⟨_,_,_,_,_,_,_,_,_,_,_,_,_,_,_,_,_,_,_,_,_,rfl,rfl,hF⟩
    ·obtain rfl:b15=false:=Z7 hr;obtain rfl:b14=true:=ZX hr 14;refine ZE rfl (by kernel_rfl) (some 43) rfl 27 (.tmp 42) rfl ⟨g8,2,none⟩ (Z4 t.Zp) (by kernel_rfl) ((TS.out.below TS.out.lt hF.bel).ZP 2) ?_;exact⟨_,_,_,_,_,_,_,_,_,_,_,_,_,_,_,_,_,_,_,_,_,rfl,rfl,hF⟩
    ·obtain rfl:b16=false:=Z7 hr;obtain rfl:b13=true:=ZX hr 13;obtain rfl:b15=true:=ZX hr 15;refine Zc rfl (by kernel_rfl) (some 44) rfl 56 #[Z4 t.YZ,Z4 t.Zp] (by kernel_rfl) ((CP V).mono fun e w' z=>?_);obtain⟨rfl,rfl⟩:=z;exact⟨_,rfl,_,_,_,_,_,_,_,_,_,_,_,_,_,_,_,_,_,_,_,_,_,rfl,rfl,hF⟩
    ·obtain rfl:b17=false:=Z7 hr;obtain rfl:b5=true:=ZX hr 5;obtain rfl:b7=true:=ZX hr 7;obtain rfl:b9=true:=ZX hr 9;obtain rfl:b11=true:=ZX hr 11;obtain rfl:b16=true:=ZX hr 16;refine ZT rfl (by kernel_rfl) (some 45) rfl (.agg (ZI ⟨fx,t.snd,t.sq,t.Zp,pr⟩)) V (by kernel_rfl) ?_;exact⟨_,_,_,_,_,_,_,_,_,_,_,_,_,_,_,_,_,_,_,_,_,rfl,rfl,hF⟩
    ·obtain rfl:b18=false:=Z7 hr;refine ZT rfl (by kernel_rfl) (some 10) rfl (Z5 V.heap.size 0) (V.alloc (.cells (ZI (YR 0)) 40)) (by kernel_rfl) ?_;exact⟨_,_,_,_,_,_,_,_,_,_,_,_,_,_,_,_,_,_,_,_,_,rfl,rfl,hF.alloc⟩
    ·obtain rfl:b19=false:=Z7 hr;obtain rfl:b17=true:=ZX hr 17;obtain rfl:b18=true:=ZX hr 18;obtain⟨g9,V2,rfl,hst,hF2⟩:=hF.store;refine Zf rfl (by kernel_rfl) rfl 40 (.tmp 10) (.tmp 45) rfl (Z5 g9 0) (.agg (ZI ⟨fx,t.snd,t.sq,t.Zp,pr⟩)) (by kernel_rfl) (by kernel_rfl) _ hst ?_;exact⟨_,_,_,_,_,_,_,_,_,_,_,_,_,_,_,_,_,_,_,_,_,rfl,rfl,hF2⟩
   ·intro ZG V hJ;obtain⟨b0,b1,b2,b3,b4,b5,b6,b7,b8,b9,b10,b11,b12,b13,b14,b15,b16,b17,b18,b19,x10,he,rfl,hF⟩:=hJ;have he:(#[true,true,true,true,true,true,true,true,true,true,true,true,true,true,true,true,true,true,true,true]:Array Bool)=#[b0,b1,b2,b3,b4,b5,b6,b7,b8,b9,b10,b11,b12,b13,b14,b15,b16,b17,b18,b19]:=he;simp only[Array.mk.injEq,List.cons.injEq,and_true] at he;obtain⟨rfl,rfl,rfl,rfl,rfl,rfl,rfl,rfl,rfl,rfl,rfl,rfl,rfl,rfl,rfl,rfl,rfl,rfl,rfl,rfl⟩:=he;simp only[cond_true];obtain⟨g10,rfl,RG,-,hbx⟩:=hF.box rfl;have OO:=Z9 (hbx rfl);have hbv:=hF.bel;have HB4:=Z9 (VI.out.trans (hbv.mono VI.out.size));have vH:=Z9 (XQ.out.below XQ.out.lt hbv);have fE:=Z9 (Tv.out.below Tv.out.lt hbv);have Gn:Hid (g10≠g6/\g10≠g7):=Z9 (by have:=HG.out.2.2.2.2.2; have:=HSV.out; omega);have Jb:Hid (W.heap.size<=V.heap.size):=Z9 (Nat.le_trans HSV.out hbv.size);have HPZ:Hid (PZ g3 g8 g10 W.heap.size (ZU la A.length lk c) t ta tk ⟨fx,t.snd,t.sq,t.Zp,pr⟩ V):=Z9 ⟨XD.out.below XD.out.lt hbv,TS.out.below TS.out.lt hbv,hbx rfl,own_below I5.out hbv⟩;clear hF hbx hbv RG XD XQ Tv TS I5 VI h0;by_cases hfx:¬ fx=0
    ·go_upto_region 7 with fail;refine wl<|ZV (Z5 g10 0)<|ZL rfl ⟨g10,0,none⟩ (Z8 fx) (OO.out.ZP 0)<|ZJ (YX rfl fx 0 (decide_eq_false hfx))<|wn ?_;simp only[pu];obtain rfl:=H3.out hfx;go_upto_region 8 with fail;have h0:K8 w g6 g7 (PZ g3 g8 g10 W.heap.size (ZU la A.length lk c) t ta tk ⟨fx,t.snd,t.sq,t.Zp,pr⟩) (ZU la A.length lk c) ⟨fx,t.snd,t.sq,t.Zp,pr⟩ false false V.drew:=K8.start HB4.out HPZ.out.drew vH.out fE.out;generalize V=V4 at *
     refine Zw (fun listed ZG V=>∃ b0 b1 b2 b3:Bool,listed=#[b0,b1,b2,b3]/\ZG={ tmps:=#[.agg (ZU la A.length lk c),Z4 price,.slice ra L.length rc,Z5 g3 0,undef,undef,Z5 g6 0,Z5 g7 0,Z5 g8 0,Z8 D.2,Z5 g10 0,undef,undef,.agg (ZU la A.length lk c),Z8 0,ZY,undef,undef,.tuple #[.agg (Zx t ta tk),Z8 D.2],.slice ra L.length rc,.tuple #[.agg (Zx t ta tk),Z8 D.2],.agg (Zx t ta tk),Z8 D.2,Z8 D.2,ZY,undef,undef,undef,.agg (ZU la A.length lk c),Z4 price,.agg (Zx t ta tk),.slice ra L.length rc,Z8 L.length,Z8 fx,Z5 g8 0,.string t.snd,Z5 g8 1,Z4 t.sq,Z5 g8 2,Z4 t.Zp,Z5 g8 3,Z4 t.YZ,Z5 g8 2,Z4 t.Zp,Z4 pr,.agg (ZI ⟨fx,t.snd,t.sq,t.Zp,pr⟩),Z5 g10 0,Z8 fx,ZW,(cond b0 (.agg (ZU la A.length lk c)) undef),(cond b1 (.agg (ZI ⟨fx,t.snd,t.sq,t.Zp,pr⟩)) undef),undef,undef,undef,undef,undef,undef,undef,undef,undef,undef],defers:=[] }/\K8 w g6 g7 (PZ g3 g8 g10 W.heap.size (ZU la A.length lk c) t ta tk ⟨fx,t.snd,t.sq,t.Zp,pr⟩) (ZU la A.length lk c) ⟨fx,t.snd,t.sq,t.Zp,pr⟩ b2 b3 V) (by kernel_rfl) (by kernel_rfl) ?_ ?_ ?_
     ·exact⟨_,_,_,_,rfl,rfl,h0⟩
     ·intro i9 listed ZG V hi9 hr hJ;obtain⟨b0,b1,b2,b3,rfl,rfl,hF⟩:=hJ;have hi2:i9<4:=hi9;have hi3:i9=0∨i9=1∨i9=2∨i9=3:=(by omega);rcases hi3 with rfl | rfl | rfl | rfl
      ·obtain rfl:b0=false:=Z7 hr;refine ZE rfl (by kernel_rfl) (some 49) rfl 29 (.tmp 3) rfl ⟨g3,0,none⟩ (.agg (ZU la A.length lk c)) (by kernel_rfl) (ZN hF.p.x3) ?_;exact⟨_,_,_,_,rfl,rfl,hF⟩
      ·obtain rfl:b1=false:=Z7 hr;refine ZE rfl (by kernel_rfl) (some 50) rfl 40 (.tmp 10) rfl ⟨g10,0,none⟩ (.agg (ZI ⟨fx,t.snd,t.sq,t.Zp,pr⟩)) (by kernel_rfl) (Yg hF.p.x10) ?_;exact⟨_,_,_,_,rfl,rfl,hF⟩
      ·obtain rfl:b2=false:=Z7 hr;obtain rfl:b0=true:=ZX hr 0;obtain⟨V2,hst,hF2⟩:=hF.st6 (fun V9 hb=>hF.p.but hb HG.out.2.2.2.1 HG8.out.1 Gn.out.1 HG.out.2.2.2.2.2.1) HG.out.1 HG.out.2.2.1;refine Zf rfl (by kernel_rfl) rfl 29 (.tmp 6) (.tmp 49) rfl (Z5 g6 0) (.agg (ZU la A.length lk c)) (by kernel_rfl) (by kernel_rfl) _ hst ?_;exact⟨_,_,_,_,rfl,rfl,hF2⟩
      ·obtain rfl:b3=false:=Z7 hr;obtain rfl:b1=true:=ZX hr 1;obtain⟨V2,hst,hF2⟩:=hF.st7 (fun V9 hb=>hF.p.but hb HG.out.2.2.2.2.1 HG8.out.2.1 Gn.out.2 HG.out.2.2.2.2.2.2) HG.out.2.1 (fun e=>HG.out.2.2.1 e.symm);refine Zf rfl (by kernel_rfl) rfl 40 (.tmp 7) (.tmp 50) rfl (Z5 g7 0) (.agg (ZI ⟨fx,t.snd,t.sq,t.Zp,pr⟩)) (by kernel_rfl) (by kernel_rfl) _ hst ?_;exact⟨_,_,_,_,rfl,rfl,hF2⟩
     ·intro ZG V hJ;obtain⟨b0,b1,b2,b3,he,rfl,hF⟩:=hJ;have he:(#[true,true,true,true]:Array Bool)=#[b0,b1,b2,b3]:=he;simp only[Array.mk.injEq,List.cons.injEq,and_true] at he;obtain⟨rfl,rfl,rfl,rfl⟩:=he;simp only[cond_true];go_wp2_with fail;exact bodyPost_ret (Wx rfl (by kernel_rfl) (ZN hF.x6) (by kernel_rfl) (Yg hF.x7)) rfl ⟨la,lk,rfl,HLW.out.below hF.bel,hlk,.inl ⟨rfl,rfl⟩,hF.bel⟩
    ·have hfx:fx=0:=Decidable.of_not_not hfx;go_upto_region 7 with fail;refine wl<|ZV (Z5 g10 0)<|ZL rfl ⟨g10,0,none⟩ (Z8 fx) (OO.out.ZP 0)<|ZJ (YX rfl fx 0 (decide_eq_true hfx))<|wn ?_;simp only[pu];obtain rfl:=H4.out hfx;obtain⟨uw,aN8⟩:=HF0.out hfx;have aB1:Cs V ta (Rq t.tr):=(by obtain⟨a9,c9,e9,h9,-⟩:=Yq HPZ.out.row; simp only[Value.slice.injEq,true_and] at e9; obtain⟨rfl,rfl⟩:=e9; exact h9);have CC:=DZ t ta tk V aB1 (by have:=uw.m; omega) uw.f uw.a;have hcb:=uw.cb;have HDQ:=Z9 uw;have HCD:=Z9 (fun V (hl:Cs V la (acc A)) (ht:Cs V ta (Rq t.tr))=>DY A c t la ta lk tk V hl hlk ht uw);rw[hcb] at CC;clear aB1 uw hcb H3 H4 HF0 CF CP HQ;go_upto_region 9 with fail;refine wl<|ZL rfl ⟨g8,0,none⟩ (.agg (Zx t ta tk)) (Zz HPZ.out.x8)<|YS (.tuple #[Z4 (YJ t),ZW]) (fun w'=>Below V.heap.size V w') (CC) (fun V5 fD=>?_);refine SG (.tuple #[Z4 (YJ t),ZW]) (Z4 (YJ t)) ZW (Z4 (YJ t)) ZW<|wn ?_;simp only[pu];have aK6:=Z9 (HPZ.out.more fD);have h5:=HB4.out.trans (fD.mono HB4.out.size);have vG:=vH.out.below vH.out.lt fD;have aB2:=fE.out.below fE.out.lt fD;have aN:Hid (W.heap.size<=V5.heap.size):=Z9 (Nat.le_trans Jb.out fD.size);clear CC fD HB4 HPZ vH fE OO;go_upto_region 10 with fail;obtain⟨DL,hDL⟩:=ZR (Yl A t);rw[hDL] at HCD;have h0:KS w g6 g7 W.heap.size (PZ g3 g8 g10 W.heap.size (ZU la A.length lk c) t ta tk ⟨fx,t.snd,t.sq,t.Zp,pr⟩) DL (c+t.YZ) ⟨fx,t.snd,t.sq,t.Zp,pr⟩ false false false undef V5.drew:=KS.start h5 aK6.out.drew vG aB2;generalize V=V4 at *
     clear h5 vG aB2;refine Zw (fun listed ZG V=>∃ b0 b1 b2 b3 b4 b5 b6:Bool,∃ x59:Value,listed=#[b0,b1,b2,b3,b4,b5,b6]/\ZG={ tmps:=#[.agg (ZU la A.length lk c),Z4 price,.slice ra L.length rc,Z5 g3 0,undef,undef,Z5 g6 0,Z5 g7 0,Z5 g8 0,Z8 D.2,Z5 g10 0,Z4 (YJ t),ZW,.agg (ZU la A.length lk c),Z8 0,ZY,undef,undef,.tuple #[.agg (Zx t ta tk),Z8 D.2],.slice ra L.length rc,.tuple #[.agg (Zx t ta tk),Z8 D.2],.agg (Zx t ta tk),Z8 D.2,Z8 D.2,ZY,undef,undef,undef,.agg (ZU la A.length lk c),Z4 price,.agg (Zx t ta tk),.slice ra L.length rc,Z8 L.length,Z8 fx,Z5 g8 0,.string t.snd,Z5 g8 1,Z4 t.sq,Z5 g8 2,Z4 t.Zp,Z5 g8 3,Z4 t.YZ,Z5 g8 2,Z4 t.Zp,Z4 pr,.agg (ZI ⟨fx,t.snd,t.sq,t.Zp,pr⟩),Z5 g10 0,Z8 fx,ZY,undef,undef,.tuple #[Z4 (YJ t),ZW],.agg (Zx t ta tk),.tuple #[Z4 (YJ t),ZW],Z4 (YJ t),ZW,(cond b0 (.agg (ZU la A.length lk c)) undef),(cond b1 (.agg (Zx t ta tk)) undef),(cond b2 (Z4 (YJ t)) undef),x59,(cond b4 (.agg (ZI ⟨fx,t.snd,t.sq,t.Zp,pr⟩)) undef)],defers:=[] }/\KS w g6 g7 W.heap.size (PZ g3 g8 g10 W.heap.size (ZU la A.length lk c) t ta tk ⟨fx,t.snd,t.sq,t.Zp,pr⟩) DL (c+t.YZ) ⟨fx,t.snd,t.sq,t.Zp,pr⟩ b3 b5 b6 x59 V) (by kernel_rfl) (by kernel_rfl) ?_ ?_ ?_
     ·exact⟨_,_,_,_,_,_,_,_,rfl,rfl,h0⟩
     ·intro i9 listed ZG V hi9 hr hJ;obtain⟨b0,b1,b2,b3,b4,b5,b6,x59,rfl,rfl,hF⟩:=hJ;have hi2:i9<7:=hi9;have hi3:i9=0∨i9=1∨i9=2∨i9=3∨i9=4∨i9=5∨i9=6:=(by omega);rcases hi3 with rfl | rfl | rfl | rfl | rfl | rfl | rfl
      ·obtain rfl:b0=false:=Z7 hr;refine ZE rfl (by kernel_rfl) (some 56) rfl 29 (.tmp 3) rfl ⟨g3,0,none⟩ (.agg (ZU la A.length lk c)) (by kernel_rfl) (ZN hF.p.x3) ?_;exact⟨_,_,_,_,_,_,_,_,rfl,rfl,hF⟩
      ·obtain rfl:b1=false:=Z7 hr;refine ZE rfl (by kernel_rfl) (some 57) rfl 67 (.tmp 8) rfl ⟨g8,0,none⟩ (.agg (Zx t ta tk)) (by kernel_rfl) (Zz hF.p.x8) ?_;exact⟨_,_,_,_,_,_,_,_,rfl,rfl,hF⟩
      ·obtain rfl:b2=false:=Z7 hr;refine ZT rfl (by kernel_rfl) (some 58) rfl (Z4 (YJ t)) V (by kernel_rfl) ?_;exact⟨_,_,_,_,_,_,_,_,rfl,rfl,hF⟩
      ·obtain rfl:b3=false:=Z7 hr;obtain rfl:b0=true:=ZX hr 0;obtain rfl:b1=true:=ZX hr 1;obtain rfl:b2=true:=ZX hr 2;obtain rfl:b5=false:=ff hF.o rfl;refine Zc rfl (by kernel_rfl) (some 59) rfl 58 #[.agg (ZU la A.length lk c),.agg (Zx t ta tk),Z4 (YJ t)] (by kernel_rfl) ((HCD.out V (HLW.out.below hF.bel) (by obtain⟨a9,c9,e9,h9,-⟩:=Yq hF.p.row; simp only[Value.slice.injEq,true_and] at e9; obtain⟨rfl,rfl⟩:=e9; exact h9)).mono fun e w' z=>?_);obtain⟨ad,k,rfl,hr,hb⟩:=z;exact⟨_,rfl,_,_,_,_,_,_,_,_,rfl,rfl,hF.call (Nat.le_of_lt (Nat.lt_of_le_of_lt HG8.out.2.2 hF.p.x8.lt)) (hF.p.more hb) hb hr⟩
      ·obtain rfl:b4=false:=Z7 hr;refine ZE rfl (by kernel_rfl) (some 60) rfl 40 (.tmp 10) rfl ⟨g10,0,none⟩ (.agg (ZI ⟨fx,t.snd,t.sq,t.Zp,pr⟩)) (by kernel_rfl) (Yg hF.p.x10) ?_;exact⟨_,_,_,_,_,_,_,_,rfl,rfl,hF⟩
      ·obtain rfl:b5=false:=Z7 hr;obtain rfl:b3=true:=ZX hr 3;obtain⟨ad,k,V2,rfl,hst,hF2⟩:=hF.st6 (fun V9 hb=>hF.p.but hb HG.out.2.2.2.1 HG8.out.1 Gn.out.1 HG.out.2.2.2.2.2.1) HG.out.1 HG.out.2.2.2.2.2.1 HG.out.2.2.1;refine Zf rfl (by kernel_rfl) rfl 29 (.tmp 6) (.tmp 59) rfl (Z5 g6 0) (.agg (ZU ad DL.length k (c+t.YZ))) (by kernel_rfl) (by kernel_rfl) _ hst ?_;exact⟨_,_,_,_,_,_,_,_,rfl,rfl,hF2⟩
      ·obtain rfl:b6=false:=Z7 hr;obtain rfl:b4=true:=ZX hr 4;obtain⟨V2,hst,hF2⟩:=hF.st7 (fun V9 hb=>hF.p.but hb HG.out.2.2.2.2.1 HG8.out.2.1 Gn.out.2 HG.out.2.2.2.2.2.2) HG.out.2.1 HG.out.2.2.2.2.2.2 (fun e=>HG.out.2.2.1 e.symm);refine Zf rfl (by kernel_rfl) rfl 40 (.tmp 7) (.tmp 60) rfl (Z5 g7 0) (.agg (ZI ⟨fx,t.snd,t.sq,t.Zp,pr⟩)) (by kernel_rfl) (by kernel_rfl) _ hst ?_;exact⟨_,_,_,_,_,_,_,_,rfl,rfl,hF2⟩
     ·intro ZG V hJ;obtain⟨b0,b1,b2,b3,b4,b5,b6,x59,he,rfl,hF⟩:=hJ;have he:(#[true,true,true,true,true,true,true]:Array Bool)=#[b0,b1,b2,b3,b4,b5,b6]:=he;simp only[Array.mk.injEq,List.cons.injEq,and_true] at he;obtain⟨rfl,rfl,rfl,rfl,rfl,rfl,rfl⟩:=he;simp only[cond_true];obtain⟨ad,k,rfl,hk,hrow⟩:=hF.row rfl;obtain⟨a2,k2,e2,hx6⟩:=hF.y6 rfl;simp only[Value.agg.injEq,Array.mk.injEq,List.cons.injEq,Value.slice.injEq,true_and,and_true] at e2;obtain⟨rfl,rfl⟩:=e2;obtain⟨a9,c9,e9,h9,-⟩:=hrow.cs;simp only[Value.slice.injEq,true_and] at e9;obtain⟨rfl,rfl⟩:=e9;subst hDL;subst hfx;go_wp2_with fail;exact bodyPost_ret (Wx rfl (by kernel_rfl) (ZN hx6) (by kernel_rfl) (Yg hF.x7)) rfl ⟨ad,k,rfl,h9,hk,.inr fun x hx=>Nat.le_trans HB0.out.size (J4 hrow x hx),hF.bel⟩
  ·go_upto_region 4 with fail;refine wl<|ZV (Z8 D.2)<|ZJ (YX rfl D.2 0 (decide_eq_false hd))<|wn ?_;simp only[pu];obtain⟨hsA,hYA⟩:=ZC (a':=la) (n':=A.length) (k':=lk) (c':=c) XQ.out;have hYB:=Tv.out.but (But.setRow (g:=g6) V3 (ZU la A.length lk c)) HG.out.2.2.1;obtain⟨hsB,hYC⟩:=XY (q:=YR D.2) hYB;have hYD:=hYA.but (But.setRow (g:=g7) (V3.setRow g6 (ZU la A.length lk c)) (ZI (YR D.2))) (fun e=>HG.out.2.2.1 e.symm);have hbZ:=ZQ (ZQ VI.out HG.out.1 (ZU la A.length lk c)) HG.out.2.1 (ZI (YR D.2));have hLZ:=HLW.out.below hbZ;obtain rfl:=H2.out rfl hd;have HE:Hid (ny w la A ((A,c),YR D.2) (.returned (.tuple #[.agg (ZU la A.length lk c),.agg (ZI (YR D.2))])) ((V3.setRow g6 (ZU la A.length lk c)).setRow g7 (ZI (YR D.2)))):=Z9 ⟨la,lk,rfl,hLZ,hlk,.inl ⟨rfl,rfl⟩,hbZ⟩;generalize (V3.setRow g6 (ZU la A.length lk c)).setRow g7 (ZI (YR D.2))=VZ at *
   generalize V3.setRow g6 (ZU la A.length lk c)=VY at *
   clear hYA hYB hbZ hLZ;go_upto_region 5 with fail;refine wl<|ZL rfl ⟨g3,0,none⟩ (.agg (ZU la A.length lk c)) (ZN XD.out)<|ZA (Z8 D.2) (.agg (ZI (YR D.2)))<|Zu rfl (hsA)<|Zu rfl (hsB)<|wn ?_;simp only[pu];go_wp2_with fail;exact bodyPost_ret (Wx rfl (by kernel_rfl) (ZN hYD) (by kernel_rfl) (Yg hYC)) rfl HE.out
 ·refine ZJ (YX rfl ve 0 (decide_eq_false hv))<|wn ?_;simp only[pu];have VI:=Z9 HB1.out;obtain⟨hsA,hYA⟩:=ZC (a':=la) (n':=A.length) (k':=lk) (c':=c) XQ.out;have hYB:=Tv.out.but (But.setRow (g:=g6) W1 (ZU la A.length lk c)) HG.out.2.2.1;obtain⟨hsB,hYC⟩:=XY (q:=YR 1) hYB;have hYD:=hYA.but (But.setRow (g:=g7) (W1.setRow g6 (ZU la A.length lk c)) (ZI (YR 1))) (fun e=>HG.out.2.2.1 e.symm);have hbZ:=ZQ (ZQ VI.out HG.out.1 (ZU la A.length lk c)) HG.out.2.1 (ZI (YR 1));have hLZ:=HLW.out.below hbZ;obtain rfl:=H1.out hv;have HE:Hid (ny w la A ((A,c),YR 1) (.returned (.tuple #[.agg (ZU la A.length lk c),.agg (ZI (YR 1))])) ((W1.setRow g6 (ZU la A.length lk c)).setRow g7 (ZI (YR 1)))):=Z9 ⟨la,lk,rfl,hLZ,hlk,.inl ⟨rfl,rfl⟩,hbZ⟩;generalize (W1.setRow g6 (ZU la A.length lk c)).setRow g7 (ZI (YR 1))=VZ at *
  generalize W1.setRow g6 (ZU la A.length lk c)=VY at *
  clear hYA hYB hbZ hLZ;go_upto_region 2 with fail;refine wl<|ZL rfl ⟨g3,0,none⟩ (.agg (ZU la A.length lk c)) (ZN XD.out)<|ZV (.agg (ZI (YR 1)))<|Zu rfl (hsA)<|Zu rfl (hsB)<|wn ?_;simp only[pu];go_wp2_with fail;exact bodyPost_ret (Wx rfl (by kernel_rfl) (ZN hYD) (by kernel_rfl) (Yg hYC)) rfl HE.out
end Go.Proofs.YtnhlpahoomcgnaaGreat.Lg
namespace Go.Proofs.YtnhlpahoomcgnaaGreat.Lg
open Mo (YU Y9 Ym Yz)
open Go.RowKit
theorem nC:(Tryz.prog.info? 5).map (fun i=>(i.zero,i.size,i.bytes))=some (some (.int .u8 0),1,1):=by kernel_rfl
theorem ak8 (w:World):(Instr.buildSlice 23 0 #[]).run Tryz.prog w=.ok (.slice (some ⟨w.heap.size,0,none⟩) 0 0) (w.alloc (.cells #[] 5)):=Om Tryz.underlying23 nC w
theorem fH (w:World):Own (w.alloc (.cells #[] 5)) w.heap.size (.slice (some ⟨w.heap.size,0,none⟩) 0 0) []:=Py w 5 1
theorem fJ {w:World}{B:Nat}{v:Value}{A M:List Int}(h:Own w B v A)(hB:B<=w.heap.size)(pa:Option Addr)(cp:Nat)(hP:Sl w pa cp M)(hl:A.length+M.length<=100000000) :
  ∃ a c V2,(Builtin.append_ #[23,23] 23 #[v,.slice pa M.length cp]).run Tryz.prog w=.ok (.slice a (A++M).length c) V2/\Own V2 B (.slice a (A++M).length c) (A++M)/\Below B w V2:=by
 obtain⟨i0,hi,hz0,hz1,hz2⟩:=info_parts nC;have fin:∀ v2 V2,(Builtin.append_ #[23,23] 23 #[v,.slice pa M.length cp]).run Tryz.prog w=.ok v2 V2->Own V2 B v2 (A++M)->Below B w V2->∃ a c V2,(Builtin.append_ #[23,23] 23 #[v,.slice pa M.length cp]).run Tryz.prog w=.ok (.slice a (A++M).length c) V2/\Own V2 B (.slice a (A++M).length c) (A++M)/\Below B w V2:=fun v2 V2 hr ho hb=>by
  obtain⟨a,c,rfl,-,-⟩:=ho.sl;exact⟨a,c,V2,hr,ho,hb⟩
 cases pa with
 | none=>
  have hM:M=[]:=by
   rcases hP with⟨-,-,e⟩ | ⟨x,e,-⟩
   ·exact e
   ·cases e
  subst hM;refine fin v w ?_ (by rw[List.append_nil]; exact h) (Below.refl _ _);unfold Own at h;rcases h.2 with⟨rfl,h0⟩ | ⟨g,cap,cur,rfl,_,_,hnc,_⟩
  ·simp[Builtin.append_,run_underlying Tryz.underlying23,sizeOf,typeInfo,hi,Builtin.lenOf,Builtin.firstCells]
  ·simp[Builtin.append_,run_underlying Tryz.underlying23,sizeOf,typeInfo,hi,Builtin.lenOf,Builtin.firstCells,hnc,storeCells]
 | some x=>
  have hx:∀ j u,(M.map (Value.int .u8))[j]?=some u->w.cell? (x.add j)=some u:=fun j u hu=>by
   rcases hP with⟨e,-,-⟩ | ⟨y,e,hy⟩
   ·cases e
   ·cases e;have hj:j<M.length:=by
     have:=(List.getElem?_eq_some_iff.1 hu).1;simpa using this
    obtain⟨b,off,rfl,hc⟩:=hy j hj;rw[Addr.add_mid,hc];rw[List.getElem?_map,List.getElem?_eq_getElem hj] at hu;rw[List.getD_eq_getElem?_getD,List.getElem?_eq_getElem hj];exact hu
  obtain⟨v2,V2,hr,hO2,hg,-,-⟩:=run_append_own_at (P:=Tryz.prog) w B 23 23 5 i0 _ 1 1 Tryz.underlying23 hi hz0 hz1 hz2 (by kernel_rfl) (by omega) v A.length (A.map (Value.int .u8)) h x M.length cp (M.map (Value.int .u8)) (by rw[List.length_map,Nat.mul_one]) hx (fun u hu=>by obtain⟨y,-,rfl⟩:=List.mem_map.1 hu; rfl) (by unfold maxLen; omega) (by omega) hB;refine fin v2 V2 hr (by unfold Own; rw[List.map_append,List.length_append]; exact hO2) ((Below.refl _ w).grown hg hB fun j hj=>(World.ownsRow.lt h j hj).1)
theorem fG {ρ:Operand->Value}{o:Oper}{x:Operand}(ho:o.op=.convert 3 5 x)(a:Nat)(h:a<=255)(hx:ρ x=Z8 a)(w:World):(execOp ρ o).run Tryz.prog w=.ok (.value (.int .u8 a)) w:=by
 have hw:IntKind.u8.wrap (a:Int)=a:=by rw[IntKind.wrap_u8]; omega
 unfold execOp;simp only[ho,hx];go_simp
theorem X4 {w:World}{g c k:Nat}{a:Option Addr}{L:List Int}(h:NS w g a c L k)(hl:L.length<=100000)(hk:k<=100000)(n:Int)(hn:0<n)(hn2:n<=1000000):∃ v:Nat,(v:Int)<n/\Calls Tryz.prog 18 #[Z5 g 0,Z8 n] w fun e w'=>e=.returned (Z8 v)/\NS w' g a c L (k+1)/\But g w w':=by
 obtain⟨N,hN,h3⟩:=h;obtain⟨v,hv,hlt⟩:=Uo L N n hn;exact⟨v,hlt,(Xi h3 hl (by omega) n hn hn2 hv).mono fun e w' q=>⟨q.1,O4.ns q.2.1 (by omega),q.2.2⟩⟩
theorem nD {w w':World}{g B:Nat}{v:Value}{L:List Int}(h:Own w B v L)(hb:But g w w')(hg:g<B):Own w' B v L:=Zt h hb hg
structure Rw (w:World)(B:Nat)(a:Option Addr)(c:Nat)(R:List Int):Prop where
 sl:Sl w a c R
 le:R.length<=c
 b:∀ y,y∈R->W8 y
 n:R.length<=4096
 o:R≠[]->∀ x,a=some x->B<=x.block
theorem Rw.below {w w':World}{B:Nat}{a:Option Addr}{c:Nat}{R:List Int}(h:Rw w B a c R)(hb:Below w.heap.size w w'):Rw w' B a c R:=⟨ZK h.sl hb,h.le,h.b,h.n,h.o⟩
theorem Rw.base {w:World}{B B2:Nat}{a:Option Addr}{c:Nat}{R:List Int}(h:Rw w B2 a c R)(hB:B<=B2):Rw w B a c R:=⟨h.sl,h.le,h.b,h.n,fun e x hx=>Nat.le_trans hB (h.o e x hx)⟩
theorem Rw.but {w w':World}{B g:Nat}{a:Option Addr}{c:Nat}{R:List Int}(h:Rw w B a c R)(hb:But g w w')(hg:g<B):Rw w' B a c R:=⟨by
 rcases h.sl with h1 | ⟨x,rfl,hx⟩
 ·exact .inl h1
 ·refine .inr ⟨x,rfl,fun k hk=>?_⟩;obtain⟨b,off,rfl,hc⟩:=hx k hk;have hne:R≠[]:=fun e=>by rw[e] at hk; simp at hk
  have hB:=h.o hne _ rfl;have hlt:=World.block_lt_of_cell? w (⟨b,off+k,none⟩:Addr) hc;refine⟨b,off,rfl,?_⟩;rw[<- hc];unfold World.cell?;rw[hb.2 b hlt (by have:B<=b:=hB; omega)],h.le,h.b,h.n,h.o⟩
theorem Rw.of {w:World}{B:Nat}{v:Value}{R:List Int}(h:Own w B v R)(hb:∀ y,y∈R->W8 y)(hn:R.length<=4096):∃ a c,v=.slice a R.length c/\Rw w B a c R:=by
 obtain⟨a,c,rfl,h1,h2⟩:=h.sl;refine⟨a,c,rfl,h1,h2,hb,hn,fun hne x hx=>?_⟩;rcases h.2 with⟨e,-⟩ | ⟨g,cap,cur,e,hB,-⟩
 ·simp only[Value.slice.injEq] at e; rw[e.1] at hx; cases hx
 ·simp only[Value.slice.injEq] at e; rw[e.1] at hx; cases hx; exact hB
theorem Rw.take {w:World}{B:Nat}{a:Option Addr}{c:Nat}{R:List Int}(h:Rw w B a c R)(k:Nat):Rw w B a c (R.take k):=
 ⟨Gz h.sl k,by rw[List.length_take]; have:=h.le; omega,fun y hy=>h.b y (List.mem_of_mem_take hy),by rw[List.length_take]; have:=h.n; omega,fun hne=>h.o fun e=>hne (by rw[e,List.take_nil])⟩
theorem ak7 {t:Y8}(h:TxB t):(∀ y,y∈(Rn t).1->W8 y)/\(Rn t).1.length<=4096:=by
 unfold Rn
 split
 ·exact⟨fun y hy=>(by cases hy),by simp⟩
 ·rename_i hv
  have hv:Xu t=0:=by omega
  split
  ·exact⟨fun y hy=>(by cases hy),by simp⟩
  ·rename_i hl
   exact⟨fun y hy=>Tj (val_ok hv h.sq h.Zp h.YZ h.am).1.vf y hy,by show(form t).length<=4096; omega⟩
theorem ak9 {w:World}{B g n c i:Nat}{L:List Int}(h:Own w B (.slice (some ⟨g,0,none⟩) n c) L)(hn:n=L.length)(hi:i<L.length)(x:Int) :
  ∃ V2,(Instr.storeAt 5 (Z5 g (0+i)) (.int .u8 x)).run Tryz.prog w=.ok () V2/\Own V2 B (.slice (some ⟨g,0,none⟩) n c) (L.set i x)/\But g w V2:=by
 subst hn;obtain⟨cur,hcur,hz,-,-⟩:=MJ (e:=5) (s:=1) h;have hst:=VR (ty:=5) (i:=0+i) (v:=.int .u8 x) hcur (by omega) rfl (by kernel_rfl);refine⟨_,hst,?_,But.setCell _ _ _⟩;have ho:=zh h (0+i) (.int .u8 x) (by rw[List.length_map]; omega);unfold Own;rw[List.length_set,List.map_set,Nat.zero_add] at *
 exact ho
theorem But.VG {g q:Nat}{w a b:World}(h:But g w a)(hb:But q a b)(h1:w.heap.size<=q)(hg:g<=q):But g w b:=⟨h.1.trans (hb.1.mono hg),fun k hk hn=>(hb.2 k (Nat.lt_of_lt_of_le hk h.1.size) (by omega)).trans (h.2 k hk hn)⟩
def aA6 (w:World)(g:Nat)(a:Option Addr)(c:Nat)(L:List Int)(k:Nat)(e:Ending)(w':World):Prop:=∃ b d R,e=.returned (.slice b (List.length R) d)/\Rw w' w.heap.size b d R/\NS w' g a c L (k+45)/\But g w w'
end Go.Proofs.YtnhlpahoomcgnaaGreat.Lg
namespace Go.Proofs.YtnhlpahoomcgnaaGreat.Lg
attribute [local irreducible] wpList wpQuiet
open Mo (YU Y9 Ym Yz)
open Go.RowKit
theorem Ak {w:World}{g c k rc:Nat}{a ra:Option Addr}{L:List Int}{A:List Ac}{co p:Int}(h:NS w g a c L k)(hl:L.length<=100000)(hk:k<=9000)(hrow:Cs w ra (acc A))(hrg:acc A≠[]->∀ x,ra=some x->x.block≠g)(hA:∀ x,x∈A->aQ x)(hA4:A.length<=1000) :
  Calls Tryz.prog 9 #[Z5 g 0,.agg (ZU ra A.length rc co),Z4 p] w (aA6 w g a c L k):=by
 have hb0:Below w.heap.size w (w.alloc (.cells (ZU ra A.length rc co) 29)):=(Below.refl _ w).alloc (Nat.le_refl _) _;have hX0:Bx (w.alloc (.cells (ZU ra A.length rc co) 29)) w.heap.size (ZU ra A.length rc co) 29:=heap_alloc_last w _;have Xn:=Z9 h.lt;have HAB:=Z9 (fun h1 x hx=>h.ab h1 x hx);have CT:=as8 (p:=p) (co:=co) (rc:=rc) (h.below hb0) hl (by omega) (hrow.below hb0) hrg hA hA4;go_enter Tryz.func9,Tryz.ntmps9;go_upto_region 1 with fail;change Code.wp _ _ _ _ (w.alloc (.cells (ZU ra A.length rc co) 29));generalize w.alloc (.cells (ZU ra A.length rc co) 29)=W at *
 obtain⟨g4,hg4⟩:=ZR w.heap.size;have HB0:=Z9 hb0;rw[hg4] at hX0;simp only[hg4];clear hb0 hg4 hrow hrg hA h;refine wl<|ZV (Z5 g 0)<|ZL rfl ⟨g4,0,none⟩ (.agg (ZU ra A.length rc co)) (ZN hX0)<|ZV (Z4 p) <|
  Yi (fun v w'=>∃ x a2 c2,v=.agg (Zx x a2 c2)/\Yj w' W.heap.size (.slice a2 x.tr.length c2) x.tr/\GQ x/\NS w' g a c L (k+40)/\But g W w') (CT.mono fun e w' q=>by obtain⟨x,a2,c2,h1,h2,h3,-,-,h4,h5⟩:=q; exact⟨_,h1,x,a2,c2,rfl,h2,h3,h4,h5⟩) (fun vv W1 hq=>?_)
 obtain⟨x,a2,c2,rfl,hrt,hgq,hns,hbt⟩:=hq;obtain⟨a9,c9,e9,hcs,-⟩:=Yq hrt;simp only[Value.slice.injEq,true_and] at e9;obtain⟨rfl,rfl⟩:=e9;have CE:=LM x a2 c2 W1 hcs hgq.b;obtain⟨hby,hen⟩:=ak7 hgq.b;obtain⟨R,hR⟩:=ZR ((Rn x).1);obtain⟨ee,hee⟩:=ZR ((Rn x).2);unfold ah7 at CE;rw[hR] at hby hen;rw[hR,hee] at CE;clear CT hX0 hR hee hrt hcs hgq;refine Yi (fun v w'=>∃ b d,v=.tuple #[.slice b R.length d,Z8 ee]/\Own w' W1.heap.size (.slice b R.length d) R/\Below W1.heap.size W1 w') (CE.mono fun e w' q=>by obtain⟨u,h1,h2,h3⟩:=q; obtain⟨b,d,rfl,-,-⟩:=h2.sl; exact⟨_,h1,b,d,rfl,h2,h3⟩) (fun vv W2 hq=>?_);obtain⟨b,d,rfl,hown,hb2⟩:=hq;refine SG (.tuple #[.slice b R.length d,Z8 ee]) (.slice b R.length d) (Z8 ee) (.slice b R.length d) (Z8 ee)<|wn ?_;simp only[pu];obtain⟨a9,c9,e9,hrw⟩:=Rw.of hown hby hen;simp only[Value.slice.injEq,true_and] at e9;obtain⟨rfl,rfl⟩:=e9;have hgw:=Xn.out;have h0W:=HB0.out.size;have hW1:=hbt.1.size;have Pz:Hid (But g w W2):=Z9 ((But.of_below HB0.out (Nat.le_of_lt hgw)).trans (hbt.more (hb2.mono hbt.1.size) (by omega)));have Ur:=(hns.mono (by omega:k+40<=k+41)).below hb2;have hrw2:Rw W2 w.heap.size b d R:=hrw.base (by omega);have hsz2:w.heap.size<=W2.heap.size:=by have:=hb2.size; omega
 clear CE hown hb2 hns hbt hrw hW1 h0W HB0;by_cases h0:0<R.length
 ·obtain⟨v12,aH7,CN⟩:=X4 Ur hl (by omega) 12 (by decide) (by decide);go_upto_region 2 with fail;refine wl<|ZA (.slice b R.length d) (Z8 R.length)<|ZJ (Zo rfl R.length 0 dT)<|ZA ZW (Z5 g 0) <|
   YS (Z8 v12) (fun w'=>NS w' g a c L (k+41+1)/\But g W2 w') CN (fun W3 hq=>?_)
  obtain⟨nH,xX⟩:=hq;simp only[pu];have hrw3:=hrw2.but xX Xn.out;have JE:=Z9 (Pz.out.trans xX);have hsz3:=Nat.le_trans hsz2 xX.1.size;clear CN Ur hrw2 xX Pz hsz2;by_cases h12:v12=0
  ·subst h12;refine ZJ (ZB rfl (0:Nat) 0 (decide_eq_true rfl))<|ZV ZW<|wn ?_;simp only[pu];obtain⟨k1,hk1,CN⟩:=X4 nH hl (by omega) R.length (by omega) (by have:=hrw3.n; omega);have hk1:k1<R.length:=(by omega);go_upto_region 3 with fail;refine wl<|Yr (Z5 g 0) (.slice b R.length d) (Z8 R.length)<|YS (Z8 k1) (fun w'=>NS w' g a c L (k+41+1+1)/\But g W3 w') CN (fun W4 hq=>?_);obtain⟨aa8,xW⟩:=hq;refine ZV (Z8 k1)<|wn ?_;simp only[pu];have aA7:=hrw3.but xW Xn.out;have aA8:=Z9 (JE.out.trans xW);have aA9:=Nat.le_trans hsz3 xW.1.size;obtain⟨v2,hv2,CN2⟩:=X4 aa8 hl (by omega) 2 (by decide) (by decide);clear CN nH hrw3 xW JE hsz3;go_upto_region 4 with fail;refine wl<|ZV (Z5 g 0)<|YS (Z8 v2) (fun w'=>NS w' g a c L (k+41+1+1+1)/\But g W4 w') CN2 (fun W5 hq=>?_);obtain⟨aa9,xU⟩:=hq;simp only[pu];have vK:=aA7.but xU Xn.out;have nG:=Z9 (aA8.out.trans xU);have hsz5:=Nat.le_trans aA9 xU.1.size;clear CN2 aa8 aA7 xU aA8 aA9;by_cases h2:v2=0
   ·subst h2;refine ZJ (ZB rfl (0:Nat) 0 (decide_eq_true rfl))<|wn ?_;simp only[pu];have hcut:=Em .i64 b R.length d k1 W5 (by have:=vK.le; omega);have htk:(R.take k1).length=k1:=(by rw[List.length_take]; omega);go_upto_region 5 with fail;refine wl<|ZA (.slice b R.length d) (Z8 k1) ?_;refine ND (by kernel_rfl) (some 35) rfl 23 (.tmp 33) (.tmp 34) rfl (.slice b R.length d) (Z8 k1) (.slice b k1 d) (by kernel_rfl) (by kernel_rfl) hcut ?_;refine ZV (.slice b k1 d)<|wn ?_;simp only[pu];go_wp2_with fail;go_ret;exact⟨b,d,R.take k1,by rw[htk]; rfl,vK.take k1,aa9.mono (by omega),nG.out⟩
   ·refine ZJ (ZB rfl v2 0 dF)<|wn ?_;simp only[pu];have hnl:=ak8 W5;have hb6:Below W5.heap.size W5 (W5.alloc (.cells #[] 5)):=(Below.refl _ W5).alloc (Nat.le_refl _) _;obtain⟨a7,c7,W7,hap,ho7,hb7⟩:=fJ (fH W5) hb6.size b d (ZK vK.sl hb6) (by have:=vK.n; simp only[List.length_nil]; omega);rw[List.nil_append] at hap ho7;have hb8:=hb6.trans hb7;obtain⟨q,cur,e7,hq7⟩:∃ q cur,a7=some ⟨q,0,none⟩/\W5.heap.size<=q:=by
     rcases ho7.2 with⟨e,h9⟩ | ⟨q,cap,cur,e,hB,-⟩
     ·omega
     ·simp only[Value.slice.injEq] at e;exact⟨q,cur,e.1,hB⟩
    subst e7;obtain⟨v8,hv8,CN3⟩:=X4 (aa9.below hb8) hl (by omega) 256 (by decide) (by decide);go_upto_region 6 with fail;apply wp_region_lit;refine Zr (by kernel_rfl) (some 36) rfl 23 0 #[] rfl #[] (by kernel_rfl) (.slice (some ⟨W5.heap.size,0,none⟩) 0 0) _ hnl ?_;refine ZV (.slice b R.length d) ?_;refine Zh rfl (some 38) rfl 23 rfl (.tmp 36) (.tmp 37) 23 rfl (.slice (some ⟨W5.heap.size,0,none⟩) 0 0) (.slice b R.length d) (.slice (some ⟨q,0,none⟩) R.length c7) W7 (by kernel_rfl) (by kernel_rfl) hap ?_;refine ZV (.slice (some ⟨q,0,none⟩) R.length c7)<|wn ?_;simp only[pu];go_upto_region 7 with fail;refine wl<|Yr (.slice (some ⟨q,0,none⟩) R.length c7) (Z8 k1) (Z5 g 0)<|YS (Z8 v8) (fun w'=>NS w' g a c L (k+41+1+1+1+1)/\But g W7 w') CN3 (fun W8 hq=>?_);obtain⟨aB0,ab1⟩:=hq;simp only[pu];have ho8:=nD ho7 ab1 (by have:=Xn.out; omega);obtain⟨W9,YT,ho9,YM⟩:=ak9 ho8 rfl hk1 v8;refine YG (.int .u8 v8) (fG rfl v8 (by omega) (by kernel_rfl) _)<|YG (Z5 q (0+k1)) (pF q 0 R.length c7 k1 hk1 _ _ _ rfl (by kernel_rfl) (by kernel_rfl))<|Zu rfl (YT)<|wn ?_;simp only[pu];have hgq:g<q:=(by have:=Xn.out; omega);have hnn:=HAB.out;obtain⟨a10,c10,e10,aK5⟩:=Rw.of (R:=R.set k1 v8) (by unfold Own at *; rw[List.length_set] at *; exact ho9) (fun y hy=>(List.mem_or_eq_of_mem_set hy).elim (vK.b y) (fun e=>by rw[e]; exact⟨by omega,by omega⟩)) (by rw[List.length_set]; exact vK.n);simp only[Value.slice.injEq,true_and] at e10;obtain⟨rfl,e11,rfl⟩:=e10;go_wp2_with fail;go_ret;exact⟨_,_,R.set k1 v8,by rw[List.length_set]; rfl,aK5.base hsz5,(aB0.but YM hgq (fun h5 x hx=>by have:=hnn h5 x hx; omega)).mono (by omega),But.VG ((nG.out.more (hb8.mono hsz5) (Nat.le_of_lt Xn.out)).trans ab1) YM (Nat.le_trans hsz5 hq7) (Nat.le_of_lt hgq)⟩
  ·refine ZJ (ZB rfl v12 0 dF)<|ZV ZY<|wn ?_;simp only[pu];go_upto_region 8 with fail;refine wl<|ZA (.slice b R.length d) (.slice b R.length d)<|wn ?_;simp only[pu];go_wp2_with fail;go_ret;exact⟨b,d,R,rfl,hrw3,nH.mono (by omega),JE.out⟩
 ·go_upto_region 2 with fail;refine wl<|ZA (.slice b R.length d) (Z8 R.length)<|ZJ (Zo rfl R.length 0 dF)<|SG ZY undef undef undef ZY<|wn ?_;simp only[pu];go_upto_region 8 with fail;refine wl<|ZA (.slice b R.length d) (.slice b R.length d)<|wn ?_;simp only[pu];go_wp2_with fail;go_ret;exact⟨b,d,R,rfl,hrw2,Ur.mono (by omega),Pz.out⟩
end Go.Proofs.YtnhlpahoomcgnaaGreat.Lg
namespace Go.Proofs.YtnhlpahoomcgnaaGreat.Lg
open Mo (YU Y9 Ym Yz)
open Go.RowKit
theorem J6:∀ {M:List Tf},SC M=0->∀ x,x∈M->isName (nums x.1)=true
 | [],_,x,hx=>by cases hx
 | y::r,h,x,hx=>by
  unfold SC at h
  split at h
  ·omega
  ·rename_i h1
   split at h
   ·omega
   ·rcases List.mem_cons.1 hx with rfl | hx
    ·simpa using h1
    ·exact J6 h x hx
theorem J5 {t:Y8}(h:Xu t=0):∀ x,x∈t.tr->isName (nums x.1)=true:=by
 unfold Xu at h
 split at h
 ·omega
 split at h
 ·omega
 split at h
 ·omega
 split at h
 ·omega
 exact J6 h
theorem fO {A:List Ac}(h:Nq A)(x:Tf):Nq (Wp A x):=QK h
theorem fM {A:List Ac}(h:Jh A){x:Tf}(hx:isName (nums x.1)=true):Jh (Wp A x):=QJ h (by show isName (nums (Xt A x.1).1)=true; rw[Oj]; exact hx)
theorem yc {A:List Ac}{c:Int}{t:Y8}(h:Jo A c t)(hs:Nq A)(hn:Jh A)(ht:∀ x,x∈t.tr->isName (nums x.1)=true):∀ j,j<=t.tr.length->Nq (Rl A t j)/\Jh (Rl A t j)
 | 0,_=>by
  obtain⟨h1,h2,h3⟩:=WV h.g;refine⟨QK hs,QJ hn ?_⟩;show isName (nums (Zm A t.snd).1.1)=true;rw[h2];exact hn _ h1
 | j+1,hj=>by
  obtain⟨h1,h2⟩:=yc h hs hn ht j (by omega);rw[P9 hj];exact⟨fO h1 _,fM h2 (ht _ (by rw[Vr hj]; exact List.getElem_mem hj))⟩
theorem fK {A:List Ac}{c:Int}{t:Y8}(h:Jo A c t)(hv:YD A c=0)(ht:∀ x,x∈t.tr->isName (nums x.1)=true)(hl:(Yl A t).length<=256):YD (Yl A t) (c+t.YZ)=0/\Vj (Yl A t)/\W64 (c+t.YZ)/\(c+t.YZ)+tot (Zb (Yl A t))=c+tot (Zb A):=by
 obtain⟨v1,v2,v3,v4⟩:=Vq hv;have hg:=xZ h;obtain⟨s1,s2⟩:=yc h v2 v3 ht _ (Nat.le_refl _);have hs:=hg.s;have ha:=Pj t;have he:(c+t.YZ)+tot (Zb (Yl A t))=c+tot (Zb A):=by omega
 refine⟨Hy hl s1 s2 ?_,hg.w,h.cf,he⟩;refine decide_eq_true ?_;rw[X6,he];exact h.tt
structure RH (A:List Ac)(c:Int):Prop where
 v:YD A c=0
 w:Vj A
 cw:W64 c
theorem RH.n {A:List Ac}{c:Int}(h:RH A c):A.length<=256:=(Vq h.v).1
theorem nI {s:ByteArray}(h:isName (nums s)=true):s.size<=20:=by
 unfold isName at h;rw[Zd] at h;simp only[Bool.and_eq_true,decide_eq_true_eq] at h;omega
theorem RH.q {A:List Ac}{c:Int}(h:RH A c):∀ x,x∈A->aQ x:=fun x hx=>by
 obtain⟨i,hi,rfl⟩:=List.getElem_of_mem hx;have h1:=(Vq h.v).2.2.1 i hi;have h2:=h.w i hi;rw[X3 hi] at h1 h2;exact⟨⟨h1,nI h1⟩,h2⟩
theorem RH.z {A:List Ac}{c:Int}(h:RH A c):∀ x,x∈A->x.1.size<=140737488355328:=fun x hx=>Nat.le_trans (h.q x hx).1.2 (by decide)
theorem RH.nil:RH [] 0:=⟨by decide,UL,Xq⟩
theorem RH.tx {A:List Ac}{c price:Int}{L:List Int}(h:RH A c)(hp:W64 price)(h8:∀ y,y∈L->W8 y):RH (WZ A c price L).1.1 (WZ A c price L).1.2:=by
 by_cases hd:(Zj L).2=0
 ·by_cases hf:Yp A price (Zj L).1 L.length=0
  ·have hq:=ak5 h8 h.v h.w h.cw hp hd;obtain⟨d1,d2⟩:=xY hq hf;obtain⟨d3,-,-,-⟩:=Ba (t:=(Zj L).1) (fun x hx=>h8 x hx) (by rw[<- hd]);obtain⟨e1,e2,e3,-⟩:=fK d1 h.v (J5 d3) d2;rw[aA4 h.v hd hf];exact⟨e1,e2,e3⟩
  ·rw[aA5 h.v hd hf]; exact h
 ·rw[ak6 h.v hd]; exact h
end Go.Proofs.YtnhlpahoomcgnaaGreat.Lg
