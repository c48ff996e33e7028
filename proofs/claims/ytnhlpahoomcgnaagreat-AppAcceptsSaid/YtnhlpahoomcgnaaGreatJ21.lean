/-
  Texts joined.
-/
import Derived.Test.YtnhlpahoomcgnaaGreatJ20
set_option maxRecDepth 100000
set_option maxHeartbeats 8000000
set_option linter.unusedSimpArgs false
set_option linter.unusedVariables false
namespace Go.Proofs.YtnhlpahoomcgnaaGreat.Lg
attribute [local irreducible] wpList wpQuiet
open Mo (YU Y9 Ym Yz)
open Go.RowKit
def Gf (lo g g2 g3:Nat)(V:World)(x0 x1:Value):Prop:=∃ a k B c,x0=.slice a (List.length B) k/\x1=Z4 c/\Cs V a (acc B)/\B.length<=k/\RH B c/\(acc B≠[]->∀ x,a=some x->x.block≠g/\x.block≠g2/\x.block≠g3/\lo<=x.block)
theorem Gf.below {lo g g2 g3:Nat}{V V2:World}{x0 x1:Value}(h:Gf lo g g2 g3 V x0 x1)(hb:Below V.heap.size V V2):Gf lo g g2 g3 V2 x0 x1:=by
 obtain⟨a,k,B,c,h1,h2,h3,h4⟩:=h;exact⟨a,k,B,c,h1,h2,h3.below hb,h4⟩
theorem Gf.but {lo g g2 g3 q:Nat}{V V2:World}{x0 x1:Value}(h:Gf lo g g2 g3 V x0 x1)(hb:But q V V2)(hq:q=g∨q=g2∨q=g3):Gf lo g g2 g3 V2 x0 x1:=by
 obtain⟨a,k,B,c,h1,h2,h3,h4,h5,h6⟩:=h;refine⟨a,k,B,c,h1,h2,YF h3 hb (fun hne x hx=>?_),h4,h5,h6⟩;obtain⟨n1,n2,n3,-⟩:=h6 hne x hx;rcases hq with rfl | rfl | rfl <;> assumption
def PG (lo g g2 g3:Nat)(p:Int)(V:World)(v:Value):Prop:=∃ x0 x1 la lk y0 y1 y2 B cc,v=.agg (YI x0 x1 la (List.length B) lk cc y0 y1 y2 p)/\(YI x0 x1 la (List.length B) lk cc y0 y1 y2 p).all (·.oneCell')=true/\Cs V la (acc B)/\B.length<=lk/\RH B cc/\(acc B≠[]->∀ x,la=some x->x.block≠g/\x.block≠g2/\x.block≠g3/\lo<=x.block)/\Gf lo g g2 g3 V x0 x1/\y0=.slice none 0 0/\y1=Z4 0/\y2=ZY
theorem PG.but {lo g g2 g3 q:Nat}{p:Int}{V V2:World}{v:Value}(h:PG lo g g2 g3 p V v)(hb:But q V V2)(hq:q=g∨q=g2∨q=g3):PG lo g g2 g3 p V2 v:=by
 obtain⟨x0,x1,la,lk,y0,y1,y2,B,cc,h1,h2,h3,h4,h5,h6,h7,h8⟩:=h;refine⟨x0,x1,la,lk,y0,y1,y2,B,cc,h1,h2,YF h3 hb (fun hne x hx=>?_),h4,h5,h6,h7.but hb hq,h8⟩;obtain⟨n1,n2,n3,-⟩:=h6 hne x hx;rcases hq with rfl | rfl | rfl <;> assumption
structure KA (w:World)(g g2 g3:Nat)(a:Option Addr)(c:Nat)(L:List Int)(k:Nat)(p:Int)(av:Array Value)(la:Option Addr)(B:List Ac)(b0 b3 b5 b6 b7 b8:Bool)(x30 x31:Value)(V:World):Prop where
 but:But g w V
 ns:NS V g a c L (cond b6 (k+45) k)
 led:Cs V la (acc B)
 mG:Bx V g2 #[.slice none 0 0,Z4 0,.slice none 0 0,Z4 0,.slice none 0 0,Z4 0,ZY,Z4 0] 31
 bx:b8=false->Bx V g3 av 31
 rw:b6=true->b7=false->∃ b d R,x30=.slice b (List.length R) d/\Rw V w.heap.size b d R
 ap:b7=true->PG w.heap.size g g2 g3 p V x31
 st:b8=true->∃ cs,x31=.agg cs/\Bx V g3 cs 31
 o7:b7=true->b6=true
 o8:b8=true->b0=true/\b3=true/\b5=true/\b7=true
 com:Gf w.heap.size g g2 g3 V (av.getD 0 undef) (av.getD 1 undef)
section
variable {w : World} {g g2 g3 : Nat} {a : Option Addr} {c : Nat} {L : List Int} {k : Nat} {p : Int} {av : Array Value} {la : Option Addr} {B : List Ac} {b0 b3 b5 b6 b7 b8 : Bool} {x30 x31 : Value} {V : World}
theorem KA.n8 (h:KA w g g2 g3 a c L k p av la B b0 b3 b5 b6 b7 b8 x30 x31 V)(hf:b0=false∨b3=false∨b5=false∨b7=false):b8=false:=by
 cases b8
 ·rfl
 ·obtain⟨h0,h3,h5,h7⟩:=h.o8 rfl;rcases hf with e | e | e | e
  ·rw[e] at h0; cases h0
  ·rw[e] at h3; cases h3
  ·rw[e] at h5; cases h5
  ·rw[e] at h7; cases h7
theorem KA.up0 (h:KA w g g2 g3 a c L k p av la B b0 b3 b5 b6 b7 b8 x30 x31 V):KA w g g2 g3 a c L k p av la B true b3 b5 b6 b7 b8 x30 x31 V:={ h with o8:=fun e=>⟨rfl,(h.o8 e).2⟩ }
theorem KA.up3 (h:KA w g g2 g3 a c L k p av la B b0 b3 b5 b6 b7 b8 x30 x31 V):KA w g g2 g3 a c L k p av la B b0 true b5 b6 b7 b8 x30 x31 V:={ h with o8:=fun e=>⟨(h.o8 e).1,rfl,(h.o8 e).2.2⟩ }
theorem KA.up5 (h:KA w g g2 g3 a c L k p av la B b0 b3 b5 b6 b7 b8 x30 x31 V):KA w g g2 g3 a c L k p av la B b0 b3 true b6 b7 b8 x30 x31 V:={ h with o8:=fun e=>⟨(h.o8 e).1,(h.o8 e).2.1,rfl,(h.o8 e).2.2.2⟩ }
theorem KA.start (hb:But g w V)(hn:NS V g a c L k)(h3:Cs V la (acc B))(h2:Bx V g2 #[.slice none 0 0,Z4 0,.slice none 0 0,Z4 0,.slice none 0 0,Z4 0,ZY,Z4 0] 31)(h4:Bx V g3 av 31)(h5:Gf w.heap.size g g2 g3 V (av.getD 0 undef) (av.getD 1 undef)):KA w g g2 g3 a c L k p av la B false false false false false false x30 x31 V.drew:=
 ⟨⟨hb.1.drew,hb.2⟩,hn,h3,h2,fun _=>h4,(fun e=>nomatch e),(fun e=>nomatch e),(fun e=>nomatch e),(fun e=>nomatch e),(fun e=>nomatch e),h5.below (Below.refl _ V).drew⟩
theorem al6 {lo:Nat}{la2:Option Addr}{B2:List Ac}(QU:(la2=la/\B2=B)∨∀ x,la2=some x->V.heap.size<=x.block)(hB:acc B≠[]->∀ x,la=some x->x.block≠g/\x.block≠g2/\x.block≠g3/\lo<=x.block)(h1:g<V.heap.size)(h2:g2<V.heap.size)(h3:g3<V.heap.size)(h4:lo<=V.heap.size):acc B2≠[]->∀ x,la2=some x->x.block≠g/\x.block≠g2/\x.block≠g3/\lo<=x.block:=fun hne x hx=>by
 rcases QU with⟨rfl,e2⟩ | h9
 ·rw[e2] at hne;exact hB hne x hx
 ·have:=h9 x hx;omega
theorem KA.raw (h:KA w g g2 g3 a c L k p av la B b0 b3 b5 false b7 b8 x30 x31 V)(hg:g<w.heap.size)(h2:g2≠g)(h3:g3≠g)(hn:acc B≠[]->∀ x,la=some x->x.block≠g){V2:World}{b:Option Addr}{d:Nat}{R:List Int}(hr:Rw V2 w.heap.size b d R)(hns:NS V2 g a c L (k+45))(hb:But g V V2):KA w g g2 g3 a c L k p av la B b0 b3 b5 true b7 b8 (.slice b R.length d) x31 V2:=by
 obtain rfl:=ff h.o7 rfl;have e8:=h.n8 (.inr (.inr (.inr rfl)));subst e8;exact⟨h.but.trans hb,hns,YF h.led hb hn,h.mG.but hb h2,fun e=>(h.bx e).but hb h3,fun _ _=>⟨b,d,R,rfl,hr⟩,(fun e=>nomatch e),(fun e=>nomatch e),fun _=>rfl,(fun e=>nomatch e),h.com.but hb (.inl rfl)⟩
theorem KA.acp (h:KA w g g2 g3 a c L k p av la B b0 b3 b5 true false b8 x30 x31 V)(hg:g<w.heap.size){V2:World}{v:Value}(hv:PG w.heap.size g g2 g3 p V2 v)(hb:Below V.heap.size V V2):KA w g g2 g3 a c L k p av la B b0 b3 b5 true true b8 x30 v V2:=by
 have e8:=h.n8 (.inr (.inr (.inr rfl)));subst e8;exact⟨h.but.more (hb.mono h.but.1.size) (Nat.le_of_lt hg),h.ns.below hb,h.led.below hb,h.mG.below h.mG.lt hb,fun e=>(h.bx e).below (h.bx e).lt hb,(fun _ e=>nomatch e),fun _=>hv,(fun e=>nomatch e),fun _=>rfl,(fun e=>nomatch e),h.com.below hb⟩
theorem KA.store (h:KA w g g2 g3 a c L k p av la B true true true true true false x30 x31 V)(hg:g<w.heap.size)(h23:g2≠g3)(h3:w.heap.size<=g3)(hgg:g3≠g)(hsz:av.size=8)(hla:acc B≠[]->∀ x,la=some x->x.block≠g3)(ha:L≠[]->∀ x,a=some x->x.block<w.heap.size):∃ cs V2,x31=.agg cs/\(Instr.storeAt 31 (Z5 g3 0) (.agg cs)).run Tryz.prog V=.ok () V2/\KA w g g2 g3 a c L k p av la B true true true true true true x30 (.agg cs) V2:=by
 obtain⟨x0,x1,la2,lk,y0,y1,y2,B2,cc,rfl,h2,h3',h4⟩:=h.ap rfl;obtain⟨hst,hY⟩:=Vs (h.bx rfl) hsz h2;have hbt:But g3 V (V.setRow g3 (YI x0 x1 la2 B2.length lk cc y0 y1 y2 p)):=But.setRow _ _;exact⟨_,_,rfl,hst,But.VG h.but hbt h3 (by omega),h.ns.but hbt (by omega) (fun e x hx=>by have:=ha e x hx; omega),YF h.led hbt hla,h.mG.but hbt h23,(fun e=>nomatch e),(fun _ e=>nomatch e),fun _=>(show PG w.heap.size g g2 g3 p _ _ from(h.ap rfl).but hbt (.inr (.inr rfl))),fun _=>⟨_,rfl,hY⟩,fun _=>rfl,fun _=>⟨rfl,rfl,rfl,rfl⟩,h.com.but hbt (.inr (.inr rfl))⟩
end
theorem dZ {ρ:Operand->Value}{o:Oper}{x:Operand}(ho:o.op=.convert 3 27 x)(a:Nat)(h1:a<=1000000)(hx:ρ x=Z8 a)(w:World):(execOp ρ o).run Tryz.prog w=.ok (.value (Z4 a)) w:=by
 have hw:IntKind.u64.wrap (a:Int)=a:=by rw[IntKind.wrap_u64]; omega
 unfold execOp;simp only[ho,hx];go_simp
theorem mF {w:World}{A:List Ac}{v10:Nat}{e:Ending}{w':World}(hv:(v10:Int)<=3)(hw:Vj A)(q:dY w (WC A) v10 e w'):∃ v,e=.returned v/\(∃ x0 x1 la lk y0 y1 y2 B cc p ee,v=.tuple #[.agg (YI x0 x1 la (List.length B) lk cc y0 y1 y2 p),Z8 ee]/\(YI x0 x1 la (List.length B) lk cc y0 y1 y2 p).all (·.oneCell')=true/\Cs w' la (acc B)/\B.length<=lk/\RH B cc/\(acc B≠[]->∀ x,la=some x->w.heap.size<=x.block)/\0<=p/\p<=3/\Below w.heap.size w w'/\x0=.slice la (List.length B) lk/\x1=Z4 cc/\y0=.slice none 0 0/\y1=Z4 0/\y2=ZY):=by
 rcases q with⟨h0,a,k,h1,h2,h3,h4,h5⟩ | ⟨h0,h1,h2⟩
 ·obtain⟨q1,q2⟩:=yX h0;exact⟨_,h1,_,_,a,k,_,_,_,(WC A).1,0,v10,0,rfl,by simp[Value.oneCell'],h2,h3,⟨q1,rH hw,Xq⟩,fun _=>h4,by omega,hv,h5,rfl,rfl,rfl,rfl,rfl⟩
 ·exact⟨_,h1,_,_,none,0,_,_,_,[],0,0,(WC A).2,rfl,by simp[Value.oneCell'],Cs.nil _ _,Nat.le_refl _,RH.nil,fun h=>absurd rfl h,by omega,by omega,h2,rfl,rfl,rfl,rfl,rfl⟩
def al7 (w:World)(g:Nat)(a:Option Addr)(c:Nat)(L:List Int)(k:Nat)(e:Ending)(w':World):Prop:=∃ v p g2 g3,e=.returned v/\PG w.heap.size g g2 g3 p w' v/\0<=p/\p<=3/\NS w' g a c L (k+110)/\But g w w'
theorem al8 {w:World}{g c k:Nat}{a:Option Addr}{L:List Int}(h:NS w g a c L k)(hl:L.length<=100000)(hk:k<=5000) :
  Calls Tryz.prog 30 #[Z5 g 0] w (al7 w g a c L k):=by
 have hb0:Below w.heap.size w (w.alloc (.cells #[.slice none 0 0,Z4 0,.slice none 0 0,Z4 0,.slice none 0 0,Z4 0,ZY,Z4 0] 31)):=(Below.refl _ w).alloc (Nat.le_refl _) _;have hX0:Bx (w.alloc (.cells #[.slice none 0 0,Z4 0,.slice none 0 0,Z4 0,.slice none 0 0,Z4 0,ZY,Z4 0] 31)) w.heap.size #[.slice none 0 0,Z4 0,.slice none 0 0,Z4 0,.slice none 0 0,Z4 0,ZY,Z4 0] 31:=heap_alloc_last w _;have Xn:=Z9 h.lt;have HAB:=Z9 (fun h1 x hx=>h.ab h1 x hx);have CA:=EU (h.below hb0) hl (by omega:k<=10000);go_enter Tryz.func30,Tryz.ntmps30;go_upto_region 1 with fail;change Code.wp _ _ _ _ (w.alloc (.cells #[.slice none 0 0,Z4 0,.slice none 0 0,Z4 0,.slice none 0 0,Z4 0,ZY,Z4 0] 31));generalize w.alloc (.cells #[.slice none 0 0,Z4 0,.slice none 0 0,Z4 0,.slice none 0 0,Z4 0,ZY,Z4 0] 31)=W at *
 obtain⟨g2,hg2⟩:=ZR w.heap.size;have HB0:=Z9 hb0;have HG2:Hid (w.heap.size<=g2/\g2<W.heap.size/\g<g2):=Z9 ⟨by omega,by have:=hX0.lt; omega,by have:=Xn.out; omega⟩;rw[hg2] at hX0;simp only[hg2];have HX0:=Z9 hX0;clear hb0 hg2 h hX0;refine wl<|ZV (Z5 g 0) <|
  Yi (fun v w'=>∃ ra rc A,v=.slice ra (List.length A) rc/\Zi w' W.heap.size (.slice ra A.length rc) A/\(∀ x,x∈A->aQ x)/\A.length<=4/\NS w' g a c L (k+13)/\But g W w') (CA.mono fun e w' q=>by obtain⟨ra,rc,A,h1,h2⟩:=q; exact⟨_,h1,ra,rc,A,rfl,h2⟩) (fun vv W1 hq=>?_)
 obtain⟨ra,rc,A,rfl,hrow,hAq,hA4,qN,Gl⟩:=hq;obtain⟨v10,aH6,CN⟩:=X4 qN hl (by omega) 3 (by decide) (by decide);refine ZV (Z5 g 0)<|YS (Z8 v10) (fun w'=>NS w' g a c L (k+13+1)/\But g W1 w') CN (fun W2 hq=>?_);obtain⟨Ur,XE⟩:=hq;have hrow2:=Zt hrow XE (by have:=HG2.out; omega);obtain⟨a9,c9,e9,hcs2,-⟩:=Yq hrow2;simp only[Value.slice.injEq,true_and] at e9;obtain⟨rfl,rfl⟩:=e9;have CI:=mD A ra rc v10 W2 hcs2 (by omega) (LJ fun x hx=>(hAq x hx).2) (fun x hx=>Nat.le_trans (hAq x hx).1.2 (by decide));refine YG (Z4 v10) (dZ rfl v10 (by omega) (by kernel_rfl) _) <|
  Yi (fun v w'=>∃ x0 x1 la lk y0 y1 y2 B cc p ee,v=.tuple #[.agg (YI x0 x1 la (List.length B) lk cc y0 y1 y2 p),Z8 ee]/\(YI x0 x1 la (List.length B) lk cc y0 y1 y2 p).all (·.oneCell')=true/\Cs w' la (acc B)/\B.length<=lk/\RH B cc/\(acc B≠[]->∀ x,la=some x->W2.heap.size<=x.block)/\0<=p/\p<=3/\Below W2.heap.size W2 w'/\x0=.slice la (List.length B) lk/\x1=Z4 cc/\y0=.slice none 0 0/\y1=Z4 0/\y2=ZY) (CI.mono fun e w' q=>mF (by omega) (LJ fun x hx=>(hAq x hx).2) q) (fun vv W3 hq=>?_)
 obtain⟨x0,x1,la,lk,y0,y1,y2,B,cc,p,ee,rfl,hone,hcs3,hlk,hlq,AX,hp0,hp3,hb3,hx0,hx1,hy⟩:=hq;obtain⟨hst3,Qj⟩:=Vs (heap_alloc_last W3 _:Bx (W3.alloc (.cells #[.slice none 0 0,Z4 0,.slice none 0 0,Z4 0,.slice none 0 0,Z4 0,ZY,Z4 0] 31)) W3.heap.size _ 31) rfl hone;refine Yr (.tuple #[.agg (YI x0 x1 la B.length lk cc y0 y1 y2 p),Z8 ee]) (.agg (YI x0 x1 la B.length lk cc y0 y1 y2 p)) (Z8 ee) ?_;refine Zy rfl (some 3) rfl (Z5 W3.heap.size 0) (W3.alloc (.cells (#[.slice none 0 0,Z4 0,.slice none 0 0,Z4 0,.slice none 0 0,Z4 0,ZY,Z4 0]) 31)) (by kernel_rfl) ?_;refine Zu rfl (hst3)<|ZV (Z8 ee)<|wn ?_;simp only[pu];have TK:Below W3.heap.size W3 ((W3.alloc (.cells #[.slice none 0 0,Z4 0,.slice none 0 0,Z4 0,.slice none 0 0,Z4 0,ZY,Z4 0] 31)).setRow W3.heap.size (YI x0 x1 la B.length lk cc y0 y1 y2 p)):=ZQ ((Below.refl _ W3).alloc (Nat.le_refl _) _) (Nat.le_refl _) _;generalize (W3.alloc (.cells #[.slice none 0 0,Z4 0,.slice none 0 0,Z4 0,.slice none 0 0,Z4 0,ZY,Z4 0] 31)).setRow W3.heap.size (YI x0 x1 la B.length lk cc y0 y1 y2 p)=V4 at *
 obtain⟨g3,hg3⟩:=ZR W3.heap.size;have xR:=Gl.trans XE;have aL1:=xR.1.size;have hszW:W.heap.size<=W2.heap.size:=Nat.le_trans Gl.1.size XE.1.size;have aO6:=HG2.out;have Po:=hb3.trans (TK.mono hb3.size);have HG3:Hid (g2<g3/\w.heap.size<=g3/\g3<V4.heap.size):=Z9 ⟨by have:=hb3.size; omega,by have:=hb3.size; omega,by have:=Qj.lt; omega⟩;rw[hg3] at Qj ⊢;have BK:=Z9 (Ur.below Po);have Pz:=Z9 (((But.of_below HB0.out (Nat.le_of_lt Xn.out)).trans xR).more (Po.mono (by have:=HB0.out.size; omega)) (Nat.le_of_lt Xn.out));have al9:=Z9 (((HX0.out.but xR (by omega)).below (by omega:g2<W2.heap.size) Po));have jh:Hid (PG w.heap.size g g2 g3 p V4 (.agg (YI x0 x1 la B.length lk cc y0 y1 y2 p))):=Z9 ⟨x0,x1,la,lk,y0,y1,y2,B,cc,rfl,hone,hcs3.below TK,hlk,hlq,(fun hne x hx=>by have h1:=AX hne x hx; have h2:=WM hcs3 hne x hx; have h9:=HB0.out.size; omega),⟨la,lk,B,cc,hx0,hx1,hcs3.below TK,hlk,hlq,fun hne x hx=>by have h1:=AX hne x hx; have h2:=WM hcs3 hne x hx; have h9:=HB0.out.size; omega⟩,hy⟩;have XD:=Z9 Qj;have HP:Hid (0<=p/\p<=3):=Z9 ⟨hp0,hp3⟩;clear CA CN CI hrow qN Gl Ur XE hrow2 hcs2 hst3 Qj TK Po xR aL1 hszW hb3 AX hcs3 hAq hA4 hg3 HX0 HB0 hx0 hx1 hy;obtain⟨q12,hq12⟩:=ZR (Value.tuple #[.agg (YI x0 x1 la B.length lk cc y0 y1 y2 p),Z8 ee]);simp only[hq12];obtain⟨q13,EZ⟩:=ZR (Value.agg (YI x0 x1 la B.length lk cc y0 y1 y2 p));have aC0:=Z9 EZ;rw[EZ] at jh;simp only[EZ];clear hq12 EZ hone hlk hlq;by_cases he:ee=0
 ·go_upto_region 2 with fail;refine wl<|ZV (Z8 ee)<|ZJ (YX rfl ee 0 (decide_eq_true he))<|wn ?_;simp only[pu];obtain⟨v5,hv5,CN⟩:=X4 BK.out hl (by omega) 3 (by decide) (by decide);go_upto_region 4 with fail;refine wl<|ZV (Z5 g 0)<|YS (Z8 v5) (fun w'=>NS w' g a c L (k+13+1+1)/\But g V4 w') CN (fun V5 hq=>?_);obtain⟨JD,Xp⟩:=hq;refine ZV (Z8 v5)<|wn ?_;simp only[pu];have nG:=Z9 (Pz.out.trans Xp);have aC1:Hid (NS V5 g a c L (k+15+45*(2-v5))):=Z9 (JD.mono (by omega));have aC2:=Z9 (al9.out.but Xp (by have:=HG2.out; omega));have ni:Hid (∃ cs,Bx V5 g3 cs 31/\cs.size=8/\PG w.heap.size g g2 g3 p V5 (.agg cs)):=Z9 ⟨_,XD.out.but Xp (by have:=HG2.out; have:=HG3.out; omega),rfl,by rw[aC0.out]; exact jh.out.but Xp (.inl rfl)⟩;clear CN JD Xp jh XD BK Pz al9;go_wp2_with fail;go_loopg [5] v5 (fun gg s5 wx=>∃ i:Nat,s5=Z8 i/\i<=2/\Hid (NS wx g a c L (k+15+45*(2-i)))/\Hid (But g w wx)/\Hid (Bx wx g2 #[.slice none 0 0,Z4 0,.slice none 0 0,Z4 0,.slice none 0 0,Z4 0,ZY,Z4 0] 31)/\Hid (∃ cs,Bx wx g3 cs 31/\cs.size=8/\PG w.heap.size g g2 g3 p wx (.agg cs))/\i=gg)
  case atStart=>exact⟨v5,rfl,by omega,aC1,nG,aC2,ni,rfl⟩
  case round=>
   clear aC1 nG aC2 ni;obtain⟨i,rfl,hi2,BK,Pz,YK,XD,hgi⟩:=hrel;obtain⟨cs,hxc,hcz,hag⟩:=XD.out;have HG:=Z9 hgi;clear XD hgi;by_cases hlt:0<i
   ·obtain⟨x0,x1,la,lk,y0,y1,y2,B,cc,e0,hone,hcs,hlk,hlq,hbl,hcm,hy⟩:=hag;simp only[Value.agg.injEq] at e0;subst e0;have HY:=Z9 hy;clear hy;have HA:=Z9 hcs;go_upto_region 5 with fail;refine wl<|ZV (Z8 i)<|ZJ (Zo rfl (i) (0) dT)<|wn ?_;simp only[pu];go_upto_region 7 with fail;have h0:KA w g g2 g3 a c L (k+15+45*(2-i)) p (YI x0 x1 la B.length lk cc y0 y1 y2 p) la B false false false false false false u30 u31 wr.drew:=KA.start Pz.out BK.out hcs YK.out hxc hcm;have HQ:=Z9 hlq;have HBL:=Z9 hbl;have Dj:=Z9 hone;have HWR:=Z9 (Pz.out.1.size);clear hxc hcs hbl hone YK BK Pz hlq;refine Zw (fun listed ZG V=>∃ b0 b1 b2 b3 b4 b5 b6 b7 b8:Bool,∃ x30 x31:Value,listed=#[b0,b1,b2,b3,b4,b5,b6,b7,b8]/\ZG={ tmps:=#[Z5 g 0,undef,Z5 g2 0,Z5 g3 0,Z8 ee,Z8 i,q12,Z5 g 0,.slice ra A.length rc,Z5 g 0,Z8 v10,Z4 v10,q12,q13,Z8 ee,Z8 ee,ZY,undef,Z5 g 0,Z8 v5,Z8 i,ZW,u22,u23,(cond b0 (.agg (YI x0 x1 la B.length lk cc y0 y1 y2 p)) (u24)),(cond b1 (Z5 g 0) (u25)),(cond b2 (Z5 g3 2) (u26)),(cond b3 (.agg (ZU la B.length lk cc)) (u27)),(cond b4 (Z5 g3 7) (u28)),(cond b5 (Z4 p) (u29)),x30,x31,undef],defers:=[] }/\KA w g g2 g3 a c L (k+15+45*(2-i)) p (YI x0 x1 la B.length lk cc y0 y1 y2 p) la B b0 b3 b5 b6 b7 b8 x30 x31 V) (by kernel_rfl) (by kernel_rfl) ?_ ?_ ?_
    ·exact⟨_,_,_,_,_,_,_,_,_,_,_,rfl,rfl,h0⟩
    ·intro i9 listed ZG V hi9 hr hJ;obtain⟨b0,b1,b2,b3,b4,b5,b6,b7,b8,x30,x31,rfl,rfl,hF⟩:=hJ;have hi2:i9<9:=hi9;have hi3:i9=0∨i9=1∨i9=2∨i9=3∨i9=4∨i9=5∨i9=6∨i9=7∨i9=8:=(by omega);rcases hi3 with rfl | rfl | rfl | rfl | rfl | rfl | rfl | rfl | rfl
     ·obtain rfl:b0=false:=Z7 hr;obtain rfl:b8=false:=hF.n8 (.inl rfl);refine ZE rfl (by kernel_rfl) (some 24) rfl 31 (.tmp 3) rfl ⟨g3,0,none⟩ (.agg (YI x0 x1 la B.length lk cc y0 y1 y2 p)) (by kernel_rfl) (VN (hF.bx rfl)) ?_;exact⟨_,_,_,_,_,_,_,_,_,_,_,rfl,rfl,hF.up0⟩
     ·obtain rfl:b1=false:=Z7 hr;refine ZT rfl (by kernel_rfl) (some 25) rfl (Z5 g 0) V (by kernel_rfl) ?_;exact⟨_,_,_,_,_,_,_,_,_,_,_,rfl,rfl,hF⟩
     ·obtain rfl:b2=false:=Z7 hr;refine ZT rfl (by kernel_rfl) (some 26) rfl (Z5 g3 2) V (by kernel_rfl) ?_;exact⟨_,_,_,_,_,_,_,_,_,_,_,rfl,rfl,hF⟩
     ·obtain rfl:b3=false:=Z7 hr;obtain rfl:b2=true:=ZX hr 2;obtain rfl:b8=false:=hF.n8 (.inr (.inl rfl));refine ZE rfl (by kernel_rfl) (some 27) rfl 29 (.tmp 26) rfl ⟨g3,2,none⟩ (.agg (ZU la B.length lk cc)) (by kernel_rfl) (DI (hF.bx rfl)) ?_;exact⟨_,_,_,_,_,_,_,_,_,_,_,rfl,rfl,hF.up3⟩
     ·obtain rfl:b4=false:=Z7 hr;refine ZT rfl (by kernel_rfl) (some 28) rfl (Z5 g3 7) V (by kernel_rfl) ?_;exact⟨_,_,_,_,_,_,_,_,_,_,_,rfl,rfl,hF⟩
     ·obtain rfl:b5=false:=Z7 hr;obtain rfl:b4=true:=ZX hr 4;obtain rfl:b8=false:=hF.n8 (.inr (.inr (.inl rfl)));refine ZE rfl (by kernel_rfl) (some 29) rfl 27 (.tmp 28) rfl ⟨g3,7,none⟩ (Z4 p) (by kernel_rfl) (xQ (hF.bx rfl)) ?_;exact⟨_,_,_,_,_,_,_,_,_,_,_,rfl,rfl,hF.up5⟩
     ·obtain rfl:b6=false:=Z7 hr;obtain rfl:b1=true:=ZX hr 1;obtain rfl:b3=true:=ZX hr 3;obtain rfl:b5=true:=ZX hr 5;refine Zc rfl (by kernel_rfl) (some 30) rfl 9 #[Z5 g 0,.agg (ZU la B.length lk cc),Z4 p] (by kernel_rfl) ((Ak (rc:=lk) (co:=cc) (p:=p) hF.ns hl (by simp only[cond_false]; omega) hF.led (fun hne x hx=>(HBL.out hne x hx).1) HQ.out.q (by have:=HQ.out.n; omega)).mono fun e w' z=>?_);obtain⟨b,d,R,rfl,hr,hn,hb⟩:=z;exact⟨_,rfl,_,_,_,_,_,_,_,_,_,_,_,rfl,rfl,hF.raw Xn.out (by have:=HG2.out; omega) (by have:=HG2.out; have:=HG3.out; omega) (fun hne x hx=>(HBL.out hne x hx).1) (hr.base hF.but.1.size) hn hb⟩
     ·obtain rfl:b7=false:=Z7 hr;obtain rfl:b0=true:=ZX hr 0;obtain rfl:b6=true:=ZX hr 6;obtain⟨b,d,R,rfl,hr⟩:=hF.rw rfl rfl;refine Zc rfl (by kernel_rfl) (some 31) rfl 14 #[.agg (YI x0 x1 la B.length lk cc y0 y1 y2 p),.slice b R.length d] (by kernel_rfl) ((Ae B cc p R x0 x1 y0 y1 y2 la b lk d V Dj.out hF.led hlk HQ.out ⟨HP.out.1,by have:=HP.out.2; omega⟩ hr.sl hr.le hr.b).mono fun e w' z=>?_);obtain⟨la2,lk2,rfl,ho2,hc2,hk2,QU,hb2⟩:=z;exact⟨_,rfl,_,_,_,_,_,_,_,_,_,_,_,rfl,rfl,hF.acp Xn.out ⟨x0,x1,la2,lk2,y0,y1,y2,_,_,rfl,ho2,hc2,hk2,HQ.out.tx ⟨HP.out.1,by have:=HP.out.2; omega⟩ hr.b,al6 QU HBL.out hF.ns.lt hF.mG.lt (hF.bx (hF.n8 (.inr (.inr (.inr rfl))))).lt hF.but.1.size,hF.com.below hb2,HY.out⟩ hb2⟩
     ·obtain rfl:b8=false:=Z7 hr;obtain rfl:b7=true:=ZX hr 7;obtain rfl:b0=true:=ZX hr 0;obtain rfl:b3=true:=ZX hr 3;obtain rfl:b5=true:=ZX hr 5;obtain rfl:b6=true:=hF.o7 rfl;obtain⟨cs,V2,rfl,hst,hF2⟩:=hF.store Xn.out (Nat.ne_of_lt HG3.out.1) HG3.out.2.1 (Nat.ne_of_gt (Nat.lt_trans HG2.out.2.2 HG3.out.1)) rfl (fun hne x hx=>(HBL.out hne x hx).2.2.1) (fun h5 x hx=>HAB.out h5 x hx);refine Zf rfl (by kernel_rfl) rfl 31 (.tmp 3) (.tmp 31) rfl (Z5 g3 0) (.agg cs) (by kernel_rfl) (by kernel_rfl) _ hst ?_;exact⟨_,_,_,_,_,_,_,_,_,_,_,rfl,rfl,hF2⟩
    ·intro ZG V hJ;obtain⟨b0,b1,b2,b3,b4,b5,b6,b7,b8,x30,x31,he,rfl,hF⟩:=hJ;have he:(#[true,true,true,true,true,true,true,true,true]:Array Bool)=#[b0,b1,b2,b3,b4,b5,b6,b7,b8]:=he;simp only[Array.mk.injEq,List.cons.injEq,and_true] at he;obtain⟨rfl,rfl,rfl,rfl,rfl,rfl,rfl,rfl,rfl⟩:=he;simp only[cond_true];obtain⟨cs2,rfl,hx2⟩:=hF.st rfl;have HN9:Hid (NS V g a c L (k+15+45*(2-(i-1)))):=Z9 (hF.ns.mono (show(k+15+45*(2-i))+45<=k+15+45*(2-(i-1)) by omega));have Zl:=Z9 hF.but;have aL2:=Z9 hF.mG;have aL3:Hid (∃ cs,Bx V g3 cs 31/\cs.size=8/\PG w.heap.size g g2 g3 p V (.agg cs)):=Z9 ⟨cs2,hx2,by obtain⟨q0,q1,q2,q3,q4,q5,q6,q7,q8,e9,-⟩:=hF.ap rfl; simp only[Value.agg.injEq] at e9; rw[e9]; rfl,hF.ap rfl⟩;clear hF hx2 h0;go_upto_region 6 with fail;refine wl<|ZV (Z8 i)<|Yy (Z8 (i-1:Nat)) (RI rfl i hlt (by omega))<|ZV (Z8 (i-1:Nat))<|wn ?_;simp only[pu];go_wp2_with fail;go_roundg (i-1)
     case measure=>have:=HG.out; omega
     case rel=>exact⟨i-1,rfl,by omega,HN9,Zl,aL2,aL3,rfl⟩
   ·go_upto_region 5 with fail;refine wl<|ZV (Z8 i)<|ZJ (Zo rfl (i) (0) dF)<|wn ?_;simp only[pu];obtain⟨x0,x1,la,lk,y0,y1,y2,B,cc,e0,hone,hcs,hlk,hlq,hbl,hcm,hy⟩:=hag;simp only[Value.agg.injEq] at e0;subst e0;obtain⟨YT,WJ⟩:=Vs YK.out rfl hone;have YM:But g2 wr (wr.setRow g2 (YI x0 x1 la B.length lk cc y0 y1 y2 p)):=But.setRow _ _;have HE:Hid (al7 w g a c L k (.returned (.agg (YI x0 x1 la B.length lk cc y0 y1 y2 p))) (wr.setRow g2 (YI x0 x1 la B.length lk cc y0 y1 y2 p))):=Z9 ⟨_,p,g2,g3,rfl,(show PG w.heap.size g g2 g3 p _ _ from PG.but (V:=wr) ⟨x0,x1,la,lk,y0,y1,y2,B,cc,rfl,hone,hcs,hlk,hlq,hbl,hcm,hy⟩ YM (.inr (.inl rfl))),HP.out.1,HP.out.2,(BK.out.but YM HG2.out.2.2 (fun h5 x hx=>by have:=HAB.out h5 x hx; have:=HG2.out; omega)).mono (by omega),But.VG Pz.out YM HG2.out.1 (Nat.le_of_lt HG2.out.2.2)⟩;generalize wr.setRow g2 (YI x0 x1 la B.length lk cc y0 y1 y2 p)=V9 at *
    clear YM hcs hy;go_upto_region 8 with fail;refine wl<|ZL rfl ⟨g3,0,none⟩ (.agg (YI x0 x1 la B.length lk cc y0 y1 y2 p)) (VN hxc)<|Zu rfl (YT)<|wn ?_;simp only[pu];go_wp2_with fail;exact bodyPost_ret (YB rfl (by kernel_rfl) (VN WJ)) rfl HE.out
 ·go_upto_region 2 with fail;refine wl<|ZV (Z8 ee)<|ZJ (YX rfl ee 0 (decide_eq_false he))<|wn ?_;simp only[pu];have hag:=jh.out;rw[<- aC0.out] at hag;have hxc:=XD.out;obtain⟨cs0,hcs0⟩:=ZR ((YI x0 x1 la B.length lk cc y0 y1 y2 p));rw[hcs0] at hag hxc;have YK:=al9;obtain⟨x0,x1,la,lk,y0,y1,y2,B,cc,e0,hone,hcs,hlk,hlq,hbl,hcm,hy⟩:=hag;simp only[Value.agg.injEq] at e0;subst e0;obtain⟨YT,WJ⟩:=Vs YK.out rfl hone;have YM:But g2 V4 (V4.setRow g2 (YI x0 x1 la B.length lk cc y0 y1 y2 p)):=But.setRow _ _;have HE:Hid (al7 w g a c L k (.returned (.agg (YI x0 x1 la B.length lk cc y0 y1 y2 p))) (V4.setRow g2 (YI x0 x1 la B.length lk cc y0 y1 y2 p))):=Z9 ⟨_,p,g2,g3,rfl,(show PG w.heap.size g g2 g3 p _ _ from PG.but (V:=V4) ⟨x0,x1,la,lk,y0,y1,y2,B,cc,rfl,hone,hcs,hlk,hlq,hbl,hcm,hy⟩ YM (.inr (.inl rfl))),HP.out.1,HP.out.2,(BK.out.but YM HG2.out.2.2 (fun h5 x hx=>by have:=HAB.out h5 x hx; have:=HG2.out; omega)).mono (by omega),But.VG Pz.out YM HG2.out.1 (Nat.le_of_lt HG2.out.2.2)⟩;generalize V4.setRow g2 (YI x0 x1 la B.length lk cc y0 y1 y2 p)=V9 at *
  clear YM hcs hy;go_upto_region 3 with fail;refine wl<|ZL rfl ⟨g3,0,none⟩ (.agg (YI x0 x1 la B.length lk cc y0 y1 y2 p)) (VN hxc)<|Zu rfl (YT)<|wn ?_;simp only[pu];go_wp2_with fail;exact bodyPost_ret (YB rfl (by kernel_rfl) (VN WJ)) rfl HE.out
def eP (w:World)(X:List Ac×Int)(R:List XO)(e:Ending)(w':World):Prop:=∃ ad k v,e=.returned (.tuple #[.agg (ZU ad X.1.length k X.2),v])/\Cs w' ad (acc X.1)/\X.1.length<=k/\Wq w' w.heap.size v R/\Below w.heap.size w w'
def TxQ (f:Nat):Prop:=∀ (A:List Ac) (c price:Int) (L:List Int) (la ra:Option Addr) (lk rc:Nat) (w:World),Cs w la (acc A)->A.length<=lk->A.length<=4398046511104->W64 c->Vj A->(∀ x,x∈A->x.1.size<=140737488355328)->W64 price->Sl w ra rc L->L.length<=rc->(∀ y,y∈L->W8 y) ->
 Calls Tryz.prog f #[.agg (ZU la A.length lk c),Z4 price,.slice ra L.length rc] w (ny w la A (WZ A c price L))
theorem rtx:TxQ 34:=fun A c p L la ra lk rc w h1 h2 h3 h4 h5 h6 h7 h8 h9 h10=>NU A c p L la ra lk rc w h1 h2 h3 h4 h5 h6 h7 h8 h9 h10
theorem eG (A:List Ac)(c p:Int)(E:List Bs)(la ra:Option Addr)(lk rc:Nat)(w:World)(hL:Cs w la (acc A))(hlk:A.length<=lk)(hd:Pm A c)(hp:W64 p)(hE:PE w ra E)(hn:E.length<=100000) :
  Calls Tryz.prog 38 #[.agg (ZU la A.length lk c),Z4 p,.slice ra E.length rc] w (eP w (YP A c p (lsB E) E.length) (UW A c p (lsB E) E.length)):=by
 obtain⟨hb0,Wj,WX⟩:=Zk w (ZU la A.length lk c) (ZU none 0 0 0) 29 29;have HC0:=Z9 (hL.below hb0);have U5:=Z9 hn;have kP:=Z9 hp;have MS:=Z9 hE;have HRD:Hid (∀ j,j<=E.length->Pm (YP A c p (lsB E) j).1 (YP A c p (lsB E) j).2):=Z9 fun j hj=>hd.run hp hE.all j (by rw[Yn]; exact hj);have Jc:Hid (∀ j,j<E.length->YP A c p (lsB E) (j+1)=(WZ (YP A c p (lsB E) j).1 (YP A c p (lsB E) j).2 p (VO E j).2.2).1):=Z9 fun j hj=>by rw[Xb (by rw[Yn]; exact hj),QO hj]
 have HRR:Hid (∀ j,j<E.length->UW A c p (lsB E) (j+1)=UW A c p (lsB E) j++[(WZ (YP A c p (lsB E) j).1 (YP A c p (lsB E) j).2 p (VO E j).2.2).2]):=Z9 fun j hj=>by rw[Ol]; unfold VE; rw[QO hj]
 have HRL:Hid (∀ j,(UW A c p (lsB E) j).length=j):=Z9 fun j=>Ru _ _ _ _ j;have HR0:Hid (YP A c p (lsB E) 0=(A,c)/\UW A c p (lsB E) 0=[]):=Z9 ⟨rfl,rfl⟩;have Dj:=Z9 (WM hL);generalize YP A c p (lsB E)=U at *
 generalize UW A c p (lsB E)=Q at *
 clear hL hd hp hE;go_enter Tryz.func38,Tryz.ntmps38;go_upto_region 1 with fail;change Code.wp _ _ _ _ ((w.alloc (.cells (ZU la A.length lk c) 29)).alloc (.cells (ZU none 0 0 0) 29));generalize (w.alloc (.cells (ZU la A.length lk c) 29)).alloc (.cells (ZU none 0 0 0) 29)=W at *
 obtain⟨g3,hg3⟩:=ZR w.heap.size;obtain⟨g6,WG⟩:=ZR (g3+1);have HB0:=Z9 hb0;rw[hg3] at Wj;rw[show w.heap.size+1=g6 by omega] at WX;have HG:Hid (w.heap.size<=g3/\w.heap.size<=g6/\g3≠g6/\g6≠g3/\w.heap.size<=W.heap.size):=Z9 ⟨by omega,by omega,by omega,by omega,hb0.size⟩;have rQ:Hid (g3<W.heap.size/\g6<W.heap.size):=Z9 ⟨Wj.lt,WX.lt⟩;have mV:Hid (acc A≠[]->∀ x,la=some x->x.block≠g3/\x.block≠g6/\(Value.slice none 0 0).ownBlock≠some x.block):=Z9 fun h x hx=>by
  have:=Dj.out h x hx;exact⟨by omega,by omega,fun z=>by cases z⟩
 simp only[hg3];simp only[WG];have XD:=Z9 Wj;have XQ:=Z9 WX;clear hb0 hg3 WG Wj WX Dj;go_upto_region 1 with fail;refine wl<|ZV (.slice none 0 0)<|wn ?_;simp only[pu];go_upto_region 2 with fail;refine wl<|Yr (.slice ra E.length rc) (Z8 E.length) (Z8 0)<|wn ?_;simp only[pu];go_wp2_with fail;go_loopg [8,15] E.length (fun gg s8 s15 wx=>∃ (j:Nat) (v8:Value) (ad:Option Addr) (k:Nat),s8=v8/\s15=Z8 j/\j<=E.length/\(U j).1.length<=k/\Hid (Cs wx ad (acc (U j).1))/\Hid (acc (U j).1≠[]->∀ x,ad=some x->x.block≠g3/\x.block≠g6/\v8.ownBlock≠some x.block)/\Hid (Bx wx g3 (ZU ad (U j).1.length k (U j).2) 29)/\Hid (Bx wx g6 (ZU none 0 0 0) 29)/\Hid (Wq wx W.heap.size v8 (Q j))/\Hid (Below w.heap.size w wx)/\Hid (W.heap.size<=wx.heap.size)/\E.length-j=gg)
 case atStart=>exact⟨0,_,la,lk,rfl,rfl,by omega,by rw[HR0.out.1]; exact hlk,by rw[HR0.out.1]; exact HC0,by rw[HR0.out.1]; exact mV,by rw[HR0.out.1]; exact XD,XQ,Z9 (by rw[HR0.out.2]; exact Wq.nil _ _),HB0,Z9 (Nat.le_refl _),by omega⟩
 case round=>
  obtain⟨j,v8,ad,k,rfl,rfl,hj,hk,HC,Vp,HX,HZ,HR,HB,Ho,hg⟩:=hrel;clear HC0 mV XD XQ HB0;have zo:=U5.out;by_cases hlt:j<E.length
  ·obtain⟨b,off,rfl,hld⟩:=(MS.out.below HB.out).at hlt;have YO:=Z9 hld;have JX:=HRD.out j hj;have LZ:=UE hlt;have CT:=rtx (U j).1 (U j).2 p (VO E j).2.2 ad (VO E j).1 k (VO E j).2.1 wr HC.out hk JX.n JX.cw JX.w JX.z kP.out (ZK (MS.out.sl _ LZ) HB.out) (MS.out.le _ LZ) (MS.out.b _ LZ);have Gj:=Z9 (Jc.out j hlt);have HQS:=Z9 (HRR.out j hlt);have HQL:=Z9 (HRL.out j);generalize WZ (U j).1 (U j).2 p (VO E j).2.2=X at *
   generalize VO E j=y at *
   have HG2:=Z9 hg;clear hld JX LZ hg;go_upto_region 3 with fail;refine wl<|ZJ (Zv rfl (j) (E.length) dT)<|wn ?_;simp only[pu];go_upto_region 4 with fail;refine wl<|YG (Z5 b (off+j*1)) (PI b off E.length rc j hlt _ _ _ rfl (by kernel_rfl) (by kernel_rfl))<|ZL rfl ⟨b,off+j*1,none⟩ (.slice y.1 y.2.2.length y.2.1) (YO.out)<|ZV (.slice y.1 y.2.2.length y.2.1)<|wn ?_;simp only[pu];go_upto_region 5 with fail;refine wl<|ZL rfl ⟨g3,0,none⟩ (.agg (ZU ad (U j).1.length k (U j).2)) (ZN HX.out)<|ZA (Z4 p) (.slice y.1 y.2.2.length y.2.1) <|
    Yi (fun v w'=>∃ aZ kZ,v=.tuple #[.agg (ZU aZ X.1.1.length kZ X.1.2),.agg (ZI X.2)]/\Cs w' aZ (acc X.1.1)/\X.1.1.length<=kZ/\((aZ=ad/\X.1.1=(U j).1)∨∀ x,aZ=some x->wr.heap.size<=x.block)/\Below wr.heap.size wr w') (CT.mono fun e w' q=>by obtain⟨aZ,kZ,h1,h2⟩:=q; exact⟨_,h1,aZ,kZ,rfl,h2⟩) (fun vv V2 hq=>?_)
   obtain⟨a2,k2,rfl,hct,hkt,hbl,hbt⟩:=hq;obtain⟨Va,Vb,Vc,Oq,hlt2,hs6,hs7,hb7,hx4,hx5⟩:=JW V2 a2 X.1.1.length k2 X.1.2 X.2;refine Yr (.tuple #[.agg (ZU a2 X.1.1.length k2 X.1.2),.agg (ZI X.2)]) (.agg (ZU a2 X.1.1.length k2 X.1.2)) (.agg (ZI X.2)) ?_;refine Zy rfl (some 11) rfl (Z5 V2.heap.size 0) (V2.alloc (.cells (ZU none 0 0 0) 29)) (by kernel_rfl) ?_;simp only[pu];rw[Oq];refine Zy rfl (some 12) rfl (Z5 Va.heap.size 0) (Va.alloc (.cells (ZI (YR 0)) 40)) (by kernel_rfl) ?_;refine Zu rfl (hs6)<|Zu rfl (hs7)<|wn ?_;obtain⟨g11,QS⟩:=ZR V2.heap.size;obtain⟨g12,Qu⟩:=ZR Va.heap.size;have TK:=hbt.trans (hb7.mono hbt.size);have hsz:=Ho.out;have hsz2:=hbt.size;have hl12:g3<g12:=(by have:=rQ.out.1; omega);rw[QS] at hx4 ⊢;rw[Qu] at hx5 ⊢;have hcA:=hct.below hb7;have Ui:acc X.1.1≠[]->∀ x,a2=some x->x.block≠g3/\x.block≠g6/\u8.ownBlock≠some x.block:=fun hne x hx=>by
    rcases hbl with⟨e1,e2⟩ | h9
    ·rw[e1] at hx; rw[e2] at hne; exact Vp.out hne x hx
    ·have h10:=h9 x hx;have h11:=rQ.out;exact⟨by omega,by omega,fun z=>by have:=(Ag HR.out _ z).2; omega⟩
   have Rz:=HX.out.below HX.out.lt TK;have hZ7:=HZ.out.below HZ.out.lt TK;have hR7:=own_below HR.out TK;have P5:=HB.out.trans (TK.mono HB.out.size);obtain⟨hst3,Wy⟩:=ZC (a':=a2) (n':=X.1.1.length) (k':=k2) (c':=X.1.2) Rz;have Yk:But g3 Vc (Vc.setRow g3 (ZU a2 X.1.1.length k2 X.1.2)):=But.setRow (g:=g3) Vc (ZU a2 X.1.1.length k2 X.1.2);have Nw:=YF hcA Yk (fun h x hx=>(Ui h x hx).1);have hZ8:=hZ7.but Yk HG.out.2.2.2.1;have uo:=Zt hR7 Yk rQ.out.1;have Nv:=ZQ P5 HG.out.1 (ZU a2 X.1.1.length k2 X.1.2);have hx8:=hx5.but Yk (by omega);have mQ:(Vc.setRow g3 (ZU a2 X.1.1.length k2 X.1.2)).heap.size=Vc.heap.size:=size_setRow _ _ _;have vk:W.heap.size<=Vc.heap.size:=Nat.le_trans hsz TK.size;generalize Vc.setRow g3 (ZU a2 X.1.1.length k2 X.1.2)=V8 at *
   rw[<- mQ] at vk;clear Oq hlt2 hs6 hs7 hct hbt hb7 hbl Rz hZ7 hR7 P5 Yk hcA TK mQ hsz hsz2 QS Qu hl12 CT YO;go_upto_region 6 with fail;refine wl<|ZL rfl ⟨g11,0,none⟩ (.agg (ZU a2 X.1.1.length k2 X.1.2)) (ZN hx4)<|Zu rfl (hst3)<|wn ?_;simp only[pu];clear hst3 hx4;obtain⟨ao,co,rfl,hro,-⟩:=Yq uo;have hbu:=Iy X.2 V8;obtain⟨a9,c9,V9,hap,hR9,Yb,hgr,hob⟩:=DK uo vk X.2 (by rw[HQL.out]; omega);have hC9:=SI Nw hgr (fun h x hx=>(Ui h x hx).2.2);have aL0:acc X.1.1≠[]->∀ x,a2=some x->x.block≠g3/\x.block≠g6/\(Value.slice a9 (Q j++[X.2]).length c9).ownBlock≠some x.block:=fun hne x hx=>⟨(Ui hne x hx).1,(Ui hne x hx).2.1,fun z=>by
    rcases hob _ z with h | h
    ·exact(Ui hne x hx).2.2 h
    ·have:=WM Nw hne x hx; omega⟩
   obtain⟨gz,hgz⟩:=ZR V8.heap.size;rw[hgz] at hbu hap;clear hgr hob Nw Ui;go_upto_region 7 with fail;refine wl<|ZV (.slice ao (Q j).length co)<|ZL rfl ⟨g12,0,none⟩ (.agg (ZI X.2)) (Yg hx8) ?_;refine Zr (by kernel_rfl) (some 29) rfl 50 1 #[(0,.tmp 28)] rfl #[(0,.agg (ZI X.2))] (by kernel_rfl) (.slice (some ⟨gz,0,none⟩) 1 1) _ hbu ?_;refine Zh rfl (some 30) rfl 50 rfl (.tmp 27) (.tmp 29) 50 rfl (.slice ao (Q j).length co) (.slice (some ⟨gz,0,none⟩) 1 1) (.slice a9 (Q j++[X.2]).length c9) V9 (by kernel_rfl) (by kernel_rfl) hap ?_;refine ZV (.slice a9 (Q j++[X.2]).length c9)<|wn ?_;simp only[pu];clear hap hbu hx8 uo hro hgz;go_upto_region 8 with fail;refine wl<|Yy (Z8 (j+1:Nat)) (ZF rfl j 1 (by omega))<|ZV (Z8 (j+1:Nat))<|wn ?_;simp only[pu];go_wp2_with fail;go_roundg (E.length-(j+1))
   case measure=>have:=HG2.out; omega
   case rel=>exact⟨j+1,_,a2,k2,rfl,rfl,hlt,by rw[Gj.out]; exact hkt,Z9 (by rw[Gj.out]; exact hC9),Z9 (by rw[Gj.out]; exact aL0),Z9 (by rw[Gj.out]; exact Wy.below (by first | exact rQ.out.1 | exact Wy.lt) Yb),Z9 (hZ8.below (by first | exact rQ.out.2 | exact hZ8.lt) Yb),Z9 (by rw[HQS.out]; exact hR9),Z9 (Nv.trans (Yb.mono HG.out.2.2.2.2)),Z9 (Nat.le_trans vk Yb.size),rfl⟩
  ·obtain rfl:E.length=j:=(by omega);obtain⟨hst3,Wy⟩:=ZC (a':=ad) (n':=(U E.length).1.length) (k':=k) (c':=(U E.length).2) HZ.out;have Yk:=But.setRow (g:=g6) wr (ZU ad (U E.length).1.length k (U E.length).2);have uo:=Zt HR.out Yk rQ.out.2;have Nv:=ZQ HB.out HG.out.2.1 (ZU ad (U E.length).1.length k (U E.length).2);have Nw:=YF HC.out Yk (fun h x hx=>(Vp.out h x hx).2.1);have HE:Hid (eP w (U E.length) (Q E.length) (.returned (.tuple #[.agg (ZU ad (U E.length).1.length k (U E.length).2),u8])) (wr.setRow g6 (ZU ad (U E.length).1.length k (U E.length).2))):=Z9 ⟨ad,k,_,rfl,Nw,hk,own_base uo HG.out.2.2.2.2,Nv⟩;generalize wr.setRow g6 (ZU ad (U E.length).1.length k (U E.length).2)=V3 at *
   clear Yk uo Nv Nw;go_upto_region 3 with fail;refine wl<|ZJ (Zv rfl (E.length) (E.length) dF)<|wn ?_;simp only[pu];go_upto_region 9 with fail;refine wl<|ZL rfl ⟨g3,0,none⟩ (.agg (ZU ad (U E.length).1.length k (U E.length).2)) (ZN HX.out)<|ZV (u8)<|Zu rfl (hst3)<|ZV (u8)<|wn ?_;simp only[pu];go_wp2_with fail;exact bodyPost_ret (ZO rfl (by kernel_rfl) (ZN Wy) rfl) rfl HE.out
end Go.Proofs.YtnhlpahoomcgnaaGreat.Lg
namespace Go.Proofs.YtnhlpahoomcgnaaGreat.Lg
open Mo (YU Y9 Ym Yz)
open Go.RowKit
def Ql (A:List Ac)(t:Y8):Ac×Int:=if (Zm A t.snd).2=false then (WA,13) else if (Zm A t.snd).1.2.2≠t.sq then (WA,14) else if t.sq=18446744073709551615 then (WA,6) else ((Zm A t.snd).1,0)
def JU (t:Y8)(price size:Int):Int:=if t.Zp<YU size t.tr.length then 15 else if Ym t.Zp price=false then 6 else if t.YZ<Yz t.Zp price then 16 else 0
def MV (A:List Ac)(c:Int)(t:Y8):List Ac×Int×Int:=if VB t=false then ([],0,6) else if (Zm A t.snd).1.2.1<YJ t then ([],0,17) else (Wh A t,c,0)
def MW (A:List Ac)(c:Int)(t:Y8):List Ac×Int×Int:=if 256<(Yl A t).length then ([],0,3) else (Yl A t,c,0)
def SH (A:List Ac)(c price:Int)(t:Y8)(size:Int):List Ac×Int×Int:=if Yp A price t size=0 then (Yl A t,c+t.YZ,0) else ([],0,Yp A price t size)
theorem dS {A:List Ac}{c price size:Int}{t:Y8}(h:(Ql A t).2≠0):SH A c price t size=([],0,(Ql A t).2):=by
 have e:Yp A price t size=(Ql A t).2:=by
  revert h
  unfold Ql Yp;by_cases h1:(Zm A t.snd).2=false
  ·rw[if_pos h1,if_pos h1]; intro _; rfl
  rw[if_neg h1,if_neg h1];by_cases h2:(Zm A t.snd).1.2.2≠t.sq
  ·rw[if_pos h2,if_pos h2]; intro _; rfl
  rw[if_neg h2,if_neg h2];by_cases h3:t.sq=18446744073709551615
  ·rw[if_pos h3,if_pos h3]; intro _; rfl
  rw[if_neg h3,if_neg h3]; intro h4; exact absurd rfl h4
 unfold SH;rw[e,if_neg h]
theorem lY {A:List Ac}{t:Y8}(h:(Ql A t).2=0):(Zm A t.snd).2=true/\(Zm A t.snd).1.2.2=t.sq/\¬ t.sq=18446744073709551615/\(Ql A t).1=(Zm A t.snd).1:=by
 revert h
 unfold Ql;by_cases h1:(Zm A t.snd).2=false
 ·rw[if_pos h1]; intro h; exact absurd h (by decide)
 rw[if_neg h1];by_cases h2:(Zm A t.snd).1.2.2≠t.sq
 ·rw[if_pos h2]; intro h; exact absurd h (by decide)
 rw[if_neg h2];by_cases h3:t.sq=18446744073709551615
 ·rw[if_pos h3]; intro h; exact absurd h (by decide)
 rw[if_neg h3]; intro _;exact⟨by simpa using h1,Decidable.not_not.1 h2,h3,rfl⟩
theorem NQ {A:List Ac}{price size:Int}{t:Y8}(h:(Ql A t).2=0):Yp A price t size=if JU t price size≠0 then JU t price size else if VB t=false then 6 else if (Zm A t.snd).1.2.1<YJ t then 17 else if 256<(Yl A t).length then 3 else 0:=by
 obtain⟨h1,h2,h3,-⟩:=lY h;unfold Yp JU;rw[if_neg (by rw[h1]; decide),if_neg (fun q=>q h2),if_neg h3];by_cases h4:t.Zp<YU size t.tr.length
 ·rw[if_pos h4,if_pos h4,if_pos (by decide)]
 rw[if_neg h4,if_neg h4];by_cases h5:Ym t.Zp price=false
 ·rw[if_pos h5,if_pos h5,if_pos (by decide)]
 rw[if_neg h5,if_neg h5];by_cases h6:t.YZ<Yz t.Zp price
 ·rw[if_pos h6,if_pos h6,if_pos (by decide)]
 rw[if_neg h6,if_neg h6];rfl
theorem dR {A:List Ac}{c price size:Int}{t:Y8}(h:(Ql A t).2=0)(h1:JU t price size≠0):SH A c price t size=([],0,JU t price size):=by
 have e:=NQ (price:=price) (size:=size) h;rw[if_pos h1] at e;unfold SH;rw[e,if_neg h1]
theorem dQ {A:List Ac}{c price size:Int}{t:Y8}(h:(Ql A t).2=0)(h1:JU t price size=0)(h2:(MV A c t).2.2≠0):SH A c price t size=([],0,(MV A c t).2.2):=by
 have e:=NQ (price:=price) (size:=size) h;rw[if_neg (by rw[h1]; decide)] at e;have e2:Yp A price t size=(MV A c t).2.2:=by
  revert h2
  rw[e];unfold MV;by_cases c1:VB t=false
  ·rw[if_pos c1,if_pos c1]; intro _; rfl
  rw[if_neg c1,if_neg c1];by_cases c2:(Zm A t.snd).1.2.1<YJ t
  ·rw[if_pos c2,if_pos c2]; intro _; rfl
  rw[if_neg c2]; intro h; exact absurd rfl h
 unfold SH;rw[e2,if_neg h2]
theorem lX {A:List Ac}{c:Int}{t:Y8}(h2:(MV A c t).2.2=0):VB t=true/\¬ (Zm A t.snd).1.2.1<YJ t/\MV A c t=(Wh A t,c,0):=by
 revert h2
 unfold MV;by_cases c1:VB t=false
 ·rw[if_pos c1]; intro h; exact absurd h (by decide)
 rw[if_neg c1];by_cases c2:(Zm A t.snd).1.2.1<YJ t
 ·rw[if_pos c2]; intro h; exact absurd h (by decide)
 rw[if_neg c2]; intro _;exact⟨by simpa using c1,c2,rfl⟩
theorem dP {A:List Ac}{c price size:Int}{t:Y8}(h:(Ql A t).2=0)(h1:JU t price size=0)(h2:(MV A c t).2.2=0):SH A c price t size=if (MW A c t).2.2=0 then ((MW A c t).1,c+t.YZ,0) else ([],0,(MW A c t).2.2):=by
 obtain⟨c1,c2,-⟩:=lX h2;have e:=NQ (price:=price) (size:=size) h;rw[if_neg (by rw[h1]; decide),if_neg (by rw[c1]; decide),if_neg c2] at e;unfold SH MW;rw[e];by_cases c3:256<(Yl A t).length
 ·rw[if_pos c3,if_pos c3,if_neg (by decide),if_neg (by decide)]
 ·rw[if_neg c3,if_neg c3,if_pos rfl]
theorem am1 {A:List Ac}{c price:Int}{L:List Int}(hv:YD A c=0)(hd:(Zj L).2=0):WZ A c price L=(if (SH A c price (Zj L).1 L.length).2.2=0 then ((SH A c price (Zj L).1 L.length).1,(SH A c price (Zj L).1 L.length).2.1) else (A,c),⟨(SH A c price (Zj L).1 L.length).2.2,(Zj L).1.snd,(Zj L).1.sq,(Zj L).1.Zp,Y9 (Zj L).1.YZ (Zj L).1.Zp⟩):=by
 unfold WZ SH;rw[if_neg (by rw[hv]; decide),if_neg (by rw[hd]; decide)];by_cases h:Yp A price (Zj L).1 L.length=0
 ·rw[h,if_neg (by decide),if_pos rfl,if_pos rfl]
 ·rw[if_pos h,if_neg h,if_neg h]
theorem Iw (A:List Ac)(s:ByteArray):Xt A s=(s,(Zm A s).1.2.1,(Zm A s).1.2.2):=by
 unfold Xt Zm;by_cases h:Y0 A s<A.length
 ·rw[if_pos h,if_pos h];have:=(Uu h).1;show aca A (Y0 A s)=(s,(aca A (Y0 A s)).2.1,(aca A (Y0 A s)).2.2);generalize aca A (Y0 A s)=y at *
  subst this;rfl
 ·rw[if_neg h,if_neg h]; rfl
theorem Dw {A:List Ac}{c:Int}{t:Y8}(hv:YD A c=0)(h1:(Zm A t.snd).2=true)(h0:0<=YJ t):Ph A c ((Zm A t.snd).1.1,(Zm A t.snd).1.2.1-YJ t,(Zm A t.snd).1.2.2+1)=(Wh A t,c,0):=by
 obtain⟨v1,v2,v3,v4⟩:=Vq hv;obtain⟨f1,f2,f3⟩:=WV h1;have hs:Yw A ((Zm A t.snd).1.1,(Zm A t.snd).1.2.1-YJ t,(Zm A t.snd).1.2.2+1)=Wh A t:=rfl;have hl:(Wh A t).length=A.length:=by
  rw[<- hs,WR]; simp only[f3]; rw[if_pos f1]
 have ht:Xw (Wh A t) c=true:=decide_eq_true (by
  have v5:tot (c::Zb A)<18446744073709551616:=of_decide_eq_true v4;rw[X6] at v5 ⊢;rw[zD h1]; omega)
 rw[Ij hv (by show isName (nums (Zm A t.snd).1.1)=true; rw[f2]; exact v3 _ f1) (by rw[hs,hl]; omega),hs,ht];rfl
theorem dL {A:List Ac}{c:Int}{t:Y8}(hv:YD A c=0)(h1:(Zm A t.snd).2=true)(h0:0<=YJ t):YD (Wh A t) c=0:=by
 have h:=Dw hv h1 h0;obtain⟨-,-,-,h4⟩:=yV (A:=A) (c:=c) (a:=((Zm A t.snd).1.1,(Zm A t.snd).1.2.1-YJ t,(Zm A t.snd).1.2.2+1)) (by rw[h]);exact h4
theorem Dv {B:List Ac}{c:Int}{x:Tf}(hv:YD B c=0)(hn:isName (nums x.1)=true)(ht:c+(tot (Zb B)+x.2)<18446744073709551616):Ph B c (x.1,(Zm B x.1).1.2.1+x.2,(Zm B x.1).1.2.2)=if 256<(Wp B x).length then ([],0,3) else (Wp B x,c,0):=by
 have hs:Yw B (x.1,(Zm B x.1).1.2.1+x.2,(Zm B x.1).1.2.2)=Wp B x:=by unfold Wp; rw[Iw]
 by_cases hl:256<(Wp B x).length
 ·rw[if_pos hl];exact sV hv hn (by rw[hs]; exact hl)
 ·rw[if_neg hl,Ij hv hn (by rw[hs]; exact hl),hs];have ht:Xw (Wp B x) c=true:=decide_eq_true (by rw[X6,zF]; exact ht);rw[ht]; rfl
theorem dK {B:List Ac}{c:Int}{x:Tf}(hv:YD B c=0)(hn:isName (nums x.1)=true)(ht:c+(tot (Zb B)+x.2)<18446744073709551616)(hl:¬ 256<(Wp B x).length):YD (Wp B x) c=0:=by
 have h:=Dv hv hn ht;rw[if_neg hl] at h;obtain⟨h3,-,-,h4⟩:=yV (A:=B) (c:=c) (a:=(x.1,(Zm B x.1).1.2.1+x.2,(Zm B x.1).1.2.2)) (by rw[h]);rw[h] at h3;rw[Prod.mk.injEq] at h3;rw[h3.1]; exact h4
theorem dH (A:List Ac)(x:Tf):A.length<=(Wp A x).length:=by
 unfold Wp; rw[WR]; split <;> omega
theorem Dt:∀ (L:List Tf) (A:List Ac),A.length<=(L.foldl Wp A).length
 | [],_=>Nat.le_refl _
 | x::L,A=>by rw[List.foldl_cons]; exact Nat.le_trans (dH A x) (Dt L _)
theorem uX (A:List Ac)(t:Y8)(j:Nat):(Rl A t j).length<=(Yl A t).length:=by
 unfold Yl Rl;rw[List.take_length];have h:(t.tr.foldl Wp (Wh A t))=(t.tr.drop j).foldl Wp ((t.tr.take j).foldl Wp (Wh A t)):=by rw[<- List.foldl_append,List.take_append_drop]
 rw[h];exact Dt _ _
end Go.Proofs.YtnhlpahoomcgnaaGreat.Lg
