/-
  FoldJoins returns true for every input: two lists carried out one after the other give what their concatenation gives, and Strict agrees with All.
-/
import Derived.Test.YtfpnnmeblefkkaaGreatDoorA28
import Derived.Test.YtfpnnmeblefkkaaGreatDoorCards
import Derived.Test.YtfpnnmeblefkkaaGreatDoorTie
import Derived.SevenTiedAt
set_option maxRecDepth 100000
set_option maxHeartbeats 8000000
set_option linter.unusedSimpArgs false
set_option linter.unusedVariables false
namespace Go.Proofs.YtfpnnmeblefkkaaGreatDoor.Lg
attribute [local irreducible] wpList wpQuiet
open Mo (YO YX Yo Yx)
open Go.RowKit
theorem BF (A:List Ac)(c p:Int)(X Y:List (List Int)):∀ n,n<=X.length->Xl A c p (X++Y) n=Xl A c p X n
 | 0,_=>rfl
 | n+1,h=>by rw[WL,WL,BF A c p X Y n (by omega),dK A c p X Y h]
theorem BD (A:List Ac)(c p:Int)(X Y:List (List Int)):∀ n,Xl A c p (X++Y) (X.length+n)=Xl A c p X X.length++Xl (Ze A c p X X.length).1 (Ze A c p X X.length).2 p Y n
 | 0=>by rw[Nat.add_zero,BF A c p X Y _ (Nat.le_refl _)]; exact(List.append_nil _).symm
 | n+1=>by rw[<- Nat.add_assoc,WL,WL,BD A c p X Y n,dJ,List.append_assoc]
theorem ah (E:List Bs)(v:Nat):lsB E=lsB (E.take v)++lsB (E.drop v):=by unfold lsB; rw[<- List.map_append,List.take_append_drop]
theorem parts {A:List Ac}{c p:Int}{E:List Bs}{v:Nat}(h:v<=E.length) :
  Ze (Ze A c p (lsB (E.take v)) (E.take v).length).1 (Ze A c p (lsB (E.take v)) (E.take v).length).2 p (lsB (E.drop v)) (E.drop v).length=Ze A c p (lsB E) E.length /\
  Xl A c p (lsB (E.take v)) (E.take v).length++Xl (Ze A c p (lsB (E.take v)) (E.take v).length).1 (Ze A c p (lsB (E.take v)) (E.take v).length).2 p (lsB (E.drop v)) (E.drop v).length=Xl A c p (lsB E) E.length:=by
 have e1:E.length=(lsB (E.take v)).length+(lsB (E.drop v)).length:=by rw[Yy,Yy,List.length_take,List.length_drop]; omega
 rw[e1,ah E v,wS,BD,Yy,Yy];exact⟨rfl,rfl⟩
theorem Hy (C:Nat->Int):∀ n,(∀ j,j<n->C j=0)∨∃ i,i<n/\(∀ j,j<i->C j=0)/\C i≠0
 | 0=>.inl fun j hj=>absurd hj (Nat.not_lt_zero j)
 | n+1=>by
  rcases Hy C n with h | ⟨i,hi,h1,h2⟩
  ·by_cases hc:C n=0
   ·exact .inl fun j hj=>by
     rcases Nat.lt_succ_iff_lt_or_eq.1 hj with h3 | h3
     ·exact h j h3
     ·rw[h3]; exact hc
   ·exact .inr ⟨n,Nat.lt_succ_self n,h,hc⟩
  ·exact .inr ⟨i,Nat.lt_succ_of_lt hi,h1,h2⟩
theorem jE (A:List Ac)(c p:Int)(Ls:List (List Int)):((U7 A c p Ls).2.2=0/\(U7 A c p Ls).1=Ze A c p Ls Ls.length/\∀ j,j<Ls.length->(Xk A c p Ls j).code=0)∨((U7 A c p Ls).2.2≠0/\(∀ j,j<(U7 A c p Ls).2.1->(Xk A c p Ls j).code=0)/\(Xk A c p Ls (U7 A c p Ls).2.1).code=(U7 A c p Ls).2.2):=by
 rcases Hy (fun j=>(Xk A c p Ls j).code) Ls.length with h | ⟨i,hi,hb,he⟩
 ·rw[zB h]; exact .inl ⟨rfl,rfl,h⟩
 ·rw[MG hi hb he]; exact .inr ⟨he,hb,rfl⟩
theorem aa0 (A:List Ac)(c p:Int)(Ls:List (List Int)){j n:Nat}(h:j<n):bV (Xl A c p Ls n) j=Xk A c p Ls j:=by
 rw[bU (by rw[Ut]; exact h)];simp[Xl]
theorem Rn.drop {w:World}{a:Option Addr}{E:List Bs}(h:Rn w a E)(c k:Nat)(hc:E.length<=c):Rn w (YS 1 a c k) (E.drop k):=⟨by
  have:=h.cs.from 1 c k (by rw[Ht,Nat.mul_one]; exact hc);rwa [Nat.mul_one,show(PG E).drop k=PG (E.drop k) by unfold PG; rw[List.map_drop]] at this,fun e he=>h.sl e (List.mem_of_mem_drop he),fun e he=>h.le e (List.mem_of_mem_drop he),fun e he=>h.b e (List.mem_of_mem_drop he)⟩
theorem aa1 (a:Option Addr)(n c k:Nat)(w:World)(h:k<=n):(Instr.slice 23 (.slice a n c) (some (Z8 (k:Int))) none none).run Tryz.prog w=.ok (.slice (YS 1 a c k) (n-k) (c-k)) w:=KX (s:=1) (by kernel_rfl) (fun w=>by kernel_rfl) a n c k w h
theorem as3 (w:World):(Instr.buildSlice 35 0 #[]).run Tryz.prog w=.ok (.slice (some ⟨w.heap.size,0,none⟩) 0 0) (w.alloc (.cells #[] 47)):=Qw Tryz.underlying35 zn w
theorem BA {V:World}{g n k:Nat}{a ad:Option Addr}{c:Int}{cs:List Value}(hx:Bx V g (ZU a n k c) 30)(h:Cs V ad cs)(hz:∀ v r,cs=v::r->(∀ b m q,v≠.slice b m q)/\∀ z,v≠Z7 z):cs≠[]->∀ x,ad=some x->x.block≠g:=fun hne x hx2 e=>by
 cases cs with
 | nil=>exact hne rfl
 | cons v r=>
  obtain⟨b,off,e1,-,hc⟩:=h 0 v rfl;rw[hx2] at e1;cases e1;obtain⟨z1,z2⟩:=hz v r rfl;have e:b=g:=e;rw[e,cell_of_row V g _ _ _ (0,0) hx] at hc;rcases (show off+0=0∨off+0=1∨2<=off+0 by omega) with h0 | h0 | h0
  ·rw[h0] at hc; exact z1 a n k (Option.some.inj hc).symm
  ·rw[h0] at hc; exact z2 c (Option.some.inj hc).symm
  ·rw[Array.getElem?_eq_none (by exact h0)] at hc; cases hc
theorem jD (A:List Ac):∀ v r,acc A=v::r->(∀ b m q,v≠.slice b m q)/\∀ z,v≠Z7 z:=fun v r h=>by
 cases A with
 | nil=>cases h
 | cons x A=>cases h; exact⟨(fun b m q e=>by cases e),fun z e=>by cases e⟩
theorem jC (A:List XQ):∀ v r,Vg A=v::r->(∀ b m q,v≠.slice b m q)/\∀ z,v≠Z7 z:=fun v r h=>by
 cases A with
 | nil=>cases h
 | cons x A=>cases h; exact⟨(fun b m q e=>by cases e),fun z e=>by cases e⟩
structure KJ (W:World)(Y:List Ac×Int)(R:List XQ)(b5 b6 b7 b8 b9 b10 b11:Bool)(xt xm xl xr xp:Value)(V:World):Prop where
 bel:Below W.heap.size W V
 cl:b5=true->∃ ad k b q,xt=.tuple #[.agg (ZU ad Y.1.length k Y.2),.slice b R.length q]/\Cs V ad (acc Y.1)/\Cs V b (Vg R)/\Y.1.length<=k
 m:b6=true->b5=true/\xm=xt
 l:b7=true->b6=true/\∃ u,xm=.tuple #[xl,u]
 r:b8=true->b6=true/\∃ u,xm=.tuple #[u,xr]
 al:b9=true->∃ g,xp=Z5 g 0/\W.heap.size<=g/\(b10=false->Bx V g (ZU none 0 0 0) 30)/\(b10=true->∃ cs,xl=.agg cs/\Bx V g cs 30)
 st:b10=true->b7=true/\b9=true
 o:b11=true->b8=true
section
variable {W : World} {Y : List Ac × Int} {R : List XQ} {b5 b6 b7 b8 b9 b10 b11 : Bool} {xt xm xl xr xp : Value} {V : World}
theorem KJ.start:KJ W Y R false false false false false false false xt xm xl xr xp W.drew:=
 ⟨(Below.refl _ W).drew,(fun e=>nomatch e),(fun e=>nomatch e),(fun e=>nomatch e),(fun e=>nomatch e),(fun e=>nomatch e),(fun e=>nomatch e),(fun e=>nomatch e)⟩
theorem KJ.n6 (h:KJ W Y R false b6 b7 b8 b9 b10 b11 xt xm xl xr xp V):b6=false/\b7=false/\b8=false/\b10=false/\b11=false:=by
 have e6:b6=false:=ff (fun e=>(h.m e).1) rfl;subst e6;have e7:b7=false:=ff (fun e=>(h.l e).1) rfl;have e8:b8=false:=ff (fun e=>(h.r e).1) rfl;subst e7;subst e8;exact⟨rfl,rfl,rfl,ff (fun e=>(h.st e).1) rfl,ff h.o rfl⟩
theorem KJ.call (h:KJ W Y R false false false false b9 false false xt xm xl xr xp V){V2:World}{ad b:Option Addr}{k q:Nat}(h1:Cs V2 ad (acc Y.1))(h2:Cs V2 b (Vg R))(h3:Y.1.length<=k)(hb:Below V.heap.size V V2):KJ W Y R true false false false b9 false false (.tuple #[.agg (ZU ad Y.1.length k Y.2),.slice b R.length q]) xm xl xr xp V2:=
 ⟨h.bel.trans (hb.mono h.bel.size),fun _=>⟨ad,k,b,q,rfl,h1,h2,h3⟩,(fun e=>nomatch e),(fun e=>nomatch e),(fun e=>nomatch e),fun e=>by
  obtain⟨g,e1,e2,e3,-⟩:=h.al e;exact⟨g,e1,e2,fun _=>(e3 rfl).below (e3 rfl).lt hb,(fun e=>nomatch e)⟩,(fun e=>nomatch e),(fun e=>nomatch e)⟩
theorem KJ.move (h:KJ W Y R true false b7 b8 b9 b10 b11 xt xm xl xr xp V):b7=false/\b8=false/\b10=false/\b11=false/\KJ W Y R true true false false b9 false false xt xt xl xr xp V:=by
 have e7:b7=false:=ff (fun e=>(h.l e).1) rfl;have e8:b8=false:=ff (fun e=>(h.r e).1) rfl;subst e7;subst e8;obtain rfl:b10=false:=ff (fun e=>(h.st e).1) rfl;obtain rfl:b11=false:=ff h.o rfl;exact⟨rfl,rfl,rfl,rfl,h.bel,h.cl,fun _=>⟨rfl,rfl⟩,(fun e=>nomatch e),(fun e=>nomatch e),h.al,(fun e=>nomatch e),(fun e=>nomatch e)⟩
theorem KJ.left (h:KJ W Y R true true false b8 b9 b10 b11 xt xm xl xr xp V):b10=false/\∃ u v,xm=.tuple #[u,v]/\KJ W Y R true true true b8 b9 false b11 xt xm u xr xp V:=by
 obtain rfl:b10=false:=ff (fun e=>(h.st e).1) rfl;obtain⟨ad,k,b,q,e1,-⟩:=h.cl rfl;exact⟨rfl,_,_,(h.m rfl).2.trans e1,h.bel,h.cl,h.m,fun _=>⟨rfl,_,(h.m rfl).2.trans e1⟩,h.r,fun e=>by
  obtain⟨g,e1,e2,e3,-⟩:=h.al e;exact⟨g,e1,e2,e3,(fun e=>nomatch e)⟩,(fun e=>nomatch e),h.o⟩
theorem KJ.right (h:KJ W Y R true true b7 false b9 b10 b11 xt xm xl xr xp V):b11=false/\∃ u v,xm=.tuple #[u,v]/\KJ W Y R true true b7 true b9 b10 false xt xm xl v xp V:=by
 obtain rfl:b11=false:=ff h.o rfl;obtain⟨ad,k,b,q,e1,-⟩:=h.cl rfl;exact⟨rfl,_,_,(h.m rfl).2.trans e1,{ h with r:=fun _=>⟨rfl,_,(h.m rfl).2.trans e1⟩,o:=(fun e=>nomatch e) }⟩
theorem KJ.box (h:KJ W Y R b5 b6 b7 b8 false b10 b11 xt xm xl xr xp V):b10=false/\KJ W Y R b5 b6 b7 b8 true false b11 xt xm xl xr (Z5 V.heap.size 0) (V.alloc (.cells (ZU none 0 0 0) 30)):=by
 obtain rfl:b10=false:=ff (fun e=>(h.st e).2) rfl;have hb:Below V.heap.size V (V.alloc (.cells (ZU none 0 0 0) 30)):=(Below.refl _ V).alloc (Nat.le_refl _) _;exact⟨rfl,h.bel.trans (hb.mono h.bel.size),fun e=>by
  obtain⟨ad,k,b,q,e1,e2,e3,e4⟩:=h.cl e;exact⟨ad,k,b,q,e1,e2.below hb,e3.below hb,e4⟩,h.m,h.l,h.r,fun _=>⟨_,rfl,h.bel.size,fun _=>heap_alloc_last V _,(fun e=>nomatch e)⟩,(fun e=>nomatch e),h.o⟩
theorem KJ.store (h:KJ W Y R b5 b6 true b8 true false b11 xt xm xl xr xp V):∃ g cs V2,xp=Z5 g 0/\xl=.agg cs/\(Instr.storeAt 30 (Z5 g 0) (.agg cs)).run Tryz.prog V=.ok () V2/\KJ W Y R b5 b6 true b8 true true b11 xt xm (.agg cs) xr xp V2:=by
 obtain⟨g,rfl,hg,hx,-⟩:=h.al rfl;obtain⟨e6,u,e7⟩:=h.l rfl;obtain⟨e5,e8⟩:=h.m e6;obtain⟨ad,k,b,q,e1,e2,e3,e9⟩:=h.cl e5;rw[e8,e1] at e7;simp only[Value.tuple.injEq,Array.mk.injEq,List.cons.injEq,and_true] at e7;obtain⟨rfl,rfl⟩:=e7;obtain⟨hst,hx2⟩:=ZF (a':=ad) (n':=Y.1.length) (k':=k) (c':=Y.2) (hx rfl);have hbt:But g V (V.setRow g (ZU ad Y.1.length k Y.2)):=But.setRow _ _;exact⟨g,_,_,rfl,rfl,hst,ZT h.bel hg _,fun _=>⟨ad,k,b,q,e1,YT e2 hbt (BA (hx rfl) e2 (jD _)),YT e3 hbt (BA (hx rfl) e3 (jC _)),e9⟩,h.m,h.l,h.r,fun _=>⟨g,rfl,hg,(fun e=>nomatch e),fun _=>⟨_,rfl,hx2⟩⟩,fun _=>⟨rfl,rfl⟩,h.o⟩
theorem KJ.done (h:KJ W Y R true true true true true true b11 xt xm xl xr xp V):∃ ad k b q g,xt=.tuple #[.agg (ZU ad Y.1.length k Y.2),.slice b R.length q]/\xm=.tuple #[.agg (ZU ad Y.1.length k Y.2),.slice b R.length q]/\xl=.agg (ZU ad Y.1.length k Y.2)/\xr=.slice b R.length q/\xp=Z5 g 0/\Cs V ad (acc Y.1)/\Cs V b (Vg R)/\Y.1.length<=k/\Bx V g (ZU ad Y.1.length k Y.2) 30/\Below W.heap.size W V:=by
 obtain⟨ad,k,b,q,e1,e2,e3,ek⟩:=h.cl rfl;obtain⟨-,e4⟩:=h.m rfl;obtain⟨-,u,e5⟩:=h.l rfl;obtain⟨-,v,e6⟩:=h.r rfl;obtain⟨g,e7,-,-,e8⟩:=h.al rfl;obtain⟨cs,e9,e10⟩:=e8 rfl;rw[e4,e1] at e5 e6;simp only[Value.tuple.injEq,Array.mk.injEq,List.cons.injEq,and_true] at e5 e6;obtain⟨rfl,rfl⟩:=e5;obtain⟨rfl,rfl⟩:=e6;cases e9;exact⟨ad,k,_,_,g,e1,e4.trans e1,rfl,rfl,e7,e2,e3,ek,e10,h.bel⟩
end
theorem Hw {P:Program}{w:World}{ops:Array Oper}{rest:List Oper}{o:Oper}{a:Act}{Q:Exit->Act->World->Prop}(hw:Region.wanted o (yielded ops a.tmps)=true)(d:Option Tmp)(hd:o.dst=d)(ty:TypeId)(hty:o.type=ty)(s x:Operand)(t:TypeId)
  (ho:o.op=.call { callee:=.builtin .append,args:=#[s,x],argTypes:=#[t,t] }) (v u v':Value) (w':World) (hs:a.eval s=v) (hx:a.eval x=u)
  (hr:(Builtin.append_ #[t,t] ty #[v,u]).run P w=.ok v' w') (k:wpList P ops Q rest (a.put d v') w'):wpList P ops Q (o::rest) a w:=by
 refine QM hw d hd v' w' ?_ k;subst hty;unfold execOp;simp only[ho,resolve,invoke,builtin,Sem.run_bind,Sem.run_pure,Result.andThen_ok,List.map_toArray,List.map_cons,List.map_nil,hs,hx,hr]
theorem ae8 {ρ:Operand->Value}{o:Oper}{s:Operand}{u v:Value}(ho:o.op=.extract s 0)(hx:ρ s=.tuple #[u,v])(w:World):(execOp ρ o).run Tryz.prog w=.ok (.value u) w:=by
 unfold execOp;simp only[ho,hx];rfl
theorem ae9 {ρ:Operand->Value}{o:Oper}{s:Operand}{u v:Value}(ho:o.op=.extract s 1)(hx:ρ s=.tuple #[u,v])(w:World):(execOp ρ o).run Tryz.prog w=.ok (.value v) w:=by
 unfold execOp;simp only[ho,hx];rfl
theorem yO (hd1:jB 18)(hd2:jB 19)(ak:Option Addr)(ck:Nat)(L:List Int)(x:Int)(w:World)(hG:Glob w)(hl:L.length<=9223372036854775807)(hk:Cs w ak (X9 L)) :
  Calls Tryz.prog 5 #[.slice ak L.length ck,Z8 x] w fun e w'=>e=.returned ZW/\Below w.heap.size w w':=by
 have HK:=Z9 (fun(V:World) (h:Below w.heap.size w V)=>(PE hd1 hd2 V (hG.below hG.size h)).mono fun e w' (q:e=.returned ZW/\Below V.heap.size V w')=>(⟨q.1,h.trans (q.2.mono h.size)⟩:e=.returned ZW/\Below w.heap.size w w'));have Vh:=Z9 hl;have HCK:=Z9 hk;clear hl hk hd1 hd2 hG;go_enter Tryz.func5,Tryz.ntmps5;go_upto_region 1 with fail;have Hz:=JV w.heap.size ak L.length ck (w.alloc (.cells #[.slice ak L.length ck] 22)) (heap_alloc_last w _) Vh.out;have hor:=one_row ak L.length ck w;have hb1:Below w.heap.size w (w.alloc (.cells #[.slice ak L.length ck] 22)):=(Below.refl _ w).alloc (Nat.le_refl _) _;have BI:=Z9 (HCK.out.below hb1);generalize w.alloc (.cells #[.slice ak L.length ck] 22)=W1 at *
 have HB1:=Z9 hb1;clear hb1;by_cases hL:160<L.length
 ·rw[decide_eq_true (by omega)] at Hz;refine wl<|ZV (.slice ak L.length ck) ?_;refine Zw (by kernel_rfl) (some 21) rfl 53 1 #[(0,.tmp 20)] rfl #[(0,.slice ak L.length ck)] (by kernel_rfl) (.slice (some ⟨w.heap.size,0,none⟩) 1 1) _ hor ?_;refine YW ZW (fun w'=>W1=w') Hz (fun W2 hW=>?_);subst hW;simp only[pu];apply wpList_nil;clear Hz hor;go_upto_region 2 with fail;refine wl<|YW ZW (fun w'=>Below w.heap.size w w') (HK.out W1 (HB1.out)) (fun V9 XC=>?_);refine ZV ZW<|wn ?_;simp only[pu];have HE:=Z9 XC;clear XC;go_wp2_with fail;go_ret;exact⟨rfl,HE.out⟩
 rw[decide_eq_false (by omega)] at Hz;refine wl<|ZV (.slice ak L.length ck) ?_;refine Zw (by kernel_rfl) (some 21) rfl 53 1 #[(0,.tmp 20)] rfl #[(0,.slice ak L.length ck)] (by kernel_rfl) (.slice (some ⟨w.heap.size,0,none⟩) 1 1) _ hor ?_;refine YW ZY (fun w'=>W1=w') Hz (fun W2 hW=>?_);subst hW;simp only[pu];apply wpList_nil;clear Hz hor;have CMd:=JA ak ck L W1 BI.out (by omega);go_upto_region 3 with fail;refine wl<|ZV (.slice ak L.length ck) <|
  XZ (fun v w'=>∃ la lk B cc p v2 E,v=.tuple #[.agg (ZU la (List.length B) lk cc),Z7 p,v2]/\Cs w' la (acc B)/\B.length<=lk/\N7 B cc/\0<=p/\p<=3/\Na w' W1.heap.size v2 E/\E.length<=6/\Below W1.heap.size W1 w') (CMd.mono fun e w' q=>by obtain⟨la,lk,B,cc,p,v2,E,h1,h2⟩:=q; exact⟨_,h1,la,lk,B,cc,p,v2,E,rfl,h2⟩) (fun vv V2 hq=>?_)
 obtain⟨la,lk,B,cc,p,v2,E2,rfl,hcs,hlk,BH,hp0,hp3,hbo,h26,hbm⟩:=hq;obtain⟨a2,c2,rfl,MI,hc2⟩:=hbo.bse;obtain⟨V3,hst3,hb3,Wy⟩:=XM V2 la B.length lk cc;refine WM (.tuple #[.agg (ZU la B.length lk cc),Z7 p,.slice a2 E2.length c2]) (.agg (ZU la B.length lk cc)) (Z7 p) (.slice a2 E2.length c2) ?_;refine Zz rfl (some 5) rfl (Z5 V2.heap.size 0) (V2.alloc (.cells (ZU none 0 0 0) 30)) (by kernel_rfl) ?_;refine Zr rfl (hst3)<|ZG (Z7 p) (.slice a2 E2.length c2)<|wn ?_;simp only[pu];obtain⟨g3,hg3⟩:=ZR V2.heap.size;have Jy:=hbm.trans (hb3.mono hbm.size);have wE:=Z9 BH;have aA:=Z9 hlk;have Nk:Hid (W64 p):=Z9 ⟨hp0,by omega⟩;rw[hg3] at Wy ⊢;have X7:=Z9 Wy;have HB3:=Z9 (HB1.out.trans (Jy.mono HB1.out.size));have sF:=Z9 (hcs.below hb3);have MC:=Z9 (MI.below hb3);have HC2:Hid (E2.length<=c2/\E2.length<=6):=Z9 ⟨hc2,h26⟩;have E8:=Z9 Jy;clear CMd hcs hlk BH hp0 hp3 hbo h26 hbm MI hc2 hst3 hb3 Wy Jy hg3;obtain⟨v,hvE,hvl⟩:∃ v:Nat,pl x ((E2.length+1:Nat):Int)=v/\v<E2.length+1:=by
  have:=OC x ((E2.length+1:Nat):Int) (by omega);exact⟨(pl x ((E2.length+1:Nat):Int)).toNat,by omega,by omega⟩
 have CP:=JW x ((E2.length+1:Nat):Int) V3 (by omega) (by have:=HC2.out.2; omega);rw[hvE] at CP;have HV:Hid (v<=c2/\v<=E2.length):=Z9 (by have:=HC2.out.1; omega);clear hvE hvl BI HB1 E8;go_upto_region 4 with fail;refine wl<|YG (Z8 x) (.slice a2 E2.length c2) (Z8 E2.length)<|YC (Z8 (E2.length+1:Nat)) (ZH rfl E2.length 1 (by have:=HC2.out; omega))<|YW (Z8 v) (fun w'=>V3=w') (CP) (fun V9 XC=>?_);subst XC;refine ZV (Z8 v)<|wn ?_;simp only[pu];clear CP;have hp:=parts (A:=B) (c:=cc) (p:=p) HV.out.2;have hd1:=wE.out.d.run Nk.out (MC.out.take v).all (E2.take v).length (by rw[Yy]; exact Nat.le_refl _);have hn1:=(wE.out.d.run Nk.out MC.out.all E2.length (by rw[Yy]; exact Nat.le_refl _)).n;have hsd:=aa3 wE.out.d Nk.out MC.out.all;have hss:=jE B cc p (lsB E2);rw[Yy] at hss;have hrs:∀ j,j<E2.length->bV (Xl B cc p (lsB E2) E2.length) j=Xk B cc p (lsB E2) j:=fun j hj=>aa0 _ _ _ _ hj;have C1:=fun V h1 h2=>EL B cc p E2 la a2 lk c2 V h1 aA.out wE.out.d Nk.out h2 (by have:=HC2.out; omega);have C2:=fun V h1 h2=>EL B cc p (E2.take v) la a2 lk c2 V h1 aA.out wE.out.d Nk.out h2 (by rw[List.length_take]; have:=HC2.out; omega);have C3:=fun V ad k h1 h2 h3=>EL (Ze B cc p (lsB (E2.take v)) (E2.take v).length).1 (Ze B cc p (lsB (E2.take v)) (E2.take v).length).2 p (E2.drop v) ad (YS 1 a2 c2 v) k (c2-v) V h1 h2 hd1 Nk.out h3 (by rw[List.length_drop]; have:=HC2.out; omega);have C4:=fun V h1 h2=>Ll B cc p E2 la a2 lk c2 V h1 aA.out wE.out.d Nk.out h2 (by have:=HC2.out; omega);have hr1:=Ut B cc p (lsB E2) E2.length;have hr2:=Ut B cc p (lsB (E2.take v)) (E2.take v).length;have hr3:=Ut (Ze B cc p (lsB (E2.take v)) (E2.take v).length).1 (Ze B cc p (lsB (E2.take v)) (E2.take v).length).2 p (lsB (E2.drop v)) (E2.drop v).length;generalize Xl (Ze B cc p (lsB (E2.take v)) (E2.take v).length).1 (Ze B cc p (lsB (E2.take v)) (E2.take v).length).2 p (lsB (E2.drop v)) (E2.drop v).length=R3 at *
 generalize Ze (Ze B cc p (lsB (E2.take v)) (E2.take v).length).1 (Ze B cc p (lsB (E2.take v)) (E2.take v).length).2 p (lsB (E2.drop v)) (E2.drop v).length=Y3 at *
 generalize Xl B cc p (lsB (E2.take v)) (E2.take v).length=R2 at *
 generalize Ze B cc p (lsB (E2.take v)) (E2.take v).length=Y2 at *
 generalize Xl B cc p (lsB E2) E2.length=R1 at *
 generalize Ze B cc p (lsB E2) E2.length=Y1 at *
 generalize U7 B cc p (lsB E2)=Z at *
 generalize Xk B cc p (lsB E2)=RS at *
 obtain⟨rfl,hp2⟩:=hp;have HP:=Z9 hp2;have Ba:Hid (R1.length=E2.length/\R2.length<=6/\R3.length<=6):=Z9 ⟨hr1,by rw[hr2,List.length_take]; have:=HC2.out; omega,by rw[hr3,List.length_drop]; have:=HC2.out; omega⟩;have rW:=Z9 hn1;have HSD:=Z9 hsd;have HSS:=Z9 hss;have Jt:=Z9 hrs;have lt2:(E2.take v).length=v:=by rw[List.length_take]; have:=HV.out.2; omega
 have lt3:(E2.drop v).length=E2.length-v:=List.length_drop;rw[lt2] at C2;rw[lt3] at C3;clear hp2 hr1 hr2 hr3 hn1 hsd hss hrs lt2 lt3 hd1;have CA:=C1 V3 sF.out MC.out;go_upto_region 5 with fail;refine wl<|ZK rfl ⟨g3,0,none⟩ (.agg (ZU la B.length lk cc)) (ZP X7.out)<|ZG (Z7 p) (.slice a2 E2.length c2) <|
  XZ (fun v w'=>∃ ad k b q,v=.tuple #[.agg (ZU ad Y3.1.length k Y3.2),.slice b R1.length q]/\Cs w' ad (acc Y3.1)/\Y3.1.length<=k/\Cs w' b (Vg R1)/\Below V3.heap.size V3 w') (CA.mono fun e w' q=>by obtain⟨ad,k,v,h1,h2,h3,h4,h5⟩:=q; obtain⟨b,q,rfl,h6,-⟩:=YH h4; exact⟨_,h1,ad,k,b,q,rfl,h2,h3,h6,h5⟩) (fun vv V4 hq=>?_)
 obtain⟨su,k1,bb1,q1,rfl,hc1,-,hr1,hb1⟩:=hq;obtain⟨V5,hst1,hn1,hx1⟩:=XM V4 su Y3.1.length k1 Y3.2;refine YG (.tuple #[.agg (ZU su Y3.1.length k1 Y3.2),.slice bb1 R1.length q1]) (.agg (ZU su Y3.1.length k1 Y3.2)) (.slice bb1 R1.length q1) ?_;refine Zz rfl (some 9) rfl (Z5 V4.heap.size 0) (V4.alloc (.cells (ZU none 0 0 0) 30)) (by kernel_rfl) ?_;refine Zr rfl (hst1)<|ZV (.slice bb1 R1.length q1)<|wn ?_;simp only[pu];obtain⟨g9,xK⟩:=ZR V4.heap.size;rw[xK] at hx1 ⊢;have hb5:=hb1.trans (hn1.mono hb1.size);have HCA:=Z9 (hc1.below hn1);have HRA:=Z9 (hr1.below hn1);have AU:=Z9 hx1;have Qg:=Z9 hb5;clear CA hst1 hn1 hx1 hc1 hr1 hb1 hb5 xK C1;have FM:=Z9 (X7.out.below X7.out.lt Qg.out);go_upto_region 6 with fail;have h0:KJ V5 Y2 R2 false false false false false false false undef undef undef undef undef V5.drew:=KJ.start;refine Zx (fun listed Zh V=>∃ b0 b1 b2 b3 b4 b5 b6 b7 b8 b9 b10 b11:Bool,∃ x48 x42 x49 x50 x11:Value,listed=#[b0,b1,b2,b3,b4,b5,b6,b7,b8,b9,b10,b11]/\Zh={ tmps:=#[.slice ak L.length ck,Z8 x,undef,undef,ZY,Z5 g3 0,Z7 p,.slice a2 E2.length c2,Z8 v,Z5 g9 0,.slice bb1 R1.length q1,x11,(cond b11 (x50) undef),undef,undef,undef,undef,undef,undef,undef,.slice ak L.length ck,.slice (some ⟨w.heap.size,0,none⟩) 1 1,ZY,undef,.tuple #[.agg (ZU la B.length lk cc),Z7 p,.slice a2 E2.length c2],.slice ak L.length ck,.tuple #[.agg (ZU la B.length lk cc),Z7 p,.slice a2 E2.length c2],.agg (ZU la B.length lk cc),Z7 p,.slice a2 E2.length c2,Z8 x,.slice a2 E2.length c2,Z8 E2.length,Z8 (E2.length+1:Nat),Z8 v,.tuple #[.agg (ZU su Y3.1.length k1 Y3.2),.slice bb1 R1.length q1],.agg (ZU la B.length lk cc),Z7 p,.slice a2 E2.length c2,.tuple #[.agg (ZU su Y3.1.length k1 Y3.2),.slice bb1 R1.length q1],.agg (ZU su Y3.1.length k1 Y3.2),.slice bb1 R1.length q1,x42,(cond b0 (.agg (ZU la B.length lk cc)) undef),(cond b1 (Z7 p) undef),(cond b2 (.slice a2 E2.length c2) undef),(cond b3 (Z8 v) undef),(cond b4 (.slice a2 v c2) undef),x48,x49,x50,undef,undef,undef,undef,undef,undef,undef,undef,undef,undef,undef,undef,undef,undef,undef,undef,undef,undef,undef,undef,undef,undef,undef,undef,undef,undef,undef,undef,undef,undef,undef,undef,undef,undef,undef,undef,undef,undef,undef,undef,undef,undef,undef,undef,undef,undef,undef,undef,undef,undef,undef,undef,undef,undef,undef,undef,undef,undef,undef,undef,undef,undef,undef,undef,undef,undef,undef,undef,undef,undef,undef,undef,undef,undef,undef,undef,undef,undef,undef,undef,undef,undef,undef,undef,undef,undef,undef,undef],defers:=[] }/\KJ V5 Y2 R2 b5 b6 b7 b8 b9 b10 b11 x48 x42 x49 x50 x11 V) (by kernel_rfl) (by kernel_rfl) ?_ ?_ ?_
 ·exact⟨_,_,_,_,_,_,_,_,_,_,_,_,_,_,_,_,_,rfl,rfl,h0⟩
 ·intro i9 listed Zh V hi9 hr hJ;obtain⟨b0,b1,b2,b3,b4,b5,b6,b7,b8,b9,b10,b11,x48,x42,x49,x50,x11,rfl,rfl,hF⟩:=hJ;have hi2:i9<12:=hi9;have hi3:i9=0∨i9=1∨i9=2∨i9=3∨i9=4∨i9=5∨i9=6∨i9=7∨i9=8∨i9=9∨i9=10∨i9=11:=by omega
  rcases hi3 with rfl | rfl | rfl | rfl | rfl | rfl | rfl | rfl | rfl | rfl | rfl | rfl
  ·obtain rfl:b0=false:=Z4 hr;refine Zv rfl (by kernel_rfl) (some 43) rfl 30 (.tmp 5) rfl ⟨g3,0,none⟩ (.agg (ZU la B.length lk cc)) (by kernel_rfl) (ZP (FM.out.below FM.out.lt hF.bel)) ?_;exact⟨_,_,_,_,_,_,_,_,_,_,_,_,_,_,_,_,_,rfl,rfl,hF⟩
  ·obtain rfl:b1=false:=Z4 hr;refine ZM rfl (by kernel_rfl) (some 44) rfl (Z7 p) V (by kernel_rfl) ?_;exact⟨_,_,_,_,_,_,_,_,_,_,_,_,_,_,_,_,_,rfl,rfl,hF⟩
  ·obtain rfl:b2=false:=Z4 hr;refine ZM rfl (by kernel_rfl) (some 45) rfl (.slice a2 E2.length c2) V (by kernel_rfl) ?_;exact⟨_,_,_,_,_,_,_,_,_,_,_,_,_,_,_,_,_,rfl,rfl,hF⟩
  ·obtain rfl:b3=false:=Z4 hr;refine ZM rfl (by kernel_rfl) (some 46) rfl (Z8 v) V (by kernel_rfl) ?_;exact⟨_,_,_,_,_,_,_,_,_,_,_,_,_,_,_,_,_,rfl,rfl,hF⟩
  ·obtain rfl:b4=false:=Z4 hr;obtain rfl:b2=true:=ZX hr 2;obtain rfl:b3=true:=ZX hr 3;refine Q7 rfl (by kernel_rfl) (some 47) rfl 23 (.tmp 45) (.tmp 46) rfl (.slice a2 E2.length c2) (Z8 v) (.slice a2 v c2) (by kernel_rfl) (by kernel_rfl) (aa4 a2 E2.length c2 v V HV.out.1) ?_;exact⟨_,_,_,_,_,_,_,_,_,_,_,_,_,_,_,_,_,rfl,rfl,hF⟩
  ·obtain rfl:b5=false:=Z4 hr;obtain rfl:b0=true:=ZX hr 0;obtain rfl:b1=true:=ZX hr 1;obtain rfl:b4=true:=ZX hr 4;obtain⟨rfl,rfl,rfl,rfl,rfl⟩:=hF.n6;refine Ym rfl (by kernel_rfl) (some 48) rfl 11 #[.agg (ZU la B.length lk cc),Z7 p,.slice a2 v c2] (by kernel_rfl) ((C2 V ((sF.out.below Qg.out).below hF.bel) (((MC.out.take v).below Qg.out).below hF.bel)).mono fun e w' z=>?_);obtain⟨ad,k,v9,rfl,h2,h3,h4,h5⟩:=z;obtain⟨bq,q9,rfl,h6,-⟩:=YH h4;exact⟨_,rfl,_,_,_,_,_,_,_,_,_,_,_,_,_,_,_,_,_,rfl,rfl,hF.call h2 h6 h3 h5⟩
  ·obtain rfl:b6=false:=Z4 hr;obtain rfl:b5=true:=ZX hr 5;obtain⟨rfl,rfl,rfl,rfl,hF2⟩:=hF.move;refine ZM rfl (by kernel_rfl) (some 42) rfl x48 V (by kernel_rfl) ?_;exact⟨_,_,_,_,_,_,_,_,_,_,_,_,_,_,_,_,_,rfl,rfl,hF2⟩
  ·obtain rfl:b7=false:=Z4 hr;obtain rfl:b6=true:=ZX hr 6;obtain rfl:b5=true:=(hF.m rfl).1;obtain⟨rfl,u9,v9,hxm,hF2⟩:=hF.left;refine ZM rfl (by kernel_rfl) (some 49) rfl u9 V (ae8 rfl (show _=_ from hxm) _) ?_;exact⟨_,_,_,_,_,_,_,_,_,_,_,_,_,_,_,_,_,rfl,rfl,hF2⟩
  ·obtain rfl:b8=false:=Z4 hr;obtain rfl:b6=true:=ZX hr 6;obtain rfl:b5=true:=(hF.m rfl).1;obtain⟨rfl,u9,v9,hxm,hF2⟩:=hF.right;refine ZM rfl (by kernel_rfl) (some 50) rfl v9 V (ae9 rfl (show _=_ from hxm) _) ?_;exact⟨_,_,_,_,_,_,_,_,_,_,_,_,_,_,_,_,_,rfl,rfl,hF2⟩
  ·obtain rfl:b9=false:=Z4 hr;obtain⟨rfl,hF2⟩:=hF.box;refine ZM rfl (by kernel_rfl) (some 11) rfl (Z5 V.heap.size 0) (V.alloc (.cells (ZU none 0 0 0) 30)) (by kernel_rfl) ?_;exact⟨_,_,_,_,_,_,_,_,_,_,_,_,_,_,_,_,_,rfl,rfl,hF2⟩
  ·obtain rfl:b10=false:=Z4 hr;obtain rfl:b7=true:=ZX hr 7;obtain rfl:b9=true:=ZX hr 9;obtain⟨g8,cs,V2,rfl,rfl,hst,hF2⟩:=hF.store;refine Zd rfl (by kernel_rfl) rfl 30 (.tmp 11) (.tmp 49) rfl (Z5 g8 0) (.agg cs) (by kernel_rfl) (by kernel_rfl) V2 hst ?_;exact⟨_,_,_,_,_,_,_,_,_,_,_,_,_,_,_,_,_,rfl,rfl,hF2⟩
  ·obtain rfl:b11=false:=Z4 hr;obtain rfl:b8=true:=ZX hr 8;refine ZM rfl (by kernel_rfl) (some 12) rfl x50 V (by kernel_rfl) ?_;exact⟨_,_,_,_,_,_,_,_,_,_,_,_,_,_,_,_,_,rfl,rfl,{ hF with o:=fun _=>rfl }⟩
 ·intro Zh V hJ;obtain⟨b0,b1,b2,b3,b4,b5,b6,b7,b8,b9,b10,b11,x48,x42,x49,x50,x11,he,rfl,hF⟩:=hJ;have he:(#[true,true,true,true,true,true,true,true,true,true,true,true]:Array Bool)=#[b0,b1,b2,b3,b4,b5,b6,b7,b8,b9,b10,b11]:=he;simp only[Array.mk.injEq,List.cons.injEq,and_true] at he;obtain⟨rfl,rfl,rfl,rfl,rfl,rfl,rfl,rfl,rfl,rfl,rfl,rfl⟩:=he;simp only[cond_true];obtain⟨Lh,k2,bb2,q2,g11,rfl,rfl,rfl,rfl,rfl,hcD,hrD,hkD,hxD,hbD⟩:=hF.done;generalize V=V6 at *
  clear hF h0;have Yh:=Z9 (Qg.out.trans (hbD.mono Qg.out.size));have as4:=Z9 (AU.out.below AU.out.lt hbD);have aI8:=Z9 (HCA.out.below hbD);have aI9:=Z9 (HRA.out.below hbD);have aJ0:=Z9 hcD;have aJ1:=Z9 hrD;have zh:=Z9 hxD;have EP:=Z9 hkD;clear hcD hrD hkD hxD hbD AU HCA HRA FM C2;go_upto_region 7 with fail;have h0:KJ V6 Y3 R3 false false false false false false false undef undef undef undef undef V6.drew:=KJ.start;refine Zx (fun listed Zh V=>∃ b0 b1 b2 b3 b4 b5 b6 b7 b8 b9 b10 b11:Bool,∃ x57 x51 x58 x59 x13:Value,listed=#[b0,b1,b2,b3,b4,b5,b6,b7,b8,b9,b10,b11]/\Zh={ tmps:=#[.slice ak L.length ck,Z8 x,undef,undef,ZY,Z5 g3 0,Z7 p,.slice a2 E2.length c2,Z8 v,Z5 g9 0,.slice bb1 R1.length q1,Z5 g11 0,.slice bb2 R2.length q2,x13,(cond b11 (x59) undef),undef,undef,undef,undef,undef,.slice ak L.length ck,.slice (some ⟨w.heap.size,0,none⟩) 1 1,ZY,undef,.tuple #[.agg (ZU la B.length lk cc),Z7 p,.slice a2 E2.length c2],.slice ak L.length ck,.tuple #[.agg (ZU la B.length lk cc),Z7 p,.slice a2 E2.length c2],.agg (ZU la B.length lk cc),Z7 p,.slice a2 E2.length c2,Z8 x,.slice a2 E2.length c2,Z8 E2.length,Z8 (E2.length+1:Nat),Z8 v,.tuple #[.agg (ZU su Y3.1.length k1 Y3.2),.slice bb1 R1.length q1],.agg (ZU la B.length lk cc),Z7 p,.slice a2 E2.length c2,.tuple #[.agg (ZU su Y3.1.length k1 Y3.2),.slice bb1 R1.length q1],.agg (ZU su Y3.1.length k1 Y3.2),.slice bb1 R1.length q1,.tuple #[.agg (ZU Lh Y2.1.length k2 Y2.2),.slice bb2 R2.length q2],.agg (ZU la B.length lk cc),Z7 p,.slice a2 E2.length c2,Z8 v,.slice a2 v c2,.tuple #[.agg (ZU Lh Y2.1.length k2 Y2.2),.slice bb2 R2.length q2],.agg (ZU Lh Y2.1.length k2 Y2.2),.slice bb2 R2.length q2,x51,(cond b0 (.agg (ZU Lh Y2.1.length k2 Y2.2)) undef),(cond b1 (Z7 p) undef),(cond b2 (.slice a2 E2.length c2) undef),(cond b3 (Z8 v) undef),(cond b4 (.slice (YS 1 a2 c2 v) (E2.length-v) (c2-v)) undef),x57,x58,x59,undef,undef,undef,undef,undef,undef,undef,undef,undef,undef,undef,undef,undef,undef,undef,undef,undef,undef,undef,undef,undef,undef,undef,undef,undef,undef,undef,undef,undef,undef,undef,undef,undef,undef,undef,undef,undef,undef,undef,undef,undef,undef,undef,undef,undef,undef,undef,undef,undef,undef,undef,undef,undef,undef,undef,undef,undef,undef,undef,undef,undef,undef,undef,undef,undef,undef,undef,undef,undef,undef,undef,undef,undef,undef,undef,undef,undef,undef,undef],defers:=[] }/\KJ V6 Y3 R3 b5 b6 b7 b8 b9 b10 b11 x57 x51 x58 x59 x13 V) (by kernel_rfl) (by kernel_rfl) ?_ ?_ ?_
  ·exact⟨_,_,_,_,_,_,_,_,_,_,_,_,_,_,_,_,_,rfl,rfl,h0⟩
  ·intro i9 listed Zh V hi9 hr hJ;obtain⟨b0,b1,b2,b3,b4,b5,b6,b7,b8,b9,b10,b11,x57,x51,x58,x59,x13,rfl,rfl,hF⟩:=hJ;have hi2:i9<12:=hi9;have hi3:i9=0∨i9=1∨i9=2∨i9=3∨i9=4∨i9=5∨i9=6∨i9=7∨i9=8∨i9=9∨i9=10∨i9=11:=(by omega);rcases hi3 with rfl | rfl | rfl | rfl | rfl | rfl | rfl | rfl | rfl | rfl | rfl | rfl
   ·obtain rfl:b0=false:=Z4 hr;refine Zv rfl (by kernel_rfl) (some 52) rfl 30 (.tmp 11) rfl ⟨g11,0,none⟩ (.agg (ZU Lh Y2.1.length k2 Y2.2)) (by kernel_rfl) (ZP (zh.out.below zh.out.lt hF.bel)) ?_;exact⟨_,_,_,_,_,_,_,_,_,_,_,_,_,_,_,_,_,rfl,rfl,hF⟩
   ·obtain rfl:b1=false:=Z4 hr;refine ZM rfl (by kernel_rfl) (some 53) rfl (Z7 p) V (by kernel_rfl) ?_;exact⟨_,_,_,_,_,_,_,_,_,_,_,_,_,_,_,_,_,rfl,rfl,hF⟩
   ·obtain rfl:b2=false:=Z4 hr;refine ZM rfl (by kernel_rfl) (some 54) rfl (.slice a2 E2.length c2) V (by kernel_rfl) ?_;exact⟨_,_,_,_,_,_,_,_,_,_,_,_,_,_,_,_,_,rfl,rfl,hF⟩
   ·obtain rfl:b3=false:=Z4 hr;refine ZM rfl (by kernel_rfl) (some 55) rfl (Z8 v) V (by kernel_rfl) ?_;exact⟨_,_,_,_,_,_,_,_,_,_,_,_,_,_,_,_,_,rfl,rfl,hF⟩
   ·obtain rfl:b4=false:=Z4 hr;obtain rfl:b2=true:=ZX hr 2;obtain rfl:b3=true:=ZX hr 3;refine Xd rfl (by kernel_rfl) (some 56) rfl 23 (.tmp 54) (.tmp 55) rfl (.slice a2 E2.length c2) (Z8 v) (.slice (YS 1 a2 c2 v) (E2.length-v) (c2-v)) (by kernel_rfl) (by kernel_rfl) (aa1 a2 E2.length c2 v V HV.out.2) ?_;exact⟨_,_,_,_,_,_,_,_,_,_,_,_,_,_,_,_,_,rfl,rfl,hF⟩
   ·obtain rfl:b5=false:=Z4 hr;obtain rfl:b0=true:=ZX hr 0;obtain rfl:b1=true:=ZX hr 1;obtain rfl:b4=true:=ZX hr 4;obtain⟨rfl,rfl,rfl,rfl,rfl⟩:=hF.n6;refine Ym rfl (by kernel_rfl) (some 57) rfl 11 #[.agg (ZU Lh Y2.1.length k2 Y2.2),Z7 p,.slice (YS 1 a2 c2 v) (E2.length-v) (c2-v)] (by kernel_rfl) ((C3 V Lh k2 (aJ0.out.below hF.bel) EP.out ((((MC.out.drop c2 v HC2.out.1)).below Yh.out).below hF.bel)).mono fun e w' z=>?_);obtain⟨ad,k,v9,rfl,h2,h3,h4,h5⟩:=z;obtain⟨bq,q9,rfl,h6,-⟩:=YH h4;exact⟨_,rfl,_,_,_,_,_,_,_,_,_,_,_,_,_,_,_,_,_,rfl,rfl,hF.call h2 h6 h3 h5⟩
   ·obtain rfl:b6=false:=Z4 hr;obtain rfl:b5=true:=ZX hr 5;obtain⟨rfl,rfl,rfl,rfl,hF2⟩:=hF.move;refine ZM rfl (by kernel_rfl) (some 51) rfl x57 V (by kernel_rfl) ?_;exact⟨_,_,_,_,_,_,_,_,_,_,_,_,_,_,_,_,_,rfl,rfl,hF2⟩
   ·obtain rfl:b7=false:=Z4 hr;obtain rfl:b6=true:=ZX hr 6;obtain rfl:b5=true:=(hF.m rfl).1;obtain⟨rfl,u9,v9,hxm,hF2⟩:=hF.left;refine ZM rfl (by kernel_rfl) (some 58) rfl u9 V (ae8 rfl (show _=_ from hxm) _) ?_;exact⟨_,_,_,_,_,_,_,_,_,_,_,_,_,_,_,_,_,rfl,rfl,hF2⟩
   ·obtain rfl:b8=false:=Z4 hr;obtain rfl:b6=true:=ZX hr 6;obtain rfl:b5=true:=(hF.m rfl).1;obtain⟨rfl,u9,v9,hxm,hF2⟩:=hF.right;refine ZM rfl (by kernel_rfl) (some 59) rfl v9 V (ae9 rfl (show _=_ from hxm) _) ?_;exact⟨_,_,_,_,_,_,_,_,_,_,_,_,_,_,_,_,_,rfl,rfl,hF2⟩
   ·obtain rfl:b9=false:=Z4 hr;obtain⟨rfl,hF2⟩:=hF.box;refine ZM rfl (by kernel_rfl) (some 13) rfl (Z5 V.heap.size 0) (V.alloc (.cells (ZU none 0 0 0) 30)) (by kernel_rfl) ?_;exact⟨_,_,_,_,_,_,_,_,_,_,_,_,_,_,_,_,_,rfl,rfl,hF2⟩
   ·obtain rfl:b10=false:=Z4 hr;obtain rfl:b7=true:=ZX hr 7;obtain rfl:b9=true:=ZX hr 9;obtain⟨g8,cs,V2,rfl,rfl,hst,hF2⟩:=hF.store;refine Zd rfl (by kernel_rfl) rfl 30 (.tmp 13) (.tmp 58) rfl (Z5 g8 0) (.agg cs) (by kernel_rfl) (by kernel_rfl) V2 hst ?_;exact⟨_,_,_,_,_,_,_,_,_,_,_,_,_,_,_,_,_,rfl,rfl,hF2⟩
   ·obtain rfl:b11=false:=Z4 hr;obtain rfl:b8=true:=ZX hr 8;refine ZM rfl (by kernel_rfl) (some 14) rfl x59 V (by kernel_rfl) ?_;exact⟨_,_,_,_,_,_,_,_,_,_,_,_,_,_,_,_,_,rfl,rfl,{ hF with o:=fun _=>rfl }⟩
  ·intro Zh V hJ;obtain⟨b0,b1,b2,b3,b4,b5,b6,b7,b8,b9,b10,b11,x57,x51,x58,x59,x13,he,rfl,hF⟩:=hJ;have he:(#[true,true,true,true,true,true,true,true,true,true,true,true]:Array Bool)=#[b0,b1,b2,b3,b4,b5,b6,b7,b8,b9,b10,b11]:=he;simp only[Array.mk.injEq,List.cons.injEq,and_true] at he;obtain⟨rfl,rfl,rfl,rfl,rfl,rfl,rfl,rfl,rfl,rfl,rfl,rfl⟩:=he;simp only[cond_true];obtain⟨ad3,k3,bb3,q3,g13,rfl,rfl,rfl,rfl,rfl,hcD,hrD,hkD,hxD,hbD⟩:=hF.done;generalize V=V7 at *
   clear hF h0;have Vd:=Z9 (Yh.out.trans (hbD.mono Yh.out.size));have as5:=Z9 (as4.out.below as4.out.lt hbD);have aJ2:=Z9 (aI8.out.below hbD);have aJ3:=Z9 (aI9.out.below hbD);have aJ4:=Z9 (aJ1.out.below hbD);have aJ5:=Z9 hcD;have aJ6:=Z9 hrD;have as6:=Z9 hxD;clear hcD hrD hkD hxD hbD as4 aI8 aI9 aJ0 aJ1 zh C3 EP;have CS:=C4 V7 (sF.out.below Vd.out) (MC.out.below Vd.out);have zA:=Z9 (X7.out.below X7.out.lt Vd.out);go_upto_region 8 with fail;refine wl<|ZK rfl ⟨g3,0,none⟩ (.agg (ZU la B.length lk cc)) (ZP zA.out)<|ZG (Z7 p) (.slice a2 E2.length c2) <|
    XZ (fun v w'=>∃ ad k,v=.tuple #[.agg (ZU ad Z.1.1.length k Z.1.2),Z8 (Z.2.1:Int),Z8 Z.2.2]/\Cs w' ad (acc Z.1.1)/\Below V7.heap.size V7 w') (CS.mono fun e w' q=>by obtain⟨ad,k,h1,h2,-,h4⟩:=q; exact⟨_,h1,ad,k,rfl,h2,h4⟩) (fun vv V8 hq=>?_)
   obtain⟨ad4,k4,rfl,hc4,hb4⟩:=hq;obtain⟨V9,VJ,EU,hx9⟩:=XM V8 ad4 Z.1.1.length k4 Z.1.2;refine WM (.tuple #[.agg (ZU ad4 Z.1.1.length k4 Z.1.2),Z8 (Z.2.1:Int),Z8 Z.2.2]) (.agg (ZU ad4 Z.1.1.length k4 Z.1.2)) (Z8 (Z.2.1:Int)) (Z8 Z.2.2) ?_;refine Zz rfl (some 15) rfl (Z5 V8.heap.size 0) (V8.alloc (.cells (ZU none 0 0 0) 30)) (by kernel_rfl) ?_;refine Zr rfl (VJ)<|ZG (Z8 (Z.2.1:Int)) (Z8 Z.2.2)<|wn ?_;simp only[pu];obtain⟨g15,aJ7⟩:=ZR V8.heap.size;rw[aJ7] at hx9 ⊢;have Wi:=hb4.trans (EU.mono hb4.size);have Zp:=Z9 (Vd.out.trans (Wi.mono Vd.out.size));have as7:=Z9 (aJ2.out.below Wi);have as8:=Z9 (aJ3.out.below Wi);have aJ8:=Z9 (aJ4.out.below Wi);have aJ9:=Z9 (aJ5.out.below Wi);have aK1:=Z9 (aJ6.out.below Wi);have aa2:=Z9 (as5.out.below as5.out.lt Wi);have aK2:=Z9 (as6.out.below as6.out.lt Wi);have A8:=Z9 hx9;have aK3:=Z9 (hc4.below EU);clear CS C4 VJ EU hx9 hc4 hb4 Wi aJ7 Vd aJ2 aJ3 aJ4 aJ5 aJ6 as5 as6 zA Qg Yh;have CL:=Uf Y3.1 Y3.2 su ad3 k1 k3 V9 as7.out aJ9.out rW.out;go_upto_region 9 with fail;refine wl<|ZK rfl ⟨g9,0,none⟩ (.agg (ZU su Y3.1.length k1 Y3.2)) (ZP aa2.out)<|ZK rfl ⟨g13,0,none⟩ (.agg (ZU ad3 Y3.1.length k3 Y3.2)) (ZP aK2.out)<|YW ZW (fun w'=>Below V9.heap.size V9 w') CL (fun VA hVA=>?_);have hbL:=hVA;have hnl:=as3 VA;have hbz:Below VA.heap.size VA (VA.alloc (.cells #[] 47)):=(Below.refl _ VA).alloc (Nat.le_refl _) _;have hOz:P8 (VA.alloc (.cells #[] 47)) VA.heap.size (.slice (some ⟨VA.heap.size,0,none⟩) 0 0) []:=Qx VA 47 5;obtain⟨VB,hVB⟩:=ZR (VA.alloc (.cells #[] 47));rw[hVB] at hnl hbz hOz;have hba:=hbL.trans (hbz.mono hbL.size);obtain⟨a5,c5,VC,EZ,hO5,hb5,-,-⟩:=FC hOz bb2 q2 R2 (aJ8.out.below hba) hbz.size (by have:=Ba.out; simp only[List.length_nil]; omega);have hbb:=hbz.trans hb5;obtain⟨a6,c6,VD,EY,hO6,hb6,-,-⟩:=FC hO5 bb3 q3 R3 ((aK1.out.below hbL).below hbb) hbb.size (by have:=Ba.out; simp only[List.length_append,List.length_nil]; omega);rw[List.nil_append] at EZ EY hO6;rw[HP.out] at EY hO6;have hbc:=hbL.trans ((hbb.trans hb6).mono hbL.size);obtain⟨a9,c9,e9,aK4,-⟩:=YH hO6;simp only[Value.slice.injEq] at e9;obtain⟨rfl,-,rfl⟩:=e9;have CR:=MZ R1 bb1 a6 q1 c6 VD (as8.out.below hbc) aK4 (by have:=Ba.out; have:=HC2.out; omega);obtain⟨g4,hg4⟩:=ZR VA.heap.size;rw[hg4] at hnl EZ;have HBc:=Z9 hbc;clear hbL hbz hOz hVB hba hO5 hb5 hbb hO6 hb6 hbc aK4 hg4 hVA;refine YG ZY ZY (.slice bb1 R1.length q1) ?_;refine Zw (by kernel_rfl) (some 74) rfl 35 0 #[] rfl #[] (by kernel_rfl) (.slice (some ⟨g4,0,none⟩) 0 0) _ hnl ?_;refine ZV (.slice bb2 R2.length q2) ?_;refine Hw (by kernel_rfl) (some 76) rfl 35 rfl (.tmp 74) (.tmp 75) 35 rfl (.slice (some ⟨g4,0,none⟩) 0 0) (.slice bb2 R2.length q2) (.slice a5 R2.length c5) VC (by kernel_rfl) (by kernel_rfl) EZ ?_;refine ZV (.slice bb3 R3.length q3) ?_;refine Hw (by kernel_rfl) (some 78) rfl 35 rfl (.tmp 76) (.tmp 77) 35 rfl (.slice a5 R2.length c5) (.slice bb3 R3.length q3) (.slice a6 R1.length c6) VD (by kernel_rfl) (by kernel_rfl) EY ?_;refine YW ZW (fun w'=>Below VD.heap.size VD w') CR (fun VE hVE=>?_);have hbE:=HBc.out.trans (hVE.mono HBc.out.size);clear CR hnl EZ EY hVE CL;refine Zc ZY ZY ZY (.slice bb1 R1.length q1) (Z8 R1.length) (.slice a2 E2.length c2)<|ZV (Z8 E2.length)<|ZN (IY rfl R1.length E2.length (decide_eq_true (by rw[Ba.out.1]))) <|
    ZV ZY<|wn ?_
   simp only[pu];have LU:=Z9 (HB3.out.trans ((Zp.out.trans (hbE.mono Zp.out.size)).mono HB3.out.size));have aK5:=Z9 (aa2.out.below aa2.out.lt hbE);have af0:=Z9 (A8.out.below A8.out.lt hbE);have aS4:=Z9 (as7.out.below hbE);have aS5:=Z9 (aK3.out.below hbE);have aS6:=Z9 (as8.out.below hbE);clear HBc hbE Zp aa2 aK2 A8 as7 aK3 aJ9 as8 aJ8 aK1 HP sF X7 MC HB3;go_upto_region 11 with fail;refine wl<|YG (.slice bb1 R1.length q1) (Z8 R1.length) (Z8 0)<|wn ?_;simp only[pu];go_wp2_with fail;go_loopg [4,18,19,91] R1.length (fun gg s4 s18 s19 s91 wx=>∃ n:Nat,s4=ZY/\s91=Z8 n/\n<=R1.length/\Hid (Below VE.heap.size VE wx)/\R1.length-n=gg)
   case atStart=>exact⟨0,rfl,rfl,by omega,Z9 (Below.refl _ _),by omega⟩
   case round=>
    obtain⟨n,rfl,rfl,hn,HB,hg⟩:=hrel;by_cases hlt:n<R1.length
    ·obtain⟨b,off,rfl,-,hrr⟩:=Rj (aS6.out.below HB.out) (k:=n) hlt;have YL:=Z9 (FB hrr);have HG:=Z9 hg;have hrn:=Jt.out n (by rw[<- Ba.out.1]; exact hlt);have Um:=(Below.refl _ wr).alloc (Nat.le_refl _) (.cells (ZB (YQ 0)) 47);have hxr:Bx (wr.alloc (.cells (ZB (YQ 0)) 47)) wr.heap.size (ZB (YQ 0)) 47:=heap_alloc_last wr _;obtain⟨V0,hV0⟩:=ZR (wr.alloc (.cells (ZB (YQ 0)) 47));rw[hV0] at Um hxr;generalize bV R1 n=y at *
     obtain⟨hst,hx2⟩:=XB (q:=y) hxr;have SY:=Z9 (ZT (g:=wr.heap.size) (HB.out.trans (Um.mono HB.out.size)) HB.out.size (ZB y));obtain⟨g19,as9⟩:=ZR wr.heap.size;rw[as9] at hst hx2 SY;have at1:=Z9 hx2;have OW:=Z9 hrn;clear hrr hg hrn Um hxr hx2 HB;go_upto_region 12 with fail;refine wl<|ZN (Zy rfl (n) (R1.length) dT)<|wn ?_;simp only[pu];go_upto_region 13 with fail;refine wl<|ZV (Z8 n)<|YN (Z5 b (off+n*5)) (Le b off R1.length q1 n hlt _ _ _ rfl (by kernel_rfl) (by kernel_rfl))<|ZK rfl ⟨b,off+n*5,none⟩ (.agg (ZB y)) (YL.out) ?_;refine Zz rfl (some 19) rfl (Z5 wr.heap.size 0) (wr.alloc (.cells (ZB (YQ 0)) 47)) (by kernel_rfl) ?_;simp only[pu];rw[hV0,as9];refine ZV (Z8 n)<|Zr rfl (hst)<|wn ?_;simp only[pu];generalize V0.setRow g19 (ZB y)=V1 at *
     clear hst hV0 YL as9;have hnE:n<E2.length:=(by rw[<- Ba.out.1]; exact hlt);rcases HSS.out with⟨h0,-,hall⟩ | ⟨h0,hbef,hat⟩
     ·have hy0:y.code=0:=(by rw[OW.out]; exact hall n hnE);go_upto_region 14 with fail;refine wl<|ZV (Z8 Z.2.2)<|ZN (OV rfl (Z.2.2) (0) (decide_eq_true (h0)))<|ZG ZW (Z5 g19 0)<|ZK rfl ⟨g19,0,none⟩ (Z8 y.code) (at1.out.ZQ 0) <|
       ZN (Za rfl y.code 0 (decide_eq_true (hy0)))<|YG ZY ZY (Z8 Z.2.2)<|ZN (Za rfl Z.2.2 0 (decide_eq_true (h0))) <|
       Zc ZY undef undef undef undef undef<|Zc undef undef undef undef undef undef<|Zc undef undef undef undef undef undef<|WM undef undef ZY ZY<|wn ?_
      simp only[pu];go_upto_region 16 with fail;refine wl<|YC (Z8 (n+1:Nat)) (ZH rfl n 1 (by have:=Ba.out; have:=HC2.out; omega))<|ZV (Z8 (n+1:Nat))<|wn ?_;simp only[pu];go_wp2_with fail;go_roundg (R1.length-(n+1))
      case measure=>have:=HG.out; omega
      case rel=>exact⟨n+1,rfl,rfl,hlt,SY,rfl⟩
     ·rcases Nat.lt_trichotomy n Z.2.1 with h9 | h9 | h9
      ·have hy0:y.code=0:=(by rw[OW.out]; exact hbef n h9);go_upto_region 14 with fail;refine wl<|ZV (Z8 Z.2.2)<|ZN (OV rfl (Z.2.2) (0) (decide_eq_false (h0)))<|Zc ZY undef undef undef ZY ZY<|ZV (Z8 Z.2.2) <|
        ZN (Za rfl Z.2.2 0 (decide_eq_false (h0)))<|YG ZW (Z8 n) (Z8 (Z.2.1:Int))<|ZN (Zy rfl (n) ((Z.2.1:Int)) dT) <|
        ZG ZW (Z5 g19 0)<|ZK rfl ⟨g19,0,none⟩ (Z8 y.code) (at1.out.ZQ 0)<|ZN (Za rfl y.code 0 (decide_eq_true (hy0))) <|
        WM ZY ZY (Z8 n) (Z8 (Z.2.1:Int))<|ZN (ZI rfl (n) ((Z.2.1:Int)) dF)<|Zc ZY undef undef undef undef ZY <|
        YG ZY ZY ZY<|wn ?_
       simp only[pu];go_upto_region 16 with fail;refine wl<|YC (Z8 (n+1:Nat)) (ZH rfl n 1 (by have:=Ba.out; have:=HC2.out; omega))<|ZV (Z8 (n+1:Nat))<|wn ?_;simp only[pu];go_wp2_with fail;go_roundg (R1.length-(n+1))
       case measure=>have:=HG.out; omega
       case rel=>exact⟨n+1,rfl,rfl,hlt,SY,rfl⟩
      ·have hy0:y.code=Z.2.2:=(by rw[OW.out,h9]; exact hat);go_upto_region 14 with fail;refine wl<|ZV (Z8 Z.2.2)<|ZN (OV rfl (Z.2.2) (0) (decide_eq_false (h0)))<|Zc ZY undef undef undef ZY ZY<|ZV (Z8 Z.2.2) <|
        ZN (Za rfl Z.2.2 0 (decide_eq_false (h0)))<|YG ZW (Z8 n) (Z8 (Z.2.1:Int))<|ZN (Zy rfl (n) ((Z.2.1:Int)) dF) <|
        Zc ZY undef undef undef ZY ZY<|ZG (Z8 n) (Z8 (Z.2.1:Int))<|ZN (ZI rfl (n) ((Z.2.1:Int)) dT)<|ZG ZW (Z5 g19 0) <|
        ZK rfl ⟨g19,0,none⟩ (Z8 y.code) (at1.out.ZQ 0)<|ZV (Z8 Z.2.2)<|ZN (Za rfl y.code Z.2.2 (decide_eq_true (hy0)))<|WM ZY ZY ZY ZY <|
        wpList_nil ?_
       simp only[pu];go_upto_region 16 with fail;refine wl<|YC (Z8 (n+1:Nat)) (ZH rfl n 1 (by have:=Ba.out; have:=HC2.out; omega))<|ZV (Z8 (n+1:Nat))<|wn ?_;simp only[pu];go_wp2_with fail;go_roundg (R1.length-(n+1))
       case measure=>have:=HG.out; omega
       case rel=>exact⟨n+1,rfl,rfl,hlt,SY,rfl⟩
      ·go_upto_region 14 with fail;refine wl<|ZV (Z8 Z.2.2)<|ZN (OV rfl (Z.2.2) (0) (decide_eq_false (h0)))<|Zc ZY undef undef undef ZY ZY<|ZV (Z8 Z.2.2) <|
        ZN (Za rfl Z.2.2 0 (decide_eq_false (h0)))<|YG ZW (Z8 n) (Z8 (Z.2.1:Int))<|ZN (Zy rfl (n) ((Z.2.1:Int)) dF) <|
        Zc ZY undef undef undef ZY ZY<|ZG (Z8 n) (Z8 (Z.2.1:Int))<|ZN (ZI rfl (n) ((Z.2.1:Int)) dF) <|
        Zc ZY undef undef undef undef ZY<|YG ZY ZY ZY<|wn ?_
       simp only[pu];go_upto_region 16 with fail;refine wl<|YC (Z8 (n+1:Nat)) (ZH rfl n 1 (by have:=Ba.out; have:=HC2.out; omega))<|ZV (Z8 (n+1:Nat))<|wn ?_;simp only[pu];go_wp2_with fail;go_roundg (R1.length-(n+1))
       case measure=>have:=HG.out; omega
       case rel=>exact⟨n+1,rfl,rfl,hlt,SY,rfl⟩
    ·have HXA:=Z9 (aK5.out.below aK5.out.lt HB.out);have HXF:=Z9 (af0.out.below af0.out.lt HB.out);have HCF:=Z9 (aS4.out.below HB.out);have HDF:=Z9 (aS5.out.below HB.out);have HWF:=Z9 (LU.out.trans (HB.out.mono LU.out.size));clear HB hg;go_upto_region 12 with fail;refine wl<|ZN (Zy rfl (n) (R1.length) dF)<|wn ?_;simp only[pu];rcases HSS.out with⟨h0,hz,-⟩ | ⟨h0,-⟩
     ·have hzl:Z.1.1.length=Y3.1.length:=(by rw[hz]);rw[hz] at HDF HXF;have CF:=Uf Y3.1 Y3.2 su ad4 k1 k4 wr HCF.out HDF.out rW.out;rw[hz];go_upto_region 17 with fail;refine wl<|ZV (Z8 Z.2.2)<|ZN (Za rfl Z.2.2 0 (decide_eq_true (h0)))<|ZV ZY<|ZK rfl ⟨g9,0,none⟩ (.agg (ZU su Y3.1.length k1 Y3.2)) (ZP HXA.out) <|
       ZK rfl ⟨g15,0,none⟩ (.agg (ZU ad4 Y3.1.length k4 Y3.2)) (ZP HXF.out)<|YW ZW (fun w'=>Below wr.heap.size wr w') CF (fun VF hVF=>?_)
      have hbF:=HWF.out.trans (hVF.mono HWF.out.size);clear hVF;refine ZG ZW ZW<|YW ZW (fun w'=>Below w.heap.size w w') (HK.out VF (hbF)) (fun VG hVG=>?_);have HE:=Z9 hVG;clear hVG;refine ZG ZW ZW<|wn ?_;simp only[pu];go_wp2_with fail;go_ret;exact⟨rfl,HE.out⟩
     ·go_upto_region 17 with fail;refine wl<|ZV (Z8 Z.2.2)<|ZN (Za rfl Z.2.2 0 (decide_eq_false (h0)))<|Zc ZW undef undef undef ZW ZW<|YW ZW (fun w'=>Below w.heap.size w w') (HK.out wr (HWF.out)) (fun VG hVG=>?_);have HE:=Z9 hVG;clear hVG;refine ZG ZW ZW<|wn ?_;simp only[pu];go_wp2_with fail;go_ret;exact⟨rfl,HE.out⟩
end Go.Proofs.YtfpnnmeblefkkaaGreatDoor.Lg
namespace Go.Proofs.YtfpnnmeblefkkaaGreatDoor.foldJoins
open Go.ChangeShapes Go.WideShapes Go.ChangeAt Go.RowKit
theorem walk (a0:Option Addr)(c0:Nat)(L0:List Int)(a1:Int)(w:World)(hn0:L0.length<=9223372036854775807)(hr0:Cs w a0 (X9 L0))(w1:-9223372036854775808<=a1/\a1<=9223372036854775807)(hG:Glob w) :
    Calls Tryz.prog 5 #[.slice a0 L0.length c0,.int .i64 a1] w fun e w'=>e=.returned (.bool true)/\Below w.heap.size w w':=by
  exact Lg.yO Lg.yZ Lg.yY a0 c0 L0 a1 w hG hn0 hr0
theorem lifted (os:Os)(started:os.Started)(H:Type)(enc:TypeId×Value->H) :
    ReturnsInHanded {} Tryz.checked os 5 .any (fun w args=>(Rows.foldJoinsSpec.pre enc Tryz.prog Tryz.f5 [] false w args/\laidMetH Tryz.prog laid2 w)/\sizedMet enc Tryz.prog Tryz.f5 (OpenSpec.ofChange Rows.foldJoinsSpec) false w args)
      (Rows.foldJoinsSpec.post enc Tryz.prog Tryz.f5 false true false false):=by
  refine returnsInHanded_of_change_and (C:=Tryz.checked) (X:=fun w _=>laidMetH Tryz.prog laid2 w) (fun _ _ _ hh h=>h.of_heap hh) own started (by kernel_rfl) Tryz.func5
    (ChangeSpec.witness_shaped (enc:=enc) (C:=Tryz.checked) (os:=os) (X:=fun w _=>laidMetH Tryz.prog laid2 w) false (World.doorLaid Tryz.prog 400 os) #[.slice none 0 0,.int .i64 0] 8 rfl (World.shaped_of_RefB (by kernel_rfl) (by kernel_rfl)) (by kernel_rfl) (by kernel_rfl) (by kernel_rfl) (door_met os _)) ?_
  intro W base args ds gs before hval0 hW _ hsz0 hL _;have hval:∀ (j:Nat) t v,Tryz.f5.params[j]?=some t->args[j]?=some v->Value.okWide Tryz.prog W .any base t v:=hval0;have hsz:(DataW.weightsEach Tryz.prog (Tryz.f5.params.toList++Rows.foldJoinsSpec.plain.varTypes Tryz.prog) (ds++gs)).all (·<=reachBytes)=true:=hsz0;have hW':=hW;obtain⟨p,q,hA0,hV,rfl,hfz,hnd⟩:=hW;have hA:DataW.TrodAll enc Tryz.prog W 0 (fun _=>true) true Tryz.f5.params.toList args.toList ds p:=hA0;rw[Tryz.params5] at hA hval hsz;obtain⟨v0,vs0,d0,ds0,p0,q0,hargs,rfl,rfl,h0,r0⟩:=trodAll_cons hA;obtain⟨v1,vs1,d1,ds1,p1,q1,rfl,rfl,rfl,h1,r1⟩:=trodAll_cons r0;obtain⟨rfl,rfl,rfl⟩:=trodAll_nil r1;obtain rfl:args=#[v0,v1]:=by cases args; simp_all
  obtain⟨rfl,rfl⟩:=trodVars_none hV;obtain⟨b0,l0,cap0,rfl⟩:=okWide_slice Tryz.underlying22 (hval 0 22 v0 rfl rfl);have k0:=h0;have lt0:∀ x∈p0,x.block<W.heap.size:=by obtain⟨m,hm⟩:=k0; exact DataW.trod_lt m _ _ _ hm
  obtain⟨a0,c0,L0,e0,hn0,hr0⟩:∃ a c L,Value.slice b0 l0 cap0=.slice a (List.length L) c/\L.length<=9223372036854775807/\Cs W a (X9 L):=by
    obtain⟨fuel,hf⟩:=h0;obtain⟨a,c,L,e,hn,hr⟩:=Lg.Jz hf;exact⟨a,c,L,by simpa [Value.cells] using e,hn,hr⟩
  obtain⟨rfl,rfl,rfl⟩:b0=a0/\l0=L0.length/\cap0=c0:=by simpa using e0
  obtain⟨a1,rfl,rfl,rfl,x1⟩:=open_int Tryz.underlying3 (hval 1 3 v1 rfl rfl) h1;clear hA0 hval0;refine(walk b0 cap0 L0 a1 W hn0 hr0 (Lg.H9 x1) (RH hL)).mono fun e W' ⟨he,bel⟩=>?_;subst he;exact⟨_,rfl,_,_,_,[],_,[],hW',trodAll_mk1 (shut_bool Tryz.underlying4 _),(trodAll_cons_mk (Below.trod laidOut (by kernel_rfl) (of_decide_eq_true (by kernel_rfl)) k0 bel lt0) (trodAll_cons_mk (shut_int Tryz.underlying3 x1) trodAll_mk0)),rfl,bel.frame _,fun h=>by cases h⟩
theorem over:Rows.foldJoinsRow.holds Tryz.pinned (OpenSpec.ofChange Rows.foldJoinsSpec):=
  OpenClaim.holds_of_wide 5 Tryz.f5 rfl rfl rfl rfl rfl rfl rfl ⟨rfl,rfl,rfl,rfl,rfl⟩ rfl rfl rfl rfl rfl (by kernel_rfl) Tryz.func5 (by kernel_rfl)
    (of_decide_eq_true (by kernel_rfl)) (by unfold Func.isWrapper; first | (rw[if_pos (by decide +kernel)]; kernel_rfl) | (rw[if_neg (by decide +kernel)]; exact⟨rfl,rfl⟩))
    (fun os started H enc _=>lifted os started H enc)
end Go.Proofs.YtfpnnmeblefkkaaGreatDoor.foldJoins
namespace Go.Proofs.YtfpnnmeblefkkaaGreatDoor
open Go
theorem MH:Rows.FoldJoinsCardSaid:=
  Claim7.holds_tied_plain_at .later [] [.data,.data] true (true, "6dae5ef62069c1fc3ba6e0e574e5a744f1e27d887abf4afe5177be0ef7dd4125") true
    foldJoins.over (fun _ h=>by cases h) (by kernel_rfl) (fun _ h=>by cases h) foldJoins_row_tie rfl ⟨rfl,rfl⟩ (by kernel_rfl) rfl
    (fun f fn hf hfn=>by
      obtain rfl:f=5:=Option.some.inj ((show Tryz.prog.funcNamed "mempool/mempoollaw14.FoldJoins" = some 5 by kernel_rfl).symm.trans hf) |>.symm;obtain rfl:fn=Tryz.f5:=(Option.some.inj (Tryz.func5.symm.trans hfn)).symm;exact⟨by kernel_rfl,fun j t ht=>by
        rw[Tryz.params5] at ht;have hm:t∈[22,3]:=(by simpa using Array.mem_of_getElem? ht);have hall:([22,3].all fun u=>!Tryz.prog.wantsStandIn u)=true:=(by kernel_rfl);exact(show Tryz.prog.wantsStandIn t=false by simpa using List.all_eq_true.1 hall t hm)⟩)
    (by kernel_rfl)
#print axioms MH
end Go.Proofs.YtfpnnmeblefkkaaGreatDoor
