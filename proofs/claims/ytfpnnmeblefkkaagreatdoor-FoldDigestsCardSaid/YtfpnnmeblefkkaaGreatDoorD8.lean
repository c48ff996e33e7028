/-
  Texts joined.
-/
import Derived.Test.YtfpnnmeblefkkaaGreatDoorD7
set_option maxRecDepth 100000
set_option maxHeartbeats 8000000
set_option linter.unusedSimpArgs false
set_option linter.unusedVariables false
namespace Go.Proofs.YtfpnnmeblefkkaaGreatDoor
attribute [local irreducible] wpList wpQuiet
open Go.RowKit
structure TxB (t:YV):Prop where
 sq:W64 t.sq
 Zx:W64 t.Zx
 Y8:W64 t.Y8
 am:∀ x,x∈t.tr->W64 x.2
 s1:t.snd.size<=140737488355328
 s2:t.memo.size<=140737488355328
 s3:∀ x,x∈t.tr->x.1.size<=140737488355328
theorem Bo.b {t:YV}(h:Bo t):TxB t:=⟨h.sq,h.Zx,h.Y8,h.am,by have:=h.wt; unfold Iw at this; omega,by have:=h.wt; unfold Iw at this; omega,fun x hx=>by have:=(h.tr hx).1; omega⟩
def ak2 (w:World)(t:YV)(e:Ending)(w':World):Prop:=∃ v,e=.returned (.tuple #[v,Z8 (QX t).2])/\Own w' w.heap.size v (QX t).1/\Below w.heap.size w w'
theorem nT {w:World}{g k:Nat}{x:YV}{a:Option Addr}{c:Nat}(h:Bx w g (ZA x a c) k):w.rangeAt g 0 (ZA x a c).toList:=fun j v hv=>by
 rw[cell_of_row w g _ _ _ (0,0) h];simpa using hv
theorem ZH {w:World}{g k:Nat}{x:YV}{a:Option Addr}{c:Nat}(h:Bx w g (ZA x a c) k):(Instr.loadAt 63 (Z5 g 0)).run Tryz.prog w=.ok (.agg (ZA x a c)) w:=
 run_loadAt_mid w g 0 63 _ _ (nT h) Tryz.underlying63 rfl (by kernel_rfl)
theorem YL {ρ:Operand->Value}{o:Oper}{x y:Operand}(ho:o.op=.binOp .neq 42 x y 42)(a b:Int){t:Bool}(ht:decide (a=b)=t)(hx:ρ x=Z8 a)(hy:ρ y=Z8 b)(w:World):(execOp ρ o).run Tryz.prog w=.ok (.value (.bool (!t))) w:=by
 have e:(a != b) = !t:=by rw[<- ht]; rfl
 unfold execOp;simp only[ho,hx,hy];go_simp
theorem EN {ρ:Operand->Value}{o:Oper}{x y:Operand}(ho:o.op=.binOp .eql 42 x y 42)(a b:Int){t:Bool}(ht:decide (a=b)=t)(hx:ρ x=Z8 a)(hy:ρ y=Z8 b)(w:World):(execOp ρ o).run Tryz.prog w=.ok (.value (.bool t)) w:=by
 have e:(a == b)=t:=ht;unfold execOp;simp only[ho,hx,hy];go_simp
theorem KW (x:YV)(a:Option Addr)(c:Nat)(w:World)(hR:Cs w a (QZ x.tr))(h2:TxB x) :
  Calls Tryz.prog 20 #[.agg (ZA x a c)] w (ak2 w x):=by
 have hb0:Below w.heap.size w (w.alloc (.cells (ZA x a c) 63)):=(Below.refl _ w).alloc (Nat.le_refl _) _;have hX0:Bx (w.alloc (.cells (ZA x a c) 63)) w.heap.size (ZA x a c) 63:=heap_alloc_last w _;have HA:=Z9 (hR.below hb0);have CV:=Z9 (fun V (h1:Cs V a (QZ x.tr))=>U6 x a c V h1 h2.s1 h2.s2 h2.s3);have CW:=Z9 (fun V (h1:Cs V a (QZ x.tr)) (hv:Xv x=0)=>have hok:=(val_ok hv h2.sq h2.Zx h2.Y8 h2.am).1; Ei x a c V h1 hok);have EI:Hid (Xv x≠0->QX x=([],Xv x)):=Z9 fun h=>by unfold QX; rw[if_pos h]
 have HE2:Hid (Xv x=0->4096<(form x).length->QX x=([],3)):=Z9 fun h h3=>by unfold QX; rw[if_neg (by rw[h]; decide),if_pos h3]
 have iW:Hid (Xv x=0->¬ 4096<(form x).length->QX x=(form x,0)):=Z9 fun h h3=>by unfold QX; rw[if_neg (by rw[h]; decide),if_neg h3]
 have HEO:Hid (∀ v V r,QX x=r->Own V w.heap.size v r.1->Below w.heap.size w V->ak2 w x (.returned (.tuple #[v,Z8 r.2])) V):=Z9 fun v V r h1 h3 h4=>⟨v,by rw[h1],by rw[h1]; exact h3,h4⟩;generalize QX x=EX at *
 generalize Xv x=vx at *
 generalize form x=FO at *
 clear hR h2;go_enter Tryz.func20,Tryz.ntmps20;go_upto_region 1 with fail;change Code.wp _ _ _ _ (w.alloc (.cells (ZA x a c) 63));generalize w.alloc (.cells (ZA x a c) 63)=W at *
 obtain⟨g0,hg0⟩:=ZQ w.heap.size;have HB0:=Z9 hb0;rw[hg0] at hX0;simp only[hg0];have Py:=CV.out W HA.out;clear hb0 hg0 CV;refine wl<|ZL rfl ⟨g0,0,none⟩ (.agg (ZA x a c)) (ZH hX0)<|YM (Z8 vx) (fun w'=>Below W.heap.size W w') Py (fun V hV=>?_);refine ZV (Z8 vx)<|wn ?_;simp only[pu];have hX1:=hX0.below hX0.lt hV;have HB1:=Z9 (HB0.out.trans (hV.mono HB0.out.size));have HA1:=Z9 (HA.out.below hV);clear hV Py hX0 HB0 HA;go_upto_region 2 with fail;by_cases hv:vx=0
 ·have CWV:=CW.out V HA1.out hv;clear CW;refine wl<|ZV (Z8 vx)<|ZM (YL rfl vx 0 (decide_eq_true hv))<|wn ?_;simp only[pu];go_upto_region 4 with fail;refine wl<|ZL rfl ⟨g0,0,none⟩ (.agg (ZA x a c)) (ZH hX1)<|XI (fun v w'=>Own w' V.heap.size v FO/\Below V.heap.size V w') CWV (fun u U hq=>?_);obtain⟨hO,hb⟩:=hq;obtain⟨b5,d5,rfl,-,-⟩:=hO.sl;refine ZV (.slice b5 FO.length d5)<|wn ?_;simp only[pu];have HB2:=Z9 (HB1.out.trans (hb.mono HB1.out.size));have HO:=Z9 (hO.base HB1.out.size);clear hO hb CWV hX1 HA1 HB1;go_upto_region 5 with fail;by_cases hl:4096<FO.length
  ·have HE:=Z9 (HEO.out (.slice none 0 0) U _ (HE2.out hv hl) (Own.nil _ _) HB2.out);clear HEO EI HE2 iW HO HB2;refine wl<|ZB (.slice b5 FO.length d5) (Z8 FO.length)<|ZM (Zn rfl (FO.length) (4096) dT)<|wn ?_;simp only[pu];go_upto_region 6 with fail;refine wl<|ZB (.slice none 0 0) (Z8 3)<|wn ?_;simp only[pu];go_wp2_with fail;go_ret2;exact HE.out
  ·have HE:=Z9 (HEO.out (.slice b5 FO.length d5) U _ (iW.out hv hl) HO.out HB2.out);clear HEO EI HE2 iW HO HB2;refine wl<|ZB (.slice b5 FO.length d5) (Z8 FO.length)<|ZM (Zn rfl (FO.length) (4096) dF)<|wn ?_;simp only[pu];go_upto_region 7 with fail;refine wl<|Yr (.slice b5 FO.length d5) (.slice b5 FO.length d5) (Z8 0)<|wn ?_;simp only[pu];go_wp2_with fail;go_ret2;exact HE.out
 ·have HE:=Z9 (HEO.out (.slice none 0 0) V _ (EI.out hv) (Own.nil _ _) HB1.out);clear HEO EI HE2 iW HA1 HB1 CW hX1;refine wl<|ZV (Z8 vx)<|ZM (YL rfl vx 0 (decide_eq_false hv))<|wn ?_;simp only[pu];go_upto_region 3 with fail;refine wl<|Yr (Z8 vx) (.slice none 0 0) (Z8 vx)<|wn ?_;simp only[pu];go_wp2_with fail;go_ret2;exact HE.out
structure NH (w:World)(B:Nat)(a:Option Addr)(ps:List (Zj×Value)):Prop where
 fs:Fs w a ps
 row:∀ x,a=some x->ps≠[]->B<=x.block
 byt:∀ p,p∈ps->∀ x n c,p.2=.slice (some x) n c->p.1.bytes≠[]->B<=x.block
 cap:∀ p,p∈ps->∀ x n c,p.2=.slice x n c->n<=c
theorem NH.below {w w':World}{B:Nat}{a:Option Addr}{ps:List (Zj×Value)}(h:NH w B a ps)(hb:Below w.heap.size w w'):NH w' B a ps:=⟨h.fs.below hb,h.row,h.byt,h.cap⟩
theorem og {w w':World}{g:Nat}{a:Option Addr}{c:Nat}{L:List Int}(h:Sl w a c L)(hb:But g w w')(hn:L≠[]->∀ x,a=some x->x.block≠g):Sl w' a c L:=by
 rcases h with h | ⟨x,rfl,hx⟩
 ·exact .inl h
 ·refine .inr ⟨x,rfl,fun k hk=>?_⟩;obtain⟨b,off,rfl,hc⟩:=hx k hk;have hne:b≠g:=hn (by intro e; rw[e] at hk; simp at hk) _ rfl;exact⟨b,off,rfl,(World.cell?_of_block (a:=⟨b,off+k,none⟩) (hb.2 b (World.block_lt_of_cell? w _ hc) hne)).trans hc⟩
theorem fE {w w':World}{g b o:Nat}{num kind val:Int}{s:Option Addr}{n d:Nat}(h:Box w b o num kind val s n d)(hb:But g w w')(hn:b≠g):Box w' b o num kind val s n d:=by
 obtain⟨h0,h1,h2,h3⟩:=h;have key:∀ q v,w.cell? ⟨b,q,none⟩=some v->w'.cell? ⟨b,q,none⟩=some v:=fun q v hq=>(World.cell?_of_block (a:=⟨b,q,none⟩) (hb.2 b (World.block_lt_of_cell? w _ hq) hn)).trans hq;exact⟨key _ _ h0,key _ _ h1,key _ _ h2,key _ _ h3⟩
theorem NH.but {w w':World}{B g:Nat}{a:Option Addr}{ps:List (Zj×Value)}(h:NH w B a ps)(hb:But g w w')(hg:g<B):NH w' B a ps:=by
 refine⟨fun i p hp=>?_,h.row,h.byt,h.cap⟩;obtain⟨b,off,ba,bc,rfl,h2,hs,hx⟩:=h.fs i p hp;have hm:=List.mem_of_getElem? hp;have h1:=h.row _ rfl (by intro e; rw[e] at hm; cases hm);refine⟨b,off,ba,bc,rfl,h2,og hs hb (fun hne x hx=>?_),fE hx hb (by have:B<=b:=h1; omega)⟩;subst hx;have:=h.byt p hm x _ _ h2 hne;omega
theorem NH.nil (w:World)(B:Nat)(a:Option Addr):NH w B a []:=⟨fun i p h=>by simp at h,fun x _ h=>absurd rfl h,fun p h=>(by cases h),fun p h=>(by cases h)⟩
theorem NH.tail {w:World}{B:Nat}{a:Option Addr}{p:Zj×Value}{r:List (Zj×Value)}(h:NH w B a (p::r))(c:Nat)(hc:(p::r).length<=c):NH w B (YF 4 a c 1) r:=by
 cases r with
 | nil=>exact NH.nil _ _ _
 | cons q r=>
  have hc1:¬ c=1:=by simp at hc; omega
  obtain⟨b,off,ba,bc,rfl,-⟩:=h.fs 0 p rfl;have e:YF 4 (some ⟨b,off,none⟩) c 1=some ⟨b,off+4,none⟩:=by
   unfold YF;rw[if_neg hc1];simp only[Option.map_some];rw[Addr.add_mid]
  rw[e];refine⟨fun i p2 hp=>?_,fun x hx _=>?_,fun p2 hp=>h.byt p2 (by simp[hp]),fun p2 hp=>h.cap p2 (by simp[hp])⟩
  ·obtain⟨b2,off2,ba2,bc2,e2,h2,hs,hx⟩:=h.fs (i+1) p2 (by simpa using hp);simp only[Option.some.injEq,Addr.mk.injEq,and_true] at e2;obtain⟨rfl,rfl⟩:=e2;refine⟨b,off+4,ba2,bc2,rfl,h2,hs,?_⟩;rw[show off+4+i*4=off+(i+1)*4 by omega];exact hx
  ·cases hx;exact h.row ⟨b,off,none⟩ rfl (by simp)
theorem U5.fsb {w:World}{B:Nat}{v:Value}{ps:List (Zj×Value)}(h:U5 w B v ps):∃ a c,v=.slice a ps.length c/\ps.length<=c/\NH w B a ps:=by
 obtain⟨a,c,rfl,hc,hf⟩:=h.fs;refine⟨a,c,rfl,hc,hf,fun x hx hn=>?_,fun p hp x n d e hn=>?_,fun p hp x n d e=>?_⟩
 ·have h0:0<ps.length:=List.length_pos_iff.2 hn;obtain⟨g,rfl,hg,-⟩:=Tv h.1 h0;cases hx;exact hg
 ·have ho:=h.2 p hp;rw[e] at ho;obtain⟨a2,c2,e2,-,-⟩:=ho.sl;simp only[Value.slice.injEq] at e2;have h0:0<p.1.bytes.length:=List.length_pos_iff.2 hn;unfold Own at ho;rw[e2.2.1] at ho;obtain⟨g,hx,hg,-⟩:=Tv ho h0;cases hx;exact hg
 ·have ho:=h.2 p hp;rw[e] at ho;obtain⟨a2,c2,e2,-,hle⟩:=ho.sl;simp only[Value.slice.injEq] at e2;omega
def LZ (x:Zj)(b:Option Addr)(d:Nat):Value:=if x.kind=0 then .iface 24 (Z7 x.val) else .iface 54 (.slice b x.bytes.length d)
theorem Gs (x:Zj)(b:Option Addr)(d:Nat)(w:World):Calls Tryz.prog 145 #[.agg (XR x b d)] w fun e w'=>e=.returned (LZ x b d)/\Below w.heap.size w w':=by
 have hb0:Below w.heap.size w (w.alloc (.cells (XR x b d) 77)):=(Below.refl _ w).alloc (Nat.le_refl _) _;have hX0:Bx (w.alloc (.cells (XR x b d) 77)) w.heap.size (XR x b d) 77:=heap_alloc_last w _;have HB0:=Z9 hb0;have HV1:Hid (x.kind=0->LZ x b d=.iface 24 (Z7 x.val)):=Z9 fun h=>if_pos h;have fD:Hid (x.kind≠0->LZ x b d=.iface 54 (.slice b x.bytes.length d)):=Z9 fun h=>if_neg h;generalize LZ x b d=vv at *
 go_enter Tryz.func145,Tryz.ntmps145;go_upto_region 1 with fail;change Code.wp _ _ _ _ (w.alloc (.cells (XR x b d) 77));generalize w.alloc (.cells (XR x b d) 77)=W at *
 obtain⟨g0,hg0⟩:=ZQ w.heap.size;rw[hg0] at hX0;simp only[hg0];clear hb0 hg0;by_cases hk:x.kind=0
 ·have HE:=Z9 (HV1.out hk);clear HV1 fD;refine wl<|ZV (Z5 g0 1)<|ZL rfl ⟨g0,1,none⟩ (Z8 x.kind) (hX0.ZR 1)<|ZM (Np rfl x.kind (decide_eq_true hk))<|wn ?_;simp only[pu];go_upto_region 2 with fail;refine wl<|ZV (Z5 g0 2)<|ZL rfl ⟨g0,2,none⟩ (Z7 x.val) (hX0.ZR 2)<|ZB (.iface 24 (Z7 x.val)) (.iface 24 (Z7 x.val))<|wn ?_;simp only[pu];go_wp2_with fail;go_ret;rw[HE.out];exact⟨rfl,HB0.out⟩
 ·have HE:=Z9 (fD.out hk);clear HV1 fD;refine wl<|ZV (Z5 g0 1)<|ZL rfl ⟨g0,1,none⟩ (Z8 x.kind) (hX0.ZR 1)<|ZM (Np rfl x.kind (decide_eq_false hk))<|wn ?_;simp only[pu];go_upto_region 3 with fail;refine wl<|ZV (Z5 g0 3)<|ZL rfl ⟨g0,3,none⟩ (.slice b x.bytes.length d) (hX0.ZR 3)<|ZB (.iface 54 (.slice b x.bytes.length d)) (.iface 54 (.slice b x.bytes.length d))<|wn ?_;simp only[pu];go_wp2_with fail;go_ret;rw[HE.out];exact⟨rfl,HB0.out⟩
def LX (w:World)(B:Nat)(X:Value)(ps:List (Zj×Value))(rest:List Zj)(e:Ending)(w':World):Prop:=∃ a c qs,e=.returned (.tuple #[X,.slice a qs.length c])/\NH w' B a qs/\qs.length<=c/\qs.map Prod.fst=rest/\Below w.heap.size w w'
theorem ZI {ρ:Operand->Value}{o:Oper}{x y:Operand}(ho:o.op=.binOp .eql 3 x y 3)(a b:Int){t:Bool}(ht:decide (a=b)=t)(hx:ρ x=Z8 a)(hy:ρ y=Z8 b)(w:World):(execOp ρ o).run Tryz.prog w=.ok (.value (.bool t)) w:=by
 have e:(a == b)=t:=ht;unfold execOp;simp only[ho,hx,hy];go_simp
theorem ac8 {ρ:Operand->Value}{o:Oper}{x y:Operand}(ho:o.op=.binOp .neq 3 x y 3)(a b:Int){t:Bool}(ht:decide (a=b)=t)(hx:ρ x=Z8 a)(hy:ρ y=Z8 b)(w:World):(execOp ρ o).run Tryz.prog w=.ok (.value (.bool (!t))) w:=by
 have e:(a != b) = !t:=by rw[<- ht]; rfl
 unfold execOp;simp only[ho,hx,hy];go_simp
theorem nX {ρ:Operand->Value}{o:Oper}{x y:Operand}(ho:o.op=.binOp .gtr 24 x y 24)(a b:Int){t:Bool}(ht:decide (b<a)=t)(hx:ρ x=Z7 a)(hy:ρ y=Z7 b)(w:World):(execOp ρ o).run Tryz.prog w=.ok (.value (.bool t)) w:=by
 rw[<- ht];unfold execOp;simp only[ho,hx,hy];go_simp
theorem Nr {ρ:Operand->Value}{o:Oper}{x:Operand}(ho:o.op=.convert 54 9 x){w:World}{a:Option Addr}{c:Nat}{L:List Int}(h:Sl w a c L)(hx:ρ x=.slice a L.length c):(execOp ρ o).run Tryz.prog w=.ok (.value (.string (strOfNums L))) w:=by
 have h2:=fC h;unfold execOp;simp only[ho,hx,Sem.run_bind,h2];rfl
theorem zV (a:Option Addr)(n c k:Nat)(w:World)(h:k<=n):(Instr.slice 78 (.slice a n c) (some (Z8 (k:Int))) none none).run Tryz.prog w=.ok (.slice (YF 4 a c k) (n-k) (c-k)) w:=
 ED (s:=4) (by kernel_rfl) (fun w=>by kernel_rfl) a n c k w h
theorem MN (a:Option Addr)(n c:Nat)(w:World)(h:0<n):(Instr.slice 78 (.slice a n c) (some (Z8 1)) none none).run Tryz.prog w=.ok (.slice (YF 4 a c 1) (n-1) (c-1)) w:=by
 have q:=zV a n c 1 w h;have e:((1:Nat):Int)=1:=rfl;rwa [e] at q
theorem nV {ρ:Operand->Value}{o:Oper}{x:Operand}{a:Option Addr}{n c:Nat}{V:World}{v:Value}(ho:o.op=.slice 78 x (some (.const (Z8 1))) none none)(hx:ρ x=.slice a n c)(h:(Instr.slice 78 (.slice a n c) (some (Z8 1)) none none).run Tryz.prog V=.ok v V)(hc:ρ (.const (Z8 1))=Z8 1):(execOp ρ o).run Tryz.prog V=.ok (.value v) V:=by
 have h2:(Instr.sliceAt 78 (.slice a n c) (some (Z8 1)) none none).run Tryz.prog V=.ok v V:=h;unfold execOp;simp only[ho,hx,Option.map_some,Option.map_none,hc,Sem.run_bind,h2];rfl
theorem Sl.aA5 {w:World}{a:Option Addr}{c:Nat}{L:List Int}(h:Sl w a c L):Sl w.drew a c L:=h
theorem O8 (a:Option Addr)(c:Nat)(ps:List (Zj×Value))(B:Nat)(k:Int)(w:World)(hF:NH w B a ps)(hc:ps.length<=c)(hv:∀ f,f∈ps.map Prod.fst->Vf f) :
  Calls Tryz.prog 130 #[.slice a ps.length c,Z8 k] w (LX w B (.string (XD k (ps.map Prod.fst)).1) ps (XD k (ps.map Prod.fst)).2):=by
 cases ps with
 | nil=>
  have HE:=Z9 (⟨a,c,[],rfl,hF,hc,rfl,Below.refl _ _⟩:LX w B (.string ⟨#[]⟩) [] [] (.returned (.tuple #[.string ⟨#[]⟩,.slice a 0 c])) w);clear hF hv;change Calls _ _ #[.slice a 0 c,Z8 k] _ (LX w B (.string ⟨#[]⟩) [] []);go_enter Tryz.func130,Tryz.ntmps130;go_upto_region 1 with fail;refine wl<|ZB (.slice a 0 c) (Z8 0)<|ZM (Zn rfl (0) (0) (decide_eq_false (by decide)))<|Y0 ZY undef undef undef undef undef<|ZB undef ZY<|wn ?_;simp only[pu];go_upto_region 5 with fail;refine wl<|Yr (.slice a 0 c) (.string ⟨#[]⟩) (.slice a 0 c)<|wn ?_;simp only[pu];go_wp2_with fail;go_ret2;exact HE.out
 | cons p r=>
  have hvp:=hv p.1 (by simp);have hF0:=hF;obtain⟨b,off,ba,bc,rfl,hp2,hsl,hbox⟩:=hF.fs 0 p rfl;obtain⟨n,hn⟩:=ZQ ((p::r).length);have hn0:0<n:=by rw[<- hn]; simp
  have D9:Hid (∀ w',Below w.heap.size w w'->XD k ((p::r).map Prod.fst)=(WM,(p::r).map Prod.fst)->LX w B (.string (XD k ((p::r).map Prod.fst)).1) (p::r) (XD k ((p::r).map Prod.fst)).2 (.returned (.tuple #[.string ⟨#[]⟩,.slice (some ⟨b,off,none⟩) n c])) w'):=Z9 fun w' hb e=>⟨_,c,p::r,by rw[hn,e]; rfl,hF0.below hb,hc,by rw[e],hb⟩;have hTL:Hid (∀ w',Below w.heap.size w w'->LX w B (.string (strOfNums p.1.bytes)) (p::r) (r.map Prod.fst) (.returned (.tuple #[.string (strOfNums p.1.bytes),.slice (YF 4 (some ⟨b,off,none⟩) c 1) (n-1) (c-1)])) w'):=Z9 fun w' hb=>⟨_,c-1,r,by rw[<- hn]; rfl,(hF0.below hb).tail c hc,by simp at hc; omega,rfl,hb⟩;have hcut:=fun V=>MN (some ⟨b,off,none⟩) n c V hn0;have CV:=fun V=>Gs p.1 ba bc V;rw[List.map_cons] at D9 ⊢;rw[hn];obtain⟨x,v⟩:=p;simp only at *
  have hkd:x.kind=0∨x.kind=2:=by
   rcases hvp.1.2.2 with q | q
   ·exact .inl q.1
   ·exact .inr q.1
  have hld:=Rx (SK hbox);have hnum:=hbox.1;have hval:=hvp.2.1;generalize r.map Prod.fst=R at *
  clear hF hF0 hv hvp hbox hp2 hn hc;rcases (show x.num≠k∨(x.num=k/\x.kind=0)∨(x.num=k/\x.kind=2/\0<x.bytes.length)∨(x.num=k/\x.kind=2/\¬ (0<x.bytes.length)) by omega) with hcs | hcs | hcs | hcs
  ·have hE:XD k (x::R)=(WM,x::R):=Qm (by intro q; omega);have Uh:=Z9 (fun w' hb=>D9.out w' hb hE);clear D9 hTL hE;go_enter Tryz.func130,Tryz.ntmps130;go_upto_region 1 with fail;refine wl<|ZB (.slice (some ⟨b,off,none⟩) n c) (Z8 n)<|ZM (Zn rfl (n) (0) dT)<|ZB ZW (.slice (some ⟨b,off,none⟩) n c) <|
    YI (Z5 b (off+0*4)) (Xu b off n c 0 hn0 _ _ _ rfl (by kernel_rfl) (by kernel_rfl))<|ZV (Z5 b (off+0*4))<|ZL rfl ⟨b,off+0*4,none⟩ (Z8 x.num) (Yz hnum (by kernel_rfl))<|ZV (Z8 k) <|
    ZM (ZI rfl (x.num) (k) (decide_eq_false (hcs)))<|ZV ZY<|wn ?_
   simp only[pu];have HE:=Z9 (Uh.out w (Below.refl _ _));clear Uh;go_upto_region 5 with fail;refine wl<|Yr (.slice (some ⟨b,off,none⟩) n c) (.string ⟨#[]⟩) (.slice (some ⟨b,off,none⟩) n c)<|wn ?_;simp only[pu];go_wp2_with fail;go_ret2;exact HE.out
  ·have hE:XD k (x::R)=(WM,x::R):=Qm (by intro q; omega);have Uh:=Z9 (fun w' hb=>D9.out w' hb hE);clear D9 hTL hE;go_enter Tryz.func130,Tryz.ntmps130;go_upto_region 1 with fail;refine wl<|ZB (.slice (some ⟨b,off,none⟩) n c) (Z8 n)<|ZM (Zn rfl (n) (0) dT)<|ZB ZW (.slice (some ⟨b,off,none⟩) n c) <|
    YI (Z5 b (off+0*4)) (Xu b off n c 0 hn0 _ _ _ rfl (by kernel_rfl) (by kernel_rfl))<|ZV (Z5 b (off+0*4))<|ZL rfl ⟨b,off+0*4,none⟩ (Z8 x.num) (Yz hnum (by kernel_rfl))<|ZV (Z8 k) <|
    ZM (ZI rfl (x.num) (k) (decide_eq_true (hcs.1)))<|ZV ZW<|wn ?_
   simp only[pu];have Py:Calls Tryz.prog 145 #[.agg (XR x ba bc)] w fun e w'=>e=.returned (.iface 24 (Z7 x.val))/\Below w.heap.size w w':=(CV w).mono fun e w' q=>⟨by rw[q.1,LZ,if_pos (by omega)],q.2⟩;clear CV;go_upto_region 2 with fail;refine wl<|ZV (.slice (some ⟨b,off,none⟩) n c)<|YI (Z5 b (off+0*4)) (Xu b off n c 0 hn0 _ _ _ rfl (by kernel_rfl) (by kernel_rfl))<|ZL rfl ⟨b,off+0*4,none⟩ (.agg (XR x ba bc)) (hld) <|
    YM (.iface 24 (Z7 x.val)) (fun w'=>Below w.heap.size w w') Py (fun V hV=>?_)
   refine Y0 (.tuple #[.slice none 0 0,ZY]) (.tuple #[.slice none 0 0,ZY]) (.slice none 0 0) ZY (.slice none 0 0) ZY<|wn ?_;simp only[pu];have nU:=Z9 hV;have iR:=ZP hsl hV;clear Py hV;go_upto_region 3 with fail;refine wl<|Y0 ZY ZY undef undef undef ZY<|wn ?_;simp only[pu];have HE:=Z9 (Uh.out V nU.out);clear Uh;go_upto_region 5 with fail;refine wl<|Yr (.slice (some ⟨b,off,none⟩) n c) (.string ⟨#[]⟩) (.slice (some ⟨b,off,none⟩) n c)<|wn ?_;simp only[pu];go_wp2_with fail;go_ret2;exact HE.out
  ·have hE:XD k (x::R)=(strOfNums x.bytes,R):=Ol ⟨hcs.1,hcs.2.1,by omega⟩;have Ba:Hid (∀ w',Below w.heap.size w w'->LX w B (.string (XD k (x::R)).1) ((x,v)::r) (XD k (x::R)).2 (.returned (.tuple #[.string (strOfNums x.bytes),.slice (YF 4 (some ⟨b,off,none⟩) c 1) (n-1) (c-1)])) w'):=Z9 (by rw[hE]; exact hTL.out);clear D9 hTL hE;go_enter Tryz.func130,Tryz.ntmps130;go_upto_region 1 with fail;refine wl<|ZB (.slice (some ⟨b,off,none⟩) n c) (Z8 n)<|ZM (Zn rfl (n) (0) dT)<|ZB ZW (.slice (some ⟨b,off,none⟩) n c) <|
    YI (Z5 b (off+0*4)) (Xu b off n c 0 hn0 _ _ _ rfl (by kernel_rfl) (by kernel_rfl))<|ZV (Z5 b (off+0*4))<|ZL rfl ⟨b,off+0*4,none⟩ (Z8 x.num) (Yz hnum (by kernel_rfl))<|ZV (Z8 k) <|
    ZM (ZI rfl (x.num) (k) (decide_eq_true (hcs.1)))<|ZV ZW<|wn ?_
   simp only[pu];have Py:Calls Tryz.prog 145 #[.agg (XR x ba bc)] w fun e w'=>e=.returned (.iface 54 (.slice ba x.bytes.length bc))/\Below w.heap.size w w':=(CV w).mono fun e w' q=>⟨by rw[q.1,LZ,if_neg (by omega)],q.2⟩;clear CV;go_upto_region 2 with fail;refine wl<|ZV (.slice (some ⟨b,off,none⟩) n c)<|YI (Z5 b (off+0*4)) (Xu b off n c 0 hn0 _ _ _ rfl (by kernel_rfl) (by kernel_rfl))<|ZL rfl ⟨b,off+0*4,none⟩ (.agg (XR x ba bc)) (hld) <|
    YM (.iface 54 (.slice ba x.bytes.length bc)) (fun w'=>Below w.heap.size w w') Py (fun V hV=>?_)
   refine Y0 (.tuple #[.slice ba x.bytes.length bc,ZW]) (.tuple #[.slice ba x.bytes.length bc,ZW]) (.slice ba x.bytes.length bc) ZW (.slice ba x.bytes.length bc) ZW<|wn ?_;simp only[pu];have nU:=Z9 hV;have iR:=ZP hsl hV;clear Py hV;go_upto_region 3 with fail;refine wl<|U8 ZW ZW (.slice ba x.bytes.length bc) (Z8 x.bytes.length)<|ZM (Zn rfl (x.bytes.length) (0) dT)<|ZV ZW<|wn ?_;simp only[pu];have HE:=Z9 (Ba.out V.drew nU.out.drew);clear Ba hcs;go_upto_region 4 with fail;refine ZJ (C:=fun U=>U=V.drew) (by kernel_rfl) (by kernel_rfl) (rfl) ?_;refine gy (.slice ba x.bytes.length bc)<|XK (.string (strOfNums x.bytes)) (fun U hU=>by rw[hU]; exact Nr rfl (iR.aA5) (by kernel_rfl))<|gy (.slice (some ⟨b,off,none⟩) n c) <|
     XK (.slice (YF 4 (some ⟨b,off,none⟩) c 1) (n-1) (c-1)) (fun U hU=>by rw[hU]; exact nV rfl (by kernel_rfl) (hcut V.drew) (by kernel_rfl))<|gy (.string (strOfNums x.bytes))<|gy (.slice (YF 4 (some ⟨b,off,none⟩) c 1) (n-1) (c-1)) ?_
   simp only[pu];apply wpQuiet_nil;intro U hU;subst hU;go_wp2_with fail;go_ret2;exact HE.out
  ·have hE:XD k (x::R)=(WM,x::R):=Qm (by intro q; omega);have Uh:=Z9 (fun w' hb=>D9.out w' hb hE);clear D9 hTL hE;go_enter Tryz.func130,Tryz.ntmps130;go_upto_region 1 with fail;refine wl<|ZB (.slice (some ⟨b,off,none⟩) n c) (Z8 n)<|ZM (Zn rfl (n) (0) dT)<|ZB ZW (.slice (some ⟨b,off,none⟩) n c) <|
    YI (Z5 b (off+0*4)) (Xu b off n c 0 hn0 _ _ _ rfl (by kernel_rfl) (by kernel_rfl))<|ZV (Z5 b (off+0*4))<|ZL rfl ⟨b,off+0*4,none⟩ (Z8 x.num) (Yz hnum (by kernel_rfl))<|ZV (Z8 k) <|
    ZM (ZI rfl (x.num) (k) (decide_eq_true (hcs.1)))<|ZV ZW<|wn ?_
   simp only[pu];have Py:Calls Tryz.prog 145 #[.agg (XR x ba bc)] w fun e w'=>e=.returned (.iface 54 (.slice ba x.bytes.length bc))/\Below w.heap.size w w':=(CV w).mono fun e w' q=>⟨by rw[q.1,LZ,if_neg (by omega)],q.2⟩;clear CV;go_upto_region 2 with fail;refine wl<|ZV (.slice (some ⟨b,off,none⟩) n c)<|YI (Z5 b (off+0*4)) (Xu b off n c 0 hn0 _ _ _ rfl (by kernel_rfl) (by kernel_rfl))<|ZL rfl ⟨b,off+0*4,none⟩ (.agg (XR x ba bc)) (hld) <|
    YM (.iface 54 (.slice ba x.bytes.length bc)) (fun w'=>Below w.heap.size w w') Py (fun V hV=>?_)
   refine Y0 (.tuple #[.slice ba x.bytes.length bc,ZW]) (.tuple #[.slice ba x.bytes.length bc,ZW]) (.slice ba x.bytes.length bc) ZW (.slice ba x.bytes.length bc) ZW<|wn ?_;simp only[pu];have nU:=Z9 hV;have iR:=ZP hsl hV;clear Py hV;go_upto_region 3 with fail;refine wl<|U8 ZW ZW (.slice ba x.bytes.length bc) (Z8 x.bytes.length)<|ZM (Zn rfl (x.bytes.length) (0) dF)<|ZV ZY<|wn ?_;simp only[pu];have HE:=Z9 (Uh.out V nU.out);clear Uh;go_upto_region 5 with fail;refine wl<|Yr (.slice (some ⟨b,off,none⟩) n c) (.string ⟨#[]⟩) (.slice (some ⟨b,off,none⟩) n c)<|wn ?_;simp only[pu];go_wp2_with fail;go_ret2;exact HE.out
theorem UZ (a:Option Addr)(c:Nat)(ps:List (Zj×Value))(B:Nat)(k:Int)(w:World)(hF:NH w B a ps)(hc:ps.length<=c)(hv:∀ f,f∈ps.map Prod.fst->Vf f) :
  Calls Tryz.prog 131 #[.slice a ps.length c,Z8 k] w (LX w B (Z7 (X0 k (ps.map Prod.fst)).1) ps (X0 k (ps.map Prod.fst)).2):=by
 cases ps with
 | nil=>
  have HE:=Z9 (⟨a,c,[],rfl,hF,hc,rfl,Below.refl _ _⟩:LX w B (Z7 0) [] [] (.returned (.tuple #[Z7 0,.slice a 0 c])) w);clear hF hv;change Calls _ _ #[.slice a 0 c,Z8 k] _ (LX w B (Z7 0) [] []);go_enter Tryz.func131,Tryz.ntmps131;go_upto_region 1 with fail;refine wl<|ZB (.slice a 0 c) (Z8 0)<|ZM (Zn rfl (0) (0) (decide_eq_false (by decide)))<|Y0 ZY undef undef undef undef undef<|ZB undef ZY<|wn ?_;simp only[pu];go_upto_region 5 with fail;refine wl<|Yr (.slice a 0 c) (Z7 0) (.slice a 0 c)<|wn ?_;simp only[pu];go_wp2_with fail;go_ret2;exact HE.out
 | cons p r=>
  have hvp:=hv p.1 (by simp);have hF0:=hF;obtain⟨b,off,ba,bc,rfl,hp2,hsl,hbox⟩:=hF.fs 0 p rfl;obtain⟨n,hn⟩:=ZQ ((p::r).length);have hn0:0<n:=by rw[<- hn]; simp
  have D9:Hid (∀ w',Below w.heap.size w w'->X0 k ((p::r).map Prod.fst)=(0,(p::r).map Prod.fst)->LX w B (Z7 (X0 k ((p::r).map Prod.fst)).1) (p::r) (X0 k ((p::r).map Prod.fst)).2 (.returned (.tuple #[Z7 0,.slice (some ⟨b,off,none⟩) n c])) w'):=Z9 fun w' hb e=>⟨_,c,p::r,by rw[hn,e],hF0.below hb,hc,by rw[e],hb⟩;have hTL:Hid (∀ w',Below w.heap.size w w'->LX w B (Z7 p.1.val) (p::r) (r.map Prod.fst) (.returned (.tuple #[Z7 p.1.val,.slice (YF 4 (some ⟨b,off,none⟩) c 1) (n-1) (c-1)])) w'):=Z9 fun w' hb=>⟨_,c-1,r,by rw[<- hn]; rfl,(hF0.below hb).tail c hc,by simp at hc; omega,rfl,hb⟩;have hcut:=fun V=>MN (some ⟨b,off,none⟩) n c V hn0;have CV:=fun V=>Gs p.1 ba bc V;rw[List.map_cons] at D9 ⊢;rw[hn];obtain⟨x,v⟩:=p;simp only at *
  have hkd:x.kind=0∨x.kind=2:=by
   rcases hvp.1.2.2 with q | q
   ·exact .inl q.1
   ·exact .inr q.1
  have hld:=Rx (SK hbox);have hnum:=hbox.1;have hval:=hvp.2.1;generalize r.map Prod.fst=R at *
  clear hF hF0 hv hvp hbox hp2 hn hc;rcases (show x.num≠k∨(x.num=k/\x.kind=2)∨(x.num=k/\x.kind=0/\0<x.val)∨(x.num=k/\x.kind=0/\¬ (0<x.val)) by omega) with hcs | hcs | hcs | hcs
  ·have hE:X0 k (x::R)=(0,x::R):=Rq (by intro q; omega);have Uh:=Z9 (fun w' hb=>D9.out w' hb hE);clear D9 hTL hE;go_enter Tryz.func131,Tryz.ntmps131;go_upto_region 1 with fail;refine wl<|ZB (.slice (some ⟨b,off,none⟩) n c) (Z8 n)<|ZM (Zn rfl (n) (0) dT)<|ZB ZW (.slice (some ⟨b,off,none⟩) n c) <|
    YI (Z5 b (off+0*4)) (Xu b off n c 0 hn0 _ _ _ rfl (by kernel_rfl) (by kernel_rfl))<|ZV (Z5 b (off+0*4))<|ZL rfl ⟨b,off+0*4,none⟩ (Z8 x.num) (Yz hnum (by kernel_rfl))<|ZV (Z8 k) <|
    ZM (ZI rfl (x.num) (k) (decide_eq_false (hcs)))<|ZV ZY<|wn ?_
   simp only[pu];have HE:=Z9 (Uh.out w (Below.refl _ _));clear Uh;go_upto_region 5 with fail;refine wl<|Yr (.slice (some ⟨b,off,none⟩) n c) (Z7 0) (.slice (some ⟨b,off,none⟩) n c)<|wn ?_;simp only[pu];go_wp2_with fail;go_ret2;exact HE.out
  ·have hE:X0 k (x::R)=(0,x::R):=Rq (by intro q; omega);have Uh:=Z9 (fun w' hb=>D9.out w' hb hE);clear D9 hTL hE;go_enter Tryz.func131,Tryz.ntmps131;go_upto_region 1 with fail;refine wl<|ZB (.slice (some ⟨b,off,none⟩) n c) (Z8 n)<|ZM (Zn rfl (n) (0) dT)<|ZB ZW (.slice (some ⟨b,off,none⟩) n c) <|
    YI (Z5 b (off+0*4)) (Xu b off n c 0 hn0 _ _ _ rfl (by kernel_rfl) (by kernel_rfl))<|ZV (Z5 b (off+0*4))<|ZL rfl ⟨b,off+0*4,none⟩ (Z8 x.num) (Yz hnum (by kernel_rfl))<|ZV (Z8 k) <|
    ZM (ZI rfl (x.num) (k) (decide_eq_true (hcs.1)))<|ZV ZW<|wn ?_
   simp only[pu];have Py:Calls Tryz.prog 145 #[.agg (XR x ba bc)] w fun e w'=>e=.returned (.iface 54 (.slice ba x.bytes.length bc))/\Below w.heap.size w w':=(CV w).mono fun e w' q=>⟨by rw[q.1,LZ,if_neg (by omega)],q.2⟩;clear CV;go_upto_region 2 with fail;refine wl<|ZV (.slice (some ⟨b,off,none⟩) n c)<|YI (Z5 b (off+0*4)) (Xu b off n c 0 hn0 _ _ _ rfl (by kernel_rfl) (by kernel_rfl))<|ZL rfl ⟨b,off+0*4,none⟩ (.agg (XR x ba bc)) (hld) <|
    YM (.iface 54 (.slice ba x.bytes.length bc)) (fun w'=>Below w.heap.size w w') Py (fun V hV=>?_)
   refine Y0 (.tuple #[Z7 0,ZY]) (.tuple #[Z7 0,ZY]) (Z7 0) ZY (Z7 0) ZY<|wn ?_;simp only[pu];have nU:=Z9 hV;have iR:=ZP hsl hV;clear Py hV;go_upto_region 3 with fail;refine wl<|Rf ZY ZY undef undef ZY<|wn ?_;simp only[pu];have HE:=Z9 (Uh.out V nU.out);clear Uh;go_upto_region 5 with fail;refine wl<|Yr (.slice (some ⟨b,off,none⟩) n c) (Z7 0) (.slice (some ⟨b,off,none⟩) n c)<|wn ?_;simp only[pu];go_wp2_with fail;go_ret2;exact HE.out
  ·have hE:X0 k (x::R)=(x.val,R):=QG ⟨hcs.1,hcs.2.1,by omega⟩;have Ba:Hid (∀ w',Below w.heap.size w w'->LX w B (Z7 (X0 k (x::R)).1) ((x,v)::r) (X0 k (x::R)).2 (.returned (.tuple #[Z7 x.val,.slice (YF 4 (some ⟨b,off,none⟩) c 1) (n-1) (c-1)])) w'):=Z9 (by rw[hE]; exact hTL.out);clear D9 hTL hE;go_enter Tryz.func131,Tryz.ntmps131;go_upto_region 1 with fail;refine wl<|ZB (.slice (some ⟨b,off,none⟩) n c) (Z8 n)<|ZM (Zn rfl (n) (0) dT)<|ZB ZW (.slice (some ⟨b,off,none⟩) n c) <|
    YI (Z5 b (off+0*4)) (Xu b off n c 0 hn0 _ _ _ rfl (by kernel_rfl) (by kernel_rfl))<|ZV (Z5 b (off+0*4))<|ZL rfl ⟨b,off+0*4,none⟩ (Z8 x.num) (Yz hnum (by kernel_rfl))<|ZV (Z8 k) <|
    ZM (ZI rfl (x.num) (k) (decide_eq_true (hcs.1)))<|ZV ZW<|wn ?_
   simp only[pu];have Py:Calls Tryz.prog 145 #[.agg (XR x ba bc)] w fun e w'=>e=.returned (.iface 24 (Z7 x.val))/\Below w.heap.size w w':=(CV w).mono fun e w' q=>⟨by rw[q.1,LZ,if_pos (by omega)],q.2⟩;clear CV;go_upto_region 2 with fail;refine wl<|ZV (.slice (some ⟨b,off,none⟩) n c)<|YI (Z5 b (off+0*4)) (Xu b off n c 0 hn0 _ _ _ rfl (by kernel_rfl) (by kernel_rfl))<|ZL rfl ⟨b,off+0*4,none⟩ (.agg (XR x ba bc)) (hld) <|
    YM (.iface 24 (Z7 x.val)) (fun w'=>Below w.heap.size w w') Py (fun V hV=>?_)
   refine Y0 (.tuple #[Z7 x.val,ZW]) (.tuple #[Z7 x.val,ZW]) (Z7 x.val) ZW (Z7 x.val) ZW<|wn ?_;simp only[pu];have nU:=Z9 hV;have iR:=ZP hsl hV;clear Py hV;go_upto_region 3 with fail;refine wl<|Yr ZW ZW (Z7 x.val)<|ZM (nX rfl (x.val) (0) dT)<|ZV ZW<|wn ?_;simp only[pu];have HE:=Z9 (Ba.out V.drew nU.out.drew);clear Ba hcs;go_upto_region 4 with fail;refine ZJ (C:=fun U=>U=V.drew) (by kernel_rfl) (by kernel_rfl) (rfl) ?_;refine gy (Z7 x.val)<|gy (.slice (some ⟨b,off,none⟩) n c)<|XK (.slice (YF 4 (some ⟨b,off,none⟩) c 1) (n-1) (c-1)) (fun U hU=>by rw[hU]; exact nV rfl (by kernel_rfl) (hcut V.drew) (by kernel_rfl))<|gy (Z7 x.val) <|
     gy (.slice (YF 4 (some ⟨b,off,none⟩) c 1) (n-1) (c-1)) ?_
   simp only[pu];apply wpQuiet_nil;intro U hU;subst hU;go_wp2_with fail;go_ret2;exact HE.out
  ·have hE:X0 k (x::R)=(0,x::R):=Rq (by intro q; omega);have Uh:=Z9 (fun w' hb=>D9.out w' hb hE);clear D9 hTL hE;go_enter Tryz.func131,Tryz.ntmps131;go_upto_region 1 with fail;refine wl<|ZB (.slice (some ⟨b,off,none⟩) n c) (Z8 n)<|ZM (Zn rfl (n) (0) dT)<|ZB ZW (.slice (some ⟨b,off,none⟩) n c) <|
    YI (Z5 b (off+0*4)) (Xu b off n c 0 hn0 _ _ _ rfl (by kernel_rfl) (by kernel_rfl))<|ZV (Z5 b (off+0*4))<|ZL rfl ⟨b,off+0*4,none⟩ (Z8 x.num) (Yz hnum (by kernel_rfl))<|ZV (Z8 k) <|
    ZM (ZI rfl (x.num) (k) (decide_eq_true (hcs.1)))<|ZV ZW<|wn ?_
   simp only[pu];have Py:Calls Tryz.prog 145 #[.agg (XR x ba bc)] w fun e w'=>e=.returned (.iface 24 (Z7 x.val))/\Below w.heap.size w w':=(CV w).mono fun e w' q=>⟨by rw[q.1,LZ,if_pos (by omega)],q.2⟩;clear CV;go_upto_region 2 with fail;refine wl<|ZV (.slice (some ⟨b,off,none⟩) n c)<|YI (Z5 b (off+0*4)) (Xu b off n c 0 hn0 _ _ _ rfl (by kernel_rfl) (by kernel_rfl))<|ZL rfl ⟨b,off+0*4,none⟩ (.agg (XR x ba bc)) (hld) <|
    YM (.iface 24 (Z7 x.val)) (fun w'=>Below w.heap.size w w') Py (fun V hV=>?_)
   refine Y0 (.tuple #[Z7 x.val,ZW]) (.tuple #[Z7 x.val,ZW]) (Z7 x.val) ZW (Z7 x.val) ZW<|wn ?_;simp only[pu];have nU:=Z9 hV;have iR:=ZP hsl hV;clear Py hV;go_upto_region 3 with fail;refine wl<|Yr ZW ZW (Z7 x.val)<|ZM (nX rfl (x.val) (0) dF)<|ZV ZY<|wn ?_;simp only[pu];have HE:=Z9 (Uh.out V nU.out);clear Uh;go_upto_region 5 with fail;refine wl<|Yr (.slice (some ⟨b,off,none⟩) n c) (Z7 0) (.slice (some ⟨b,off,none⟩) n c)<|wn ?_;simp only[pu];go_wp2_with fail;go_ret2;exact HE.out
theorem ZN {fn:Func}{tmps:Array Value}{w:World}{p q g ty:Nat}{v u:Value}(hr:fn.results=#[.cell p ty,.tmp q])(h2:tmps.getD p undef=Z5 g 0)(hl:(Instr.loadAt ty (Z5 g 0)).run Tryz.prog w=.ok v w)(h3:tmps.getD q undef=u):(results fn tmps).run Tryz.prog w=.ok (.tuple #[v,u]) w:=by
 unfold results;rw[hr];have h2':tmps[p]?.getD undef=Z5 g 0:=by simpa using h2
 have h3':tmps[q]?.getD undef=u:=by simpa using h3
 have hl':=hl;simp only[Instr.loadAt,Instr.sureAddr,Sem.run_bind,Sem.run_pure,Result.andThen_ok] at hl';simp[h2',h3',asAddr,hl',Result.andThen]
def TfO (w:World)(r:Option Tf)(e:Ending)(w':World):Prop:=∃ y ok,e=.returned (.tuple #[.agg (Yy y),.bool ok])/\r=(if ok=true then some y else none)/\Below w.heap.size w w'
theorem uU {f:Zj}(h:¬ (f.kind=2/\f.num=6/\(YO f.bytes).2.2=0/\(X0 2 (XD 1 (YO f.bytes).1).2).2.length=0)):Ro f=none:=if_neg h
theorem uT {f:Zj}(h:f.kind=2/\f.num=6/\(YO f.bytes).2.2=0/\(X0 2 (XD 1 (YO f.bytes).1).2).2.length=0):Ro f=some ((XD 1 (YO f.bytes).1).1,(X0 2 (XD 1 (YO f.bytes).1).2).1):=if_pos h
theorem Zl {w w0:World}{g B i ty T:Nat}{cs cs':Array Value}{v:Value}(h:Bx w g cs T)(hb:Below B w0 w)(hg:B<=g)(hi:i<cs.size)(h1:v.oneCell'=true)(hs:(Tryz.prog.info? ty).map (·.size)=some 1)(hc:cs.setIfInBounds i v=cs') :
  ∃ V,(Instr.storeAt ty (Z5 g i) v).run Tryz.prog w=.ok () V/\Bx V g cs' T/\Below B w0 V/\But g w V:=
 ⟨_,Wn h hi h1 hs,hc ▸ h.nY v,hb.setCell hg v,But.setCell _ _ _⟩
theorem Ko (x:Zj)(b:Option Addr)(d:Nat)(w:World)(hs:Sl w b d x.bytes)(hd:x.bytes.length<=d)(hl:x.bytes.length<=1000000)(h8:∀ y,y∈x.bytes->W8 y)(hkd:x.kind=0∨x.kind=2) :
  Calls Tryz.prog 132 #[.agg (XR x b d)] w (TfO w (Ro x)):=by
 have hb1:Below w.heap.size w (w.alloc (.cells (XR x b d) 77)):=(Below.refl _ w).alloc (Nat.le_refl _) _;have hX1:Bx (w.alloc (.cells (XR x b d) 77)) w.heap.size (XR x b d) 77:=heap_alloc_last w _;have hsz1:(w.alloc (.cells (XR x b d) 77)).heap.size=w.heap.size+1:=by simp
 have CV:=fun V=>Gs x b d V;have HX:=Z9 (@uU x);have HY:=Z9 (@uT x);have CFL:=Z9 (fun V (h:Sl V b d x.bytes)=>MO b d x.bytes V hl h h8 hd);have Aa:Hid ((YO x.bytes).2.2=0->∀ f,f∈(YO x.bytes).1->Vf f):=Z9 fun h=>by
  rcases Ud (fun y hy=>h8 y hy) hl with⟨-,q⟩ | ⟨P,e,-,hP⟩
  ·exact absurd h q
  ·rw[e]; exact hP
 generalize YO x.bytes=FR at *
 have ES:Hid (∀ V,Below w.heap.size w V->Ro x=none->TfO w (Ro x) (.returned (.tuple #[.agg (Yy Un),ZY])) V):=Z9 fun V hb e=>⟨Un,false,rfl,by rw[e]; rfl,hb⟩;have nZ:Hid (∀ V y,Below w.heap.size w V->Ro x=some y->TfO w (Ro x) (.returned (.tuple #[.agg (Yy y),ZW])) V):=Z9 fun V y hb e=>⟨y,true,rfl,by rw[e]; rfl,hb⟩;generalize Ro x=RR at *
 go_enter Tryz.func132,Tryz.ntmps132;go_upto_region 1 with fail;change Code.wp _ _ _ _ ((w.alloc (.cells (XR x b d) 77)).alloc (.cells (Yy Un) 60));generalize w.alloc (.cells (XR x b d) 77)=W1 at *
 have hb0:Below w.heap.size w (W1.alloc (.cells (Yy Un) 60)):=hb1.alloc hb1.size _;have hX0:Bx (W1.alloc (.cells (Yy Un) 60)) w.heap.size (XR x b d) 77:=hX1.below hX1.lt ((Below.refl _ W1).alloc (Nat.le_refl _) _);have hY0:Bx (W1.alloc (.cells (Yy Un) 60)) W1.heap.size (Yy Un) 60:=heap_alloc_last W1 _;rw[hsz1] at hY0;generalize W1.alloc (.cells (Yy Un) 60)=W at *
 obtain⟨g0,hg0⟩:=ZQ w.heap.size;obtain⟨g2,hg2⟩:=ZQ (w.heap.size+1);have HB0:=Z9 hb0;have HG2:Hid (w.heap.size<=g2):=Z9 (by omega);rw[hg2] at hY0;rw[hg0] at hX0;rw[hg2,hg0];have hsW:=ZP hs hb0;clear hb0 hb1 hX1 hsz1 hg0 hg2 hs;rcases hkd with hk | hk
 ·have Py:Calls Tryz.prog 145 #[.agg (XR x b d)] W fun e w'=>e=.returned (.iface 24 (Z7 x.val))/\Below W.heap.size W w':=(CV W).mono fun e w' q=>⟨by rw[q.1,LZ,if_pos hk],q.2⟩;clear CV CFL Aa;refine wl<|ZL rfl ⟨g0,0,none⟩ (.agg (XR x b d)) (Oi hX0)<|YM (.iface 24 (Z7 x.val)) (fun w'=>Below W.heap.size W w') Py (fun V hV=>?_);refine Y0 (.tuple #[.slice none 0 0,ZY]) (.tuple #[.slice none 0 0,ZY]) (.slice none 0 0) ZY (.slice none 0 0) ZY<|wn ?_;simp only[pu];have rD:=hX0.below hX0.lt hV;have hYV:=hY0.below hY0.lt hV;have iR:=ZP hsW hV;have Ru:=Z9 (HB0.out.trans (hV.mono HB0.out.size));clear hV hX0 hY0 hsW HB0 Py;go_upto_region 2 with fail;refine wl<|Y0 ZY ZW ZW undef undef undef<|ZV ZW<|wn ?_;simp only[pu];obtain⟨hst,hZ⟩:=Wp (y:=Un) hYV;have Zg:=Z9 (ZU Ru.out HG2.out (Yy Un));have HE:=Z9 (ES.out _ Zg.out (HX.out (by rw[hk]; intro q; exact absurd q.1 (by decide))));generalize World.setRow _ g2 (Yy Un)=V9 at *
  clear ES nZ HX HY;go_upto_region 3 with fail;refine wl<|ZV (.agg #[.string ⟨#[]⟩,Z7 0])<|Zk rfl (hst)<|ZV ZY<|wn ?_;simp only[pu];go_wp2_with fail;exact bodyPost_ret (ZN (p:=2) (q:=3) rfl (by kernel_rfl) (YH hZ) rfl) rfl HE.out
 ·have Py:Calls Tryz.prog 145 #[.agg (XR x b d)] W fun e w'=>e=.returned (.iface 54 (.slice b x.bytes.length d))/\Below W.heap.size W w':=(CV W).mono fun e w' q=>⟨by rw[q.1,LZ,if_neg (by omega)],q.2⟩;clear CV;refine wl<|ZL rfl ⟨g0,0,none⟩ (.agg (XR x b d)) (Oi hX0)<|YM (.iface 54 (.slice b x.bytes.length d)) (fun w'=>Below W.heap.size W w') Py (fun V hV=>?_);refine Y0 (.tuple #[.slice b x.bytes.length d,ZW]) (.tuple #[.slice b x.bytes.length d,ZW]) (.slice b x.bytes.length d) ZW (.slice b x.bytes.length d) ZW<|wn ?_;simp only[pu];have rD:=hX0.below hX0.lt hV;have hYV:=hY0.below hY0.lt hV;have iR:=ZP hsW hV;have Ru:=Z9 (HB0.out.trans (hV.mono HB0.out.size));clear hV hX0 hY0 hsW HB0 Py;go_upto_region 2 with fail;by_cases hn:x.num=6
  ·skip
   refine wl<|U8 ZW ZY ZY (Z5 g0 0)<|ZL rfl ⟨g0,0,none⟩ (Z8 x.num) (rD.ZR 0)<|ZM (ac8 rfl x.num 6 (decide_eq_true hn)) <|
    ZV ZY<|wn ?_
   simp only[pu];have CF:=CFL.out V iR;clear CFL iR rD;go_upto_region 4 with fail;refine wl<|ZV (.slice b x.bytes.length d) <|
    XI (fun v w'=>∃ a c ps,v=.tuple #[.slice a ps.length c,Z8 FR.2.1,Z8 FR.2.2]/\ps.map Prod.fst=FR.1/\ps.length<=c/\NH w' V.heap.size a ps/\Below V.heap.size V w') (CF.mono fun e w' q=>by obtain⟨v,ps,h1,h2,h3,h4⟩:=q; obtain⟨a,c,rfl,hc,hf⟩:=h3.fsb; exact⟨_,h1,a,c,ps,rfl,h2,hc,hf,h4⟩) (fun v5 V5 hq=>?_)
   obtain⟨a5,c5,ps,rfl,hps,hc5,hF5,hb5⟩:=hq;refine Y0 (.tuple #[.slice a5 ps.length c5,Z8 FR.2.1,Z8 FR.2.2]) (.slice a5 ps.length c5) (Z8 FR.2.1) (Z8 FR.2.2) (.slice a5 ps.length c5) (Z8 FR.2.1)<|ZV (Z8 FR.2.2)<|wn ?_;simp only[pu];have hY5:=hYV.below hYV.lt hb5;have Q8:=Z9 (Ru.out.trans (hb5.mono Ru.out.size));have HGV:Hid (g2<V.heap.size):=Z9 hYV.lt;obtain⟨P,n5,e5⟩:=FR;dsimp only at *
   clear hb5 hYV Ru CF;go_upto_region 5 with fail;by_cases he:e5=0
   ·have hvf:=Aa.out he;rw[<- hps] at hvf HX HY;clear Aa hps;refine wl<|ZV (Z8 e5)<|ZM (YL rfl e5 0 (decide_eq_true he))<|wn ?_;simp only[pu];have CT:=O8 a5 c5 ps V.heap.size 1 V5 hF5 hc5 hvf;have hv2:=Rn (k:=1) hvf;generalize XD 1 (ps.map Prod.fst)=TT at *
    obtain⟨s1,R1⟩:=TT;dsimp only at *
    go_upto_region 7 with fail;refine wl<|ZV (.slice a5 ps.length c5) <|
     XI (fun v w'=>∃ a c qs,v=.tuple #[.string s1,.slice a qs.length c]/\NH w' V.heap.size a qs/\qs.length<=c/\qs.map Prod.fst=R1/\Below V5.heap.size V5 w') (CT.mono fun e w' q=>by obtain⟨a,c,qs,h1,h2⟩:=q; exact⟨_,h1,a,c,qs,rfl,h2⟩) (fun v6 V6 hq=>?_)
    obtain⟨a6,c6,q1,rfl,Eb,hc6,hq1,hb6⟩:=hq;have Ea:=hY5.below hY5.lt hb6;have X9:=Z9 (Q8.out.trans (hb6.mono Q8.out.size));obtain⟨V7,WZ,hY7,MQ,XO⟩:=Zl (i:=0) (ty:=9) (v:=.string s1) (cs':=Yy (s1,0)) Ea X9.out HG2.out (by show 0<2; decide) rfl (by kernel_rfl) rfl;have hF7:=Eb.but XO HGV.out;have TG:=Z9 MQ;clear CT hb6 hY5 Q8 hF5 hc5;refine U8 (.tuple #[.string s1,.slice a6 q1.length c6]) (.string s1) (.slice a6 q1.length c6) (Z5 g2 0)<|Zk rfl (WZ)<|ZV (.slice a6 q1.length c6)<|wn ?_;simp only[pu];rw[<- hq1] at hv2 HX HY;have CN:=UZ a6 c6 q1 V.heap.size 2 V7 hF7 hc6 hv2;generalize X0 2 (q1.map Prod.fst)=TN at *
    obtain⟨m2,R2⟩:=TN;dsimp only at *
    clear WZ Ea X9 MQ XO Eb hvf hv2 hq1;go_upto_region 8 with fail;refine wl<|ZV (.slice a6 q1.length c6) <|
     XI (fun v w'=>∃ a c qs,v=.tuple #[Z7 m2,.slice a qs.length c]/\NH w' V.heap.size a qs/\qs.length<=c/\qs.map Prod.fst=R2/\Below V7.heap.size V7 w') (CN.mono fun e w' q=>by obtain⟨a,c,qs,h1,h2⟩:=q; exact⟨_,h1,a,c,qs,rfl,h2⟩) (fun v8 V8 hq=>?_)
    obtain⟨a8,c8,q2,rfl,hF8,hc8,hq2,hb8⟩:=hq;have hY8:=hY7.below hY7.lt hb8;have Qr:=Z9 (TG.out.trans (hb8.mono TG.out.size));obtain⟨V9,UY,hY9,SY,-⟩:=Zl (i:=1) (ty:=24) (v:=Z7 m2) (cs':=Yy (s1,m2)) hY8 Qr.out HG2.out (by show 1<2; decide) rfl (by kernel_rfl) rfl;have Zg:=Z9 SY;clear CN hb8 hY7 TG hF7 hc6 hF8 hc8 hY8 Qr;refine U8 (.tuple #[Z7 m2,.slice a8 q2.length c8]) (Z7 m2) (.slice a8 q2.length c8) (Z5 g2 1)<|Zk rfl (UY)<|ZV (.slice a8 q2.length c8)<|wn ?_;simp only[pu];rw[<- hq2] at HX HY;rw[List.length_map] at HX HY;clear UY SY hq2;obtain⟨n2,hn2⟩:=ZQ q2.length;rw[hn2] at HX HY ⊢;clear hn2;go_upto_region 9 with fail;by_cases hz:n2=0
    ·refine wl<|ZB (.slice a8 n2 c8) (Z8 n2)<|ZM (Zn rfl (n2) (0) dF)<|wn ?_;simp only[pu];obtain⟨hst,hZ⟩:=Wp (y:=(s1,m2)) hY9;have uS:=Z9 (ZU Zg.out HG2.out (Yy (s1,m2)));have HE:=Z9 (nZ.out _ _ uS.out (HY.out ⟨hk,hn,he,hz⟩));generalize World.setRow _ g2 (Yy (s1,m2))=VA at *
     clear ES nZ HX HY uS Zg;go_upto_region 11 with fail;refine wl<|ZL rfl ⟨g2,0,none⟩ (.agg (Yy (s1,m2))) (YH hY9)<|Zk rfl (hst)<|ZV ZW<|wn ?_;simp only[pu];go_wp2_with fail;exact bodyPost_ret (ZN (p:=2) (q:=3) rfl (by kernel_rfl) (YH hZ) rfl) rfl HE.out
    ·refine wl<|ZB (.slice a8 n2 c8) (Z8 n2)<|ZM (Zn rfl (n2) (0) dT)<|wn ?_;simp only[pu];obtain⟨hst,hZ⟩:=Wp (y:=Un) hY9;have uS:=Z9 (ZU Zg.out HG2.out (Yy Un));have HE:=Z9 (ES.out _ uS.out (HX.out (fun q=>hz q.2.2.2)));generalize World.setRow _ g2 (Yy Un)=VA at *
     clear ES nZ HX HY;go_upto_region 10 with fail;refine wl<|ZV (.agg #[.string ⟨#[]⟩,Z7 0])<|Zk rfl (hst)<|ZV ZY<|wn ?_;simp only[pu];go_wp2_with fail;exact bodyPost_ret (ZN (p:=2) (q:=3) rfl (by kernel_rfl) (YH hZ) rfl) rfl HE.out
   ·refine wl<|ZV (Z8 e5)<|ZM (YL rfl e5 0 (decide_eq_false he))<|wn ?_;simp only[pu];obtain⟨hst,hZ⟩:=Wp (y:=Un) hY5;have Zg:=Z9 (ZU Q8.out HG2.out (Yy Un));have HE:=Z9 (ES.out _ Zg.out (HX.out (fun q=>he q.2.2.1)));generalize World.setRow _ g2 (Yy Un)=V9 at *
    clear ES nZ HX HY;go_upto_region 6 with fail;refine wl<|ZV (.agg #[.string ⟨#[]⟩,Z7 0])<|Zk rfl (hst)<|ZV ZY<|wn ?_;simp only[pu];go_wp2_with fail;exact bodyPost_ret (ZN (p:=2) (q:=3) rfl (by kernel_rfl) (YH hZ) rfl) rfl HE.out
  ·refine wl<|U8 ZW ZY ZY (Z5 g0 0)<|ZL rfl ⟨g0,0,none⟩ (Z8 x.num) (rD.ZR 0)<|ZM (ac8 rfl x.num 6 (decide_eq_false hn)) <|
    ZV ZW<|wn ?_
   simp only[pu];obtain⟨hst,hZ⟩:=Wp (y:=Un) hYV;have Zg:=Z9 (ZU Ru.out HG2.out (Yy Un));have HE:=Z9 (ES.out _ Zg.out (HX.out (fun q=>hn q.2.1)));generalize World.setRow _ g2 (Yy Un)=V9 at *
   clear ES nZ HX HY;go_upto_region 3 with fail;refine wl<|ZV (.agg #[.string ⟨#[]⟩,Z7 0])<|Zk rfl (hst)<|ZV ZY<|wn ?_;simp only[pu];go_wp2_with fail;exact bodyPost_ret (ZN (p:=2) (q:=3) rfl (by kernel_rfl) (YH hZ) rfl) rfl HE.out
end Go.Proofs.YtfpnnmeblefkkaaGreatDoor
