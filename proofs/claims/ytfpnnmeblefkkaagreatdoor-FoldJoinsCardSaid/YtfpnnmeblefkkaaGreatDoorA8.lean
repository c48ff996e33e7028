/-
  Texts joined.
-/
import Derived.Test.YtfpnnmeblefkkaaGreatDoorA7
set_option maxRecDepth 100000
set_option maxHeartbeats 8000000
set_option linter.unusedSimpArgs false
set_option linter.unusedVariables false
namespace Go.Proofs.YtfpnnmeblefkkaaGreatDoor
attribute [local irreducible] wpList wpQuiet
open Go.RowKit
structure N8 (w:World)(B:Nat)(a:Option Addr)(ps:List (Zj×Value)):Prop where
 fs:Fs w a ps
 row:∀ x,a=some x->ps≠[]->B<=x.block
 byt:∀ p,p∈ps->∀ x n c,p.2=.slice (some x) n c->p.1.bytes≠[]->B<=x.block
 cap:∀ p,p∈ps->∀ x n c,p.2=.slice x n c->n<=c
theorem N8.below {w w':World}{B:Nat}{a:Option Addr}{ps:List (Zj×Value)}(h:N8 w B a ps)(hb:Below w.heap.size w w'):N8 w' B a ps:=⟨h.fs.below hb,h.row,h.byt,h.cap⟩
theorem oD {w w':World}{g:Nat}{a:Option Addr}{c:Nat}{L:List Int}(h:Sl w a c L)(hb:But g w w')(hn:L≠[]->∀ x,a=some x->x.block≠g):Sl w' a c L:=by
 rcases h with h | ⟨x,rfl,hx⟩
 ·exact .inl h
 ·refine .inr ⟨x,rfl,fun k hk=>?_⟩;obtain⟨b,off,rfl,hc⟩:=hx k hk;have hne:b≠g:=hn (by intro e; rw[e] at hk; simp at hk) _ rfl;exact⟨b,off,rfl,(World.cell?_of_block (a:=⟨b,off+k,none⟩) (hb.2 b (World.block_lt_of_cell? w _ hc) hne)).trans hc⟩
theorem gU {w w':World}{g b o:Nat}{num kind val:Int}{s:Option Addr}{n d:Nat}(h:Box w b o num kind val s n d)(hb:But g w w')(hn:b≠g):Box w' b o num kind val s n d:=by
 obtain⟨h0,h1,h2,h3⟩:=h;have key:∀ q v,w.cell? ⟨b,q,none⟩=some v->w'.cell? ⟨b,q,none⟩=some v:=fun q v hq=>(World.cell?_of_block (a:=⟨b,q,none⟩) (hb.2 b (World.block_lt_of_cell? w _ hq) hn)).trans hq;exact⟨key _ _ h0,key _ _ h1,key _ _ h2,key _ _ h3⟩
theorem N8.but {w w':World}{B g:Nat}{a:Option Addr}{ps:List (Zj×Value)}(h:N8 w B a ps)(hb:But g w w')(hg:g<B):N8 w' B a ps:=by
 refine⟨fun i p hp=>?_,h.row,h.byt,h.cap⟩;obtain⟨b,off,ba,bc,rfl,h2,hs,hx⟩:=h.fs i p hp;have hm:=List.mem_of_getElem? hp;have h1:=h.row _ rfl (by intro e; rw[e] at hm; cases hm);refine⟨b,off,ba,bc,rfl,h2,oD hs hb (fun hne x hx=>?_),gU hx hb (by have:B<=b:=h1; omega)⟩;subst hx;have:=h.byt p hm x _ _ h2 hne;omega
theorem N8.nil (w:World)(B:Nat)(a:Option Addr):N8 w B a []:=⟨fun i p h=>by simp at h,fun x _ h=>absurd rfl h,fun p h=>(by cases h),fun p h=>(by cases h)⟩
theorem N8.tail {w:World}{B:Nat}{a:Option Addr}{p:Zj×Value}{r:List (Zj×Value)}(h:N8 w B a (p::r))(c:Nat)(hc:(p::r).length<=c):N8 w B (YS 4 a c 1) r:=by
 cases r with
 | nil=>exact N8.nil _ _ _
 | cons q r=>
  have hc1:¬ c=1:=by simp at hc; omega
  obtain⟨b,off,ba,bc,rfl,-⟩:=h.fs 0 p rfl;have e:YS 4 (some ⟨b,off,none⟩) c 1=some ⟨b,off+4,none⟩:=by
   unfold YS;rw[if_neg hc1];simp only[Option.map_some];rw[Addr.add_mid]
  rw[e];refine⟨fun i p2 hp=>?_,fun x hx _=>?_,fun p2 hp=>h.byt p2 (by simp[hp]),fun p2 hp=>h.cap p2 (by simp[hp])⟩
  ·obtain⟨b2,off2,ba2,bc2,e2,h2,hs,hx⟩:=h.fs (i+1) p2 (by simpa using hp);simp only[Option.some.injEq,Addr.mk.injEq,and_true] at e2;obtain⟨rfl,rfl⟩:=e2;refine⟨b,off+4,ba2,bc2,rfl,h2,hs,?_⟩;rw[show off+4+i*4=off+(i+1)*4 by omega];exact hx
  ·cases hx;exact h.row ⟨b,off,none⟩ rfl (by simp)
theorem U5.fsb {w:World}{B:Nat}{v:Value}{ps:List (Zj×Value)}(h:U5 w B v ps):∃ a c,v=.slice a ps.length c/\ps.length<=c/\N8 w B a ps:=by
 obtain⟨a,c,rfl,hc,hf⟩:=h.fs;refine⟨a,c,rfl,hc,hf,fun x hx hn=>?_,fun p hp x n d e hn=>?_,fun p hp x n d e=>?_⟩
 ·have h0:0<ps.length:=List.length_pos_iff.2 hn;obtain⟨g,rfl,hg,-⟩:=TL h.1 h0;cases hx;exact hg
 ·have ho:=h.2 p hp;rw[e] at ho;obtain⟨a2,c2,e2,-,-⟩:=ho.sl;simp only[Value.slice.injEq] at e2;have h0:0<p.1.bytes.length:=List.length_pos_iff.2 hn;unfold Own at ho;rw[e2.2.1] at ho;obtain⟨g,hx,hg,-⟩:=TL ho h0;cases hx;exact hg
 ·have ho:=h.2 p hp;rw[e] at ho;obtain⟨a2,c2,e2,-,hle⟩:=ho.sl;simp only[Value.slice.injEq] at e2;omega
def MO (x:Zj)(b:Option Addr)(d:Nat):Value:=if x.kind=0 then .iface 24 (Z7 x.val) else .iface 54 (.slice b x.bytes.length d)
theorem Gs (x:Zj)(b:Option Addr)(d:Nat)(w:World):Calls Tryz.prog 145 #[.agg (Xm x b d)] w fun e w'=>e=.returned (MO x b d)/\Below w.heap.size w w':=by
 have hb0:Below w.heap.size w (w.alloc (.cells (Xm x b d) 77)):=(Below.refl _ w).alloc (Nat.le_refl _) _;have hX0:Bx (w.alloc (.cells (Xm x b d) 77)) w.heap.size (Xm x b d) 77:=heap_alloc_last w _;have HB0:=Z9 hb0;have HV1:Hid (x.kind=0->MO x b d=.iface 24 (Z7 x.val)):=Z9 fun h=>if_pos h;have gQ:Hid (x.kind≠0->MO x b d=.iface 54 (.slice b x.bytes.length d)):=Z9 fun h=>if_neg h;generalize MO x b d=vv at *
 go_enter Tryz.func145,Tryz.ntmps145;go_upto_region 1 with fail;change Code.wp _ _ _ _ (w.alloc (.cells (Xm x b d) 77));generalize w.alloc (.cells (Xm x b d) 77)=W at *
 obtain⟨g0,hg0⟩:=ZR w.heap.size;rw[hg0] at hX0;simp only[hg0];clear hb0 hg0;by_cases hk:x.kind=0
 ·have HE:=Z9 (HV1.out hk);clear HV1 gQ;refine wl<|ZV (Z5 g0 1)<|ZK rfl ⟨g0,1,none⟩ (Z8 x.kind) (hX0.ZQ 1)<|ZN (NH rfl x.kind (decide_eq_true hk))<|wn ?_;simp only[pu];go_upto_region 2 with fail;refine wl<|ZV (Z5 g0 2)<|ZK rfl ⟨g0,2,none⟩ (Z7 x.val) (hX0.ZQ 2)<|ZG (.iface 24 (Z7 x.val)) (.iface 24 (Z7 x.val))<|wn ?_;simp only[pu];go_wp2_with fail;go_ret;rw[HE.out];exact⟨rfl,HB0.out⟩
 ·have HE:=Z9 (gQ.out hk);clear HV1 gQ;refine wl<|ZV (Z5 g0 1)<|ZK rfl ⟨g0,1,none⟩ (Z8 x.kind) (hX0.ZQ 1)<|ZN (NH rfl x.kind (decide_eq_false hk))<|wn ?_;simp only[pu];go_upto_region 3 with fail;refine wl<|ZV (Z5 g0 3)<|ZK rfl ⟨g0,3,none⟩ (.slice b x.bytes.length d) (hX0.ZQ 3)<|ZG (.iface 54 (.slice b x.bytes.length d)) (.iface 54 (.slice b x.bytes.length d))<|wn ?_;simp only[pu];go_wp2_with fail;go_ret;rw[HE.out];exact⟨rfl,HB0.out⟩
def MN (w:World)(B:Nat)(X:Value)(ps:List (Zj×Value))(rest:List Zj)(e:Ending)(w':World):Prop:=∃ a c qs,e=.returned (.tuple #[X,.slice a qs.length c])/\N8 w' B a qs/\qs.length<=c/\qs.map Prod.fst=rest/\Below w.heap.size w w'
theorem ZI {ρ:Operand->Value}{o:Oper}{x y:Operand}(ho:o.op=.binOp .eql 3 x y 3)(a b:Int){t:Bool}(ht:decide (a=b)=t)(hx:ρ x=Z8 a)(hy:ρ y=Z8 b)(w:World):(execOp ρ o).run Tryz.prog w=.ok (.value (.bool t)) w:=by
 have e:(a == b)=t:=ht;unfold execOp;simp only[ho,hx,hy];go_simp
theorem IY {ρ:Operand->Value}{o:Oper}{x y:Operand}(ho:o.op=.binOp .neq 3 x y 3)(a b:Int){t:Bool}(ht:decide (a=b)=t)(hx:ρ x=Z8 a)(hy:ρ y=Z8 b)(w:World):(execOp ρ o).run Tryz.prog w=.ok (.value (.bool (!t))) w:=by
 have e:(a != b) = !t:=by rw[<- ht]; rfl
 unfold execOp;simp only[ho,hx,hy];go_simp
theorem ou {ρ:Operand->Value}{o:Oper}{x y:Operand}(ho:o.op=.binOp .gtr 24 x y 24)(a b:Int){t:Bool}(ht:decide (b<a)=t)(hx:ρ x=Z7 a)(hy:ρ y=Z7 b)(w:World):(execOp ρ o).run Tryz.prog w=.ok (.value (.bool t)) w:=by
 rw[<- ht];unfold execOp;simp only[ho,hx,hy];go_simp
theorem NJ {ρ:Operand->Value}{o:Oper}{x:Operand}(ho:o.op=.convert 54 9 x){w:World}{a:Option Addr}{c:Nat}{L:List Int}(h:Sl w a c L)(hx:ρ x=.slice a L.length c):(execOp ρ o).run Tryz.prog w=.ok (.value (.string (strOfNums L))) w:=by
 have h2:=gK h;unfold execOp;simp only[ho,hx,Sem.run_bind,h2];rfl
theorem Ah (a:Option Addr)(n c k:Nat)(w:World)(h:k<=n):(Instr.slice 78 (.slice a n c) (some (Z8 (k:Int))) none none).run Tryz.prog w=.ok (.slice (YS 4 a c k) (n-k) (c-k)) w:=
 KX (s:=4) (by kernel_rfl) (fun w=>by kernel_rfl) a n c k w h
theorem Nr (a:Option Addr)(n c:Nat)(w:World)(h:0<n):(Instr.slice 78 (.slice a n c) (some (Z8 1)) none none).run Tryz.prog w=.ok (.slice (YS 4 a c 1) (n-1) (c-1)) w:=by
 have q:=Ah a n c 1 w h;have e:((1:Nat):Int)=1:=rfl;rwa [e] at q
theorem oq {ρ:Operand->Value}{o:Oper}{x:Operand}{a:Option Addr}{n c:Nat}{V:World}{v:Value}(ho:o.op=.slice 78 x (some (.const (Z8 1))) none none)(hx:ρ x=.slice a n c)(h:(Instr.slice 78 (.slice a n c) (some (Z8 1)) none none).run Tryz.prog V=.ok v V)(hc:ρ (.const (Z8 1))=Z8 1):(execOp ρ o).run Tryz.prog V=.ok (.value v) V:=by
 have h2:(Instr.sliceAt 78 (.slice a n c) (some (Z8 1)) none none).run Tryz.prog V=.ok v V:=h;unfold execOp;simp only[ho,hx,Option.map_some,Option.map_none,hc,Sem.run_bind,h2];rfl
theorem Sl.aA4 {w:World}{a:Option Addr}{c:Nat}{L:List Int}(h:Sl w a c L):Sl w.drew a c L:=h
theorem Pm (a:Option Addr)(c:Nat)(ps:List (Zj×Value))(B:Nat)(k:Int)(w:World)(hF:N8 w B a ps)(hc:ps.length<=c)(hv:∀ f,f∈ps.map Prod.fst->Vf f) :
  Calls Tryz.prog 130 #[.slice a ps.length c,Z8 k] w (MN w B (.string (XH k (ps.map Prod.fst)).1) ps (XH k (ps.map Prod.fst)).2):=by
 cases ps with
 | nil=>
  have HE:=Z9 (⟨a,c,[],rfl,hF,hc,rfl,Below.refl _ _⟩:MN w B (.string ⟨#[]⟩) [] [] (.returned (.tuple #[.string ⟨#[]⟩,.slice a 0 c])) w);clear hF hv;change Calls _ _ #[.slice a 0 c,Z8 k] _ (MN w B (.string ⟨#[]⟩) [] []);go_enter Tryz.func130,Tryz.ntmps130;go_upto_region 1 with fail;refine wl<|ZG (.slice a 0 c) (Z8 0)<|ZN (Zo rfl (0) (0) (decide_eq_false (by decide)))<|Zc ZY undef undef undef undef undef<|ZG undef ZY<|wn ?_;simp only[pu];go_upto_region 5 with fail;refine wl<|YG (.slice a 0 c) (.string ⟨#[]⟩) (.slice a 0 c)<|wn ?_;simp only[pu];go_wp2_with fail;go_ret2;exact HE.out
 | cons p r=>
  have hvp:=hv p.1 (by simp);have hF0:=hF;obtain⟨b,off,ba,bc,rfl,hp2,hsl,hbox⟩:=hF.fs 0 p rfl;obtain⟨n,hn⟩:=ZR ((p::r).length);have hn0:0<n:=by rw[<- hn]; simp
  have D9:Hid (∀ w',Below w.heap.size w w'->XH k ((p::r).map Prod.fst)=(WU,(p::r).map Prod.fst)->MN w B (.string (XH k ((p::r).map Prod.fst)).1) (p::r) (XH k ((p::r).map Prod.fst)).2 (.returned (.tuple #[.string ⟨#[]⟩,.slice (some ⟨b,off,none⟩) n c])) w'):=Z9 fun w' hb e=>⟨_,c,p::r,by rw[hn,e]; rfl,hF0.below hb,hc,by rw[e],hb⟩;have hTL:Hid (∀ w',Below w.heap.size w w'->MN w B (.string (strOfNums p.1.bytes)) (p::r) (r.map Prod.fst) (.returned (.tuple #[.string (strOfNums p.1.bytes),.slice (YS 4 (some ⟨b,off,none⟩) c 1) (n-1) (c-1)])) w'):=Z9 fun w' hb=>⟨_,c-1,r,by rw[<- hn]; rfl,(hF0.below hb).tail c hc,by simp at hc; omega,rfl,hb⟩;have hcut:=fun V=>Nr (some ⟨b,off,none⟩) n c V hn0;have CV:=fun V=>Gs p.1 ba bc V;rw[List.map_cons] at D9 ⊢;rw[hn];obtain⟨x,v⟩:=p;simp only at *
  have hkd:x.kind=0∨x.kind=2:=by
   rcases hvp.1.2.2 with q | q
   ·exact .inl q.1
   ·exact .inr q.1
  have hld:=RV (Tc hbox);have hnum:=hbox.1;have hval:=hvp.2.1;generalize r.map Prod.fst=R at *
  clear hF hF0 hv hvp hbox hp2 hn hc;rcases (show x.num≠k∨(x.num=k/\x.kind=0)∨(x.num=k/\x.kind=2/\0<x.bytes.length)∨(x.num=k/\x.kind=2/\¬ (0<x.bytes.length)) by omega) with hcs | hcs | hcs | hcs
  ·have hE:XH k (x::R)=(WU,x::R):=Qu (by intro q; omega);have UQ:=Z9 (fun w' hb=>D9.out w' hb hE);clear D9 hTL hE;go_enter Tryz.func130,Tryz.ntmps130;go_upto_region 1 with fail;refine wl<|ZG (.slice (some ⟨b,off,none⟩) n c) (Z8 n)<|ZN (Zo rfl (n) (0) dT)<|ZG ZW (.slice (some ⟨b,off,none⟩) n c) <|
    YN (Z5 b (off+0*4)) (Xy b off n c 0 hn0 _ _ _ rfl (by kernel_rfl) (by kernel_rfl))<|ZV (Z5 b (off+0*4))<|ZK rfl ⟨b,off+0*4,none⟩ (Z8 x.num) (YB hnum (by kernel_rfl))<|ZV (Z8 k) <|
    ZN (ZI rfl (x.num) (k) (decide_eq_false (hcs)))<|ZV ZY<|wn ?_
   simp only[pu];have HE:=Z9 (UQ.out w (Below.refl _ _));clear UQ;go_upto_region 5 with fail;refine wl<|YG (.slice (some ⟨b,off,none⟩) n c) (.string ⟨#[]⟩) (.slice (some ⟨b,off,none⟩) n c)<|wn ?_;simp only[pu];go_wp2_with fail;go_ret2;exact HE.out
  ·have hE:XH k (x::R)=(WU,x::R):=Qu (by intro q; omega);have UQ:=Z9 (fun w' hb=>D9.out w' hb hE);clear D9 hTL hE;go_enter Tryz.func130,Tryz.ntmps130;go_upto_region 1 with fail;refine wl<|ZG (.slice (some ⟨b,off,none⟩) n c) (Z8 n)<|ZN (Zo rfl (n) (0) dT)<|ZG ZW (.slice (some ⟨b,off,none⟩) n c) <|
    YN (Z5 b (off+0*4)) (Xy b off n c 0 hn0 _ _ _ rfl (by kernel_rfl) (by kernel_rfl))<|ZV (Z5 b (off+0*4))<|ZK rfl ⟨b,off+0*4,none⟩ (Z8 x.num) (YB hnum (by kernel_rfl))<|ZV (Z8 k) <|
    ZN (ZI rfl (x.num) (k) (decide_eq_true (hcs.1)))<|ZV ZW<|wn ?_
   simp only[pu];have PU:Calls Tryz.prog 145 #[.agg (Xm x ba bc)] w fun e w'=>e=.returned (.iface 24 (Z7 x.val))/\Below w.heap.size w w':=(CV w).mono fun e w' q=>⟨by rw[q.1,MO,if_pos (by omega)],q.2⟩;clear CV;go_upto_region 2 with fail;refine wl<|ZV (.slice (some ⟨b,off,none⟩) n c)<|YN (Z5 b (off+0*4)) (Xy b off n c 0 hn0 _ _ _ rfl (by kernel_rfl) (by kernel_rfl))<|ZK rfl ⟨b,off+0*4,none⟩ (.agg (Xm x ba bc)) (hld) <|
    YW (.iface 24 (Z7 x.val)) (fun w'=>Below w.heap.size w w') PU (fun V hV=>?_)
   refine Zc (.tuple #[.slice none 0 0,ZY]) (.tuple #[.slice none 0 0,ZY]) (.slice none 0 0) ZY (.slice none 0 0) ZY<|wn ?_;simp only[pu];have oh:=Z9 hV;have jr:=ZL hsl hV;clear PU hV;go_upto_region 3 with fail;refine wl<|Zc ZY ZY undef undef undef ZY<|wn ?_;simp only[pu];have HE:=Z9 (UQ.out V oh.out);clear UQ;go_upto_region 5 with fail;refine wl<|YG (.slice (some ⟨b,off,none⟩) n c) (.string ⟨#[]⟩) (.slice (some ⟨b,off,none⟩) n c)<|wn ?_;simp only[pu];go_wp2_with fail;go_ret2;exact HE.out
  ·have hE:XH k (x::R)=(strOfNums x.bytes,R):=Ox ⟨hcs.1,hcs.2.1,by omega⟩;have Bg:Hid (∀ w',Below w.heap.size w w'->MN w B (.string (XH k (x::R)).1) ((x,v)::r) (XH k (x::R)).2 (.returned (.tuple #[.string (strOfNums x.bytes),.slice (YS 4 (some ⟨b,off,none⟩) c 1) (n-1) (c-1)])) w'):=Z9 (by rw[hE]; exact hTL.out);clear D9 hTL hE;go_enter Tryz.func130,Tryz.ntmps130;go_upto_region 1 with fail;refine wl<|ZG (.slice (some ⟨b,off,none⟩) n c) (Z8 n)<|ZN (Zo rfl (n) (0) dT)<|ZG ZW (.slice (some ⟨b,off,none⟩) n c) <|
    YN (Z5 b (off+0*4)) (Xy b off n c 0 hn0 _ _ _ rfl (by kernel_rfl) (by kernel_rfl))<|ZV (Z5 b (off+0*4))<|ZK rfl ⟨b,off+0*4,none⟩ (Z8 x.num) (YB hnum (by kernel_rfl))<|ZV (Z8 k) <|
    ZN (ZI rfl (x.num) (k) (decide_eq_true (hcs.1)))<|ZV ZW<|wn ?_
   simp only[pu];have PU:Calls Tryz.prog 145 #[.agg (Xm x ba bc)] w fun e w'=>e=.returned (.iface 54 (.slice ba x.bytes.length bc))/\Below w.heap.size w w':=(CV w).mono fun e w' q=>⟨by rw[q.1,MO,if_neg (by omega)],q.2⟩;clear CV;go_upto_region 2 with fail;refine wl<|ZV (.slice (some ⟨b,off,none⟩) n c)<|YN (Z5 b (off+0*4)) (Xy b off n c 0 hn0 _ _ _ rfl (by kernel_rfl) (by kernel_rfl))<|ZK rfl ⟨b,off+0*4,none⟩ (.agg (Xm x ba bc)) (hld) <|
    YW (.iface 54 (.slice ba x.bytes.length bc)) (fun w'=>Below w.heap.size w w') PU (fun V hV=>?_)
   refine Zc (.tuple #[.slice ba x.bytes.length bc,ZW]) (.tuple #[.slice ba x.bytes.length bc,ZW]) (.slice ba x.bytes.length bc) ZW (.slice ba x.bytes.length bc) ZW<|wn ?_;simp only[pu];have oh:=Z9 hV;have jr:=ZL hsl hV;clear PU hV;go_upto_region 3 with fail;refine wl<|WM ZW ZW (.slice ba x.bytes.length bc) (Z8 x.bytes.length)<|ZN (Zo rfl (x.bytes.length) (0) dT)<|ZV ZW<|wn ?_;simp only[pu];have HE:=Z9 (Bg.out V.drew oh.out.drew);clear Bg hcs;go_upto_region 4 with fail;refine ZJ (C:=fun U=>U=V.drew) (by kernel_rfl) (by kernel_rfl) (rfl) ?_;refine gy (.slice ba x.bytes.length bc)<|X0 (.string (strOfNums x.bytes)) (fun U hU=>by rw[hU]; exact NJ rfl (jr.aA4) (by kernel_rfl))<|gy (.slice (some ⟨b,off,none⟩) n c) <|
     X0 (.slice (YS 4 (some ⟨b,off,none⟩) c 1) (n-1) (c-1)) (fun U hU=>by rw[hU]; exact oq rfl (by kernel_rfl) (hcut V.drew) (by kernel_rfl))<|gy (.string (strOfNums x.bytes))<|gy (.slice (YS 4 (some ⟨b,off,none⟩) c 1) (n-1) (c-1)) ?_
   simp only[pu];apply wpQuiet_nil;intro U hU;subst hU;go_wp2_with fail;go_ret2;exact HE.out
  ·have hE:XH k (x::R)=(WU,x::R):=Qu (by intro q; omega);have UQ:=Z9 (fun w' hb=>D9.out w' hb hE);clear D9 hTL hE;go_enter Tryz.func130,Tryz.ntmps130;go_upto_region 1 with fail;refine wl<|ZG (.slice (some ⟨b,off,none⟩) n c) (Z8 n)<|ZN (Zo rfl (n) (0) dT)<|ZG ZW (.slice (some ⟨b,off,none⟩) n c) <|
    YN (Z5 b (off+0*4)) (Xy b off n c 0 hn0 _ _ _ rfl (by kernel_rfl) (by kernel_rfl))<|ZV (Z5 b (off+0*4))<|ZK rfl ⟨b,off+0*4,none⟩ (Z8 x.num) (YB hnum (by kernel_rfl))<|ZV (Z8 k) <|
    ZN (ZI rfl (x.num) (k) (decide_eq_true (hcs.1)))<|ZV ZW<|wn ?_
   simp only[pu];have PU:Calls Tryz.prog 145 #[.agg (Xm x ba bc)] w fun e w'=>e=.returned (.iface 54 (.slice ba x.bytes.length bc))/\Below w.heap.size w w':=(CV w).mono fun e w' q=>⟨by rw[q.1,MO,if_neg (by omega)],q.2⟩;clear CV;go_upto_region 2 with fail;refine wl<|ZV (.slice (some ⟨b,off,none⟩) n c)<|YN (Z5 b (off+0*4)) (Xy b off n c 0 hn0 _ _ _ rfl (by kernel_rfl) (by kernel_rfl))<|ZK rfl ⟨b,off+0*4,none⟩ (.agg (Xm x ba bc)) (hld) <|
    YW (.iface 54 (.slice ba x.bytes.length bc)) (fun w'=>Below w.heap.size w w') PU (fun V hV=>?_)
   refine Zc (.tuple #[.slice ba x.bytes.length bc,ZW]) (.tuple #[.slice ba x.bytes.length bc,ZW]) (.slice ba x.bytes.length bc) ZW (.slice ba x.bytes.length bc) ZW<|wn ?_;simp only[pu];have oh:=Z9 hV;have jr:=ZL hsl hV;clear PU hV;go_upto_region 3 with fail;refine wl<|WM ZW ZW (.slice ba x.bytes.length bc) (Z8 x.bytes.length)<|ZN (Zo rfl (x.bytes.length) (0) dF)<|ZV ZY<|wn ?_;simp only[pu];have HE:=Z9 (UQ.out V oh.out);clear UQ;go_upto_region 5 with fail;refine wl<|YG (.slice (some ⟨b,off,none⟩) n c) (.string ⟨#[]⟩) (.slice (some ⟨b,off,none⟩) n c)<|wn ?_;simp only[pu];go_wp2_with fail;go_ret2;exact HE.out
theorem UZ (a:Option Addr)(c:Nat)(ps:List (Zj×Value))(B:Nat)(k:Int)(w:World)(hF:N8 w B a ps)(hc:ps.length<=c)(hv:∀ f,f∈ps.map Prod.fst->Vf f) :
  Calls Tryz.prog 131 #[.slice a ps.length c,Z8 k] w (MN w B (Z7 (X5 k (ps.map Prod.fst)).1) ps (X5 k (ps.map Prod.fst)).2):=by
 cases ps with
 | nil=>
  have HE:=Z9 (⟨a,c,[],rfl,hF,hc,rfl,Below.refl _ _⟩:MN w B (Z7 0) [] [] (.returned (.tuple #[Z7 0,.slice a 0 c])) w);clear hF hv;change Calls _ _ #[.slice a 0 c,Z8 k] _ (MN w B (Z7 0) [] []);go_enter Tryz.func131,Tryz.ntmps131;go_upto_region 1 with fail;refine wl<|ZG (.slice a 0 c) (Z8 0)<|ZN (Zo rfl (0) (0) (decide_eq_false (by decide)))<|Zc ZY undef undef undef undef undef<|ZG undef ZY<|wn ?_;simp only[pu];go_upto_region 5 with fail;refine wl<|YG (.slice a 0 c) (Z7 0) (.slice a 0 c)<|wn ?_;simp only[pu];go_wp2_with fail;go_ret2;exact HE.out
 | cons p r=>
  have hvp:=hv p.1 (by simp);have hF0:=hF;obtain⟨b,off,ba,bc,rfl,hp2,hsl,hbox⟩:=hF.fs 0 p rfl;obtain⟨n,hn⟩:=ZR ((p::r).length);have hn0:0<n:=by rw[<- hn]; simp
  have D9:Hid (∀ w',Below w.heap.size w w'->X5 k ((p::r).map Prod.fst)=(0,(p::r).map Prod.fst)->MN w B (Z7 (X5 k ((p::r).map Prod.fst)).1) (p::r) (X5 k ((p::r).map Prod.fst)).2 (.returned (.tuple #[Z7 0,.slice (some ⟨b,off,none⟩) n c])) w'):=Z9 fun w' hb e=>⟨_,c,p::r,by rw[hn,e],hF0.below hb,hc,by rw[e],hb⟩;have hTL:Hid (∀ w',Below w.heap.size w w'->MN w B (Z7 p.1.val) (p::r) (r.map Prod.fst) (.returned (.tuple #[Z7 p.1.val,.slice (YS 4 (some ⟨b,off,none⟩) c 1) (n-1) (c-1)])) w'):=Z9 fun w' hb=>⟨_,c-1,r,by rw[<- hn]; rfl,(hF0.below hb).tail c hc,by simp at hc; omega,rfl,hb⟩;have hcut:=fun V=>Nr (some ⟨b,off,none⟩) n c V hn0;have CV:=fun V=>Gs p.1 ba bc V;rw[List.map_cons] at D9 ⊢;rw[hn];obtain⟨x,v⟩:=p;simp only at *
  have hkd:x.kind=0∨x.kind=2:=by
   rcases hvp.1.2.2 with q | q
   ·exact .inl q.1
   ·exact .inr q.1
  have hld:=RV (Tc hbox);have hnum:=hbox.1;have hval:=hvp.2.1;generalize r.map Prod.fst=R at *
  clear hF hF0 hv hvp hbox hp2 hn hc;rcases (show x.num≠k∨(x.num=k/\x.kind=2)∨(x.num=k/\x.kind=0/\0<x.val)∨(x.num=k/\x.kind=0/\¬ (0<x.val)) by omega) with hcs | hcs | hcs | hcs
  ·have hE:X5 k (x::R)=(0,x::R):=RQ (by intro q; omega);have UQ:=Z9 (fun w' hb=>D9.out w' hb hE);clear D9 hTL hE;go_enter Tryz.func131,Tryz.ntmps131;go_upto_region 1 with fail;refine wl<|ZG (.slice (some ⟨b,off,none⟩) n c) (Z8 n)<|ZN (Zo rfl (n) (0) dT)<|ZG ZW (.slice (some ⟨b,off,none⟩) n c) <|
    YN (Z5 b (off+0*4)) (Xy b off n c 0 hn0 _ _ _ rfl (by kernel_rfl) (by kernel_rfl))<|ZV (Z5 b (off+0*4))<|ZK rfl ⟨b,off+0*4,none⟩ (Z8 x.num) (YB hnum (by kernel_rfl))<|ZV (Z8 k) <|
    ZN (ZI rfl (x.num) (k) (decide_eq_false (hcs)))<|ZV ZY<|wn ?_
   simp only[pu];have HE:=Z9 (UQ.out w (Below.refl _ _));clear UQ;go_upto_region 5 with fail;refine wl<|YG (.slice (some ⟨b,off,none⟩) n c) (Z7 0) (.slice (some ⟨b,off,none⟩) n c)<|wn ?_;simp only[pu];go_wp2_with fail;go_ret2;exact HE.out
  ·have hE:X5 k (x::R)=(0,x::R):=RQ (by intro q; omega);have UQ:=Z9 (fun w' hb=>D9.out w' hb hE);clear D9 hTL hE;go_enter Tryz.func131,Tryz.ntmps131;go_upto_region 1 with fail;refine wl<|ZG (.slice (some ⟨b,off,none⟩) n c) (Z8 n)<|ZN (Zo rfl (n) (0) dT)<|ZG ZW (.slice (some ⟨b,off,none⟩) n c) <|
    YN (Z5 b (off+0*4)) (Xy b off n c 0 hn0 _ _ _ rfl (by kernel_rfl) (by kernel_rfl))<|ZV (Z5 b (off+0*4))<|ZK rfl ⟨b,off+0*4,none⟩ (Z8 x.num) (YB hnum (by kernel_rfl))<|ZV (Z8 k) <|
    ZN (ZI rfl (x.num) (k) (decide_eq_true (hcs.1)))<|ZV ZW<|wn ?_
   simp only[pu];have PU:Calls Tryz.prog 145 #[.agg (Xm x ba bc)] w fun e w'=>e=.returned (.iface 54 (.slice ba x.bytes.length bc))/\Below w.heap.size w w':=(CV w).mono fun e w' q=>⟨by rw[q.1,MO,if_neg (by omega)],q.2⟩;clear CV;go_upto_region 2 with fail;refine wl<|ZV (.slice (some ⟨b,off,none⟩) n c)<|YN (Z5 b (off+0*4)) (Xy b off n c 0 hn0 _ _ _ rfl (by kernel_rfl) (by kernel_rfl))<|ZK rfl ⟨b,off+0*4,none⟩ (.agg (Xm x ba bc)) (hld) <|
    YW (.iface 54 (.slice ba x.bytes.length bc)) (fun w'=>Below w.heap.size w w') PU (fun V hV=>?_)
   refine Zc (.tuple #[Z7 0,ZY]) (.tuple #[Z7 0,ZY]) (Z7 0) ZY (Z7 0) ZY<|wn ?_;simp only[pu];have oh:=Z9 hV;have jr:=ZL hsl hV;clear PU hV;go_upto_region 3 with fail;refine wl<|Rq ZY ZY undef undef ZY<|wn ?_;simp only[pu];have HE:=Z9 (UQ.out V oh.out);clear UQ;go_upto_region 5 with fail;refine wl<|YG (.slice (some ⟨b,off,none⟩) n c) (Z7 0) (.slice (some ⟨b,off,none⟩) n c)<|wn ?_;simp only[pu];go_wp2_with fail;go_ret2;exact HE.out
  ·have hE:X5 k (x::R)=(x.val,R):=QO ⟨hcs.1,hcs.2.1,by omega⟩;have Bg:Hid (∀ w',Below w.heap.size w w'->MN w B (Z7 (X5 k (x::R)).1) ((x,v)::r) (X5 k (x::R)).2 (.returned (.tuple #[Z7 x.val,.slice (YS 4 (some ⟨b,off,none⟩) c 1) (n-1) (c-1)])) w'):=Z9 (by rw[hE]; exact hTL.out);clear D9 hTL hE;go_enter Tryz.func131,Tryz.ntmps131;go_upto_region 1 with fail;refine wl<|ZG (.slice (some ⟨b,off,none⟩) n c) (Z8 n)<|ZN (Zo rfl (n) (0) dT)<|ZG ZW (.slice (some ⟨b,off,none⟩) n c) <|
    YN (Z5 b (off+0*4)) (Xy b off n c 0 hn0 _ _ _ rfl (by kernel_rfl) (by kernel_rfl))<|ZV (Z5 b (off+0*4))<|ZK rfl ⟨b,off+0*4,none⟩ (Z8 x.num) (YB hnum (by kernel_rfl))<|ZV (Z8 k) <|
    ZN (ZI rfl (x.num) (k) (decide_eq_true (hcs.1)))<|ZV ZW<|wn ?_
   simp only[pu];have PU:Calls Tryz.prog 145 #[.agg (Xm x ba bc)] w fun e w'=>e=.returned (.iface 24 (Z7 x.val))/\Below w.heap.size w w':=(CV w).mono fun e w' q=>⟨by rw[q.1,MO,if_pos (by omega)],q.2⟩;clear CV;go_upto_region 2 with fail;refine wl<|ZV (.slice (some ⟨b,off,none⟩) n c)<|YN (Z5 b (off+0*4)) (Xy b off n c 0 hn0 _ _ _ rfl (by kernel_rfl) (by kernel_rfl))<|ZK rfl ⟨b,off+0*4,none⟩ (.agg (Xm x ba bc)) (hld) <|
    YW (.iface 24 (Z7 x.val)) (fun w'=>Below w.heap.size w w') PU (fun V hV=>?_)
   refine Zc (.tuple #[Z7 x.val,ZW]) (.tuple #[Z7 x.val,ZW]) (Z7 x.val) ZW (Z7 x.val) ZW<|wn ?_;simp only[pu];have oh:=Z9 hV;have jr:=ZL hsl hV;clear PU hV;go_upto_region 3 with fail;refine wl<|YG ZW ZW (Z7 x.val)<|ZN (ou rfl (x.val) (0) dT)<|ZV ZW<|wn ?_;simp only[pu];have HE:=Z9 (Bg.out V.drew oh.out.drew);clear Bg hcs;go_upto_region 4 with fail;refine ZJ (C:=fun U=>U=V.drew) (by kernel_rfl) (by kernel_rfl) (rfl) ?_;refine gy (Z7 x.val)<|gy (.slice (some ⟨b,off,none⟩) n c)<|X0 (.slice (YS 4 (some ⟨b,off,none⟩) c 1) (n-1) (c-1)) (fun U hU=>by rw[hU]; exact oq rfl (by kernel_rfl) (hcut V.drew) (by kernel_rfl))<|gy (Z7 x.val) <|
     gy (.slice (YS 4 (some ⟨b,off,none⟩) c 1) (n-1) (c-1)) ?_
   simp only[pu];apply wpQuiet_nil;intro U hU;subst hU;go_wp2_with fail;go_ret2;exact HE.out
  ·have hE:X5 k (x::R)=(0,x::R):=RQ (by intro q; omega);have UQ:=Z9 (fun w' hb=>D9.out w' hb hE);clear D9 hTL hE;go_enter Tryz.func131,Tryz.ntmps131;go_upto_region 1 with fail;refine wl<|ZG (.slice (some ⟨b,off,none⟩) n c) (Z8 n)<|ZN (Zo rfl (n) (0) dT)<|ZG ZW (.slice (some ⟨b,off,none⟩) n c) <|
    YN (Z5 b (off+0*4)) (Xy b off n c 0 hn0 _ _ _ rfl (by kernel_rfl) (by kernel_rfl))<|ZV (Z5 b (off+0*4))<|ZK rfl ⟨b,off+0*4,none⟩ (Z8 x.num) (YB hnum (by kernel_rfl))<|ZV (Z8 k) <|
    ZN (ZI rfl (x.num) (k) (decide_eq_true (hcs.1)))<|ZV ZW<|wn ?_
   simp only[pu];have PU:Calls Tryz.prog 145 #[.agg (Xm x ba bc)] w fun e w'=>e=.returned (.iface 24 (Z7 x.val))/\Below w.heap.size w w':=(CV w).mono fun e w' q=>⟨by rw[q.1,MO,if_pos (by omega)],q.2⟩;clear CV;go_upto_region 2 with fail;refine wl<|ZV (.slice (some ⟨b,off,none⟩) n c)<|YN (Z5 b (off+0*4)) (Xy b off n c 0 hn0 _ _ _ rfl (by kernel_rfl) (by kernel_rfl))<|ZK rfl ⟨b,off+0*4,none⟩ (.agg (Xm x ba bc)) (hld) <|
    YW (.iface 24 (Z7 x.val)) (fun w'=>Below w.heap.size w w') PU (fun V hV=>?_)
   refine Zc (.tuple #[Z7 x.val,ZW]) (.tuple #[Z7 x.val,ZW]) (Z7 x.val) ZW (Z7 x.val) ZW<|wn ?_;simp only[pu];have oh:=Z9 hV;have jr:=ZL hsl hV;clear PU hV;go_upto_region 3 with fail;refine wl<|YG ZW ZW (Z7 x.val)<|ZN (ou rfl (x.val) (0) dF)<|ZV ZY<|wn ?_;simp only[pu];have HE:=Z9 (UQ.out V oh.out);clear UQ;go_upto_region 5 with fail;refine wl<|YG (.slice (some ⟨b,off,none⟩) n c) (Z7 0) (.slice (some ⟨b,off,none⟩) n c)<|wn ?_;simp only[pu];go_wp2_with fail;go_ret2;exact HE.out
theorem ZO {fn:Func}{tmps:Array Value}{w:World}{p q g ty:Nat}{v u:Value}(hr:fn.results=#[.cell p ty,.tmp q])(h2:tmps.getD p undef=Z5 g 0)(hl:(Instr.loadAt ty (Z5 g 0)).run Tryz.prog w=.ok v w)(h3:tmps.getD q undef=u):(results fn tmps).run Tryz.prog w=.ok (.tuple #[v,u]) w:=by
 unfold results;rw[hr];have h2':tmps[p]?.getD undef=Z5 g 0:=by simpa using h2
 have h3':tmps[q]?.getD undef=u:=by simpa using h3
 have hl':=hl;simp only[Instr.loadAt,Instr.sureAddr,Sem.run_bind,Sem.run_pure,Result.andThen_ok] at hl';simp[h2',h3',asAddr,hl',Result.andThen]
def TfO (w:World)(r:Option Tf)(e:Ending)(w':World):Prop:=∃ y ok,e=.returned (.tuple #[.agg (Yz y),.bool ok])/\r=(if ok=true then some y else none)/\Below w.heap.size w w'
theorem uX {f:Zj}(h:¬ (f.kind=2/\f.num=6/\(YR f.bytes).2.2=0/\(X5 2 (XH 1 (YR f.bytes).1).2).2.length=0)):RP f=none:=if_neg h
theorem uV {f:Zj}(h:f.kind=2/\f.num=6/\(YR f.bytes).2.2=0/\(X5 2 (XH 1 (YR f.bytes).1).2).2.length=0):RP f=some ((XH 1 (YR f.bytes).1).1,(X5 2 (XH 1 (YR f.bytes).1).2).1):=if_pos h
theorem Zm {w w0:World}{g B i ty T:Nat}{cs cs':Array Value}{v:Value}(h:Bx w g cs T)(hb:Below B w0 w)(hg:B<=g)(hi:i<cs.size)(h1:v.oneCell'=true)(hs:(Tryz.prog.info? ty).map (·.size)=some 1)(hc:cs.setIfInBounds i v=cs') :
  ∃ V,(Instr.storeAt ty (Z5 g i) v).run Tryz.prog w=.ok () V/\Bx V g cs' T/\Below B w0 V/\But g w V:=
 ⟨_,Wp h hi h1 hs,hc ▸ h.oz v,hb.setCell hg v,But.setCell _ _ _⟩
theorem Kw (x:Zj)(b:Option Addr)(d:Nat)(w:World)(hs:Sl w b d x.bytes)(hd:x.bytes.length<=d)(hl:x.bytes.length<=1000000)(h8:∀ y,y∈x.bytes->W8 y)(hkd:x.kind=0∨x.kind=2) :
  Calls Tryz.prog 132 #[.agg (Xm x b d)] w (TfO w (RP x)):=by
 have hb1:Below w.heap.size w (w.alloc (.cells (Xm x b d) 77)):=(Below.refl _ w).alloc (Nat.le_refl _) _;have hX1:Bx (w.alloc (.cells (Xm x b d) 77)) w.heap.size (Xm x b d) 77:=heap_alloc_last w _;have hsz1:(w.alloc (.cells (Xm x b d) 77)).heap.size=w.heap.size+1:=by simp
 have CV:=fun V=>Gs x b d V;have HX:=Z9 (@uX x);have HY:=Z9 (@uV x);have CFL:=Z9 (fun V (h:Sl V b d x.bytes)=>Ns b d x.bytes V hl h h8 hd);have Am:Hid ((YR x.bytes).2.2=0->∀ f,f∈(YR x.bytes).1->Vf f):=Z9 fun h=>by
  rcases Ub (fun y hy=>h8 y hy) hl with⟨-,q⟩ | ⟨P,e,-,hP⟩
  ·exact absurd h q
  ·rw[e]; exact hP
 generalize YR x.bytes=FR at *
 have ER:Hid (∀ V,Below w.heap.size w V->RP x=none->TfO w (RP x) (.returned (.tuple #[.agg (Yz Uk),ZY])) V):=Z9 fun V hb e=>⟨Uk,false,rfl,by rw[e]; rfl,hb⟩;have oC:Hid (∀ V y,Below w.heap.size w V->RP x=some y->TfO w (RP x) (.returned (.tuple #[.agg (Yz y),ZW])) V):=Z9 fun V y hb e=>⟨y,true,rfl,by rw[e]; rfl,hb⟩;generalize RP x=RR at *
 go_enter Tryz.func132,Tryz.ntmps132;go_upto_region 1 with fail;change Code.wp _ _ _ _ ((w.alloc (.cells (Xm x b d) 77)).alloc (.cells (Yz Uk) 60));generalize w.alloc (.cells (Xm x b d) 77)=W1 at *
 have hb0:Below w.heap.size w (W1.alloc (.cells (Yz Uk) 60)):=hb1.alloc hb1.size _;have hX0:Bx (W1.alloc (.cells (Yz Uk) 60)) w.heap.size (Xm x b d) 77:=hX1.below hX1.lt ((Below.refl _ W1).alloc (Nat.le_refl _) _);have hY0:Bx (W1.alloc (.cells (Yz Uk) 60)) W1.heap.size (Yz Uk) 60:=heap_alloc_last W1 _;rw[hsz1] at hY0;generalize W1.alloc (.cells (Yz Uk) 60)=W at *
 obtain⟨g0,hg0⟩:=ZR w.heap.size;obtain⟨g2,hg2⟩:=ZR (w.heap.size+1);have HB0:=Z9 hb0;have HG2:Hid (w.heap.size<=g2):=Z9 (by omega);rw[hg2] at hY0;rw[hg0] at hX0;rw[hg2,hg0];have hsW:=ZL hs hb0;clear hb0 hb1 hX1 hsz1 hg0 hg2 hs;rcases hkd with hk | hk
 ·have PU:Calls Tryz.prog 145 #[.agg (Xm x b d)] W fun e w'=>e=.returned (.iface 24 (Z7 x.val))/\Below W.heap.size W w':=(CV W).mono fun e w' q=>⟨by rw[q.1,MO,if_pos hk],q.2⟩;clear CV CFL Am;refine wl<|ZK rfl ⟨g0,0,none⟩ (.agg (Xm x b d)) (Ou hX0)<|YW (.iface 24 (Z7 x.val)) (fun w'=>Below W.heap.size W w') PU (fun V hV=>?_);refine Zc (.tuple #[.slice none 0 0,ZY]) (.tuple #[.slice none 0 0,ZY]) (.slice none 0 0) ZY (.slice none 0 0) ZY<|wn ?_;simp only[pu];have rP:=hX0.below hX0.lt hV;have hYV:=hY0.below hY0.lt hV;have jr:=ZL hsW hV;have SY:=Z9 (HB0.out.trans (hV.mono HB0.out.size));clear hV hX0 hY0 hsW HB0 PU;go_upto_region 2 with fail;refine wl<|Zc ZY ZW ZW undef undef undef<|ZV ZW<|wn ?_;simp only[pu];obtain⟨hst,hZ⟩:=Wq (y:=Uk) hYV;have Zp:=Z9 (ZT SY.out HG2.out (Yz Uk));have HE:=Z9 (ER.out _ Zp.out (HX.out (by rw[hk]; intro q; exact absurd q.1 (by decide))));generalize World.setRow _ g2 (Yz Uk)=V9 at *
  clear ER oC HX HY;go_upto_region 3 with fail;refine wl<|ZV (.agg #[.string ⟨#[]⟩,Z7 0])<|Zr rfl (hst)<|ZV ZY<|wn ?_;simp only[pu];go_wp2_with fail;exact bodyPost_ret (ZO (p:=2) (q:=3) rfl (by kernel_rfl) (YI hZ) rfl) rfl HE.out
 ·have PU:Calls Tryz.prog 145 #[.agg (Xm x b d)] W fun e w'=>e=.returned (.iface 54 (.slice b x.bytes.length d))/\Below W.heap.size W w':=(CV W).mono fun e w' q=>⟨by rw[q.1,MO,if_neg (by omega)],q.2⟩;clear CV;refine wl<|ZK rfl ⟨g0,0,none⟩ (.agg (Xm x b d)) (Ou hX0)<|YW (.iface 54 (.slice b x.bytes.length d)) (fun w'=>Below W.heap.size W w') PU (fun V hV=>?_);refine Zc (.tuple #[.slice b x.bytes.length d,ZW]) (.tuple #[.slice b x.bytes.length d,ZW]) (.slice b x.bytes.length d) ZW (.slice b x.bytes.length d) ZW<|wn ?_;simp only[pu];have rP:=hX0.below hX0.lt hV;have hYV:=hY0.below hY0.lt hV;have jr:=ZL hsW hV;have SY:=Z9 (HB0.out.trans (hV.mono HB0.out.size));clear hV hX0 hY0 hsW HB0 PU;go_upto_region 2 with fail;by_cases hn:x.num=6
  ·skip
   refine wl<|WM ZW ZY ZY (Z5 g0 0)<|ZK rfl ⟨g0,0,none⟩ (Z8 x.num) (rP.ZQ 0)<|ZN (IY rfl x.num 6 (decide_eq_true hn)) <|
    ZV ZY<|wn ?_
   simp only[pu];have CF:=CFL.out V jr;clear CFL jr rP;go_upto_region 4 with fail;refine wl<|ZV (.slice b x.bytes.length d) <|
    XZ (fun v w'=>∃ a c ps,v=.tuple #[.slice a ps.length c,Z8 FR.2.1,Z8 FR.2.2]/\ps.map Prod.fst=FR.1/\ps.length<=c/\N8 w' V.heap.size a ps/\Below V.heap.size V w') (CF.mono fun e w' q=>by obtain⟨v,ps,h1,h2,h3,h4⟩:=q; obtain⟨a,c,rfl,hc,hf⟩:=h3.fsb; exact⟨_,h1,a,c,ps,rfl,h2,hc,hf,h4⟩) (fun v5 V5 hq=>?_)
   obtain⟨a5,c5,ps,rfl,hps,hc5,hF5,hb5⟩:=hq;refine Zc (.tuple #[.slice a5 ps.length c5,Z8 FR.2.1,Z8 FR.2.2]) (.slice a5 ps.length c5) (Z8 FR.2.1) (Z8 FR.2.2) (.slice a5 ps.length c5) (Z8 FR.2.1)<|ZV (Z8 FR.2.2)<|wn ?_;simp only[pu];have hY5:=hYV.below hYV.lt hb5;have Qg:=Z9 (SY.out.trans (hb5.mono SY.out.size));have HGV:Hid (g2<V.heap.size):=Z9 hYV.lt;obtain⟨P,n5,e5⟩:=FR;dsimp only at *
   clear hb5 hYV SY CF;go_upto_region 5 with fail;by_cases he:e5=0
   ·have hvf:=Am.out he;rw[<- hps] at hvf HX HY;clear Am hps;refine wl<|ZV (Z8 e5)<|ZN (Za rfl e5 0 (decide_eq_true he))<|wn ?_;simp only[pu];have CT:=Pm a5 c5 ps V.heap.size 1 V5 hF5 hc5 hvf;have hv2:=RN (k:=1) hvf;generalize XH 1 (ps.map Prod.fst)=TT at *
    obtain⟨s1,R1⟩:=TT;dsimp only at *
    go_upto_region 7 with fail;refine wl<|ZV (.slice a5 ps.length c5) <|
     XZ (fun v w'=>∃ a c qs,v=.tuple #[.string s1,.slice a qs.length c]/\N8 w' V.heap.size a qs/\qs.length<=c/\qs.map Prod.fst=R1/\Below V5.heap.size V5 w') (CT.mono fun e w' q=>by obtain⟨a,c,qs,h1,h2⟩:=q; exact⟨_,h1,a,c,qs,rfl,h2⟩) (fun v6 V6 hq=>?_)
    obtain⟨a6,c6,q1,rfl,Eb,hc6,hq1,hb6⟩:=hq;have Ea:=hY5.below hY5.lt hb6;have Yh:=Z9 (Qg.out.trans (hb6.mono Qg.out.size));obtain⟨V7,Xe,hY7,Po,XU⟩:=Zm (i:=0) (ty:=9) (v:=.string s1) (cs':=Yz (s1,0)) Ea Yh.out HG2.out (by show 0<2; decide) rfl (by kernel_rfl) rfl;have hF7:=Eb.but XU HGV.out;have Vd:=Z9 Po;clear CT hb6 hY5 Qg hF5 hc5;refine WM (.tuple #[.string s1,.slice a6 q1.length c6]) (.string s1) (.slice a6 q1.length c6) (Z5 g2 0)<|Zr rfl (Xe)<|ZV (.slice a6 q1.length c6)<|wn ?_;simp only[pu];rw[<- hq1] at hv2 HX HY;have CN:=UZ a6 c6 q1 V.heap.size 2 V7 hF7 hc6 hv2;generalize X5 2 (q1.map Prod.fst)=TN at *
    obtain⟨m2,R2⟩:=TN;dsimp only at *
    clear Xe Ea Yh Po XU Eb hvf hv2 hq1;go_upto_region 8 with fail;refine wl<|ZV (.slice a6 q1.length c6) <|
     XZ (fun v w'=>∃ a c qs,v=.tuple #[Z7 m2,.slice a qs.length c]/\N8 w' V.heap.size a qs/\qs.length<=c/\qs.map Prod.fst=R2/\Below V7.heap.size V7 w') (CN.mono fun e w' q=>by obtain⟨a,c,qs,h1,h2⟩:=q; exact⟨_,h1,a,c,qs,rfl,h2⟩) (fun v8 V8 hq=>?_)
    obtain⟨a8,c8,q2,rfl,hF8,hc8,hq2,hb8⟩:=hq;have hY8:=hY7.below hY7.lt hb8;have Ry:=Z9 (Vd.out.trans (hb8.mono Vd.out.size));obtain⟨V9,VJ,hY9,Tq,-⟩:=Zm (i:=1) (ty:=24) (v:=Z7 m2) (cs':=Yz (s1,m2)) hY8 Ry.out HG2.out (by show 1<2; decide) rfl (by kernel_rfl) rfl;have Zp:=Z9 Tq;clear CN hb8 hY7 Vd hF7 hc6 hF8 hc8 hY8 Ry;refine WM (.tuple #[Z7 m2,.slice a8 q2.length c8]) (Z7 m2) (.slice a8 q2.length c8) (Z5 g2 1)<|Zr rfl (VJ)<|ZV (.slice a8 q2.length c8)<|wn ?_;simp only[pu];rw[<- hq2] at HX HY;rw[List.length_map] at HX HY;clear VJ Tq hq2;obtain⟨n2,hn2⟩:=ZR q2.length;rw[hn2] at HX HY ⊢;clear hn2;go_upto_region 9 with fail;by_cases hz:n2=0
    ·refine wl<|ZG (.slice a8 n2 c8) (Z8 n2)<|ZN (Zo rfl (n2) (0) dF)<|wn ?_;simp only[pu];obtain⟨hst,hZ⟩:=Wq (y:=(s1,m2)) hY9;have uU:=Z9 (ZT Zp.out HG2.out (Yz (s1,m2)));have HE:=Z9 (oC.out _ _ uU.out (HY.out ⟨hk,hn,he,hz⟩));generalize World.setRow _ g2 (Yz (s1,m2))=VA at *
     clear ER oC HX HY uU Zp;go_upto_region 11 with fail;refine wl<|ZK rfl ⟨g2,0,none⟩ (.agg (Yz (s1,m2))) (YI hY9)<|Zr rfl (hst)<|ZV ZW<|wn ?_;simp only[pu];go_wp2_with fail;exact bodyPost_ret (ZO (p:=2) (q:=3) rfl (by kernel_rfl) (YI hZ) rfl) rfl HE.out
    ·refine wl<|ZG (.slice a8 n2 c8) (Z8 n2)<|ZN (Zo rfl (n2) (0) dT)<|wn ?_;simp only[pu];obtain⟨hst,hZ⟩:=Wq (y:=Uk) hY9;have uU:=Z9 (ZT Zp.out HG2.out (Yz Uk));have HE:=Z9 (ER.out _ uU.out (HX.out (fun q=>hz q.2.2.2)));generalize World.setRow _ g2 (Yz Uk)=VA at *
     clear ER oC HX HY;go_upto_region 10 with fail;refine wl<|ZV (.agg #[.string ⟨#[]⟩,Z7 0])<|Zr rfl (hst)<|ZV ZY<|wn ?_;simp only[pu];go_wp2_with fail;exact bodyPost_ret (ZO (p:=2) (q:=3) rfl (by kernel_rfl) (YI hZ) rfl) rfl HE.out
   ·refine wl<|ZV (Z8 e5)<|ZN (Za rfl e5 0 (decide_eq_false he))<|wn ?_;simp only[pu];obtain⟨hst,hZ⟩:=Wq (y:=Uk) hY5;have Zp:=Z9 (ZT Qg.out HG2.out (Yz Uk));have HE:=Z9 (ER.out _ Zp.out (HX.out (fun q=>he q.2.2.1)));generalize World.setRow _ g2 (Yz Uk)=V9 at *
    clear ER oC HX HY;go_upto_region 6 with fail;refine wl<|ZV (.agg #[.string ⟨#[]⟩,Z7 0])<|Zr rfl (hst)<|ZV ZY<|wn ?_;simp only[pu];go_wp2_with fail;exact bodyPost_ret (ZO (p:=2) (q:=3) rfl (by kernel_rfl) (YI hZ) rfl) rfl HE.out
  ·refine wl<|WM ZW ZY ZY (Z5 g0 0)<|ZK rfl ⟨g0,0,none⟩ (Z8 x.num) (rP.ZQ 0)<|ZN (IY rfl x.num 6 (decide_eq_false hn)) <|
    ZV ZW<|wn ?_
   simp only[pu];obtain⟨hst,hZ⟩:=Wq (y:=Uk) hYV;have Zp:=Z9 (ZT SY.out HG2.out (Yz Uk));have HE:=Z9 (ER.out _ Zp.out (HX.out (fun q=>hn q.2.1)));generalize World.setRow _ g2 (Yz Uk)=V9 at *
   clear ER oC HX HY;go_upto_region 3 with fail;refine wl<|ZV (.agg #[.string ⟨#[]⟩,Z7 0])<|Zr rfl (hst)<|ZV ZY<|wn ?_;simp only[pu];go_wp2_with fail;exact bodyPost_ret (ZO (p:=2) (q:=3) rfl (by kernel_rfl) (YI hZ) rfl) rfl HE.out
end Go.Proofs.YtfpnnmeblefkkaaGreatDoor
