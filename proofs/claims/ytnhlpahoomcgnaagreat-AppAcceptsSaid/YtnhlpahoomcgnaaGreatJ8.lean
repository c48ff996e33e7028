/-
  Texts joined.
-/
import Derived.Test.YtnhlpahoomcgnaaGreatJ7
set_option maxRecDepth 100000
set_option maxHeartbeats 8000000
set_option linter.unusedSimpArgs false
set_option linter.unusedVariables false
namespace Go.Proofs.YtnhlpahoomcgnaaGreat
attribute [local irreducible] wpList wpQuiet
open Go.RowKit
structure Ov (w:World)(B:Nat)(a:Option Addr)(ps:List (Ze×Value)):Prop where
 fs:Fs w a ps
 row:∀ x,a=some x->ps≠[]->B<=x.block
 byt:∀ p,p∈ps->∀ x n c,p.2=.slice (some x) n c->p.1.bytes≠[]->B<=x.block
 cap:∀ p,p∈ps->∀ x n c,p.2=.slice x n c->n<=c
theorem Ov.below {w w':World}{B:Nat}{a:Option Addr}{ps:List (Ze×Value)}(h:Ov w B a ps)(hb:Below w.heap.size w w'):Ov w' B a ps:=⟨h.fs.below hb,h.row,h.byt,h.cap⟩
theorem qw {w w':World}{g:Nat}{a:Option Addr}{c:Nat}{L:List Int}(h:Sl w a c L)(hb:But g w w')(hn:L≠[]->∀ x,a=some x->x.block≠g):Sl w' a c L:=by
 rcases h with h | ⟨x,rfl,hx⟩
 ·exact .inl h
 ·refine .inr ⟨x,rfl,fun k hk=>?_⟩;obtain⟨b,off,rfl,hc⟩:=hx k hk;have hne:b≠g:=hn (by intro e; rw[e] at hk; simp at hk) _ rfl;exact⟨b,off,rfl,(World.cell?_of_block (a:=⟨b,off+k,none⟩) (hb.2 b (World.block_lt_of_cell? w _ hc) hne)).trans hc⟩
theorem je {w w':World}{g b o:Nat}{num kind val:Int}{s:Option Addr}{n d:Nat}(h:Box w b o num kind val s n d)(hb:But g w w')(hn:b≠g):Box w' b o num kind val s n d:=by
 obtain⟨h0,h1,h2,h3⟩:=h;have key:∀ q v,w.cell? ⟨b,q,none⟩=some v->w'.cell? ⟨b,q,none⟩=some v:=fun q v hq=>(World.cell?_of_block (a:=⟨b,q,none⟩) (hb.2 b (World.block_lt_of_cell? w _ hq) hn)).trans hq;exact⟨key _ _ h0,key _ _ h1,key _ _ h2,key _ _ h3⟩
theorem Ov.but {w w':World}{B g:Nat}{a:Option Addr}{ps:List (Ze×Value)}(h:Ov w B a ps)(hb:But g w w')(hg:g<B):Ov w' B a ps:=by
 refine⟨fun i p hp=>?_,h.row,h.byt,h.cap⟩;obtain⟨b,off,ba,bc,rfl,h2,hs,hx⟩:=h.fs i p hp;have hm:=List.mem_of_getElem? hp;have h1:=h.row _ rfl (by intro e; rw[e] at hm; cases hm);refine⟨b,off,ba,bc,rfl,h2,qw hs hb (fun hne x hx=>?_),je hx hb (by have:B<=b:=h1; omega)⟩;subst hx;have:=h.byt p hm x _ _ h2 hne;omega
theorem Ov.nil (w:World)(B:Nat)(a:Option Addr):Ov w B a []:=⟨fun i p h=>by simp at h,fun x _ h=>absurd rfl h,fun p h=>(by cases h),fun p h=>(by cases h)⟩
theorem Ov.tail {w:World}{B:Nat}{a:Option Addr}{p:Ze×Value}{r:List (Ze×Value)}(h:Ov w B a (p::r))(c:Nat)(hc:(p::r).length<=c):Ov w B (Yt 4 a c 1) r:=by
 cases r with
 | nil=>exact Ov.nil _ _ _
 | cons q r=>
  have hc1:¬ c=1:=by simp at hc; omega
  obtain⟨b,off,ba,bc,rfl,-⟩:=h.fs 0 p rfl;have e:Yt 4 (some ⟨b,off,none⟩) c 1=some ⟨b,off+4,none⟩:=by
   unfold Yt;rw[if_neg hc1];simp only[Option.map_some];rw[Addr.add_mid]
  rw[e];refine⟨fun i p2 hp=>?_,fun x hx _=>?_,fun p2 hp=>h.byt p2 (by simp[hp]),fun p2 hp=>h.cap p2 (by simp[hp])⟩
  ·obtain⟨b2,off2,ba2,bc2,e2,h2,hs,hx⟩:=h.fs (i+1) p2 (by simpa using hp);simp only[Option.some.injEq,Addr.mk.injEq,and_true] at e2;obtain⟨rfl,rfl⟩:=e2;refine⟨b,off+4,ba2,bc2,rfl,h2,hs,?_⟩;rw[show off+4+i*4=off+(i+1)*4 by omega];exact hx
  ·cases hx;exact h.row ⟨b,off,none⟩ rfl (by simp)
theorem UH.fsb {w:World}{B:Nat}{v:Value}{ps:List (Ze×Value)}(h:UH w B v ps):∃ a c,v=.slice a ps.length c/\ps.length<=c/\Ov w B a ps:=by
 obtain⟨a,c,rfl,hc,hf⟩:=h.fs;refine⟨a,c,rfl,hc,hf,fun x hx hn=>?_,fun p hp x n d e hn=>?_,fun p hp x n d e=>?_⟩
 ·have h0:0<ps.length:=List.length_pos_iff.2 hn;obtain⟨g,rfl,hg,-⟩:=Sr h.1 h0;cases hx;exact hg
 ·have ho:=h.2 p hp;rw[e] at ho;obtain⟨a2,c2,e2,-,-⟩:=ho.sl;simp only[Value.slice.injEq] at e2;have h0:0<p.1.bytes.length:=List.length_pos_iff.2 hn;unfold Own at ho;rw[e2.2.1] at ho;obtain⟨g,hx,hg,-⟩:=Sr ho h0;cases hx;exact hg
 ·have ho:=h.2 p hp;rw[e] at ho;obtain⟨a2,c2,e2,-,hle⟩:=ho.sl;simp only[Value.slice.injEq] at e2;omega
def Nc (x:Ze)(b:Option Addr)(d:Nat):Value:=if x.kind=0 then .iface 27 (Z4 x.val) else .iface 23 (.slice b x.bytes.length d)
theorem G7 (x:Ze)(b:Option Addr)(d:Nat)(w:World):Calls Tryz.prog 129 #[.agg (Xd x b d)] w fun e w'=>e=.returned (Nc x b d)/\Below w.heap.size w w':=by
 have hb0:Below w.heap.size w (w.alloc (.cells (Xd x b d) 111)):=(Below.refl _ w).alloc (Nat.le_refl _) _;have hX0:Bx (w.alloc (.cells (Xd x b d) 111)) w.heap.size (Xd x b d) 111:=heap_alloc_last w _;have HB0:=Z9 hb0;have HV1:Hid (x.kind=0->Nc x b d=.iface 27 (Z4 x.val)):=Z9 fun h=>if_pos h;have HV2:Hid (x.kind≠0->Nc x b d=.iface 23 (.slice b x.bytes.length d)):=Z9 fun h=>if_neg h;generalize Nc x b d=vv at *
 go_enter Tryz.func129,Tryz.ntmps129;go_upto_region 1 with fail;change Code.wp _ _ _ _ (w.alloc (.cells (Xd x b d) 111));generalize w.alloc (.cells (Xd x b d) 111)=W at *
 obtain⟨g0,hg0⟩:=ZR w.heap.size;rw[hg0] at hX0;simp only[hg0];clear hb0 hg0;by_cases hk:x.kind=0
 ·have HE:=Z9 (HV1.out hk);clear HV1 HV2;refine wl<|ZV (Z5 g0 1)<|ZL rfl ⟨g0,1,none⟩ (Z8 x.kind) (hX0.ZP 1)<|ZJ (NZ rfl x.kind (decide_eq_true hk))<|wn ?_;simp only[pu];go_upto_region 2 with fail;refine wl<|ZV (Z5 g0 2)<|ZL rfl ⟨g0,2,none⟩ (Z4 x.val) (hX0.ZP 2)<|ZA (.iface 27 (Z4 x.val)) (.iface 27 (Z4 x.val))<|wn ?_;simp only[pu];go_wp2_with fail;go_ret;rw[HE.out];exact⟨rfl,HB0.out⟩
 ·have HE:=Z9 (HV2.out hk);clear HV1 HV2;refine wl<|ZV (Z5 g0 1)<|ZL rfl ⟨g0,1,none⟩ (Z8 x.kind) (hX0.ZP 1)<|ZJ (NZ rfl x.kind (decide_eq_false hk))<|wn ?_;simp only[pu];go_upto_region 3 with fail;refine wl<|ZV (Z5 g0 3)<|ZL rfl ⟨g0,3,none⟩ (.slice b x.bytes.length d) (hX0.ZP 3)<|ZA (.iface 23 (.slice b x.bytes.length d)) (.iface 23 (.slice b x.bytes.length d))<|wn ?_;simp only[pu];go_wp2_with fail;go_ret;rw[HE.out];exact⟨rfl,HB0.out⟩
def Nb (w:World)(B:Nat)(X:Value)(ps:List (Ze×Value))(rest:List Ze)(e:Ending)(w':World):Prop:=∃ a c qs,e=.returned (.tuple #[X,.slice a qs.length c])/\Ov w' B a qs/\qs.length<=c/\qs.map Prod.fst=rest/\Below w.heap.size w w'
theorem ZB {ρ:Operand->Value}{o:Oper}{x y:Operand}(ho:o.op=.binOp .eql 3 x y 3)(a b:Int){t:Bool}(ht:decide (a=b)=t)(hx:ρ x=Z8 a)(hy:ρ y=Z8 b)(w:World):(execOp ρ o).run Tryz.prog w=.ok (.value (.bool t)) w:=by
 have e:(a == b)=t:=ht;unfold execOp;simp only[ho,hx,hy];go_simp
theorem Fq {ρ:Operand->Value}{o:Oper}{x y:Operand}(ho:o.op=.binOp .neq 3 x y 3)(a b:Int){t:Bool}(ht:decide (a=b)=t)(hx:ρ x=Z8 a)(hy:ρ y=Z8 b)(w:World):(execOp ρ o).run Tryz.prog w=.ok (.value (.bool (!t))) w:=by
 have e:(a != b) = !t:=by rw[<- ht]; rfl
 unfold execOp;simp only[ho,hx,hy];go_simp
theorem qo {ρ:Operand->Value}{o:Oper}{x y:Operand}(ho:o.op=.binOp .gtr 27 x y 27)(a b:Int){t:Bool}(ht:decide (b<a)=t)(hx:ρ x=Z4 a)(hy:ρ y=Z4 b)(w:World):(execOp ρ o).run Tryz.prog w=.ok (.value (.bool t)) w:=by
 rw[<- ht];unfold execOp;simp only[ho,hx,hy];go_simp
theorem N8 {ρ:Operand->Value}{o:Oper}{x:Operand}(ho:o.op=.convert 23 9 x){w:World}{a:Option Addr}{c:Nat}{L:List Int}(h:Sl w a c L)(hx:ρ x=.slice a L.length c):(execOp ρ o).run Tryz.prog w=.ok (.value (.string (strOfNums L))) w:=by
 have h2:=jd h;unfold execOp;simp only[ho,hx,Sem.run_bind,h2];rfl
theorem Bl (a:Option Addr)(n c k:Nat)(w:World)(h:k<=n):(Instr.slice 106 (.slice a n c) (some (Z8 (k:Int))) none none).run Tryz.prog w=.ok (.slice (Yt 4 a c k) (n-k) (c-k)) w:=
 Fb (s:=4) (by kernel_rfl) (fun w=>by kernel_rfl) a n c k w h
theorem NH (a:Option Addr)(n c:Nat)(w:World)(h:0<n):(Instr.slice 106 (.slice a n c) (some (Z8 1)) none none).run Tryz.prog w=.ok (.slice (Yt 4 a c 1) (n-1) (c-1)) w:=by
 have q:=Bl a n c 1 w h;have e:((1:Nat):Int)=1:=rfl;rwa [e] at q
theorem qm {ρ:Operand->Value}{o:Oper}{x:Operand}{a:Option Addr}{n c:Nat}{V:World}{v:Value}(ho:o.op=.slice 106 x (some (.const (Z8 1))) none none)(hx:ρ x=.slice a n c)(h:(Instr.slice 106 (.slice a n c) (some (Z8 1)) none none).run Tryz.prog V=.ok v V)(hc:ρ (.const (Z8 1))=Z8 1):(execOp ρ o).run Tryz.prog V=.ok (.value v) V:=by
 have h2:(Instr.sliceAt 106 (.slice a n c) (some (Z8 1)) none none).run Tryz.prog V=.ok v V:=h;unfold execOp;simp only[ho,hx,Option.map_some,Option.map_none,hc,Sem.run_bind,h2];rfl
theorem Sl.ay2 {w:World}{a:Option Addr}{c:Nat}{L:List Int}(h:Sl w a c L):Sl w.drew a c L:=h
theorem PX (a:Option Addr)(c:Nat)(ps:List (Ze×Value))(B:Nat)(k:Int)(w:World)(hF:Ov w B a ps)(hc:ps.length<=c)(hv:∀ f,f∈ps.map Prod.fst->Vf f) :
  Calls Tryz.prog 117 #[.slice a ps.length c,Z8 k] w (Nb w B (.string (Xz k (ps.map Prod.fst)).1) ps (Xz k (ps.map Prod.fst)).2):=by
 cases ps with
 | nil=>
  have HE:=Z9 (⟨a,c,[],rfl,hF,hc,rfl,Below.refl _ _⟩:Nb w B (.string ⟨#[]⟩) [] [] (.returned (.tuple #[.string ⟨#[]⟩,.slice a 0 c])) w);clear hF hv;change Calls _ _ #[.slice a 0 c,Z8 k] _ (Nb w B (.string ⟨#[]⟩) [] []);go_enter Tryz.func117,Tryz.ntmps117;go_upto_region 1 with fail;refine wl<|ZA (.slice a 0 c) (Z8 0)<|ZJ (Zo rfl (0) (0) (decide_eq_false (by decide)))<|YW ZY undef undef undef undef undef<|ZA undef ZY<|wn ?_;simp only[pu];go_upto_region 5 with fail;refine wl<|Yr (.slice a 0 c) (.string ⟨#[]⟩) (.slice a 0 c)<|wn ?_;simp only[pu];go_wp2_with fail;go_ret2;exact HE.out
 | cons p r=>
  have hvp:=hv p.1 (by simp);have Tq:=hF;obtain⟨b,off,ba,bc,rfl,hp2,hsl,hbox⟩:=hF.fs 0 p rfl;obtain⟨n,hn⟩:=ZR ((p::r).length);have hn0:0<n:=by rw[<- hn]; simp
  have EG:Hid (∀ w',Below w.heap.size w w'->Xz k ((p::r).map Prod.fst)=(WE,(p::r).map Prod.fst)->Nb w B (.string (Xz k ((p::r).map Prod.fst)).1) (p::r) (Xz k ((p::r).map Prod.fst)).2 (.returned (.tuple #[.string ⟨#[]⟩,.slice (some ⟨b,off,none⟩) n c])) w'):=Z9 fun w' hb e=>⟨_,c,p::r,by rw[hn,e]; rfl,Tq.below hb,hc,by rw[e],hb⟩;have hTL:Hid (∀ w',Below w.heap.size w w'->Nb w B (.string (strOfNums p.1.bytes)) (p::r) (r.map Prod.fst) (.returned (.tuple #[.string (strOfNums p.1.bytes),.slice (Yt 4 (some ⟨b,off,none⟩) c 1) (n-1) (c-1)])) w'):=Z9 fun w' hb=>⟨_,c-1,r,by rw[<- hn]; rfl,(Tq.below hb).tail c hc,by simp at hc; omega,rfl,hb⟩;have hcut:=fun V=>NH (some ⟨b,off,none⟩) n c V hn0;have CV:=fun V=>G7 p.1 ba bc V;rw[List.map_cons] at EG ⊢;rw[hn];obtain⟨x,v⟩:=p;simp only at *
  have hkd:x.kind=0∨x.kind=2:=by
   rcases hvp.1.2.2 with q | q
   ·exact .inl q.1
   ·exact .inr q.1
  have hld:=RV (S9 hbox);have hnum:=hbox.1;have hval:=hvp.2.1;generalize r.map Prod.fst=R at *
  clear hF Tq hv hvp hbox hp2 hn hc;rcases (show x.num≠k∨(x.num=k/\x.kind=0)∨(x.num=k/\x.kind=2/\0<x.bytes.length)∨(x.num=k/\x.kind=2/\¬ (0<x.bytes.length)) by omega) with hcs | hcs | hcs | hcs
  ·have hE:Xz k (x::R)=(WE,x::R):=QH (by intro q; omega);have Vp:=Z9 (fun w' hb=>EG.out w' hb hE);clear EG hTL hE;go_enter Tryz.func117,Tryz.ntmps117;go_upto_region 1 with fail;refine wl<|ZA (.slice (some ⟨b,off,none⟩) n c) (Z8 n)<|ZJ (Zo rfl (n) (0) dT)<|ZA ZW (.slice (some ⟨b,off,none⟩) n c) <|
    YG (Z5 b (off+0*4)) (Xr b off n c 0 hn0 _ _ _ rfl (by kernel_rfl) (by kernel_rfl))<|ZV (Z5 b (off+0*4))<|ZL rfl ⟨b,off+0*4,none⟩ (Z8 x.num) (X8 hnum (by kernel_rfl))<|ZV (Z8 k) <|
    ZJ (ZB rfl (x.num) (k) (decide_eq_false (hcs)))<|ZV ZY<|wn ?_
   simp only[pu];have HE:=Z9 (Vp.out w (Below.refl _ _));clear Vp;go_upto_region 5 with fail;refine wl<|Yr (.slice (some ⟨b,off,none⟩) n c) (.string ⟨#[]⟩) (.slice (some ⟨b,off,none⟩) n c)<|wn ?_;simp only[pu];go_wp2_with fail;go_ret2;exact HE.out
  ·have hE:Xz k (x::R)=(WE,x::R):=QH (by intro q; omega);have Vp:=Z9 (fun w' hb=>EG.out w' hb hE);clear EG hTL hE;go_enter Tryz.func117,Tryz.ntmps117;go_upto_region 1 with fail;refine wl<|ZA (.slice (some ⟨b,off,none⟩) n c) (Z8 n)<|ZJ (Zo rfl (n) (0) dT)<|ZA ZW (.slice (some ⟨b,off,none⟩) n c) <|
    YG (Z5 b (off+0*4)) (Xr b off n c 0 hn0 _ _ _ rfl (by kernel_rfl) (by kernel_rfl))<|ZV (Z5 b (off+0*4))<|ZL rfl ⟨b,off+0*4,none⟩ (Z8 x.num) (X8 hnum (by kernel_rfl))<|ZV (Z8 k) <|
    ZJ (ZB rfl (x.num) (k) (decide_eq_true (hcs.1)))<|ZV ZW<|wn ?_
   simp only[pu];have Qh:Calls Tryz.prog 129 #[.agg (Xd x ba bc)] w fun e w'=>e=.returned (.iface 27 (Z4 x.val))/\Below w.heap.size w w':=(CV w).mono fun e w' q=>⟨by rw[q.1,Nc,if_pos (by omega)],q.2⟩;clear CV;go_upto_region 2 with fail;refine wl<|ZV (.slice (some ⟨b,off,none⟩) n c)<|YG (Z5 b (off+0*4)) (Xr b off n c 0 hn0 _ _ _ rfl (by kernel_rfl) (by kernel_rfl))<|ZL rfl ⟨b,off+0*4,none⟩ (.agg (Xd x ba bc)) (hld) <|
    YS (.iface 27 (Z4 x.val)) (fun w'=>Below w.heap.size w w') Qh (fun V hV=>?_)
   refine YW (.tuple #[.slice none 0 0,ZY]) (.tuple #[.slice none 0 0,ZY]) (.slice none 0 0) ZY (.slice none 0 0) ZY<|wn ?_;simp only[pu];have ql:=Z9 hV;have kS:=ZK hsl hV;clear Qh hV;go_upto_region 3 with fail;refine wl<|YW ZY ZY undef undef undef ZY<|wn ?_;simp only[pu];have HE:=Z9 (Vp.out V ql.out);clear Vp;go_upto_region 5 with fail;refine wl<|Yr (.slice (some ⟨b,off,none⟩) n c) (.string ⟨#[]⟩) (.slice (some ⟨b,off,none⟩) n c)<|wn ?_;simp only[pu];go_wp2_with fail;go_ret2;exact HE.out
  ·have hE:Xz k (x::R)=(strOfNums x.bytes,R):=OU ⟨hcs.1,hcs.2.1,by omega⟩;have Df:Hid (∀ w',Below w.heap.size w w'->Nb w B (.string (Xz k (x::R)).1) ((x,v)::r) (Xz k (x::R)).2 (.returned (.tuple #[.string (strOfNums x.bytes),.slice (Yt 4 (some ⟨b,off,none⟩) c 1) (n-1) (c-1)])) w'):=Z9 (by rw[hE]; exact hTL.out);clear EG hTL hE;go_enter Tryz.func117,Tryz.ntmps117;go_upto_region 1 with fail;refine wl<|ZA (.slice (some ⟨b,off,none⟩) n c) (Z8 n)<|ZJ (Zo rfl (n) (0) dT)<|ZA ZW (.slice (some ⟨b,off,none⟩) n c) <|
    YG (Z5 b (off+0*4)) (Xr b off n c 0 hn0 _ _ _ rfl (by kernel_rfl) (by kernel_rfl))<|ZV (Z5 b (off+0*4))<|ZL rfl ⟨b,off+0*4,none⟩ (Z8 x.num) (X8 hnum (by kernel_rfl))<|ZV (Z8 k) <|
    ZJ (ZB rfl (x.num) (k) (decide_eq_true (hcs.1)))<|ZV ZW<|wn ?_
   simp only[pu];have Qh:Calls Tryz.prog 129 #[.agg (Xd x ba bc)] w fun e w'=>e=.returned (.iface 23 (.slice ba x.bytes.length bc))/\Below w.heap.size w w':=(CV w).mono fun e w' q=>⟨by rw[q.1,Nc,if_neg (by omega)],q.2⟩;clear CV;go_upto_region 2 with fail;refine wl<|ZV (.slice (some ⟨b,off,none⟩) n c)<|YG (Z5 b (off+0*4)) (Xr b off n c 0 hn0 _ _ _ rfl (by kernel_rfl) (by kernel_rfl))<|ZL rfl ⟨b,off+0*4,none⟩ (.agg (Xd x ba bc)) (hld) <|
    YS (.iface 23 (.slice ba x.bytes.length bc)) (fun w'=>Below w.heap.size w w') Qh (fun V hV=>?_)
   refine YW (.tuple #[.slice ba x.bytes.length bc,ZW]) (.tuple #[.slice ba x.bytes.length bc,ZW]) (.slice ba x.bytes.length bc) ZW (.slice ba x.bytes.length bc) ZW<|wn ?_;simp only[pu];have ql:=Z9 hV;have kS:=ZK hsl hV;clear Qh hV;go_upto_region 3 with fail;refine wl<|WL ZW ZW (.slice ba x.bytes.length bc) (Z8 x.bytes.length)<|ZJ (Zo rfl (x.bytes.length) (0) dT)<|ZV ZW<|wn ?_;simp only[pu];have HE:=Z9 (Df.out V.drew ql.out.drew);clear Df hcs;go_upto_region 4 with fail;refine ZH (C:=fun U=>U=V.drew) (by kernel_rfl) (by kernel_rfl) (rfl) ?_;refine gy (.slice ba x.bytes.length bc)<|XU (.string (strOfNums x.bytes)) (fun U hU=>by rw[hU]; exact N8 rfl (kS.ay2) (by kernel_rfl))<|gy (.slice (some ⟨b,off,none⟩) n c) <|
     XU (.slice (Yt 4 (some ⟨b,off,none⟩) c 1) (n-1) (c-1)) (fun U hU=>by rw[hU]; exact qm rfl (by kernel_rfl) (hcut V.drew) (by kernel_rfl))<|gy (.string (strOfNums x.bytes))<|gy (.slice (Yt 4 (some ⟨b,off,none⟩) c 1) (n-1) (c-1)) ?_
   simp only[pu];apply wpQuiet_nil;intro U hU;subst hU;go_wp2_with fail;go_ret2;exact HE.out
  ·have hE:Xz k (x::R)=(WE,x::R):=QH (by intro q; omega);have Vp:=Z9 (fun w' hb=>EG.out w' hb hE);clear EG hTL hE;go_enter Tryz.func117,Tryz.ntmps117;go_upto_region 1 with fail;refine wl<|ZA (.slice (some ⟨b,off,none⟩) n c) (Z8 n)<|ZJ (Zo rfl (n) (0) dT)<|ZA ZW (.slice (some ⟨b,off,none⟩) n c) <|
    YG (Z5 b (off+0*4)) (Xr b off n c 0 hn0 _ _ _ rfl (by kernel_rfl) (by kernel_rfl))<|ZV (Z5 b (off+0*4))<|ZL rfl ⟨b,off+0*4,none⟩ (Z8 x.num) (X8 hnum (by kernel_rfl))<|ZV (Z8 k) <|
    ZJ (ZB rfl (x.num) (k) (decide_eq_true (hcs.1)))<|ZV ZW<|wn ?_
   simp only[pu];have Qh:Calls Tryz.prog 129 #[.agg (Xd x ba bc)] w fun e w'=>e=.returned (.iface 23 (.slice ba x.bytes.length bc))/\Below w.heap.size w w':=(CV w).mono fun e w' q=>⟨by rw[q.1,Nc,if_neg (by omega)],q.2⟩;clear CV;go_upto_region 2 with fail;refine wl<|ZV (.slice (some ⟨b,off,none⟩) n c)<|YG (Z5 b (off+0*4)) (Xr b off n c 0 hn0 _ _ _ rfl (by kernel_rfl) (by kernel_rfl))<|ZL rfl ⟨b,off+0*4,none⟩ (.agg (Xd x ba bc)) (hld) <|
    YS (.iface 23 (.slice ba x.bytes.length bc)) (fun w'=>Below w.heap.size w w') Qh (fun V hV=>?_)
   refine YW (.tuple #[.slice ba x.bytes.length bc,ZW]) (.tuple #[.slice ba x.bytes.length bc,ZW]) (.slice ba x.bytes.length bc) ZW (.slice ba x.bytes.length bc) ZW<|wn ?_;simp only[pu];have ql:=Z9 hV;have kS:=ZK hsl hV;clear Qh hV;go_upto_region 3 with fail;refine wl<|WL ZW ZW (.slice ba x.bytes.length bc) (Z8 x.bytes.length)<|ZJ (Zo rfl (x.bytes.length) (0) dF)<|ZV ZY<|wn ?_;simp only[pu];have HE:=Z9 (Vp.out V ql.out);clear Vp;go_upto_region 5 with fail;refine wl<|Yr (.slice (some ⟨b,off,none⟩) n c) (.string ⟨#[]⟩) (.slice (some ⟨b,off,none⟩) n c)<|wn ?_;simp only[pu];go_wp2_with fail;go_ret2;exact HE.out
theorem UG (a:Option Addr)(c:Nat)(ps:List (Ze×Value))(B:Nat)(k:Int)(w:World)(hF:Ov w B a ps)(hc:ps.length<=c)(hv:∀ f,f∈ps.map Prod.fst->Vf f) :
  Calls Tryz.prog 118 #[.slice a ps.length c,Z8 k] w (Nb w B (Z4 (XV k (ps.map Prod.fst)).1) ps (XV k (ps.map Prod.fst)).2):=by
 cases ps with
 | nil=>
  have HE:=Z9 (⟨a,c,[],rfl,hF,hc,rfl,Below.refl _ _⟩:Nb w B (Z4 0) [] [] (.returned (.tuple #[Z4 0,.slice a 0 c])) w);clear hF hv;change Calls _ _ #[.slice a 0 c,Z8 k] _ (Nb w B (Z4 0) [] []);go_enter Tryz.func118,Tryz.ntmps118;go_upto_region 1 with fail;refine wl<|ZA (.slice a 0 c) (Z8 0)<|ZJ (Zo rfl (0) (0) (decide_eq_false (by decide)))<|YW ZY undef undef undef undef undef<|ZA undef ZY<|wn ?_;simp only[pu];go_upto_region 5 with fail;refine wl<|Yr (.slice a 0 c) (Z4 0) (.slice a 0 c)<|wn ?_;simp only[pu];go_wp2_with fail;go_ret2;exact HE.out
 | cons p r=>
  have hvp:=hv p.1 (by simp);have Tq:=hF;obtain⟨b,off,ba,bc,rfl,hp2,hsl,hbox⟩:=hF.fs 0 p rfl;obtain⟨n,hn⟩:=ZR ((p::r).length);have hn0:0<n:=by rw[<- hn]; simp
  have EG:Hid (∀ w',Below w.heap.size w w'->XV k ((p::r).map Prod.fst)=(0,(p::r).map Prod.fst)->Nb w B (Z4 (XV k ((p::r).map Prod.fst)).1) (p::r) (XV k ((p::r).map Prod.fst)).2 (.returned (.tuple #[Z4 0,.slice (some ⟨b,off,none⟩) n c])) w'):=Z9 fun w' hb e=>⟨_,c,p::r,by rw[hn,e],Tq.below hb,hc,by rw[e],hb⟩;have hTL:Hid (∀ w',Below w.heap.size w w'->Nb w B (Z4 p.1.val) (p::r) (r.map Prod.fst) (.returned (.tuple #[Z4 p.1.val,.slice (Yt 4 (some ⟨b,off,none⟩) c 1) (n-1) (c-1)])) w'):=Z9 fun w' hb=>⟨_,c-1,r,by rw[<- hn]; rfl,(Tq.below hb).tail c hc,by simp at hc; omega,rfl,hb⟩;have hcut:=fun V=>NH (some ⟨b,off,none⟩) n c V hn0;have CV:=fun V=>G7 p.1 ba bc V;rw[List.map_cons] at EG ⊢;rw[hn];obtain⟨x,v⟩:=p;simp only at *
  have hkd:x.kind=0∨x.kind=2:=by
   rcases hvp.1.2.2 with q | q
   ·exact .inl q.1
   ·exact .inr q.1
  have hld:=RV (S9 hbox);have hnum:=hbox.1;have hval:=hvp.2.1;generalize r.map Prod.fst=R at *
  clear hF Tq hv hvp hbox hp2 hn hc;rcases (show x.num≠k∨(x.num=k/\x.kind=2)∨(x.num=k/\x.kind=0/\0<x.val)∨(x.num=k/\x.kind=0/\¬ (0<x.val)) by omega) with hcs | hcs | hcs | hcs
  ·have hE:XV k (x::R)=(0,x::R):=RU (by intro q; omega);have Vp:=Z9 (fun w' hb=>EG.out w' hb hE);clear EG hTL hE;go_enter Tryz.func118,Tryz.ntmps118;go_upto_region 1 with fail;refine wl<|ZA (.slice (some ⟨b,off,none⟩) n c) (Z8 n)<|ZJ (Zo rfl (n) (0) dT)<|ZA ZW (.slice (some ⟨b,off,none⟩) n c) <|
    YG (Z5 b (off+0*4)) (Xr b off n c 0 hn0 _ _ _ rfl (by kernel_rfl) (by kernel_rfl))<|ZV (Z5 b (off+0*4))<|ZL rfl ⟨b,off+0*4,none⟩ (Z8 x.num) (X8 hnum (by kernel_rfl))<|ZV (Z8 k) <|
    ZJ (ZB rfl (x.num) (k) (decide_eq_false (hcs)))<|ZV ZY<|wn ?_
   simp only[pu];have HE:=Z9 (Vp.out w (Below.refl _ _));clear Vp;go_upto_region 5 with fail;refine wl<|Yr (.slice (some ⟨b,off,none⟩) n c) (Z4 0) (.slice (some ⟨b,off,none⟩) n c)<|wn ?_;simp only[pu];go_wp2_with fail;go_ret2;exact HE.out
  ·have hE:XV k (x::R)=(0,x::R):=RU (by intro q; omega);have Vp:=Z9 (fun w' hb=>EG.out w' hb hE);clear EG hTL hE;go_enter Tryz.func118,Tryz.ntmps118;go_upto_region 1 with fail;refine wl<|ZA (.slice (some ⟨b,off,none⟩) n c) (Z8 n)<|ZJ (Zo rfl (n) (0) dT)<|ZA ZW (.slice (some ⟨b,off,none⟩) n c) <|
    YG (Z5 b (off+0*4)) (Xr b off n c 0 hn0 _ _ _ rfl (by kernel_rfl) (by kernel_rfl))<|ZV (Z5 b (off+0*4))<|ZL rfl ⟨b,off+0*4,none⟩ (Z8 x.num) (X8 hnum (by kernel_rfl))<|ZV (Z8 k) <|
    ZJ (ZB rfl (x.num) (k) (decide_eq_true (hcs.1)))<|ZV ZW<|wn ?_
   simp only[pu];have Qh:Calls Tryz.prog 129 #[.agg (Xd x ba bc)] w fun e w'=>e=.returned (.iface 23 (.slice ba x.bytes.length bc))/\Below w.heap.size w w':=(CV w).mono fun e w' q=>⟨by rw[q.1,Nc,if_neg (by omega)],q.2⟩;clear CV;go_upto_region 2 with fail;refine wl<|ZV (.slice (some ⟨b,off,none⟩) n c)<|YG (Z5 b (off+0*4)) (Xr b off n c 0 hn0 _ _ _ rfl (by kernel_rfl) (by kernel_rfl))<|ZL rfl ⟨b,off+0*4,none⟩ (.agg (Xd x ba bc)) (hld) <|
    YS (.iface 23 (.slice ba x.bytes.length bc)) (fun w'=>Below w.heap.size w w') Qh (fun V hV=>?_)
   refine YW (.tuple #[Z4 0,ZY]) (.tuple #[Z4 0,ZY]) (Z4 0) ZY (Z4 0) ZY<|wn ?_;simp only[pu];have ql:=Z9 hV;have kS:=ZK hsl hV;clear Qh hV;go_upto_region 3 with fail;refine wl<|SG ZY ZY undef undef ZY<|wn ?_;simp only[pu];have HE:=Z9 (Vp.out V ql.out);clear Vp;go_upto_region 5 with fail;refine wl<|Yr (.slice (some ⟨b,off,none⟩) n c) (Z4 0) (.slice (some ⟨b,off,none⟩) n c)<|wn ?_;simp only[pu];go_wp2_with fail;go_ret2;exact HE.out
  ·have hE:XV k (x::R)=(x.val,R):=QW ⟨hcs.1,hcs.2.1,by omega⟩;have Df:Hid (∀ w',Below w.heap.size w w'->Nb w B (Z4 (XV k (x::R)).1) ((x,v)::r) (XV k (x::R)).2 (.returned (.tuple #[Z4 x.val,.slice (Yt 4 (some ⟨b,off,none⟩) c 1) (n-1) (c-1)])) w'):=Z9 (by rw[hE]; exact hTL.out);clear EG hTL hE;go_enter Tryz.func118,Tryz.ntmps118;go_upto_region 1 with fail;refine wl<|ZA (.slice (some ⟨b,off,none⟩) n c) (Z8 n)<|ZJ (Zo rfl (n) (0) dT)<|ZA ZW (.slice (some ⟨b,off,none⟩) n c) <|
    YG (Z5 b (off+0*4)) (Xr b off n c 0 hn0 _ _ _ rfl (by kernel_rfl) (by kernel_rfl))<|ZV (Z5 b (off+0*4))<|ZL rfl ⟨b,off+0*4,none⟩ (Z8 x.num) (X8 hnum (by kernel_rfl))<|ZV (Z8 k) <|
    ZJ (ZB rfl (x.num) (k) (decide_eq_true (hcs.1)))<|ZV ZW<|wn ?_
   simp only[pu];have Qh:Calls Tryz.prog 129 #[.agg (Xd x ba bc)] w fun e w'=>e=.returned (.iface 27 (Z4 x.val))/\Below w.heap.size w w':=(CV w).mono fun e w' q=>⟨by rw[q.1,Nc,if_pos (by omega)],q.2⟩;clear CV;go_upto_region 2 with fail;refine wl<|ZV (.slice (some ⟨b,off,none⟩) n c)<|YG (Z5 b (off+0*4)) (Xr b off n c 0 hn0 _ _ _ rfl (by kernel_rfl) (by kernel_rfl))<|ZL rfl ⟨b,off+0*4,none⟩ (.agg (Xd x ba bc)) (hld) <|
    YS (.iface 27 (Z4 x.val)) (fun w'=>Below w.heap.size w w') Qh (fun V hV=>?_)
   refine YW (.tuple #[Z4 x.val,ZW]) (.tuple #[Z4 x.val,ZW]) (Z4 x.val) ZW (Z4 x.val) ZW<|wn ?_;simp only[pu];have ql:=Z9 hV;have kS:=ZK hsl hV;clear Qh hV;go_upto_region 3 with fail;refine wl<|Yr ZW ZW (Z4 x.val)<|ZJ (qo rfl (x.val) (0) dT)<|ZV ZW<|wn ?_;simp only[pu];have HE:=Z9 (Df.out V.drew ql.out.drew);clear Df hcs;go_upto_region 4 with fail;refine ZH (C:=fun U=>U=V.drew) (by kernel_rfl) (by kernel_rfl) (rfl) ?_;refine gy (Z4 x.val)<|gy (.slice (some ⟨b,off,none⟩) n c)<|XU (.slice (Yt 4 (some ⟨b,off,none⟩) c 1) (n-1) (c-1)) (fun U hU=>by rw[hU]; exact qm rfl (by kernel_rfl) (hcut V.drew) (by kernel_rfl))<|gy (Z4 x.val) <|
     gy (.slice (Yt 4 (some ⟨b,off,none⟩) c 1) (n-1) (c-1)) ?_
   simp only[pu];apply wpQuiet_nil;intro U hU;subst hU;go_wp2_with fail;go_ret2;exact HE.out
  ·have hE:XV k (x::R)=(0,x::R):=RU (by intro q; omega);have Vp:=Z9 (fun w' hb=>EG.out w' hb hE);clear EG hTL hE;go_enter Tryz.func118,Tryz.ntmps118;go_upto_region 1 with fail;refine wl<|ZA (.slice (some ⟨b,off,none⟩) n c) (Z8 n)<|ZJ (Zo rfl (n) (0) dT)<|ZA ZW (.slice (some ⟨b,off,none⟩) n c) <|
    YG (Z5 b (off+0*4)) (Xr b off n c 0 hn0 _ _ _ rfl (by kernel_rfl) (by kernel_rfl))<|ZV (Z5 b (off+0*4))<|ZL rfl ⟨b,off+0*4,none⟩ (Z8 x.num) (X8 hnum (by kernel_rfl))<|ZV (Z8 k) <|
    ZJ (ZB rfl (x.num) (k) (decide_eq_true (hcs.1)))<|ZV ZW<|wn ?_
   simp only[pu];have Qh:Calls Tryz.prog 129 #[.agg (Xd x ba bc)] w fun e w'=>e=.returned (.iface 27 (Z4 x.val))/\Below w.heap.size w w':=(CV w).mono fun e w' q=>⟨by rw[q.1,Nc,if_pos (by omega)],q.2⟩;clear CV;go_upto_region 2 with fail;refine wl<|ZV (.slice (some ⟨b,off,none⟩) n c)<|YG (Z5 b (off+0*4)) (Xr b off n c 0 hn0 _ _ _ rfl (by kernel_rfl) (by kernel_rfl))<|ZL rfl ⟨b,off+0*4,none⟩ (.agg (Xd x ba bc)) (hld) <|
    YS (.iface 27 (Z4 x.val)) (fun w'=>Below w.heap.size w w') Qh (fun V hV=>?_)
   refine YW (.tuple #[Z4 x.val,ZW]) (.tuple #[Z4 x.val,ZW]) (Z4 x.val) ZW (Z4 x.val) ZW<|wn ?_;simp only[pu];have ql:=Z9 hV;have kS:=ZK hsl hV;clear Qh hV;go_upto_region 3 with fail;refine wl<|Yr ZW ZW (Z4 x.val)<|ZJ (qo rfl (x.val) (0) dF)<|ZV ZY<|wn ?_;simp only[pu];have HE:=Z9 (Vp.out V ql.out);clear Vp;go_upto_region 5 with fail;refine wl<|Yr (.slice (some ⟨b,off,none⟩) n c) (Z4 0) (.slice (some ⟨b,off,none⟩) n c)<|wn ?_;simp only[pu];go_wp2_with fail;go_ret2;exact HE.out
theorem ZO {fn:Func}{tmps:Array Value}{w:World}{p q g ty:Nat}{v u:Value}(hr:fn.results=#[.cell p ty,.tmp q])(h2:tmps.getD p undef=Z5 g 0)(hl:(Instr.loadAt ty (Z5 g 0)).run Tryz.prog w=.ok v w)(h3:tmps.getD q undef=u):(results fn tmps).run Tryz.prog w=.ok (.tuple #[v,u]) w:=by
 unfold results;rw[hr];have h2':tmps[p]?.getD undef=Z5 g 0:=by simpa using h2
 have h3':tmps[q]?.getD undef=u:=by simpa using h3
 have hl':=hl;simp only[Instr.loadAt,Instr.sureAddr,Sem.run_bind,Sem.run_pure,Result.andThen_ok] at hl';simp[h2',h3',asAddr,hl',Result.andThen]
def TfO (w:World)(r:Option Tf)(e:Ending)(w':World):Prop:=∃ y ok,e=.returned (.tuple #[.agg (Yx y),.bool ok])/\r=(if ok=true then some y else none)/\Below w.heap.size w w'
theorem wJ {f:Ze}(h:¬ (f.kind=2/\f.num=6/\(YN f.bytes).2.2=0/\(XV 2 (Xz 1 (YN f.bytes).1).2).2.length=0)):RS f=none:=if_neg h
theorem wI {f:Ze}(h:f.kind=2/\f.num=6/\(YN f.bytes).2.2=0/\(XV 2 (Xz 1 (YN f.bytes).1).2).2.length=0):RS f=some ((Xz 1 (YN f.bytes).1).1,(XV 2 (Xz 1 (YN f.bytes).1).2).1):=if_pos h
theorem Zn {w w0:World}{g B i ty T:Nat}{cs cs':Array Value}{v:Value}(h:Bx w g cs T)(hb:Below B w0 w)(hg:B<=g)(hi:i<cs.size)(h1:v.oneCell'=true)(hs:(Tryz.prog.info? ty).map (·.size)=some 1)(hc:cs.setIfInBounds i v=cs') :
  ∃ V,(Instr.storeAt ty (Z5 g i) v).run Tryz.prog w=.ok () V/\Bx V g cs' T/\Below B w0 V/\But g w V:=
 ⟨_,VR h hi h1 hs,hc ▸ h.Bo v,hb.setCell hg v,But.setCell _ _ _⟩
theorem KN (x:Ze)(b:Option Addr)(d:Nat)(w:World)(hs:Sl w b d x.bytes)(hd:x.bytes.length<=d)(hl:x.bytes.length<=1000000)(h8:∀ y,y∈x.bytes->W8 y)(hkd:x.kind=0∨x.kind=2) :
  Calls Tryz.prog 119 #[.agg (Xd x b d)] w (TfO w (RS x)):=by
 have hb1:Below w.heap.size w (w.alloc (.cells (Xd x b d) 111)):=(Below.refl _ w).alloc (Nat.le_refl _) _;have hX1:Bx (w.alloc (.cells (Xd x b d) 111)) w.heap.size (Xd x b d) 111:=heap_alloc_last w _;have hsz1:(w.alloc (.cells (Xd x b d) 111)).heap.size=w.heap.size+1:=by simp
 have CV:=fun V=>G7 x b d V;have HX:=Z9 (@wJ x);have HY:=Z9 (@wI x);have CFL:=Z9 (fun V (h:Sl V b d x.bytes)=>NI b d x.bytes V hl h h8 hd);have BD:Hid ((YN x.bytes).2.2=0->∀ f,f∈(YN x.bytes).1->Vf f):=Z9 fun h=>by
  rcases TU (fun y hy=>h8 y hy) hl with⟨-,q⟩ | ⟨P,e,-,hP⟩
  ·exact absurd h q
  ·rw[e]; exact hP
 generalize YN x.bytes=FR at *
 have FV:Hid (∀ V,Below w.heap.size w V->RS x=none->TfO w (RS x) (.returned (.tuple #[.agg (Yx Uc),ZY])) V):=Z9 fun V hb e=>⟨Uc,false,rfl,by rw[e]; rfl,hb⟩;have qp:Hid (∀ V y,Below w.heap.size w V->RS x=some y->TfO w (RS x) (.returned (.tuple #[.agg (Yx y),ZW])) V):=Z9 fun V y hb e=>⟨y,true,rfl,by rw[e]; rfl,hb⟩;generalize RS x=RR at *
 go_enter Tryz.func119,Tryz.ntmps119;go_upto_region 1 with fail;change Code.wp _ _ _ _ ((w.alloc (.cells (Xd x b d) 111)).alloc (.cells (Yx Uc) 64));generalize w.alloc (.cells (Xd x b d) 111)=W1 at *
 have hb0:Below w.heap.size w (W1.alloc (.cells (Yx Uc) 64)):=hb1.alloc hb1.size _;have hX0:Bx (W1.alloc (.cells (Yx Uc) 64)) w.heap.size (Xd x b d) 111:=hX1.below hX1.lt ((Below.refl _ W1).alloc (Nat.le_refl _) _);have hY0:Bx (W1.alloc (.cells (Yx Uc) 64)) W1.heap.size (Yx Uc) 64:=heap_alloc_last W1 _;rw[hsz1] at hY0;generalize W1.alloc (.cells (Yx Uc) 64)=W at *
 obtain⟨g0,hg0⟩:=ZR w.heap.size;obtain⟨g2,hg2⟩:=ZR (w.heap.size+1);have HB0:=Z9 hb0;have HG2:Hid (w.heap.size<=g2):=Z9 (by omega);rw[hg2] at hY0;rw[hg0] at hX0;rw[hg2,hg0];have hsW:=ZK hs hb0;clear hb0 hb1 hX1 hsz1 hg0 hg2 hs;rcases hkd with hk | hk
 ·have Qh:Calls Tryz.prog 129 #[.agg (Xd x b d)] W fun e w'=>e=.returned (.iface 27 (Z4 x.val))/\Below W.heap.size W w':=(CV W).mono fun e w' q=>⟨by rw[q.1,Nc,if_pos hk],q.2⟩;clear CV CFL BD;refine wl<|ZL rfl ⟨g0,0,none⟩ (.agg (Xd x b d)) (OQ hX0)<|YS (.iface 27 (Z4 x.val)) (fun w'=>Below W.heap.size W w') Qh (fun V hV=>?_);refine YW (.tuple #[.slice none 0 0,ZY]) (.tuple #[.slice none 0 0,ZY]) (.slice none 0 0) ZY (.slice none 0 0) ZY<|wn ?_;simp only[pu];have uG:=hX0.below hX0.lt hV;have hYV:=hY0.below hY0.lt hV;have kS:=ZK hsW hV;have VI:=Z9 (HB0.out.trans (hV.mono HB0.out.size));clear hV hX0 hY0 hsW HB0 Qh;go_upto_region 2 with fail;refine wl<|YW ZY ZW ZW undef undef undef<|ZV ZW<|wn ?_;simp only[pu];obtain⟨hst,hZ⟩:=VT (y:=Uc) hYV;have Zl:=Z9 (ZQ VI.out HG2.out (Yx Uc));have HE:=Z9 (FV.out _ Zl.out (HX.out (by rw[hk]; intro q; exact absurd q.1 (by decide))));generalize World.setRow _ g2 (Yx Uc)=V9 at *
  clear FV qp HX HY;go_upto_region 3 with fail;refine wl<|ZV (.agg #[.string ⟨#[]⟩,Z4 0])<|Zu rfl (hst)<|ZV ZY<|wn ?_;simp only[pu];go_wp2_with fail;exact bodyPost_ret (ZO (p:=2) (q:=3) rfl (by kernel_rfl) (Yu hZ) rfl) rfl HE.out
 ·have Qh:Calls Tryz.prog 129 #[.agg (Xd x b d)] W fun e w'=>e=.returned (.iface 23 (.slice b x.bytes.length d))/\Below W.heap.size W w':=(CV W).mono fun e w' q=>⟨by rw[q.1,Nc,if_neg (by omega)],q.2⟩;clear CV;refine wl<|ZL rfl ⟨g0,0,none⟩ (.agg (Xd x b d)) (OQ hX0)<|YS (.iface 23 (.slice b x.bytes.length d)) (fun w'=>Below W.heap.size W w') Qh (fun V hV=>?_);refine YW (.tuple #[.slice b x.bytes.length d,ZW]) (.tuple #[.slice b x.bytes.length d,ZW]) (.slice b x.bytes.length d) ZW (.slice b x.bytes.length d) ZW<|wn ?_;simp only[pu];have uG:=hX0.below hX0.lt hV;have hYV:=hY0.below hY0.lt hV;have kS:=ZK hsW hV;have VI:=Z9 (HB0.out.trans (hV.mono HB0.out.size));clear hV hX0 hY0 hsW HB0 Qh;go_upto_region 2 with fail;by_cases hn:x.num=6
  ·skip
   refine wl<|WL ZW ZY ZY (Z5 g0 0)<|ZL rfl ⟨g0,0,none⟩ (Z8 x.num) (uG.ZP 0)<|ZJ (Fq rfl x.num 6 (decide_eq_true hn)) <|
    ZV ZY<|wn ?_
   simp only[pu];have CF:=CFL.out V kS;clear CFL kS uG;go_upto_region 4 with fail;refine wl<|ZV (.slice b x.bytes.length d) <|
    Yi (fun v w'=>∃ a c ps,v=.tuple #[.slice a ps.length c,Z8 FR.2.1,Z8 FR.2.2]/\ps.map Prod.fst=FR.1/\ps.length<=c/\Ov w' V.heap.size a ps/\Below V.heap.size V w') (CF.mono fun e w' q=>by obtain⟨v,ps,h1,h2,h3,h4⟩:=q; obtain⟨a,c,rfl,hc,hf⟩:=h3.fsb; exact⟨_,h1,a,c,ps,rfl,h2,hc,hf,h4⟩) (fun v5 V5 hq=>?_)
   obtain⟨a5,c5,ps,rfl,hps,hc5,aB,hb5⟩:=hq;refine YW (.tuple #[.slice a5 ps.length c5,Z8 FR.2.1,Z8 FR.2.2]) (.slice a5 ps.length c5) (Z8 FR.2.1) (Z8 FR.2.2) (.slice a5 ps.length c5) (Z8 FR.2.1)<|ZV (Z8 FR.2.2)<|wn ?_;simp only[pu];have au:=hYV.below hYV.lt hb5;have JG:=Z9 (VI.out.trans (hb5.mono VI.out.size));have HGV:Hid (g2<V.heap.size):=Z9 hYV.lt;obtain⟨P,n5,e5⟩:=FR;dsimp only at *
   clear hb5 hYV VI CF;go_upto_region 5 with fail;by_cases he:e5=0
   ·have hvf:=BD.out he;rw[<- hps] at hvf HX HY;clear BD hps;refine wl<|ZV (Z8 e5)<|ZJ (YX rfl e5 0 (decide_eq_true he))<|wn ?_;simp only[pu];have CT:=PX a5 c5 ps V.heap.size 1 V5 aB hc5 hvf;have hv2:=RQ (k:=1) hvf;generalize Xz 1 (ps.map Prod.fst)=TT at *
    obtain⟨s1,R1⟩:=TT;dsimp only at *
    go_upto_region 7 with fail;refine wl<|ZV (.slice a5 ps.length c5) <|
     Yi (fun v w'=>∃ a c qs,v=.tuple #[.string s1,.slice a qs.length c]/\Ov w' V.heap.size a qs/\qs.length<=c/\qs.map Prod.fst=R1/\Below V5.heap.size V5 w') (CT.mono fun e w' q=>by obtain⟨a,c,qs,h1,h2⟩:=q; exact⟨_,h1,a,c,qs,rfl,h2⟩) (fun v6 V6 hq=>?_)
    obtain⟨a6,c6,q1,rfl,EH,hc6,hq1,hb6⟩:=hq;have Jz:=au.below au.lt hb6;have Yd:=Z9 (JG.out.trans (hb6.mono JG.out.size));obtain⟨V7,Xx,Cm,P5,XH⟩:=Zn (i:=0) (ty:=9) (v:=.string s1) (cs':=Yx (s1,0)) Jz Yd.out HG2.out (by show 0<2; decide) rfl (by kernel_rfl) rfl;have hF7:=EH.but XH HGV.out;have Sm:=Z9 P5;clear CT hb6 au JG aB hc5;refine WL (.tuple #[.string s1,.slice a6 q1.length c6]) (.string s1) (.slice a6 q1.length c6) (Z5 g2 0)<|Zu rfl (Xx)<|ZV (.slice a6 q1.length c6)<|wn ?_;simp only[pu];rw[<- hq1] at hv2 HX HY;have CN:=UG a6 c6 q1 V.heap.size 2 V7 hF7 hc6 hv2;generalize XV 2 (q1.map Prod.fst)=TN at *
    obtain⟨m2,R2⟩:=TN;dsimp only at *
    clear Xx Jz Yd P5 XH EH hvf hv2 hq1;go_upto_region 8 with fail;refine wl<|ZV (.slice a6 q1.length c6) <|
     Yi (fun v w'=>∃ a c qs,v=.tuple #[Z4 m2,.slice a qs.length c]/\Ov w' V.heap.size a qs/\qs.length<=c/\qs.map Prod.fst=R2/\Below V7.heap.size V7 w') (CN.mono fun e w' q=>by obtain⟨a,c,qs,h1,h2⟩:=q; exact⟨_,h1,a,c,qs,rfl,h2⟩) (fun v8 V8 hq=>?_)
    obtain⟨a8,c8,q2,rfl,hF8,hc8,hq2,hb8⟩:=hq;have hY8:=Cm.below Cm.lt hb8;have OX:=Z9 (Sm.out.trans (hb8.mono Sm.out.size));obtain⟨V9,YT,WJ,Tt,-⟩:=Zn (i:=1) (ty:=27) (v:=Z4 m2) (cs':=Yx (s1,m2)) hY8 OX.out HG2.out (by show 1<2; decide) rfl (by kernel_rfl) rfl;have Zl:=Z9 Tt;clear CN hb8 Cm Sm hF7 hc6 hF8 hc8 hY8 OX;refine WL (.tuple #[Z4 m2,.slice a8 q2.length c8]) (Z4 m2) (.slice a8 q2.length c8) (Z5 g2 1)<|Zu rfl (YT)<|ZV (.slice a8 q2.length c8)<|wn ?_;simp only[pu];rw[<- hq2] at HX HY;rw[List.length_map] at HX HY;clear YT Tt hq2;obtain⟨n2,hn2⟩:=ZR q2.length;rw[hn2] at HX HY ⊢;clear hn2;go_upto_region 9 with fail;by_cases hz:n2=0
    ·refine wl<|ZA (.slice a8 n2 c8) (Z8 n2)<|ZJ (Zo rfl (n2) (0) dF)<|wn ?_;simp only[pu];obtain⟨hst,hZ⟩:=VT (y:=(s1,m2)) WJ;have wH:=Z9 (ZQ Zl.out HG2.out (Yx (s1,m2)));have HE:=Z9 (qp.out _ _ wH.out (HY.out ⟨hk,hn,he,hz⟩));generalize World.setRow _ g2 (Yx (s1,m2))=VA at *
     clear FV qp HX HY wH Zl;go_upto_region 11 with fail;refine wl<|ZL rfl ⟨g2,0,none⟩ (.agg (Yx (s1,m2))) (Yu WJ)<|Zu rfl (hst)<|ZV ZW<|wn ?_;simp only[pu];go_wp2_with fail;exact bodyPost_ret (ZO (p:=2) (q:=3) rfl (by kernel_rfl) (Yu hZ) rfl) rfl HE.out
    ·refine wl<|ZA (.slice a8 n2 c8) (Z8 n2)<|ZJ (Zo rfl (n2) (0) dT)<|wn ?_;simp only[pu];obtain⟨hst,hZ⟩:=VT (y:=Uc) WJ;have wH:=Z9 (ZQ Zl.out HG2.out (Yx Uc));have HE:=Z9 (FV.out _ wH.out (HX.out (fun q=>hz q.2.2.2)));generalize World.setRow _ g2 (Yx Uc)=VA at *
     clear FV qp HX HY;go_upto_region 10 with fail;refine wl<|ZV (.agg #[.string ⟨#[]⟩,Z4 0])<|Zu rfl (hst)<|ZV ZY<|wn ?_;simp only[pu];go_wp2_with fail;exact bodyPost_ret (ZO (p:=2) (q:=3) rfl (by kernel_rfl) (Yu hZ) rfl) rfl HE.out
   ·refine wl<|ZV (Z8 e5)<|ZJ (YX rfl e5 0 (decide_eq_false he))<|wn ?_;simp only[pu];obtain⟨hst,hZ⟩:=VT (y:=Uc) au;have Zl:=Z9 (ZQ JG.out HG2.out (Yx Uc));have HE:=Z9 (FV.out _ Zl.out (HX.out (fun q=>he q.2.2.1)));generalize World.setRow _ g2 (Yx Uc)=V9 at *
    clear FV qp HX HY;go_upto_region 6 with fail;refine wl<|ZV (.agg #[.string ⟨#[]⟩,Z4 0])<|Zu rfl (hst)<|ZV ZY<|wn ?_;simp only[pu];go_wp2_with fail;exact bodyPost_ret (ZO (p:=2) (q:=3) rfl (by kernel_rfl) (Yu hZ) rfl) rfl HE.out
  ·refine wl<|WL ZW ZY ZY (Z5 g0 0)<|ZL rfl ⟨g0,0,none⟩ (Z8 x.num) (uG.ZP 0)<|ZJ (Fq rfl x.num 6 (decide_eq_false hn)) <|
    ZV ZW<|wn ?_
   simp only[pu];obtain⟨hst,hZ⟩:=VT (y:=Uc) hYV;have Zl:=Z9 (ZQ VI.out HG2.out (Yx Uc));have HE:=Z9 (FV.out _ Zl.out (HX.out (fun q=>hn q.2.1)));generalize World.setRow _ g2 (Yx Uc)=V9 at *
   clear FV qp HX HY;go_upto_region 3 with fail;refine wl<|ZV (.agg #[.string ⟨#[]⟩,Z4 0])<|Zu rfl (hst)<|ZV ZY<|wn ?_;simp only[pu];go_wp2_with fail;exact bodyPost_ret (ZO (p:=2) (q:=3) rfl (by kernel_rfl) (Yu hZ) rfl) rfl HE.out
end Go.Proofs.YtnhlpahoomcgnaaGreat
