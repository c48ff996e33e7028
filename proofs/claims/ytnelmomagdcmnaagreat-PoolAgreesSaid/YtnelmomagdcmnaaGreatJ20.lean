/-
  Texts joined.
-/
import Derived.Test.YtnelmomagdcmnaaGreatJ19
import Derived.Shelf.SlicesG.CompactI
set_option maxRecDepth 100000
set_option maxHeartbeats 8000000
set_option linter.unusedSimpArgs false
set_option linter.unusedVariables false
namespace Go.Proofs.YtnelmomagdcmnaaGreat.Ex
attribute [local irreducible] wpList wpQuiet
open Go.RowKit
theorem J6 {w:World}{B e s n c g:Nat}{xs:List Value}(h:w.ownsRow B e s (.slice (some ⟨g,0,none⟩) n c) n xs)(hc:n+1<=c):∃ ys:List Value,ys.length=s/\w.ownsRow B e s (.slice (some ⟨g,0,none⟩) (n+1) c) (n+1) (xs++ys):=by
 rcases h.2 with⟨h0,-⟩ | ⟨g2,cap,cur,h0,hB,hg,hnc,hcm,hcs,ht⟩
 ·cases h0
 ·simp only[Value.slice.injEq,Option.some.injEq,Addr.mk.injEq,and_true,true_and] at h0;obtain⟨rfl,rfl⟩:=h0;have hl:(n+1)*s<=cur.toList.length:=by rw[Array.length_toList,hcs]; exact Nat.mul_le_mul_right _ hc
  have hz:(n+1)*s=n*s+s:=by rw[Nat.add_mul,Nat.one_mul]
  refine⟨(cur.toList.drop (n*s)).take s,by rw[List.length_take,List.length_drop]; omega,⟨?_,.inr ⟨g,c,cur,rfl,hB,hg,hc,hcm,hcs,?_⟩⟩⟩
  ·rw[List.length_append,h.1,List.length_take,List.length_drop]; omega
  ·rw[hz,List.take_add,ht]
theorem QL {w:World}{B e s n c g k:Nat}{xs:List Value}(h:w.ownsRow B e s (.slice (some ⟨g,0,none⟩) n c) n xs)(hk:k<=n):w.ownsRow B e s (.slice (some ⟨g,0,none⟩) k c) k (xs.take (k*s)):=by
 rcases h.2 with⟨h0,-⟩ | ⟨g2,cap,cur,h0,hB,hg,hnc,hcm,hcs,ht⟩
 ·cases h0
 ·simp only[Value.slice.injEq,Option.some.injEq,Addr.mk.injEq,and_true,true_and] at h0;obtain⟨rfl,rfl⟩:=h0;have hm:k*s<=n*s:=Nat.mul_le_mul_right _ hk;refine⟨by rw[List.length_take,h.1]; omega,.inr ⟨g,c,cur,rfl,hB,hg,by omega,hcm,hcs,?_⟩⟩;rw[<- ht,List.take_take,Nat.min_eq_left hm]
theorem TB (w:World)(e s m cap:Nat)(cur:Array Value)(h1:cur.size=cap*s)(h2:m<=cap)(h3:cap<=maxLen):(w.alloc (.cells cur e)).ownsRow w.heap.size e s (.slice (some ⟨w.heap.size,0,none⟩) m cap) m (cur.toList.take (m*s)):=
 ⟨by rw[List.length_take,Array.length_toList,h1]; have:=Nat.mul_le_mul_right s h2; omega,.inr ⟨_,cap,cur,rfl,Nat.le_refl _,heap_alloc_last w _,h2,h3,h1,rfl⟩⟩
theorem Xv {w:World}{B e s n c g:Nat}{xs:List Value}(h:w.ownsRow B e s (.slice (some ⟨g,0,none⟩) n c) n xs){j:Nat}(hj:j<n*s):(w.cell? ⟨g,j,none⟩).isSome=true/\w.frozen? ⟨g,j,none⟩=false:=by
 obtain⟨cur,hcur,hz,-,-⟩:=XK h;refine⟨?_,frozen_of_row w g _ _ e hcur⟩;rw[cell_of_row w g _ _ e (0,0) hcur,Array.getElem?_eq_getElem (by omega)];rfl
theorem Vx {w:World}{B e s n c g:Nat}{xs:List Value}(h:w.ownsRow B e s (.slice (some ⟨g,0,none⟩) n c) n xs){j:Nat}{u:Value}(hj:xs[j]?=some u):w.cell? ⟨g,j,none⟩=some u:=by
 obtain⟨a,c2,e2,h1,-⟩:=Yy h;simp only[Value.slice.injEq] at e2;obtain⟨rfl,-,rfl⟩:=e2;obtain⟨b,off,e3,-,hc⟩:=h1 j u hj;cases e3;rw[Nat.zero_add] at hc;exact hc
theorem XT {w:World}(ty:TypeId){g o dL dC:Nat}{A:Addr}{sL sC m:Nat}{ys:List Value}(hm:Nat.min sL dL=m)(hl:ys.length=m*2)(hsrc:∀ j u,ys[j]?=some u->w.cell? (A.add j)=some u)(hdst:∀ j,j<ys.length->(w.cell? ⟨g,o+j,none⟩).isSome=true/\w.frozen? ⟨g,o+j,none⟩=false)(h1:∀ u∈ys,u.oneCell'=true) :
  (Builtin.copy_ #[135,135] ty #[.slice (some ⟨g,o,none⟩) dL dC,.slice (some A) sL sC]).run Tryz.prog w=.ok (goInt m) (w.setCells g o ys):=by
 obtain⟨i0,hi0,hz0,hz1,hz2⟩:=info_parts UE;have hfc:=run_firstCells_some (P:=Tryz.prog) w i0.size m A sL sC ys (by rw[hz1]; exact hl) hsrc;have hst:=run_storeCells_cells (P:=Tryz.prog) g o ys 0 w (fun j hj=>(hdst j hj).1) (fun j hj=>(hdst j hj).2) h1;rw[Nat.add_zero] at hst;simp[Builtin.copy_,run_underlying Tryz.underlying135,Builtin.lenOf,sizeOf,typeInfo,hi0,hm,hfc,hst]
theorem Xa {P:Program}{w:World}{ops:Array Oper}{rest:List Oper}{o:Oper}{a:Act}{Q:Exit->Act->World->Prop}(hgd:o.guard=none)(d:Option Tmp)(hd:o.dst=d)(ty:TypeId)(hty:o.type=ty)(s x:Operand)(t:TypeId)
  (ho:o.op=.call { callee:=.builtin .copy,args:=#[s,x],argTypes:=#[t,t] }) (v u v':Value) (w':World) (hs:a.eval s=v) (hx:a.eval x=u)
  (hr:(Builtin.copy_ #[t,t] ty #[v,u]).run P w=.ok v' w') (k:wpList P ops Q rest (a.put d v') w'):wpList P ops Q (o::rest) a w:=by
 subst hd;subst hty;refine wpList_plain hgd fun K hK=>?_;unfold Oper.wp execOp;simp only[ho,resolve,invoke,builtin,Sem.run_bind,Sem.run_pure,Result.andThen_ok,List.map_toArray,List.map_cons,List.map_nil,hs,hx,hr];exact hK _ _ k
theorem RV {P:Program}{w:World}{ops:Array Oper}{rest:List Oper}{o:Oper}{a:Act}{Q:Exit->Act->World->Prop}(hgd:o.guard=none)(d:Option Tmp)(hd:o.dst=d)(ty:TypeId)(hty:o.type=ty)(s x:Operand)(t t2:TypeId)
  (ho:o.op=.call { callee:=.builtin .append,args:=#[s,x],argTypes:=#[t,t2] }) (v u v':Value) (w':World) (hs:a.eval s=v) (hx:a.eval x=u)
  (hr:(Builtin.append_ #[t,t2] ty #[v,u]).run P w=.ok v' w') (k:wpList P ops Q rest (a.put d v') w'):wpList P ops Q (o::rest) a w:=by
 subst hd;subst hty;refine wpList_plain hgd fun K hK=>?_;unfold Oper.wp execOp;simp only[ho,resolve,invoke,builtin,Sem.run_bind,Sem.run_pure,Result.andThen_ok,List.map_toArray,List.map_cons,List.map_nil,hs,hx,hr];exact hK _ _ k
theorem Pj {P:Program}{w:World}{ops:Array Oper}{rest:List Oper}{o:Oper}{a:Act}{Q:Exit->Act->World->Prop}(hgd:o.guard=none)(ty:TypeId)(hty:o.type=ty)(x:Operand)(t:TypeId)
  (ho:o.op=.call { callee:=.builtin .clear,args:=#[x],argTypes:=#[t] }) (hd:o.dst=none) (u v':Value) (w':World) (hx:a.eval x=u)
  (hr:(Builtin.clear_ #[t] ty #[u]).run P w=.ok v' w') (k:wpList P ops Q rest a w'):wpList P ops Q (o::rest) a w:=by
 subst hty;refine wpList_plain hgd fun K hK=>?_;unfold Oper.wp execOp;simp only[ho,resolve,invoke,builtin,Sem.run_bind,Sem.run_pure,Result.andThen_ok,List.map_toArray,List.map_cons,List.map_nil,hx,hr];show K (a.put o.dst v') w';rw[hd];exact hK _ _ k
theorem RQ (w:World)(ty:TypeId)(b o n c:Nat)(hn:0<n)(hc:∀ j,j<n*2->(w.cell? ⟨b,o+j,none⟩).isSome=true/\w.frozen? ⟨b,o+j,none⟩=false) :
  ∃ zs:List Value,zs.length=n*2/\(Builtin.clear_ #[135] ty #[.slice (some ⟨b,o,none⟩) n c]).run Tryz.prog w=.ok (.tuple #[]) (w.setCells b o zs):=by
 have hz:(zeroValue 174).run Tryz.prog w=.ok (.agg (ZO VB)) w:=by kernel_rfl
 have hl:(Builtin.zeroCells (Value.agg (ZO VB)).cells n).toList.length=n*2:=by rw[Array.length_toList,size_zeroCells]; rfl
 have h1:∀ u∈(Builtin.zeroCells (Value.agg (ZO VB)).cells n).toList,u.oneCell'=true:=fun u hu=>by
  obtain⟨j,hj,rfl⟩:=List.mem_iff_getElem.1 hu;rw[Array.getElem_toList];simp only[Builtin.zeroCells,Array.getElem_map,Array.getElem_range];rw[show(Value.agg (ZO VB)).cells.size=2 from rfl];rcases (show j % 2=0∨j % 2=1 by omega) with h | h <;> rw[h] <;> rfl
 have hst:=run_storeCells_cells (P:=Tryz.prog) b o (Builtin.zeroCells (Value.agg (ZO VB)).cells n).toList 0 w (fun j hj=>(hc j (by rw[hl] at hj; exact hj)).1) (fun j hj=>(hc j (by rw[hl] at hj; exact hj)).2) h1;simp only[Nat.add_zero] at hst;obtain⟨m,rfl⟩:∃ m,n=m+1:=⟨n-1,by omega⟩;exact⟨_,hl,by simp[Builtin.clear_,run_underlying Tryz.underlying135,hz,hst]⟩
def Oh (w:World)(v:Value)(E:List Eo)(e:Ending)(w':World):Prop:=∃ v',e=.returned v'/\Zz w' 0 v' E/\w.grownBy w' v.ownBlock/\(v'.ownBlock=v.ownBlock∨∃ k,w.heap.size<=k/\v'.ownBlock=some k)
theorem YS {s c k g:Nat}(h:c≠k):Zb s (some ⟨g,0,none⟩) c k=some ⟨g,k*s,none⟩:=by
 unfold Zb;rw[if_neg h,Option.map_some,Addr.add_mid,Nat.zero_add]
theorem WI {w:World}{b:Nat}(vs:List Value)(o:Nat):w.grownBy (w.setCells b o vs) (some b):=by
 obtain⟨⟨h1,h2,h3,h4,h5⟩,h6⟩:=Vl (b:=b) vs o w;exact⟨h1,h2,h3,h4,fun k hk hn=>h6 k hk fun e=>hn (by rw[e])⟩
theorem grown_below {w w':World}{r:Option Nat}(h:Below w.heap.size w w'):w.grownBy w' r:=by
 obtain⟨h1,h2,h3,h4,h5⟩:=h;exact⟨h1,h2,h3,h4,fun k hk hn=>h5 k hk⟩
theorem WT {a b c:World}{r:Option Nat}(h:a.grownBy b r)(k:b.grownBy c r):a.grownBy c r:=⟨k.1.trans h.1,k.2.trans h.2,k.3.trans h.3,Nat.le_trans h.4 k.4,fun i hi hn=>(k.5 i (Nat.lt_of_lt_of_le hi h.4) hn).trans (h.5 i hi hn)⟩
theorem grown_drew {w w':World}{r:Option Nat}(h:w.grownBy w' r):w.grownBy w'.drew r:=⟨h.1,h.2,h.3,h.4,h.5⟩
theorem J5 {w:World}{g n c i k:Nat}{E:List Eo}(h:w.ownsRow 0 174 2 (.slice (some ⟨g,0,none⟩) n c) n (encs E))(hn:n=E.length)(hi:i<=n)(hk:0<k)(hg:c<i+k)(hb:i+k<=20000)(ty:TypeId) :
  ∃ G V ys,(Builtin.append_ #[135,3] ty #[.slice (some ⟨g,0,none⟩) i c,Z9 ((k:Nat):Int)]).run Tryz.prog w=.ok (.slice (some ⟨w.heap.size,0,none⟩) (i+k) G) V/\V.ownsRow w.heap.size 174 2 (.slice (some ⟨w.heap.size,0,none⟩) (i+k) G) (i+k) (encs (E.take i)++ys)/\ys.length=k*2/\i+k<=G/\Below w.heap.size w V:=by
 obtain⟨i0,hi0,hz0,hz1,hz2⟩:=info_parts UE;have hl:(encs (E.take i)).length=i*2:=by rw[YJ,List.length_take]; omega
 have hold:(Builtin.firstCells i0.size i (.slice (some ⟨g,0,none⟩) i c)).run Tryz.prog w.drew=.ok (encs (E.take i)).toArray w.drew:=by
  rw[hz1];exact run_firstCells_some w.drew 2 i ⟨g,0,none⟩ i c (encs (E.take i)) hl fun j v hj=>by
   rw[Addr.add_lit,Nat.zero_add];have h2:=QL (k:=i) h hi;rw[WA] at h2;exact Vx h2 hj
 have hr:=Lib.run_append_grow_zeros w 135 3 ty 174 i0 _ .i64 .i64 Tryz.underlying135 Tryz.underlying3 hi0 hz0 (some ⟨g,0,none⟩) i c (encs (E.take i)) hold k hk (by omega) hg (by omega) (by rw[hz2]; omega) (by rw[hz2]; exact growslice_fits hg (by omega));have hG1:=grownCap_ge w (i+k) c 174;have hG2:=grownCap_le_maxLen w (i+k) c 174 (by unfold maxLen; omega);generalize grownCap w (i+k) c 174=G at *
 have hzs:(Builtin.zeroCells (Value.agg (ZO VB)).cells k).size=k*2:=by rw[size_zeroCells]; rfl
 have ae4:(Builtin.zeroCells (Value.agg (ZO VB)).cells (G-(i+k))).size=(G-(i+k))*2:=by rw[size_zeroCells]; rfl
 have hown:=TB w.drew 174 2 (i+k) G ((encs (E.take i)).toArray++Builtin.zeroCells (Value.agg (ZO VB)).cells k++Builtin.zeroCells (Value.agg (ZO VB)).cells (G-(i+k))) (by rw[Array.size_append,Array.size_append,List.size_toArray,hl,hzs,ae4]; omega) hG1 hG2;refine⟨G,_,(Builtin.zeroCells (Value.agg (ZO VB)).cells k).toList,hr,?_,by rw[Array.length_toList,hzs],hG1,(Below.refl w.heap.size w).drew.alloc (Nat.le_refl _) _⟩
 ·have e:(((encs (E.take i)).toArray++Builtin.zeroCells (Value.agg (ZO VB)).cells k++Builtin.zeroCells (Value.agg (ZO VB)).cells (G-(i+k))).toList.take ((i+k)*2))=encs (E.take i)++(Builtin.zeroCells (Value.agg (ZO VB)).cells k).toList:=by
   rw[Array.toList_append,Array.toList_append,List.toList_toArray];refine List.take_left' ?_;rw[List.length_append,hl,Array.length_toList,hzs]; omega
  rw[<- e];exact hown
theorem qE {w:World}{ρ:Operand->Value}{o:Oper}{x y:Operand}(ho:o.op=.call { callee:=.value (.func 146),args:=#[x,y],argTypes:=#[135,135] }){g b oo lb cb n c:Nat}{xs:List Value}{v:Eo}(hx:ρ x=.slice (some ⟨g,0,none⟩) 1 1)(hy:ρ y=.slice (some ⟨b,oo,none⟩) lb cb)(hX:Bx w g (ZO v) 174)(hb:w.ownsRow 0 174 2 (.slice (some ⟨b,0,none⟩) n c) n xs)(hn:0<n)(hne:g≠b)(hf:ρ (.func 146)=.func (.func 146) #[] #[]:=by rfl):(execOp ρ o).run Tryz.prog w=.ok (.value ZY) w:=by
 obtain⟨cur,hcur,hz,-,-⟩:=XK hb;have hov:(callFunc 146 #[.slice (some ⟨g,0,none⟩) 1 1,.slice (some ⟨b,oo,none⟩) lb cb]).run Tryz.prog w=.ok (.value ZY) w:=by
  rw[run_callFunc_extern Tryz.func146 (by kernel_rfl) (by kernel_rfl) (by kernel_rfl) (e:=Extern.SlicesOverlaps.overlaps #[135,135] #[4]) (by kernel_rfl),
   Lib.run_overlaps_apart w 135 4 174 Tryz.underlying135 2 (fun w=>by kernel_rfl) ⟨g,0,none⟩ ⟨b,oo,none⟩ 1 1 lb cb hne 174 174 2 cur.size (by unfold World.shape?; rw[hX]; rfl) (by unfold World.shape?; rw[hcur]) (by omega) (frozen_of_row w g _ _ 174 hX) (frozen_of_row w g _ _ 174 hX)]
  rfl
 unfold execOp;simp only[ho,resolve,invoke,Sem.run_bind,Sem.run_pure,Result.andThen_ok,List.map_toArray,List.map_cons,List.map_nil,hx,hy,hf];simp only[Deferred.ofValue,Sem.run_pure,Result.andThen_ok,Array.append_empty,Array.empty_append,hov]
section
variable {ρ : Operand -> Value} {o : Oper} {x y z : Operand} {P : Program} {w : World} {ty : TypeId} {vx vy vz v : Value}
theorem Ux (ho:o.op=.slice ty x none (some y) none)(hs:(Instr.sliceAt ty vx none (some vy) none).run P w=.ok v w)(hx:ρ x=vx)(hy:ρ y=vy):(execOp ρ o).run P w=.ok (.value v) w:=by
 unfold execOp;simp only[ho,hx,hy,Option.map_some,Option.map_none,Sem.run_bind];exact(congrArg (fun r=>Result.andThen r _) hs).trans rfl
theorem Zq (ho:o.op=.slice ty x (some y) none none)(hs:(Instr.sliceAt ty vx (some vy) none none).run P w=.ok v w)(hx:ρ x=vx)(hy:ρ y=vy):(execOp ρ o).run P w=.ok (.value v) w:=by
 unfold execOp;simp only[ho,hx,hy,Option.map_some,Option.map_none,Sem.run_bind];exact(congrArg (fun r=>Result.andThen r _) hs).trans rfl
theorem SN (ho:o.op=.slice ty x (some y) (some z) none)(hs:(Instr.sliceAt ty vx (some vy) (some vz) none).run P w=.ok v w)(hx:ρ x=vx)(hy:ρ y=vy)(hz:ρ z=vz):(execOp ρ o).run P w=.ok (.value v) w:=by
 unfold execOp;simp only[ho,hx,hy,hz,Option.map_some,Option.map_none,Sem.run_bind];exact(congrArg (fun r=>Result.andThen r _) hs).trans rfl
theorem NG {u:Operand}{vu:Value}(ho:o.op=.slice ty x (some y) (some z) (some u))(hs:(Instr.sliceAt ty vx (some vy) (some vz) (some vu)).run P w=.ok v w)(hx:ρ x=vx)(hy:ρ y=vy)(hz:ρ z=vz)(hu:ρ u=vu):(execOp ρ o).run P w=.ok (.value v) w:=by
 unfold execOp;simp only[ho,hx,hy,hz,hu,Option.map_some,Option.map_none,Sem.run_bind];exact(congrArg (fun r=>Result.andThen r _) hs).trans rfl
end
theorem RY (a:Option Addr)(n c i j:Nat)(w:World)(h:i<=j)(h2:j<=c):(Instr.slice 135 (.slice a n c) (some (Z9 (i:Int))) (some (Z9 (j:Int))) none).run Tryz.prog w=.ok (.slice (Zb 2 a c i) (j-i) (c-i)) w:=by
 have hs:(sizeOf (Tryz.prog.elem 135)).run Tryz.prog w=.ok 2 w:=by kernel_rfl
 have q:=run_slice_lh (P:=Tryz.prog) w 135 a n c (by kernel_rfl) .i64 .i64 (i:Int) (j:Int) (by omega) (by omega) (by omega);rw[q,hs];by_cases hk:c=i <;> cases a <;> simp[sliced,Result.andThen,Zb,hk]
theorem Pg (a:Option Addr)(n c i j k:Nat)(w:World)(h:i<=j)(h2:j<=k)(h3:k<=c):(Instr.slice 135 (.slice a n c) (some (Z9 (i:Int))) (some (Z9 (j:Int))) (some (Z9 (k:Int)))).run Tryz.prog w=.ok (sliced a i j k 2) w:=by
 have hs:(sizeOf (Tryz.prog.elem 135)).run Tryz.prog w=.ok 2 w:=by kernel_rfl
 have q:=run_slice_lhm (P:=Tryz.prog) w 135 a n c (by kernel_rfl) .i64 .i64 .i64 (i:Int) (j:Int) (k:Int) (by omega) (by omega) (by omega) (by omega);rw[q,hs];rfl
theorem Ye {w:World}{B e s n:Nat}{v:Value}{xs:List Value}(h:w.ownsRow B e s v n xs):w.drew.ownsRow B e s v n xs:=h
theorem G5 {w:World}{v:Value}{E:List Eo}(h:Zz w 0 v E)(hl:E.length<=10000)(x:Eo){g:Nat}(hx:Bx w g (ZO x) 174):Calls Tryz.prog 119 #[v,Z9 E.length,.slice (some ⟨g,0,none⟩) 1 1] w (Oh w v (E.take E.length++x::E.drop E.length)):=by
 obtain⟨v6,W6,hap,hrow,hb6,Ut,qC⟩:=CX h (Nat.zero_le _) (some ⟨g,0,none⟩) 1 1 [x] (Cs.block (cs:=Yc x) hx) rfl (by omega) (by omega);have HE:Hid (Oh w v (E.take E.length++x::E.drop E.length) (.returned v6) W6):=Z8 ⟨v6,rfl,by rw[List.take_length,List.drop_length]; exact hrow,Ut,qC.imp id fun h=>⟨_,Nat.le_refl _,h⟩⟩;obtain⟨PO,Yi⟩:=ZR (Oh w v (E.take E.length++x::E.drop E.length));rw[Yi] at HE ⊢;obtain⟨a,c,rfl,-,hnc⟩:=h.cs;obtain⟨n,hn⟩:=ZR E.length;rw[hn] at hap hnc ⊢;clear Yi hrow hb6 Ut qC h hl hx hn;go_enter Tryz.func119,Tryz.ntmps119;go_upto_region 1 with fail;refine wl<|ZB (.slice a n c) (Z9 n)<|Za (.slice (Zb 2 a c n) (n-n) (c-n)) (Zq rfl (Zy a n c n _ (Nat.le_refl n)) (by kernel_rfl) (by kernel_rfl))<|wn ?_;simp only[pu];go_upto_region 2 with fail;refine wl<|YX (.slice (some ⟨g,0,none⟩) 1 1) (Z9 1) (Z9 1)<|wn ?_;simp only[pu];go_upto_region 3 with fail;refine wl<|ZQ (Z9 1)<|Zg (Y4 rfl 1 0 dF)<|wn ?_;simp only[pu];go_upto_region 5 with fail;refine wl<|YX (.slice a n c) (Z9 n) (Z9 n)<|wn ?_;simp only[pu];go_upto_region 6 with fail;refine wl<|ZB (Z9 n) (Z9 n)<|Zg (Y4 rfl n n (decide_eq_true rfl))<|wn ?_;simp only[pu];go_upto_region 7 with fail;refine wl<|ZB (.slice a n c) (.slice (some ⟨g,0,none⟩) 1 1) ?_;refine YU rfl (some 25) rfl 135 rfl (.tmp 23) (.tmp 24) 135 rfl (.slice a n c) (.slice (some ⟨g,0,none⟩) 1 1) (v6) W6 (by kernel_rfl) (by kernel_rfl) hap ?_;refine ZQ (v6)<|wn ?_;simp only[pu];go_wp2_with fail;exact HE.out
theorem J4 {w:World}{b n c:Nat}{E:List Eo}(h:w.ownsRow 0 174 2 (.slice (some ⟨b,0,none⟩) n c) n (encs E))(hn:E.length=n){i:Nat}(hi:i<n)(hl:n<=10000)(x:Eo){g:Nat}(hx:Bx w g (ZO x) 174)(hgb:g≠b)(hcc:c<n+1):Calls Tryz.prog 119 #[.slice (some ⟨b,0,none⟩) n c,Z9 i,.slice (some ⟨g,0,none⟩) 1 1] w (Oh w (.slice (some ⟨b,0,none⟩) n c) (E.take i++x::E.drop i)):=by
 have hnc:n<=c:=(Pz h).2;have hel:(encs (E.drop i)).length=(n-i)*2:=by rw[YJ,List.length_drop,hn]
 have Wq:(encs (E.take i)).length=i*2:=by rw[YJ,List.length_take]; omega
 have Et:(E.take i++x::E.drop i).length=n+1:=by rw[List.length_append,List.length_cons,List.length_take,List.length_drop]; omega
 have qB:encs (E.take i++x::E.drop i)=encs (E.take i)++Yc x++encs (E.drop i):=by
  rw[VX,List.append_assoc]; rfl
 obtain⟨G,V1,ys,hz1,ND,hyl,hG,hb1⟩:=J5 (i:=i) (k:=n+1-i) h hn.symm (by omega) (by omega) (by omega) (by omega) 135;rw[show i+(n+1-i)=n+1 by omega] at hz1 ND hG;have hgl:g<w.heap.size:=hx.lt;obtain⟨q,hq⟩:=ZR w.heap.size;rw[hq] at hz1 ND hgl;have hx1:Bx V1 g (ZO x) 174:=hx.below hx.lt hb1;have hc1:=XT (w:=V1) 3 (g:=q) (o:=i*2) (dL:=n+1-i) (dC:=G-i) (A:=⟨g,0,none⟩) (sL:=1) (sC:=1) (m:=1) (ys:=Yc x) (by simp only[Nat.min_def]; split <;> omega) rfl (fun j u hj=>by rw[Addr.add_lit,Nat.zero_add]; exact(ZU (cs:=Yc x) hx1 j u hj |> fun h=>by rwa [Nat.zero_add] at h)) (fun j hj=>Xv ND (by have:j<2:=hj; omega)) (Sv x);have hO2:=Yo (Yc x) (i*2) V1 _ ND (by rw[List.length_append,Wq,hyl]; show i*2+2<=_; omega);obtain⟨V2,hV2⟩:=ZR (V1.setCells q (i*2) (Yc x));rw[hV2] at hc1 hO2;have hb2:Below q V1 V2:=by rw[<- hV2]; exact WL (Nat.le_refl q) _ _ _
 have BH:Below w.heap.size w V2:=hb1.trans (by rw[hq]; exact hb2);have hsrc:=own_below h BH;have hc2:=XT (w:=V2.drew) 3 (g:=q) (o:=(i+1)*2) (dL:=n+1-(i+1)) (dC:=G-(i+1)) (A:=⟨b,i*2,none⟩) (sL:=n-i) (sC:=c-i) (m:=n-i) (ys:=encs (E.drop i)) (by simp only[Nat.min_def]; split <;> omega) hel (fun j u hj=>by
  rw[<- Wy,List.getElem?_drop] at hj;rw[Addr.add_lit];exact Vx hsrc hj) (fun j hj=>Xv (Ye hO2) (by rw[hel] at hj; omega)) (VY _)
 have hO3:=Yo (encs (E.drop i)) ((i+1)*2) V2.drew _ (Ye hO2) (by
  rw[hel,List.length_append,List.length_append,List.length_take,List.length_drop,List.length_append,Wq,hyl];show(i+1)*2+(n-i)*2<=min (i*2) _+2+(_-(i*2+2)); omega)
 have eL:(((encs (E.take i)++ys).take (i*2)++Yc x++(encs (E.take i)++ys).drop (i*2+(Yc x).length)).take ((i+1)*2)++encs (E.drop i)++((encs (E.take i)++ys).take (i*2)++Yc x++(encs (E.take i)++ys).drop (i*2+(Yc x).length)).drop ((i+1)*2+(encs (E.drop i)).length))=encs (E.take i++x::E.drop i):=by
  rw[List.take_left' Wq,qB];have h1:(encs (E.take i)++Yc x).length=(i+1)*2:=by rw[List.length_append,Wq]; show i*2+2=_; omega
  have h2:((encs (E.take i)++Yc x)++(encs (E.take i)++ys).drop (i*2+(Yc x).length)).drop ((i+1)*2+(encs (E.drop i)).length)=[]:=List.drop_of_length_le (by
   rw[List.length_append,h1,List.length_drop,List.length_append,Wq,hyl,hel];show(i+1)*2+(i*2+(n+1-i)*2-(i*2+2))<=_;omega)
  rw[h2,List.take_left' h1,List.append_nil]
 rw[eL] at hO3;obtain⟨V3,TN⟩:=ZR (V2.drew.setCells q ((i+1)*2) (encs (E.drop i)));rw[TN] at hc2 hO3;have hb3:Below q V2 V3:=by rw[<- TN]; exact(Below.refl q V2).drew.trans (WL (Nat.le_refl q) _ _ _)
 have qA:Below w.heap.size w V3:=BH.trans (by rw[hq]; exact hb3);have HE:Hid (Oh w (.slice (some ⟨b,0,none⟩) n c) (E.take i++x::E.drop i) (.returned (.slice (some ⟨q,0,none⟩) (n+1) G)) V3):=Z8 ⟨_,rfl,by unfold Zz; rw[Et]; exact own_base hO3 (Nat.zero_le _),grown_below qA,.inr ⟨q,by omega,rfl⟩⟩;obtain⟨PO,Yi⟩:=ZR (Oh w (.slice (some ⟨b,0,none⟩) n c) (E.take i++x::E.drop i));rw[Yi] at HE ⊢;have hz2:(Builtin.append_ #[135,3] 135 #[.slice (some ⟨b,0,none⟩) i c,Z9 ((n:Int)+1-i)]).run Tryz.prog w=.ok (.slice (some ⟨q,0,none⟩) (n+1) G) V1:=by
  rw[show(n:Int)+1-i=((n+1-i:Nat):Int) by omega]; exact hz1
 clear Yi qA hb3 TN hO3 eL hsrc BH hb2 hV2 hO2 hx1 hb1 ND hyl qB Et hel Wq h hn hx hz1 hgl hq;go_enter Tryz.func119,Tryz.ntmps119;go_upto_region 1 with fail;refine wl<|ZB (.slice (some ⟨b,0,none⟩) n c) (Z9 i)<|Za (.slice (Zb 2 (some ⟨b,0,none⟩) c i) (n-i) (c-i)) (Zq rfl (Zy (some ⟨b,0,none⟩) n c i _ (by omega)) (by kernel_rfl) (by kernel_rfl))<|wn ?_;simp only[pu];go_upto_region 2 with fail;refine wl<|YX (.slice (some ⟨g,0,none⟩) 1 1) (Z9 1) (Z9 1)<|wn ?_;simp only[pu];go_upto_region 3 with fail;refine wl<|ZQ (Z9 1)<|Zg (Y4 rfl 1 0 dF)<|wn ?_;simp only[pu];go_upto_region 5 with fail;refine wl<|YX (.slice (some ⟨b,0,none⟩) n c) (Z9 n) (Z9 n)<|wn ?_;simp only[pu];go_upto_region 6 with fail;refine wl<|ZB (Z9 i) (Z9 n)<|Zg (Y4 rfl i n dF)<|wn ?_;simp only[pu];go_upto_region 8 with fail;refine wl<|ZB (Z9 n) (Z9 1)<|Yd (Z9 (n+1:Nat)) (Yk rfl n 1 (by omega))<|ZB (.slice (some ⟨b,0,none⟩) n c) (Z9 c) <|
  Zg (YO rfl (n+1:Nat) c dT)<|wn ?_
 simp only[pu];go_upto_region 9 with fail;refine wl<|ZB (.slice (some ⟨b,0,none⟩) n c) (Z9 i)<|Za (.slice (some ⟨b,0,none⟩) i c) (Ux rfl (VG (some ⟨b,0,none⟩) n c i _ (by omega)) (by kernel_rfl) (by kernel_rfl))<|ZB (Z9 n) (Z9 1) <|
  Yd (Z9 ((n:Int)+1)) (W9 rfl n 1 (by omega))<|ZQ (Z9 i)<|Yd (Z9 ((n:Int)+1-i)) (Tv rfl ((n:Int)+1) i (by omega)) ?_
 refine RV rfl (some 40) rfl 135 rfl (.tmp 34) (.tmp 39) 135 3 rfl (.slice (some ⟨b,0,none⟩) i c) (Z9 ((n:Int)+1-i)) (.slice (some ⟨q,0,none⟩) (n+1) G) V1 (by kernel_rfl) (by kernel_rfl) hz2 ?_;refine ZQ (.slice (some ⟨q,0,none⟩) (n+1) G)<|wn ?_;simp only[pu];clear hz2;go_upto_region 10 with fail;refine wl<|ZB (.slice (some ⟨q,0,none⟩) (n+1) G) (Z9 i) <|
  Za (.slice (some ⟨q,i*2,none⟩) (n+1-i) (G-i)) (by rw[<- YS (s:=2) (c:=G) (k:=i) (g:=q) (by omega)]; exact Zq rfl (Zy (some ⟨q,0,none⟩) (n+1) G i _ (by omega)) (by kernel_rfl) (by kernel_rfl))<|ZQ (.slice (some ⟨g,0,none⟩) 1 1) ?_
 refine Xa rfl (some 45) rfl 3 rfl (.tmp 43) (.tmp 44) 135 rfl (.slice (some ⟨q,i*2,none⟩) (n+1-i) (G-i)) (.slice (some ⟨g,0,none⟩) 1 1) (goInt 1) V2 (by kernel_rfl) (by kernel_rfl) hc1 ?_;simp only[pu];apply wpList_nil;clear hc1;go_upto_region 11 with fail;refine ZP (C:=fun U=>U=V2.drew) 8 (by kernel_rfl) (by kernel_rfl) (rfl) ?_;simp only[List.take_succ_cons,List.take_zero,List.drop_succ_cons,List.drop_zero];refine gy (.slice (some ⟨q,0,none⟩) (n+1) G)<|gy (Z9 i)<|gy (Z9 1)<|Ze (Z9 (i+1:Nat)) (fun U hU=>Yk rfl i 1 (by omega) (by kernel_rfl) (by kernel_rfl) _) <|
   Ze (.slice (some ⟨q,(i+1)*2,none⟩) (n+1-(i+1)) (G-(i+1))) (fun U hU=>by rw[<- YS (s:=2) (c:=G) (k:=i+1) (g:=q) (by omega)]; exact Zq rfl (Zy (some ⟨q,0,none⟩) (n+1) G (i+1) _ (by omega)) (by kernel_rfl) (by kernel_rfl)) <|
   gy (.slice (some ⟨b,0,none⟩) n c)<|gy (Z9 i) <|
   Ze (.slice (some ⟨b,i*2,none⟩) (n-i) (c-i)) (fun U hU=>by rw[<- YS (s:=2) (c:=c) (k:=i) (g:=b) (by omega)]; exact Zq rfl (Zy (some ⟨b,0,none⟩) n c i _ (by omega)) (by kernel_rfl) (by kernel_rfl)) ?_
 simp only[pu];apply wpQuiet_nil;intro U hU;subst hU;refine Xa rfl (some 54) rfl 3 rfl (.tmp 50) (.tmp 53) 135 rfl (.slice (some ⟨q,(i+1)*2,none⟩) (n+1-(i+1)) (G-(i+1))) (.slice (some ⟨b,i*2,none⟩) (n-i) (c-i)) (goInt (n-i:Nat)) V3 (by kernel_rfl) (by kernel_rfl) hc2 ?_;simp only[pu];apply wpList_nil;clear hc2;go_upto_region 12 with fail;refine wl<|ZB (.slice (some ⟨q,0,none⟩) (n+1) G) (.slice (some ⟨q,0,none⟩) (n+1) G)<|wn ?_;simp only[pu];go_wp2_with fail;exact HE.out
theorem J3 {w:World}{b n c:Nat}{E:List Eo}(h:w.ownsRow 0 174 2 (.slice (some ⟨b,0,none⟩) n c) n (encs E))(hn:E.length=n){i:Nat}(hi:i<n)(hl:n<=10000)(x:Eo){g:Nat}(hx:Bx w g (ZO x) 174)(hgb:g≠b)(hcc:n+1<=c):Calls Tryz.prog 119 #[.slice (some ⟨b,0,none⟩) n c,Z9 i,.slice (some ⟨g,0,none⟩) 1 1] w (Oh w (.slice (some ⟨b,0,none⟩) n c) (E.take i++x::E.drop i)):=by
 have hnc:n<=c:=(Pz h).2;have hel:(encs (E.drop i)).length=(n-i)*2:=by rw[YJ,List.length_drop,hn]
 have Wq:(encs (E.take i)).length=i*2:=by rw[YJ,List.length_take]; omega
 have Et:(E.take i++x::E.drop i).length=n+1:=by rw[List.length_append,List.length_cons,List.length_take,List.length_drop]; omega
 have qB:encs (E.take i++x::E.drop i)=encs (E.take i)++Yc x++encs (E.drop i):=by
  rw[VX,List.append_assoc]; rfl
 obtain⟨ys,hyl,ND⟩:=J6 h hcc;have hc63:c<=9223372036854775807:=by
  rcases h.2 with⟨h0,-⟩ | ⟨g2,cap,cur,h0,-,-,-,hcm,-⟩
  ·cases h0
  ·simp only[Value.slice.injEq] at h0;obtain⟨-,-,rfl⟩:=h0;unfold maxLen at hcm; omega
 have hsl:(encs E).length=n*2:=by rw[YJ,hn]
 have hc1:=XT (w:=w.drew) 3 (g:=b) (o:=(i+1)*2) (dL:=n+1-(i+1)) (dC:=c-(i+1)) (A:=⟨b,i*2,none⟩) (sL:=n+1-i) (sC:=c-i) (m:=n-i) (ys:=encs (E.drop i)) (by simp only[Nat.min_def]; split <;> omega) hel (fun j u hj=>by
  rw[<- Wy,List.getElem?_drop] at hj;rw[Addr.add_lit];exact Vx (Ye h) hj) (fun j hj=>Xv (Ye ND) (by rw[hel] at hj; omega)) (VY _)
 have hO2:=Yo (encs (E.drop i)) ((i+1)*2) w.drew _ (Ye ND) (by rw[hel,List.length_append,hsl,hyl]; omega);obtain⟨V2,hV2⟩:=ZR (w.drew.setCells b ((i+1)*2) (encs (E.drop i)));rw[hV2] at hc1 hO2;have hg2:w.grownBy V2 (some b):=by rw[<- hV2]; exact WT (grown_drew (World.grownBy.refl w _)) (WI _ _)
 have hx2:Bx V2 g (ZO x) 174:=(hg2.5 g hx.lt (by simpa using hgb)).trans hx;have hc2:=XT (w:=V2) 3 (g:=b) (o:=i*2) (dL:=n+1-i) (dC:=c-i) (A:=⟨g,0,none⟩) (sL:=1) (sC:=1) (m:=1) (ys:=Yc x) (by simp only[Nat.min_def]; split <;> omega) rfl (fun j u hj=>by rw[Addr.add_lit,Nat.zero_add]; exact(ZU (cs:=Yc x) hx2 j u hj |> fun h=>by rwa [Nat.zero_add] at h)) (fun j hj=>Xv hO2 (by have:j<2:=hj; omega)) (Sv x);have hO3:=Yo (Yc x) (i*2) V2 _ hO2 (by
  rw[List.length_append,List.length_append,List.length_take,List.length_drop,List.length_append,hsl,hyl,hel];show i*2+2<=_; omega)
 have eL:(((encs E++ys).take ((i+1)*2)++encs (E.drop i)++(encs E++ys).drop ((i+1)*2+(encs (E.drop i)).length)).take (i*2)++Yc x++((encs E++ys).take ((i+1)*2)++encs (E.drop i)++(encs E++ys).drop ((i+1)*2+(encs (E.drop i)).length)).drop (i*2+(Yc x).length))=encs (E.take i++x::E.drop i):=by
  have h1:((encs E++ys).take ((i+1)*2)).length=(i+1)*2:=by rw[List.length_take,List.length_append,hsl,hyl]; omega
  have h2:(encs E++ys).drop ((i+1)*2+(encs (E.drop i)).length)=[]:=List.drop_of_length_le (by rw[List.length_append,hsl,hyl,hel]; omega);rw[h2,List.append_nil,qB,List.take_append_of_le_length (by omega),List.take_take,Nat.min_eq_left (by omega),List.take_append_of_le_length (by omega),WA];rw[show i*2+(Yc x).length=(i+1)*2 by show i*2+2=_; omega,List.drop_left' h1]
 rw[eL] at hO3;obtain⟨V3,TN⟩:=ZR (V2.setCells b (i*2) (Yc x));rw[TN] at hc2 hO3;have hg3:w.grownBy V3 (some b):=by rw[<- TN]; exact WT hg2 (WI _ _)
 have HE:Hid (Oh w (.slice (some ⟨b,0,none⟩) n c) (E.take i++x::E.drop i) (.returned (.slice (some ⟨b,0,none⟩) (n+1) c)) V3):=Z8 ⟨_,rfl,by unfold Zz; rw[Et]; exact hO3,hg3,.inl rfl⟩;obtain⟨PO,Yi⟩:=ZR (Oh w (.slice (some ⟨b,0,none⟩) n c) (E.take i++x::E.drop i));rw[Yi] at HE ⊢;have HOV:Hid (∀ (ρ:Operand->Value) (o:Oper) (y z:Operand) (oo lb cb:Nat),o.op=.call { callee:=.value (.func 146),args:=#[y,z],argTypes:=#[135,135] }->ρ y=.slice (some ⟨g,0,none⟩) 1 1->ρ z=.slice (some ⟨b,oo,none⟩) lb cb->ρ (.func 146)=.func (.func 146) #[] #[]->(execOp ρ o).run Tryz.prog w=.ok (.value ZY) w):=Z8 fun ρ o y z oo lb cb ho hy hz hf=>qE ho hy hz hx h (by omega) hgb hf;clear Yi hg3 TN hO3 eL hx2 hg2 hV2 hO2 ND hyl ys qB Et hel Wq h hn hx hsl;go_enter Tryz.func119,Tryz.ntmps119;go_upto_region 1 with fail;refine wl<|ZB (.slice (some ⟨b,0,none⟩) n c) (Z9 i)<|Za (.slice (Zb 2 (some ⟨b,0,none⟩) c i) (n-i) (c-i)) (Zq rfl (Zy (some ⟨b,0,none⟩) n c i _ (by omega)) (by kernel_rfl) (by kernel_rfl))<|wn ?_;simp only[pu];go_upto_region 2 with fail;refine wl<|YX (.slice (some ⟨g,0,none⟩) 1 1) (Z9 1) (Z9 1)<|wn ?_;simp only[pu];go_upto_region 3 with fail;refine wl<|ZQ (Z9 1)<|Zg (Y4 rfl 1 0 dF)<|wn ?_;simp only[pu];go_upto_region 5 with fail;refine wl<|YX (.slice (some ⟨b,0,none⟩) n c) (Z9 n) (Z9 n)<|wn ?_;simp only[pu];go_upto_region 6 with fail;refine wl<|ZB (Z9 i) (Z9 n)<|Zg (Y4 rfl i n dF)<|wn ?_;simp only[pu];go_upto_region 8 with fail;refine wl<|ZB (Z9 n) (Z9 1)<|Yd (Z9 (n+1:Nat)) (Yk rfl n 1 (by omega))<|ZB (.slice (some ⟨b,0,none⟩) n c) (Z9 c) <|
  Zg (YO rfl (n+1:Nat) c dF)<|wn ?_
 simp only[pu];go_upto_region 13 with fail;refine wl<|YX (.slice (some ⟨b,0,none⟩) n c) (Z9 n) (Z9 1)<|Yd (Z9 (n+1:Nat)) (Yk rfl n 1 (by omega)) <|
  Za (.slice (some ⟨b,0,none⟩) (n+1) c) (Ux rfl (VG (some ⟨b,0,none⟩) n c (n+1) _ (by omega)) (by kernel_rfl) (by kernel_rfl))<|ZQ (.slice (some ⟨b,0,none⟩) (n+1) c)<|wn ?_
 simp only[pu];go_upto_region 14 with fail;refine wl<|Qc (.slice (some ⟨g,0,none⟩) 1 1) (.slice (some ⟨b,0,none⟩) (n+1) c) (Z9 i) (Z9 1)<|Yd (Z9 (i+1:Nat)) (Yk rfl i 1 (by omega)) <|
  Za (.slice (some ⟨b,(i+1)*2,none⟩) (n+1-(i+1)) (c-(i+1))) (by rw[<- YS (s:=2) (c:=c) (k:=i+1) (g:=b) (by omega)]; exact Zq rfl (Zy (some ⟨b,0,none⟩) (n+1) c (i+1) _ (by omega)) (by kernel_rfl) (by kernel_rfl)) <|
  Za ZY (HOV.out _ _ _ _ ((i+1)*2) (n+1-(i+1)) (c-(i+1)) rfl (by kernel_rfl) (by kernel_rfl) (by kernel_rfl))<|ZQ ZX<|wn ?_
 simp only[pu];clear HOV;go_upto_region 15 with fail;refine ZP (C:=fun U=>U=w.drew) 8 (by kernel_rfl) (by kernel_rfl) (rfl) ?_;simp only[List.take_succ_cons,List.take_zero,List.drop_succ_cons,List.drop_zero];refine gy (.slice (some ⟨b,0,none⟩) (n+1) c)<|gy (Z9 i)<|gy (Z9 1)<|Ze (Z9 (i+1:Nat)) (fun U hU=>Yk rfl i 1 (by omega) (by kernel_rfl) (by kernel_rfl) _) <|
   Ze (.slice (some ⟨b,(i+1)*2,none⟩) (n+1-(i+1)) (c-(i+1))) (fun U hU=>by rw[<- YS (s:=2) (c:=c) (k:=i+1) (g:=b) (by omega)]; exact Zq rfl (Zy (some ⟨b,0,none⟩) (n+1) c (i+1) _ (by omega)) (by kernel_rfl) (by kernel_rfl)) <|
   gy (.slice (some ⟨b,0,none⟩) (n+1) c)<|gy (Z9 i) <|
   Ze (.slice (some ⟨b,i*2,none⟩) (n+1-i) (c-i)) (fun U hU=>by rw[<- YS (s:=2) (c:=c) (k:=i) (g:=b) (by omega)]; exact Zq rfl (Zy (some ⟨b,0,none⟩) (n+1) c (i) _ (by omega)) (by kernel_rfl) (by kernel_rfl)) ?_
 simp only[pu];apply wpQuiet_nil;intro U hU;subst hU;refine Xa rfl (some 77) rfl 3 rfl (.tmp 73) (.tmp 76) 135 rfl (.slice (some ⟨b,(i+1)*2,none⟩) (n+1-(i+1)) (c-(i+1))) (.slice (some ⟨b,i*2,none⟩) (n+1-i) (c-i)) (goInt (n-i:Nat)) V2 (by kernel_rfl) (by kernel_rfl) hc1 ?_;simp only[pu];apply wpList_nil;clear hc1;go_upto_region 16 with fail;refine wl<|ZB (.slice (some ⟨b,0,none⟩) (n+1) c) (Z9 i) <|
  Za (.slice (some ⟨b,i*2,none⟩) (n+1-i) (c-i)) (by rw[<- YS (s:=2) (c:=c) (k:=i) (g:=b) (by omega)]; exact Zq rfl (Zy (some ⟨b,0,none⟩) (n+1) c (i) _ (by omega)) (by kernel_rfl) (by kernel_rfl))<|ZQ (.slice (some ⟨g,0,none⟩) 1 1) ?_
 refine Xa rfl (some 82) rfl 3 rfl (.tmp 80) (.tmp 81) 135 rfl (.slice (some ⟨b,i*2,none⟩) (n+1-i) (c-i)) (.slice (some ⟨g,0,none⟩) 1 1) (goInt 1) V3 (by kernel_rfl) (by kernel_rfl) hc2 ?_;simp only[pu];apply wpList_nil;clear hc2;go_upto_region 17 with fail;refine wl<|ZB (.slice (some ⟨b,0,none⟩) (n+1) c) (.slice (some ⟨b,0,none⟩) (n+1) c)<|wn ?_;simp only[pu];go_wp2_with fail;exact HE.out
theorem qI {w:World}{v:Value}{E:List Eo}(h:Zz w 0 v E){i:Nat}(hi:i<=E.length)(hl:E.length<=10000)(x:Eo){g:Nat}(hx:Bx w g (ZO x) 174)(hg:v.ownBlock≠some g):Calls Tryz.prog 119 #[v,Z9 i,.slice (some ⟨g,0,none⟩) 1 1] w (Oh w v (E.take i++x::E.drop i)):=by
 by_cases he:i=E.length
 ·subst he;exact G5 h hl x hx
 ·rcases XF h with⟨rfl,h0⟩ | ⟨b,c,rfl,-,-,hnc⟩
  ·omega
  ·have hgb:g≠b:=fun e=>hg (by rw[e]; rfl);by_cases hr:c<E.length+1
   ·exact J4 h rfl (by omega) hl x hx hgb hr
   ·exact J3 h rfl (by omega) hl x hx hgb (by omega)
theorem JZ (b k c:Nat)(w:World)(h:k+1<=c):(Instr.slice 135 (.slice (some ⟨b,0,none⟩) k c) (some (Z9 (k:Int))) (some (Z9 ((k+1:Nat):Int))) none).run Tryz.prog w=.ok (.slice (some ⟨b,k*2,none⟩) 1 (c-k)) w:=by
 have h2:=RY (some ⟨b,0,none⟩) k c k (k+1) w (by omega) h;rw[YS (by omega),Nat.add_sub_cancel_left] at h2;exact h2
theorem JY (b c k:Nat):∃ A:Addr,Zb 2 (some ⟨b,0,none⟩) c k=some A/\(c≠k->A=⟨b,k*2,none⟩):=by
 unfold Zb;by_cases h:c=k
 ·rw[if_pos h]; exact⟨_,rfl,fun h2=>absurd h h2⟩
 ·rw[if_neg h,Option.map_some,Addr.add_mid,Nat.zero_add]; exact⟨_,rfl,fun _=>rfl⟩
theorem BG {w:World}{b k c:Nat}{E:List Eo}(h:w.ownsRow 0 174 2 (.slice (some ⟨b,0,none⟩) (k+1) c) (k+1) (encs E))(hn:E.length=k+1){i:Nat}(hi:i<=k)(hl:k<=10000):Calls Tryz.prog 122 #[.slice (some ⟨b,0,none⟩) (k+1) c,Z9 i,Z9 (i+1:Nat)] w (Oh w (.slice (some ⟨b,0,none⟩) (k+1) c) (E.take i++E.drop (i+1))):=by
 have hnc:k+1<=c:=(Pz h).2;have hel:(encs (E.drop (i+1))).length=(k-i)*2:=by rw[YJ,List.length_drop,hn]; omega
 have Wq:(encs (E.take i)).length=i*2:=by rw[YJ,List.length_take]; omega
 have Et:(E.take i++E.drop (i+1)).length=k:=by rw[List.length_append,List.length_take,List.length_drop]; omega
 obtain⟨i0,hi0,hz0,hz1,hz2⟩:=info_parts UE;obtain⟨A,hA,hA2⟩:=JY b c (i+1);have h1:=QL (k:=i) h (by omega);rw[WA] at h1;obtain⟨V1,ha1,ND,hg1⟩:=run_append_fits (P:=Tryz.prog) w.drew 0 135 135 174 i0 2 Tryz.underlying135 hi0 hz1 b i c (encs (E.take i)) (Ye h1) A (k-i) (c-(i+1)) (encs (E.drop (i+1))) hel (fun j u hj=>by
  have hlt:=(List.getElem?_eq_some_iff.1 hj).1;rw[hel] at hlt;rw[hA2 (by omega),Addr.add_lit];rw[<- Wy,List.getElem?_drop] at hj;exact Vx (Ye h) hj) (VY _) (by omega)
 rw[show i+(k-i)=k by omega] at ha1 ND;obtain⟨ys,hyl,hO2⟩:=J6 ND (by omega);obtain⟨zs,hzl,hc1⟩:=RQ V1 0 b (k*2) 1 (c-k) (by omega) (fun j hj=>Xv hO2 (by omega));have hxl:(encs (E.take i)++encs (E.drop (i+1))).length=k*2:=by rw[List.length_append,Wq,hel]; omega
 have hO3:=Yo zs (k*2) V1 _ hO2 (by rw[List.length_append,hxl,hyl,hzl]; omega);obtain⟨V2,hV2⟩:=ZR (V1.setCells b (k*2) zs);rw[hV2] at hc1 hO3;have hO4:=QL (k:=k) hO3 (by omega);have eL:((((encs (E.take i)++encs (E.drop (i+1)))++ys).take (k*2)++zs++((encs (E.take i)++encs (E.drop (i+1)))++ys).drop (k*2+zs.length))).take (k*2)=encs (E.take i++E.drop (i+1)):=by
  rw[List.take_left' hxl,List.append_assoc,List.take_left' hxl,VX]
 rw[eL] at hO4;have hg2:w.grownBy V2 (some b):=by rw[<- hV2]; exact WT (WT (grown_drew (World.grownBy.refl w _)) hg1) (WI _ _)
 have HE:Hid (Oh w (.slice (some ⟨b,0,none⟩) (k+1) c) (E.take i++E.drop (i+1)) (.returned (.slice (some ⟨b,0,none⟩) k c)) V2):=Z8 ⟨_,rfl,by unfold Zz; rw[Et]; exact hO4,hg2,.inl rfl⟩;obtain⟨PO,Yi⟩:=ZR (Oh w (.slice (some ⟨b,0,none⟩) (k+1) c) (E.take i++E.drop (i+1)));rw[Yi] at HE ⊢;have HA:=Z8 hA;clear Yi hg2 eL hO4 hO3 hV2 hxl hzl hO2 hyl hg1 ND h1 hA hA2 Et hel Wq h hn hi0 hz0 hz1 hz2 ys zs;go_enter Tryz.func122,Tryz.ntmps122;go_upto_region 1 with fail;refine wl<|Gg (.slice (some ⟨b,0,none⟩) (k+1) c) (Z9 i) (Z9 (i+1:Nat)) (.slice (some ⟨b,0,none⟩) (k+1) c) (Z9 (k+1:Nat)) <|
  Za (sliced (some ⟨b,0,none⟩) i (i+1) (k+1) 2) (NG rfl (Pg (some ⟨b,0,none⟩) (k+1) c i (i+1) (k+1) _ (by omega) (by omega) (by omega)) (by kernel_rfl) (by kernel_rfl) (by kernel_rfl) (by kernel_rfl))<|wn ?_
 simp only[pu];go_upto_region 2 with fail;refine wl<|ZB (Z9 i) (Z9 (i+1:Nat))<|Zg (Y4 rfl i (i+1) dF)<|wn ?_;simp only[pu];go_upto_region 4 with fail;refine wl<|YX (.slice (some ⟨b,0,none⟩) (k+1) c) (Z9 (k+1:Nat)) (Z9 (k+1:Nat))<|wn ?_;simp only[pu];go_upto_region 5 with fail;refine ZP (C:=fun U=>U=w.drew) 6 (by kernel_rfl) (by kernel_rfl) (rfl) ?_;simp only[List.take_succ_cons,List.take_zero,List.drop_succ_cons,List.drop_zero];refine gy (.slice (some ⟨b,0,none⟩) (k+1) c)<|gy (Z9 i)<|Ze (.slice (some ⟨b,0,none⟩) i c) (fun U hU=>Ux rfl (VG (some ⟨b,0,none⟩) (k+1) c i _ (by omega)) (by kernel_rfl) (by kernel_rfl))<|gy (.slice (some ⟨b,0,none⟩) (k+1) c) <|
   gy (Z9 (i+1:Nat))<|Ze (.slice (some A) (k-i) (c-(i+1))) (fun U hU=>by rw[<- HA.out,show k-i=k+1-(i+1) by omega]; exact Zq rfl (Zy (some ⟨b,0,none⟩) (k+1) c (i+1) _ (by omega)) (by kernel_rfl) (by kernel_rfl)) ?_
 simp only[pu];apply wpQuiet_nil;intro U hU;subst hU;refine YU rfl (some 26) rfl 135 rfl (.tmp 22) (.tmp 25) 135 rfl (.slice (some ⟨b,0,none⟩) i c) (.slice (some A) (k-i) (c-(i+1))) (.slice (some ⟨b,0,none⟩) k c) V1 (by kernel_rfl) (by kernel_rfl) ha1 ?_;refine ZQ (.slice (some ⟨b,0,none⟩) k c)<|wn ?_;simp only[pu];clear ha1 HA;go_upto_region 6 with fail;refine wl<|Qc (.slice (some ⟨b,0,none⟩) k c) (.slice (some ⟨b,0,none⟩) k c) (Z9 k) (Z9 (k+1:Nat))<|Za (.slice (some ⟨b,k*2,none⟩) 1 (c-k)) (SN rfl (JZ b k c _ (by omega)) (by kernel_rfl) (by kernel_rfl) (by kernel_rfl)) ?_;refine Pj rfl 0 rfl (.tmp 31) 135 rfl rfl (.slice (some ⟨b,k*2,none⟩) 1 (c-k)) (.tuple #[]) V2 (by kernel_rfl) hc1 ?_;apply wpList_nil;clear hc1;go_upto_region 7 with fail;refine wl<|ZB (.slice (some ⟨b,0,none⟩) k c) (.slice (some ⟨b,0,none⟩) k c)<|wn ?_;simp only[pu];go_wp2_with fail;exact HE.out
theorem qG {w:World}{v:Value}{E:List Eo}(h:Zz w 0 v E){i:Nat}(hi:i<E.length)(hl:E.length<=10000):Calls Tryz.prog 122 #[v,Z9 i,Z9 (i+1:Nat)] w (Oh w v (E.take i++E.drop (i+1))):=by
 rcases XF h with⟨rfl,h0⟩ | ⟨b,c,rfl,-,-,hnc⟩
 ·omega
 ·obtain⟨k,hk⟩:∃ k,E.length=k+1:=⟨E.length-1,by omega⟩;unfold Zz at h;rw[hk] at h ⊢;exact BG h hk (by omega) (by omega)
end Go.Proofs.YtnelmomagdcmnaaGreat.Ex
namespace Go.Proofs.YtnelmomagdcmnaaGreat.Ex
open Go.RowKit Go.Sort Go.Shelf
def SV:Go.Shelf.Ren:=⟨fun | 5=>72 | 8=>103 | 7=>102 | 19=>132 | 20=>133 | 10=>123 | 11=>124 | 12=>125 | 13=>126 | 14=>127 | 15=>128 | 16=>129 | 17=>130 | 18=>131 | 30=>148 | 31=>149 | 32=>150 | 33=>151 | 34=>152 | 35=>143 | 40=>158 | n=>n,fun | 23=>22 | 25=>3 | 3=>3 | 32=>185 | 22=>22 | 0=>0 | 44=>175 | 46=>23 | 4=>4 | 36=>210 | 35=>209 | 41=>162 | 5=>5 | 9=>9 | 53=>226 | 57=>190 | 63=>235 | 64=>236 | n=>n,fun | n=>n⟩
theorem Nq:Go.Proofs.SlLaysM.n5 Tryz.prog SV:={
  mixed:=by kernel_rfl
  f5:=⟨Tryz.f72.name,by decide,Tryz.func72.trans (congrArg some (by kernel_rfl))⟩
  f7:=⟨Tryz.f102.name,by decide,Tryz.func102.trans (congrArg some (by kernel_rfl))⟩
  f8:=Tryz.func103.trans (congrArg some (by kernel_rfl))
  f10:=⟨Tryz.f123.name,by decide,Tryz.func123.trans (congrArg some (by kernel_rfl))⟩
  f11:=⟨Tryz.f124.name,by decide,Tryz.func124.trans (congrArg some (by kernel_rfl))⟩
  f12:=⟨Tryz.f125.name,by decide,Tryz.func125.trans (congrArg some (by kernel_rfl))⟩
  f13:=⟨Tryz.f126.name,by decide,Tryz.func126.trans (congrArg some (by kernel_rfl))⟩
  f14:=⟨Tryz.f127.name,by decide,Tryz.func127.trans (congrArg some (by kernel_rfl))⟩
  f15:=⟨Tryz.f128.name,by decide,Tryz.func128.trans (congrArg some (by kernel_rfl))⟩
  f16:=⟨Tryz.f129.name,by decide,Tryz.func129.trans (congrArg some (by kernel_rfl))⟩
  f17:=⟨Tryz.f130.name,by decide,Tryz.func130.trans (congrArg some (by kernel_rfl))⟩
  f18:=⟨Tryz.f131.name,by decide,Tryz.func131.trans (congrArg some (by kernel_rfl))⟩
  f19:=Tryz.func132.trans (congrArg some (by kernel_rfl))
  f20:=Tryz.func133.trans (congrArg some (by kernel_rfl))
  f30:=⟨Tryz.f148.name,by decide,Tryz.func148.trans (congrArg some (by kernel_rfl))⟩
  f31:=Tryz.func149.trans (congrArg some (by kernel_rfl))
  f32:=Tryz.func150.trans (congrArg some (by kernel_rfl))
  f33:=⟨Tryz.f151.name,by decide,Tryz.func151.trans (congrArg some (by kernel_rfl))⟩
  f34:=⟨Tryz.f152.name,by decide,Tryz.func152.trans (congrArg some (by kernel_rfl))⟩
  f35:=⟨Tryz.f143.name,by decide,Tryz.func143.trans (congrArg some (by kernel_rfl))⟩
  f40:=⟨Tryz.f158.name,by decide,Tryz.func158.trans (congrArg some (by kernel_rfl))⟩
  t0:=Tryz.underlying0
  a0:=Tryz.isAgg0
  z0:=Tryz.sizeOf0
  v0:=Tryz.zeroValue0
  t3:=Tryz.underlying3
  a3:=Tryz.isAgg3
  z3:=Tryz.sizeOf3
  v3:=Tryz.zeroValue3
  t4:=Tryz.underlying4
  a4:=Tryz.isAgg4
  z4:=Tryz.sizeOf4
  v4:=Tryz.zeroValue4
  t5:=Tryz.underlying5
  a5:=Tryz.isAgg5
  z5:=Tryz.sizeOf5
  v5:=Tryz.zeroValue5
  t9:=Tryz.underlying9
  a9:=Tryz.isAgg9
  z9:=Tryz.sizeOf9
  v9:=Tryz.zeroValue9
  t22:=Tryz.underlying22
  a22:=Tryz.isAgg22
  z22:=Tryz.sizeOf22
  v22:=Tryz.zeroValue22
  t23:=Tryz.underlying22
  a23:=Tryz.isAgg22
  z23:=Tryz.sizeOf22
  v23:=Tryz.zeroValue22
  t25:=Tryz.underlying3
  a25:=Tryz.isAgg3
  z25:=Tryz.sizeOf3
  v25:=Tryz.zeroValue3
  t32:=Tryz.underlying185
  a32:=Tryz.isAgg185
  z32:=Tryz.sizeOf185
  v32:=Tryz.zeroValue185
  t35:=Tryz.underlying209
  a35:=Tryz.isAgg209
  z35:=Tryz.sizeOf209
  v35:=Tryz.zeroValue209
  t36:=Tryz.underlying210
  a36:=Tryz.isAgg210
  z36:=Tryz.sizeOf210
  v36:=Tryz.zeroValue210
  t41:=Tryz.underlying162
  a41:=Tryz.isAgg162
  z41:=Tryz.sizeOf162
  v41:=Tryz.zeroValue162
  t44:=Tryz.underlying175
  a44:=Tryz.isAgg175
  z44:=Tryz.sizeOf175
  v44:=Tryz.zeroValue175
  t46:=Tryz.underlying23
  a46:=Tryz.isAgg23
  z46:=Tryz.sizeOf23
  v46:=Tryz.zeroValue23
  t53:=Tryz.underlying226
  a53:=Tryz.isAgg226
  z53:=Tryz.sizeOf226
  v53:=Tryz.zeroValue226
  t57:=Tryz.underlying190
  a57:=Tryz.isAgg190
  z57:=Tryz.sizeOf190
  v57:=Tryz.zeroValue190
  t63:=Tryz.underlying235
  a63:=Tryz.isAgg235
  z63:=Tryz.sizeOf235
  v63:=Tryz.zeroValue235
  t64:=Tryz.underlying236
  a64:=Tryz.isAgg236
  z64:=Tryz.sizeOf236
  v64:=Tryz.zeroValue236 }
def xJ:Go.Shelf.Ren:=⟨fun | 43=>79 | n=>n,fun | 22=>22 | 23=>3 | 3=>3 | 4=>4 | 0=>0 | n=>n,fun | n=>n⟩
theorem dG:Go.Proofs.SlLaysN.n43 Tryz.prog xJ:={
  mixed:=by kernel_rfl
  f43:=⟨Tryz.f79.name,by decide,Tryz.func79.trans (congrArg some (by kernel_rfl))⟩
  t0:=Tryz.underlying0
  a0:=Tryz.isAgg0
  z0:=Tryz.sizeOf0
  v0:=Tryz.zeroValue0
  t3:=Tryz.underlying3
  a3:=Tryz.isAgg3
  z3:=Tryz.sizeOf3
  v3:=Tryz.zeroValue3
  t4:=Tryz.underlying4
  a4:=Tryz.isAgg4
  z4:=Tryz.sizeOf4
  v4:=Tryz.zeroValue4
  t22:=Tryz.underlying22
  a22:=Tryz.isAgg22
  z22:=Tryz.sizeOf22
  v22:=Tryz.zeroValue22
  t23:=Tryz.underlying3
  a23:=Tryz.isAgg3
  z23:=Tryz.sizeOf3
  v23:=Tryz.zeroValue3
  i23:=by kernel_rfl }
theorem own_holds {w:World}{B n c g:Nat}{L:List Int}(h:w.ownsRow B 3 1 (.slice (some ⟨g,0,none⟩) n c) n (ZJ L))(hn:L.length=n):Holds (Value.int .i64) w g 0 L.toArray:=by
  intro j hj;have hj2:j<L.length:=by simpa using hj
  have h1:(ZJ L)[j]?=some (Z9 (L.getD j 0)):=VP L j hj2;rw[Nat.zero_add];refine⟨?_,(Xv h (by omega)).2⟩;rw[Vx h h1,getElem!_pos L.toArray j hj,List.getElem_toArray,getD_lt L j 0 hj2]
theorem Bo (L:List Int):(Lib.compact L).length<=L.length:=by
  unfold Lib.compact Lib.compactUpTo;rw[List.length_map];exact Nat.le_trans (List.length_filter_le _ _) (by rw[List.length_range]; exact Nat.le_refl _)
theorem Eh {L:List Int}(hs:L.Pairwise (·<=·)):(Lib.compact L).Pairwise (· < ·)/\∀ k,k∈Lib.compact L↔k∈L:=by
  have key:∀ m,m<=L.length->(Lib.compactUpTo L.toArray m).Pairwise (· < ·)/\(∀ k,k∈Lib.compactUpTo L.toArray m↔k∈L.take m):=by
    intro m;induction m with
    | zero=>intro _; exact⟨List.Pairwise.nil,fun k=>by simp[Lib.compactUpTo]⟩
    | succ m ih=>
      intro hm;obtain⟨h1,h2⟩:=ih (by omega);have hg:L.toArray[m]! = L[m]:=(by rw[getElem!_pos L.toArray m (by simp; omega)]; rfl);have ht:L.take (m+1)=L.take m++[L[m]]:=(by rw[List.take_add_one,List.getElem?_eq_getElem (by omega)]; rfl);rw[Lib.compactUpTo_succ,ht,hg];cases hk:Lib.keeps L.toArray m with
      | true=>
        rw[if_pos rfl];have hlt:∀ x∈L.take m,x<L[m]:=by
          intro x hx;obtain⟨t,ht1,rfl⟩:=List.mem_take_iff_getElem.1 hx;have ht2:t<m:=(by omega);have hk2:=of_decide_eq_true hk;rcases hk2 with h3 | h3
          · omega
          · have hg2:L.toArray[m-1]! = L[m-1]'(by omega):=(by rw[getElem!_pos L.toArray (m-1) (by simp; omega)]; rfl);rw[hg,hg2] at h3;have h4:L[m-1]'(by omega)<=L[m]:=List.pairwise_iff_getElem.1 hs (m-1) m (by omega) (by omega) (by omega);have h5:L[t]'(by omega)<=L[m-1]'(by omega):=by
              rcases Nat.lt_or_ge t (m-1) with h6 | h6
              · exact List.pairwise_iff_getElem.1 hs t (m-1) (by omega) (by omega) h6
              · have e6:t=m-1:=(by omega);subst e6; exact Int.le_refl _
            omega
        refine⟨List.pairwise_append.2 ⟨h1,by simp,fun a ha b hb=>?_⟩,fun k=>?_⟩
        · rw[List.mem_singleton] at hb;rw[hb];exact hlt a ((h2 a).1 ha)
        · rw[List.mem_append,List.mem_append,h2]
      | false=>
        rw[if_neg Bool.false_ne_true,List.append_nil];refine⟨h1,fun k=>?_⟩;rw[h2,List.mem_append,List.mem_singleton];refine⟨.inl,fun h3=>h3.elim id fun h4=>?_⟩;have hk2:¬ (m=0∨L.toArray[m]!≠L.toArray[m-1]!):=of_decide_eq_false hk;have hm0:m≠0:=fun e=>hk2 (.inl e);have hg2:L.toArray[m-1]! = L[m-1]'(by omega):=(by rw[getElem!_pos L.toArray (m-1) (by simp; omega)]; rfl);have h5:L[m]=L[m-1]'(by omega):=by
          rw[hg,hg2] at hk2;by_cases h6:L[m]=L[m-1]'(by omega)
          · exact h6
          · exact absurd (.inr h6) hk2
        rw[h4,h5];exact List.mem_take_iff_getElem.2 ⟨m-1,by omega,rfl⟩
  have h:=key L.length (Nat.le_refl _);rw[List.take_length] at h;exact h
theorem GX (L:List Int):(Lib.compact (L.mergeSort fun x y=>decide (x<=y))).Pairwise (· < ·)/\∀ k,k∈Lib.compact (L.mergeSort fun x y=>decide (x<=y))↔k∈L:=by
  have hs:(L.mergeSort fun x y=>decide (x<=y)).Pairwise (·<=·):=by
    have h:=List.pairwise_mergeSort (le:=fun x y:Int=>decide (x<=y)) (fun a b c h1 h2=>decide_eq_true (Int.le_trans (of_decide_eq_true h1) (of_decide_eq_true h2))) (fun a b=>by rw[Bool.or_eq_true,decide_eq_true_iff,decide_eq_true_iff]; omega) L;exact h.imp fun h=>of_decide_eq_true h
  obtain⟨h1,h2⟩:=Eh hs;exact⟨h1,fun k=>by rw[h2,List.mem_mergeSort]⟩
theorem zI {w:World}{B n c g:Nat}{L L2:List Int}(h:w.ownsRow B 3 1 (.slice (some ⟨g,0,none⟩) n c) n (ZJ L))(hn:L.length=n)(hn2:L2.length=n)(q:Nat)(os:Array Obj) :
    (grow (putRow (Value.int .i64) (Sort.ahead w q) g 0 L2.toArray) os).ownsRow B 3 1 (.slice (some ⟨g,0,none⟩) n c) n (ZJ L2)/\w.grownBy (grow (putRow (Value.int .i64) (Sort.ahead w q) g 0 L2.toArray) os) (some g):=by
  rcases h.2 with⟨h0,-⟩ | ⟨g2,cap,cur,h0,hB,hg,hnc,hcm,hcs,ht⟩
  · cases h0
  · simp only[Value.slice.injEq,Option.some.injEq,Addr.mk.injEq,and_true,true_and] at h0;obtain⟨rfl,rfl⟩:=h0;have hlt:g<w.heap.size:=(Array.getElem?_eq_some_iff.1 hg).1;have hsz:(w.heap.modify g (onCells (putCells (Value.int .i64) 0 L2.toArray))).size=w.heap.size:=(by simp);have hg2:(grow (putRow (Value.int .i64) (Sort.ahead w q) g 0 L2.toArray) os).heap[g]?=some (.cells (putCells (Value.int .i64) 0 L2.toArray cur) 3 (0,0)):=by
      show((w.heap.modify g (onCells (putCells (Value.int .i64) 0 L2.toArray)))++os)[g]?=_;rw[Array.getElem?_append_left (by rw[hsz]; exact hlt),Array.getElem?_modify,if_pos rfl,hg];rfl
    have hz:(putCells (Value.int .i64) 0 L2.toArray cur).size=cur.size:=(by simp[putCells]);refine⟨⟨by rw[VH,hn2,Nat.mul_one],.inr ⟨g,c,_,rfl,hB,hg2,hnc,hcm,by rw[hz]; exact hcs,?_⟩⟩,rfl,rfl,rfl,?_,fun k hk hn=>?_⟩
    · apply List.ext_getElem?;intro j;rw[Nat.mul_one,List.getElem?_take];by_cases hj:j<n
      · rw[if_pos hj,VP L2 j (by omega),Array.getElem?_toList];have hjc:j<cur.size:=(by omega);simp only[putCells,Array.getElem?_mapIdx,Array.getElem?_eq_getElem hjc,Option.map_some];have hjl:j<L2.toArray.size:=(by simp; omega);rw[if_pos ⟨Nat.zero_le _,by omega⟩,Nat.sub_zero,getElem!_pos L2.toArray j hjl,List.getElem_toArray,getD_lt L2 j 0 (by omega)]
      · rw[if_neg hj,List.getElem?_eq_none (by rw[VH]; omega)]
    · show w.heap.size<=((w.heap.modify g (onCells (putCells (Value.int .i64) 0 L2.toArray)))++os).size;rw[Array.size_append,hsz]; omega
    · show((w.heap.modify g (onCells (putCells (Value.int .i64) 0 L2.toArray)))++os)[k]?=_;rw[Array.getElem?_append_left (by rw[hsz]; exact hk),Array.getElem?_modify,if_neg (fun e=>hn (by rw[e]))]
theorem af0 {w:World}{B:Nat}{v:Value}{L:List Int}(h:YB w B v L)(hl:L.length<=1000000):Calls Tryz.prog 72 #[v] w fun e w'=>e=.returned (.tuple #[])/\YB w' B v (L.mergeSort fun x y=>decide (x<=y))/\w.grownBy w' v.ownBlock:=by
  have hp:(L.mergeSort fun x y=>decide (x<=y)).length=L.length:=List.length_mergeSort _;rcases XF h with⟨rfl,h0⟩ | ⟨b,c,rfl,-,hb,-⟩
  · have hL:L=[]:=List.eq_nil_of_length_eq_zero h0;subst hL;have hc:=AnyM.slices_Sort_int_none (P:=Tryz.prog) Nq none 0 w;change Calls Tryz.prog 72 _ _ _ at hc;refine hc.mono fun e w' z=>⟨z.1,?_,?_⟩
    · rw[z.2,List.mergeSort_nil]; exact h
    · rw[z.2]; exact World.grownBy.refl w _
  · unfold YB at h;have hc:=AnyM.slices_Sort_int (P:=Tryz.prog) Nq b 0 c L w (own_holds h rfl) hb (by omega);change Calls Tryz.prog 72 _ _ _ at hc;refine hc.mono ?_;rintro e w' ⟨rfl,q,os,rfl⟩;have h2:=zI h rfl hp q os;refine⟨rfl,?_,h2.2⟩;unfold YB;rw[hp];exact h2.1
theorem xK {w:World}{B:Nat}{v:Value}{L:List Int}(h:YB w B v L)(hl:L.length<=1000000):Calls Tryz.prog 79 #[v] w fun e w'=>∃ v',e=.returned v'/\YB w' B v' (Lib.compact L)/\w.grownBy w' v.ownBlock:=by
  rcases XF h with⟨rfl,h0⟩ | ⟨b,c,rfl,-,hb,hcc⟩
  · have hL:L=[]:=List.eq_nil_of_length_eq_zero h0;subst hL;have hc:=AnyG.slices_Compact_int_empty (P:=Tryz.prog) dG none 0 w;change Calls Tryz.prog 79 _ _ _ at hc;refine hc.mono fun e w' z=>⟨_,z.1,?_,?_⟩
    · rw[z.2]; exact h
    · rw[z.2]; exact World.grownBy.refl w _
  · unfold YB at h;have hc:=AnyG.slices_Compact_int (P:=Tryz.prog) dG b 0 c L w (own_holds h rfl) (by omega) hcc;change Calls Tryz.prog 79 _ _ _ at hc;refine hc.mono ?_;rintro e w' ⟨rfl,q,rfl⟩;have hkl:=Bo L;have hlen:(Lib.compact L++List.replicate (L.length-(Lib.compact L).length) 0).length=L.length:=(by rw[List.length_append,List.length_replicate]; omega);have h2:=zI h rfl hlen q #[];rw[grow_empty] at h2;refine⟨_,rfl,?_,h2.2⟩;have h3:=QL (k:=(Lib.compact L).length) h2.1 hkl;rw[Nat.mul_one,SB,List.take_left' (VH _)] at h3;exact h3
end Go.Proofs.YtnelmomagdcmnaaGreat.Ex
