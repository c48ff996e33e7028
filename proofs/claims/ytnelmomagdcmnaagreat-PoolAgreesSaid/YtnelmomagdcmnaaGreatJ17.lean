/-
  Texts joined.
-/
import Derived.Test.YtnelmomagdcmnaaGreatJ16
import Derived.Lib.Overlaps
import Derived.Lib.AppendZerosOnto
import Derived.Lib.SliceRun
import Derived.Laws.OwnMore
import Derived.Lib.BufferWrite
import Derived.Lib.UnsafeStr
set_option maxRecDepth 100000
set_option maxHeartbeats 8000000
set_option linter.unusedSimpArgs false
set_option linter.unusedVariables false
namespace Go.Proofs.YtnelmomagdcmnaaGreat.Sd
attribute [local irreducible] wpList wpQuiet
open Go.RowKit
theorem J6 {w:World}{B e s n c g:Nat}{xs:List Value}(h:w.ownsRow B e s (.slice (some ⟨g,0,none⟩) n c) n xs)(hc:n+1<=c):∃ ys:List Value,ys.length=s/\w.ownsRow B e s (.slice (some ⟨g,0,none⟩) (n+1) c) (n+1) (xs++ys):=by
 rcases h.2 with⟨h0,-⟩ | ⟨g2,cap,cur,h0,hB,hg,hnc,hcm,hcs,ht⟩
 ·cases h0
 ·simp only[Value.slice.injEq,Option.some.injEq,Addr.mk.injEq,and_true,true_and] at h0;obtain⟨rfl,rfl⟩:=h0;have hl:(n+1)*s<=cur.toList.length:=by rw[Array.length_toList,hcs]; exact Nat.mul_le_mul_right _ hc
  have hz:(n+1)*s=n*s+s:=by rw[Nat.add_mul,Nat.one_mul]
  refine⟨(cur.toList.drop (n*s)).take s,by rw[List.length_take,List.length_drop]; omega,⟨?_,.inr ⟨g,c,cur,rfl,hB,hg,hc,hcm,hcs,?_⟩⟩⟩
  ·rw[List.length_append,h.1,List.length_take,List.length_drop]; omega
  ·rw[hz,List.take_add,ht]
theorem QL {w:World}{B e s n c g k:Nat}{xs:List Value}(h:w.ownsRow B e s (.slice (some ⟨g,0,none⟩) n c) n xs)(hk:k<=n):w.ownsRow B e s (.slice (some ⟨g,0,none⟩) k c) k (xs.take (k*s)):=by
 rcases h.2 with⟨h0,-⟩ | ⟨g2,cap,cur,h0,hB,hg,hnc,hcm,hcs,ht⟩
 ·cases h0
 ·simp only[Value.slice.injEq,Option.some.injEq,Addr.mk.injEq,and_true,true_and] at h0;obtain⟨rfl,rfl⟩:=h0;have hm:k*s<=n*s:=Nat.mul_le_mul_right _ hk;refine⟨by rw[List.length_take,h.1]; omega,.inr ⟨g,c,cur,rfl,hB,hg,by omega,hcm,hcs,?_⟩⟩;rw[<- ht,List.take_take,Nat.min_eq_left hm]
theorem TB (w:World)(e s m cap:Nat)(cur:Array Value)(h1:cur.size=cap*s)(h2:m<=cap)(h3:cap<=maxLen):(w.alloc (.cells cur e)).ownsRow w.heap.size e s (.slice (some ⟨w.heap.size,0,none⟩) m cap) m (cur.toList.take (m*s)):=
 ⟨by rw[List.length_take,Array.length_toList,h1]; have:=Nat.mul_le_mul_right s h2; omega,.inr ⟨_,cap,cur,rfl,Nat.le_refl _,heap_alloc_last w _,h2,h3,h1,rfl⟩⟩
theorem Xv {w:World}{B e s n c g:Nat}{xs:List Value}(h:w.ownsRow B e s (.slice (some ⟨g,0,none⟩) n c) n xs){j:Nat}(hj:j<n*s):(w.cell? ⟨g,j,none⟩).isSome=true/\w.frozen? ⟨g,j,none⟩=false:=by
 obtain⟨cur,hcur,hz,-,-⟩:=XK h;refine⟨?_,frozen_of_row w g _ _ e hcur⟩;rw[cell_of_row w g _ _ e (0,0) hcur,Array.getElem?_eq_getElem (by omega)];rfl
theorem Vx {w:World}{B e s n c g:Nat}{xs:List Value}(h:w.ownsRow B e s (.slice (some ⟨g,0,none⟩) n c) n xs){j:Nat}{u:Value}(hj:xs[j]?=some u):w.cell? ⟨g,j,none⟩=some u:=by
 obtain⟨a,c2,e2,h1,-⟩:=Yy h;simp only[Value.slice.injEq] at e2;obtain⟨rfl,-,rfl⟩:=e2;obtain⟨b,off,e3,-,hc⟩:=h1 j u hj;cases e3;rw[Nat.zero_add] at hc;exact hc
theorem XT {w:World}(ty:TypeId){g o dL dC:Nat}{A:Addr}{sL sC m:Nat}{ys:List Value}(hm:Nat.min sL dL=m)(hl:ys.length=m*2)(hsrc:∀ j u,ys[j]?=some u->w.cell? (A.add j)=some u)(hdst:∀ j,j<ys.length->(w.cell? ⟨g,o+j,none⟩).isSome=true/\w.frozen? ⟨g,o+j,none⟩=false)(h1:∀ u∈ys,u.oneCell'=true) :
  (Builtin.copy_ #[132,132] ty #[.slice (some ⟨g,o,none⟩) dL dC,.slice (some A) sL sC]).run Tryz.prog w=.ok (goInt m) (w.setCells g o ys):=by
 obtain⟨i0,hi0,hz0,hz1,hz2⟩:=info_parts UE;have hfc:=run_firstCells_some (P:=Tryz.prog) w i0.size m A sL sC ys (by rw[hz1]; exact hl) hsrc;have hst:=run_storeCells_cells (P:=Tryz.prog) g o ys 0 w (fun j hj=>(hdst j hj).1) (fun j hj=>(hdst j hj).2) h1;rw[Nat.add_zero] at hst;simp[Builtin.copy_,run_underlying Tryz.underlying132,Builtin.lenOf,sizeOf,typeInfo,hi0,hm,hfc,hst]
theorem Xa {P:Program}{w:World}{ops:Array Oper}{rest:List Oper}{o:Oper}{a:Act}{Q:Exit->Act->World->Prop}(hgd:o.guard=none)(d:Option Tmp)(hd:o.dst=d)(ty:TypeId)(hty:o.type=ty)(s x:Operand)(t:TypeId)
  (ho:o.op=.call { callee:=.builtin .copy,args:=#[s,x],argTypes:=#[t,t] }) (v u v':Value) (w':World) (hs:a.eval s=v) (hx:a.eval x=u)
  (hr:(Builtin.copy_ #[t,t] ty #[v,u]).run P w=.ok v' w') (k:wpList P ops Q rest (a.put d v') w'):wpList P ops Q (o::rest) a w:=by
 subst hd;subst hty;refine wpList_plain hgd fun K hK=>?_;unfold Oper.wp execOp;simp only[ho,resolve,invoke,builtin,Sem.run_bind,Sem.run_pure,Result.andThen_ok,List.map_toArray,List.map_cons,List.map_nil,hs,hx,hr];exact hK _ _ k
theorem RV {P:Program}{w:World}{ops:Array Oper}{rest:List Oper}{o:Oper}{a:Act}{Q:Exit->Act->World->Prop}(hgd:o.guard=none)(d:Option Tmp)(hd:o.dst=d)(ty:TypeId)(hty:o.type=ty)(s x:Operand)(t t2:TypeId)
  (ho:o.op=.call { callee:=.builtin .append,args:=#[s,x],argTypes:=#[t,t2] }) (v u v':Value) (w':World) (hs:a.eval s=v) (hx:a.eval x=u)
  (hr:(Builtin.append_ #[t,t2] ty #[v,u]).run P w=.ok v' w') (k:wpList P ops Q rest (a.put d v') w'):wpList P ops Q (o::rest) a w:=by
 subst hd;subst hty;refine wpList_plain hgd fun K hK=>?_;unfold Oper.wp execOp;simp only[ho,resolve,invoke,builtin,Sem.run_bind,Sem.run_pure,Result.andThen_ok,List.map_toArray,List.map_cons,List.map_nil,hs,hx,hr];exact hK _ _ k
theorem Pj {P:Program}{w:World}{ops:Array Oper}{rest:List Oper}{o:Oper}{a:Act}{Q:Exit->Act->World->Prop}(hgd:o.guard=none)(ty:TypeId)(hty:o.type=ty)(x:Operand)(t:TypeId)
  (ho:o.op=.call { callee:=.builtin .clear,args:=#[x],argTypes:=#[t] }) (hd:o.dst=none) (u v':Value) (w':World) (hx:a.eval x=u)
  (hr:(Builtin.clear_ #[t] ty #[u]).run P w=.ok v' w') (k:wpList P ops Q rest a w'):wpList P ops Q (o::rest) a w:=by
 subst hty;refine wpList_plain hgd fun K hK=>?_;unfold Oper.wp execOp;simp only[ho,resolve,invoke,builtin,Sem.run_bind,Sem.run_pure,Result.andThen_ok,List.map_toArray,List.map_cons,List.map_nil,hx,hr];show K (a.put o.dst v') w';rw[hd];exact hK _ _ k
theorem RQ (w:World)(ty:TypeId)(b o n c:Nat)(hn:0<n)(hc:∀ j,j<n*2->(w.cell? ⟨b,o+j,none⟩).isSome=true/\w.frozen? ⟨b,o+j,none⟩=false) :
  ∃ zs:List Value,zs.length=n*2/\(Builtin.clear_ #[132] ty #[.slice (some ⟨b,o,none⟩) n c]).run Tryz.prog w=.ok (.tuple #[]) (w.setCells b o zs):=by
 have hz:(zeroValue 168).run Tryz.prog w=.ok (.agg (ZO VB)) w:=by kernel_rfl
 have hl:(Builtin.zeroCells (Value.agg (ZO VB)).cells n).toList.length=n*2:=by rw[Array.length_toList,size_zeroCells]; rfl
 have h1:∀ u∈(Builtin.zeroCells (Value.agg (ZO VB)).cells n).toList,u.oneCell'=true:=fun u hu=>by
  obtain⟨j,hj,rfl⟩:=List.mem_iff_getElem.1 hu;rw[Array.getElem_toList];simp only[Builtin.zeroCells,Array.getElem_map,Array.getElem_range];rw[show(Value.agg (ZO VB)).cells.size=2 from rfl];rcases (show j % 2=0∨j % 2=1 by omega) with h | h <;> rw[h] <;> rfl
 have hst:=run_storeCells_cells (P:=Tryz.prog) b o (Builtin.zeroCells (Value.agg (ZO VB)).cells n).toList 0 w (fun j hj=>(hc j (by rw[hl] at hj; exact hj)).1) (fun j hj=>(hc j (by rw[hl] at hj; exact hj)).2) h1;simp only[Nat.add_zero] at hst;obtain⟨m,rfl⟩:∃ m,n=m+1:=⟨n-1,by omega⟩;exact⟨_,hl,by simp[Builtin.clear_,run_underlying Tryz.underlying132,hz,hst]⟩
def Oh (w:World)(v:Value)(E:List Eo)(e:Ending)(w':World):Prop:=∃ v',e=.returned v'/\Zz w' 0 v' E/\w.grownBy w' v.ownBlock/\(v'.ownBlock=v.ownBlock∨∃ k,w.heap.size<=k/\v'.ownBlock=some k)
theorem YS {s c k g:Nat}(h:c≠k):Zb s (some ⟨g,0,none⟩) c k=some ⟨g,k*s,none⟩:=by
 unfold Zb;rw[if_neg h,Option.map_some,Addr.add_mid,Nat.zero_add]
theorem WI {w:World}{b:Nat}(vs:List Value)(o:Nat):w.grownBy (w.setCells b o vs) (some b):=by
 obtain⟨⟨h1,h2,h3,h4,h5⟩,h6⟩:=Vl (b:=b) vs o w;exact⟨h1,h2,h3,h4,fun k hk hn=>h6 k hk fun e=>hn (by rw[e])⟩
theorem grown_below {w w':World}{r:Option Nat}(h:Below w.heap.size w w'):w.grownBy w' r:=by
 obtain⟨h1,h2,h3,h4,h5⟩:=h;exact⟨h1,h2,h3,h4,fun k hk hn=>h5 k hk⟩
theorem WT {a b c:World}{r:Option Nat}(h:a.grownBy b r)(k:b.grownBy c r):a.grownBy c r:=⟨k.1.trans h.1,k.2.trans h.2,k.3.trans h.3,Nat.le_trans h.4 k.4,fun i hi hn=>(k.5 i (Nat.lt_of_lt_of_le hi h.4) hn).trans (h.5 i hi hn)⟩
theorem grown_drew {w w':World}{r:Option Nat}(h:w.grownBy w' r):w.grownBy w'.drew r:=⟨h.1,h.2,h.3,h.4,h.5⟩
theorem J5 {w:World}{g n c i k:Nat}{E:List Eo}(h:w.ownsRow 0 168 2 (.slice (some ⟨g,0,none⟩) n c) n (encs E))(hn:n=E.length)(hi:i<=n)(hk:0<k)(hg:c<i+k)(hb:i+k<=20000)(ty:TypeId) :
  ∃ G V ys,(Builtin.append_ #[132,3] ty #[.slice (some ⟨g,0,none⟩) i c,Z9 ((k:Nat):Int)]).run Tryz.prog w=.ok (.slice (some ⟨w.heap.size,0,none⟩) (i+k) G) V/\V.ownsRow w.heap.size 168 2 (.slice (some ⟨w.heap.size,0,none⟩) (i+k) G) (i+k) (encs (E.take i)++ys)/\ys.length=k*2/\i+k<=G/\Below w.heap.size w V:=by
 obtain⟨i0,hi0,hz0,hz1,hz2⟩:=info_parts UE;have hl:(encs (E.take i)).length=i*2:=by rw[YJ,List.length_take]; omega
 have hold:(Builtin.firstCells i0.size i (.slice (some ⟨g,0,none⟩) i c)).run Tryz.prog w.drew=.ok (encs (E.take i)).toArray w.drew:=by
  rw[hz1];exact run_firstCells_some w.drew 2 i ⟨g,0,none⟩ i c (encs (E.take i)) hl fun j v hj=>by
   rw[Addr.add_lit,Nat.zero_add];have h2:=QL (k:=i) h hi;rw[WA] at h2;exact Vx h2 hj
 have hr:=Lib.run_append_grow_zeros w 132 3 ty 168 i0 _ .i64 .i64 Tryz.underlying132 Tryz.underlying3 hi0 hz0 (some ⟨g,0,none⟩) i c (encs (E.take i)) hold k hk (by omega) hg (by omega) (by rw[hz2]; omega) (by rw[hz2]; exact growslice_fits hg (by omega));have hG1:=grownCap_ge w (i+k) c 168;have hG2:=grownCap_le_maxLen w (i+k) c 168 (by unfold maxLen; omega);generalize grownCap w (i+k) c 168=G at *
 have hzs:(Builtin.zeroCells (Value.agg (ZO VB)).cells k).size=k*2:=by rw[size_zeroCells]; rfl
 have ae4:(Builtin.zeroCells (Value.agg (ZO VB)).cells (G-(i+k))).size=(G-(i+k))*2:=by rw[size_zeroCells]; rfl
 have hown:=TB w.drew 168 2 (i+k) G ((encs (E.take i)).toArray++Builtin.zeroCells (Value.agg (ZO VB)).cells k++Builtin.zeroCells (Value.agg (ZO VB)).cells (G-(i+k))) (by rw[Array.size_append,Array.size_append,List.size_toArray,hl,hzs,ae4]; omega) hG1 hG2;refine⟨G,_,(Builtin.zeroCells (Value.agg (ZO VB)).cells k).toList,hr,?_,by rw[Array.length_toList,hzs],hG1,(Below.refl w.heap.size w).drew.alloc (Nat.le_refl _) _⟩
 ·have e:(((encs (E.take i)).toArray++Builtin.zeroCells (Value.agg (ZO VB)).cells k++Builtin.zeroCells (Value.agg (ZO VB)).cells (G-(i+k))).toList.take ((i+k)*2))=encs (E.take i)++(Builtin.zeroCells (Value.agg (ZO VB)).cells k).toList:=by
   rw[Array.toList_append,Array.toList_append,List.toList_toArray];refine List.take_left' ?_;rw[List.length_append,hl,Array.length_toList,hzs]; omega
  rw[<- e];exact hown
theorem qE {w:World}{ρ:Operand->Value}{o:Oper}{x y:Operand}(ho:o.op=.call { callee:=.value (.func 115),args:=#[x,y],argTypes:=#[132,132] }){g b oo lb cb n c:Nat}{xs:List Value}{v:Eo}(hx:ρ x=.slice (some ⟨g,0,none⟩) 1 1)(hy:ρ y=.slice (some ⟨b,oo,none⟩) lb cb)(hX:Bx w g (ZO v) 168)(hb:w.ownsRow 0 168 2 (.slice (some ⟨b,0,none⟩) n c) n xs)(hn:0<n)(hne:g≠b)(hf:ρ (.func 115)=.func (.func 115) #[] #[]:=by rfl):(execOp ρ o).run Tryz.prog w=.ok (.value ZY) w:=by
 obtain⟨cur,hcur,hz,-,-⟩:=XK hb;have hov:(callFunc 115 #[.slice (some ⟨g,0,none⟩) 1 1,.slice (some ⟨b,oo,none⟩) lb cb]).run Tryz.prog w=.ok (.value ZY) w:=by
  rw[run_callFunc_extern Tryz.func115 (by kernel_rfl) (by kernel_rfl) (by kernel_rfl) (e:=Extern.SlicesOverlaps.overlaps #[132,132] #[4]) (by kernel_rfl),
   Lib.run_overlaps_apart w 132 4 168 Tryz.underlying132 2 (fun w=>by kernel_rfl) ⟨g,0,none⟩ ⟨b,oo,none⟩ 1 1 lb cb hne 168 168 2 cur.size (by unfold World.shape?; rw[hX]; rfl) (by unfold World.shape?; rw[hcur]) (by omega) (frozen_of_row w g _ _ 168 hX) (frozen_of_row w g _ _ 168 hX)]
  rfl
 unfold execOp;simp only[ho,resolve,invoke,Sem.run_bind,Sem.run_pure,Result.andThen_ok,List.map_toArray,List.map_cons,List.map_nil,hx,hy,hf];simp only[Deferred.ofValue,Sem.run_pure,Result.andThen_ok,Array.append_empty,Array.empty_append,hov]
section
variable {ρ : Operand -> Value} {o : Oper} {x y z : Operand} {P : Program} {w : World} {ty : TypeId} {vx vy vz v : Value}
theorem Ux (ho:o.op=.slice ty x none (some y) none)(hs:(Instr.sliceAt ty vx none (some vy) none).run P w=.ok v w)(hx:ρ x=vx)(hy:ρ y=vy):(execOp ρ o).run P w=.ok (.value v) w:=by
 unfold execOp;simp only[ho,hx,hy,Option.map_some,Option.map_none,Sem.run_bind];exact(congrArg (fun r=>Result.andThen r _) hs).trans rfl
theorem Zq (ho:o.op=.slice ty x (some y) none none)(hs:(Instr.sliceAt ty vx (some vy) none none).run P w=.ok v w)(hx:ρ x=vx)(hy:ρ y=vy):(execOp ρ o).run P w=.ok (.value v) w:=by
 unfold execOp;simp only[ho,hx,hy,Option.map_some,Option.map_none,Sem.run_bind];exact(congrArg (fun r=>Result.andThen r _) hs).trans rfl
theorem SN (ho:o.op=.slice ty x (some y) (some z) none)(hs:(Instr.sliceAt ty vx (some vy) (some vz) none).run P w=.ok v w)(hx:ρ x=vx)(hy:ρ y=vy)(hz:ρ z=vz):(execOp ρ o).run P w=.ok (.value v) w:=by
 unfold execOp;simp only[ho,hx,hy,hz,Option.map_some,Option.map_none,Sem.run_bind];exact(congrArg (fun r=>Result.andThen r _) hs).trans rfl
theorem NG {u:Operand}{vu:Value}(ho:o.op=.slice ty x (some y) (some z) (some u))(hs:(Instr.sliceAt ty vx (some vy) (some vz) (some vu)).run P w=.ok v w)(hx:ρ x=vx)(hy:ρ y=vy)(hz:ρ z=vz)(hu:ρ u=vu):(execOp ρ o).run P w=.ok (.value v) w:=by
 unfold execOp;simp only[ho,hx,hy,hz,hu,Option.map_some,Option.map_none,Sem.run_bind];exact(congrArg (fun r=>Result.andThen r _) hs).trans rfl
end
theorem RY (a:Option Addr)(n c i j:Nat)(w:World)(h:i<=j)(h2:j<=c):(Instr.slice 132 (.slice a n c) (some (Z9 (i:Int))) (some (Z9 (j:Int))) none).run Tryz.prog w=.ok (.slice (Zb 2 a c i) (j-i) (c-i)) w:=by
 have hs:(sizeOf (Tryz.prog.elem 132)).run Tryz.prog w=.ok 2 w:=by kernel_rfl
 have q:=run_slice_lh (P:=Tryz.prog) w 132 a n c (by kernel_rfl) .i64 .i64 (i:Int) (j:Int) (by omega) (by omega) (by omega);rw[q,hs];by_cases hk:c=i <;> cases a <;> simp[sliced,Result.andThen,Zb,hk]
theorem Pg (a:Option Addr)(n c i j k:Nat)(w:World)(h:i<=j)(h2:j<=k)(h3:k<=c):(Instr.slice 132 (.slice a n c) (some (Z9 (i:Int))) (some (Z9 (j:Int))) (some (Z9 (k:Int)))).run Tryz.prog w=.ok (sliced a i j k 2) w:=by
 have hs:(sizeOf (Tryz.prog.elem 132)).run Tryz.prog w=.ok 2 w:=by kernel_rfl
 have q:=run_slice_lhm (P:=Tryz.prog) w 132 a n c (by kernel_rfl) .i64 .i64 .i64 (i:Int) (j:Int) (k:Int) (by omega) (by omega) (by omega) (by omega);rw[q,hs];rfl
theorem Ye {w:World}{B e s n:Nat}{v:Value}{xs:List Value}(h:w.ownsRow B e s v n xs):w.drew.ownsRow B e s v n xs:=h
theorem G5 {w:World}{v:Value}{E:List Eo}(h:Zz w 0 v E)(hl:E.length<=10000)(x:Eo){g:Nat}(hx:Bx w g (ZO x) 168):Calls Tryz.prog 90 #[v,Z9 E.length,.slice (some ⟨g,0,none⟩) 1 1] w (Oh w v (E.take E.length++x::E.drop E.length)):=by
 obtain⟨v6,W6,hap,hrow,hb6,Ut,qC⟩:=CX h (Nat.zero_le _) (some ⟨g,0,none⟩) 1 1 [x] (Cs.block (cs:=Yc x) hx) rfl (by omega) (by omega);have HE:Hid (Oh w v (E.take E.length++x::E.drop E.length) (.returned v6) W6):=Z8 ⟨v6,rfl,by rw[List.take_length,List.drop_length]; exact hrow,Ut,qC.imp id fun h=>⟨_,Nat.le_refl _,h⟩⟩;obtain⟨PO,Yi⟩:=ZR (Oh w v (E.take E.length++x::E.drop E.length));rw[Yi] at HE ⊢;obtain⟨a,c,rfl,-,hnc⟩:=h.cs;obtain⟨n,hn⟩:=ZR E.length;rw[hn] at hap hnc ⊢;clear Yi hrow hb6 Ut qC h hl hx hn;go_enter Tryz.func90,Tryz.ntmps90;go_upto_region 1 with fail;refine wl<|ZB (.slice a n c) (Z9 n)<|Za (.slice (Zb 2 a c n) (n-n) (c-n)) (Zq rfl (Zy a n c n _ (Nat.le_refl n)) (by kernel_rfl) (by kernel_rfl))<|wn ?_;simp only[pu];go_upto_region 2 with fail;refine wl<|YX (.slice (some ⟨g,0,none⟩) 1 1) (Z9 1) (Z9 1)<|wn ?_;simp only[pu];go_upto_region 3 with fail;refine wl<|ZQ (Z9 1)<|Zg (Y4 rfl 1 0 dF)<|wn ?_;simp only[pu];go_upto_region 5 with fail;refine wl<|YX (.slice a n c) (Z9 n) (Z9 n)<|wn ?_;simp only[pu];go_upto_region 6 with fail;refine wl<|ZB (Z9 n) (Z9 n)<|Zg (Y4 rfl n n (decide_eq_true rfl))<|wn ?_;simp only[pu];go_upto_region 7 with fail;refine wl<|ZB (.slice a n c) (.slice (some ⟨g,0,none⟩) 1 1) ?_;refine YU rfl (some 25) rfl 132 rfl (.tmp 23) (.tmp 24) 132 rfl (.slice a n c) (.slice (some ⟨g,0,none⟩) 1 1) (v6) W6 (by kernel_rfl) (by kernel_rfl) hap ?_;refine ZQ (v6)<|wn ?_;simp only[pu];go_wp2_with fail;exact HE.out
theorem J4 {w:World}{b n c:Nat}{E:List Eo}(h:w.ownsRow 0 168 2 (.slice (some ⟨b,0,none⟩) n c) n (encs E))(hn:E.length=n){i:Nat}(hi:i<n)(hl:n<=10000)(x:Eo){g:Nat}(hx:Bx w g (ZO x) 168)(hgb:g≠b)(hcc:c<n+1):Calls Tryz.prog 90 #[.slice (some ⟨b,0,none⟩) n c,Z9 i,.slice (some ⟨g,0,none⟩) 1 1] w (Oh w (.slice (some ⟨b,0,none⟩) n c) (E.take i++x::E.drop i)):=by
 have hnc:n<=c:=(Pz h).2;have hel:(encs (E.drop i)).length=(n-i)*2:=by rw[YJ,List.length_drop,hn]
 have Wq:(encs (E.take i)).length=i*2:=by rw[YJ,List.length_take]; omega
 have Et:(E.take i++x::E.drop i).length=n+1:=by rw[List.length_append,List.length_cons,List.length_take,List.length_drop]; omega
 have qB:encs (E.take i++x::E.drop i)=encs (E.take i)++Yc x++encs (E.drop i):=by
  rw[VX,List.append_assoc]; rfl
 obtain⟨G,V1,ys,hz1,ND,hyl,hG,hb1⟩:=J5 (i:=i) (k:=n+1-i) h hn.symm (by omega) (by omega) (by omega) (by omega) 132;rw[show i+(n+1-i)=n+1 by omega] at hz1 ND hG;have hgl:g<w.heap.size:=hx.lt;obtain⟨q,hq⟩:=ZR w.heap.size;rw[hq] at hz1 ND hgl;have hx1:Bx V1 g (ZO x) 168:=hx.below hx.lt hb1;have hc1:=XT (w:=V1) 3 (g:=q) (o:=i*2) (dL:=n+1-i) (dC:=G-i) (A:=⟨g,0,none⟩) (sL:=1) (sC:=1) (m:=1) (ys:=Yc x) (by simp only[Nat.min_def]; split <;> omega) rfl (fun j u hj=>by rw[Addr.add_lit,Nat.zero_add]; exact(ZU (cs:=Yc x) hx1 j u hj |> fun h=>by rwa [Nat.zero_add] at h)) (fun j hj=>Xv ND (by have:j<2:=hj; omega)) (Sv x);have hO2:=Yo (Yc x) (i*2) V1 _ ND (by rw[List.length_append,Wq,hyl]; show i*2+2<=_; omega);obtain⟨V2,hV2⟩:=ZR (V1.setCells q (i*2) (Yc x));rw[hV2] at hc1 hO2;have hb2:Below q V1 V2:=by rw[<- hV2]; exact WL (Nat.le_refl q) _ _ _
 have BH:Below w.heap.size w V2:=hb1.trans (by rw[hq]; exact hb2);have hsrc:=own_below h BH;have hc2:=XT (w:=V2.drew) 3 (g:=q) (o:=(i+1)*2) (dL:=n+1-(i+1)) (dC:=G-(i+1)) (A:=⟨b,i*2,none⟩) (sL:=n-i) (sC:=c-i) (m:=n-i) (ys:=encs (E.drop i)) (by simp only[Nat.min_def]; split <;> omega) hel (fun j u hj=>by
  rw[<- Wy,List.getElem?_drop] at hj;rw[Addr.add_lit];exact Vx hsrc hj) (fun j hj=>Xv (Ye hO2) (by rw[hel] at hj; omega)) (VY _)
 have hO3:=Yo (encs (E.drop i)) ((i+1)*2) V2.drew _ (Ye hO2) (by
  rw[hel,List.length_append,List.length_append,List.length_take,List.length_drop,List.length_append,Wq,hyl];show(i+1)*2+(n-i)*2<=min (i*2) _+2+(_-(i*2+2)); omega)
 have eL:(((encs (E.take i)++ys).take (i*2)++Yc x++(encs (E.take i)++ys).drop (i*2+(Yc x).length)).take ((i+1)*2)++encs (E.drop i)++((encs (E.take i)++ys).take (i*2)++Yc x++(encs (E.take i)++ys).drop (i*2+(Yc x).length)).drop ((i+1)*2+(encs (E.drop i)).length))=encs (E.take i++x::E.drop i):=by
  rw[List.take_left' Wq,qB];have h1:(encs (E.take i)++Yc x).length=(i+1)*2:=by rw[List.length_append,Wq]; show i*2+2=_; omega
  have h2:((encs (E.take i)++Yc x)++(encs (E.take i)++ys).drop (i*2+(Yc x).length)).drop ((i+1)*2+(encs (E.drop i)).length)=[]:=List.drop_of_length_le (by
   rw[List.length_append,h1,List.length_drop,List.length_append,Wq,hyl,hel];show(i+1)*2+(i*2+(n+1-i)*2-(i*2+2))<=_;omega)
  rw[h2,List.take_left' h1,List.append_nil]
 rw[eL] at hO3;obtain⟨V3,TN⟩:=ZR (V2.drew.setCells q ((i+1)*2) (encs (E.drop i)));rw[TN] at hc2 hO3;have hb3:Below q V2 V3:=by rw[<- TN]; exact(Below.refl q V2).drew.trans (WL (Nat.le_refl q) _ _ _)
 have qA:Below w.heap.size w V3:=BH.trans (by rw[hq]; exact hb3);have HE:Hid (Oh w (.slice (some ⟨b,0,none⟩) n c) (E.take i++x::E.drop i) (.returned (.slice (some ⟨q,0,none⟩) (n+1) G)) V3):=Z8 ⟨_,rfl,by unfold Zz; rw[Et]; exact own_base hO3 (Nat.zero_le _),grown_below qA,.inr ⟨q,by omega,rfl⟩⟩;obtain⟨PO,Yi⟩:=ZR (Oh w (.slice (some ⟨b,0,none⟩) n c) (E.take i++x::E.drop i));rw[Yi] at HE ⊢;have hz2:(Builtin.append_ #[132,3] 132 #[.slice (some ⟨b,0,none⟩) i c,Z9 ((n:Int)+1-i)]).run Tryz.prog w=.ok (.slice (some ⟨q,0,none⟩) (n+1) G) V1:=by
  rw[show(n:Int)+1-i=((n+1-i:Nat):Int) by omega]; exact hz1
 clear Yi qA hb3 TN hO3 eL hsrc BH hb2 hV2 hO2 hx1 hb1 ND hyl qB Et hel Wq h hn hx hz1 hgl hq;go_enter Tryz.func90,Tryz.ntmps90;go_upto_region 1 with fail;refine wl<|ZB (.slice (some ⟨b,0,none⟩) n c) (Z9 i)<|Za (.slice (Zb 2 (some ⟨b,0,none⟩) c i) (n-i) (c-i)) (Zq rfl (Zy (some ⟨b,0,none⟩) n c i _ (by omega)) (by kernel_rfl) (by kernel_rfl))<|wn ?_;simp only[pu];go_upto_region 2 with fail;refine wl<|YX (.slice (some ⟨g,0,none⟩) 1 1) (Z9 1) (Z9 1)<|wn ?_;simp only[pu];go_upto_region 3 with fail;refine wl<|ZQ (Z9 1)<|Zg (Y4 rfl 1 0 dF)<|wn ?_;simp only[pu];go_upto_region 5 with fail;refine wl<|YX (.slice (some ⟨b,0,none⟩) n c) (Z9 n) (Z9 n)<|wn ?_;simp only[pu];go_upto_region 6 with fail;refine wl<|ZB (Z9 i) (Z9 n)<|Zg (Y4 rfl i n dF)<|wn ?_;simp only[pu];go_upto_region 8 with fail;refine wl<|ZB (Z9 n) (Z9 1)<|Yd (Z9 (n+1:Nat)) (Yk rfl n 1 (by omega))<|ZB (.slice (some ⟨b,0,none⟩) n c) (Z9 c) <|
  Zg (YO rfl (n+1:Nat) c dT)<|wn ?_
 simp only[pu];go_upto_region 9 with fail;refine wl<|ZB (.slice (some ⟨b,0,none⟩) n c) (Z9 i)<|Za (.slice (some ⟨b,0,none⟩) i c) (Ux rfl (VG (some ⟨b,0,none⟩) n c i _ (by omega)) (by kernel_rfl) (by kernel_rfl))<|ZB (Z9 n) (Z9 1) <|
  Yd (Z9 ((n:Int)+1)) (W9 rfl n 1 (by omega))<|ZQ (Z9 i)<|Yd (Z9 ((n:Int)+1-i)) (Tv rfl ((n:Int)+1) i (by omega)) ?_
 refine RV rfl (some 40) rfl 132 rfl (.tmp 34) (.tmp 39) 132 3 rfl (.slice (some ⟨b,0,none⟩) i c) (Z9 ((n:Int)+1-i)) (.slice (some ⟨q,0,none⟩) (n+1) G) V1 (by kernel_rfl) (by kernel_rfl) hz2 ?_;refine ZQ (.slice (some ⟨q,0,none⟩) (n+1) G)<|wn ?_;simp only[pu];clear hz2;go_upto_region 10 with fail;refine wl<|ZB (.slice (some ⟨q,0,none⟩) (n+1) G) (Z9 i) <|
  Za (.slice (some ⟨q,i*2,none⟩) (n+1-i) (G-i)) (by rw[<- YS (s:=2) (c:=G) (k:=i) (g:=q) (by omega)]; exact Zq rfl (Zy (some ⟨q,0,none⟩) (n+1) G i _ (by omega)) (by kernel_rfl) (by kernel_rfl))<|ZQ (.slice (some ⟨g,0,none⟩) 1 1) ?_
 refine Xa rfl (some 45) rfl 3 rfl (.tmp 43) (.tmp 44) 132 rfl (.slice (some ⟨q,i*2,none⟩) (n+1-i) (G-i)) (.slice (some ⟨g,0,none⟩) 1 1) (goInt 1) V2 (by kernel_rfl) (by kernel_rfl) hc1 ?_;simp only[pu];apply wpList_nil;clear hc1;go_upto_region 11 with fail;refine ZP (C:=fun U=>U=V2.drew) 8 (by kernel_rfl) (by kernel_rfl) (rfl) ?_;simp only[List.take_succ_cons,List.take_zero,List.drop_succ_cons,List.drop_zero];refine gy (.slice (some ⟨q,0,none⟩) (n+1) G)<|gy (Z9 i)<|gy (Z9 1)<|Ze (Z9 (i+1:Nat)) (fun U hU=>Yk rfl i 1 (by omega) (by kernel_rfl) (by kernel_rfl) _) <|
   Ze (.slice (some ⟨q,(i+1)*2,none⟩) (n+1-(i+1)) (G-(i+1))) (fun U hU=>by rw[<- YS (s:=2) (c:=G) (k:=i+1) (g:=q) (by omega)]; exact Zq rfl (Zy (some ⟨q,0,none⟩) (n+1) G (i+1) _ (by omega)) (by kernel_rfl) (by kernel_rfl)) <|
   gy (.slice (some ⟨b,0,none⟩) n c)<|gy (Z9 i) <|
   Ze (.slice (some ⟨b,i*2,none⟩) (n-i) (c-i)) (fun U hU=>by rw[<- YS (s:=2) (c:=c) (k:=i) (g:=b) (by omega)]; exact Zq rfl (Zy (some ⟨b,0,none⟩) n c i _ (by omega)) (by kernel_rfl) (by kernel_rfl)) ?_
 simp only[pu];apply wpQuiet_nil;intro U hU;subst hU;refine Xa rfl (some 54) rfl 3 rfl (.tmp 50) (.tmp 53) 132 rfl (.slice (some ⟨q,(i+1)*2,none⟩) (n+1-(i+1)) (G-(i+1))) (.slice (some ⟨b,i*2,none⟩) (n-i) (c-i)) (goInt (n-i:Nat)) V3 (by kernel_rfl) (by kernel_rfl) hc2 ?_;simp only[pu];apply wpList_nil;clear hc2;go_upto_region 12 with fail;refine wl<|ZB (.slice (some ⟨q,0,none⟩) (n+1) G) (.slice (some ⟨q,0,none⟩) (n+1) G)<|wn ?_;simp only[pu];go_wp2_with fail;exact HE.out
theorem J3 {w:World}{b n c:Nat}{E:List Eo}(h:w.ownsRow 0 168 2 (.slice (some ⟨b,0,none⟩) n c) n (encs E))(hn:E.length=n){i:Nat}(hi:i<n)(hl:n<=10000)(x:Eo){g:Nat}(hx:Bx w g (ZO x) 168)(hgb:g≠b)(hcc:n+1<=c):Calls Tryz.prog 90 #[.slice (some ⟨b,0,none⟩) n c,Z9 i,.slice (some ⟨g,0,none⟩) 1 1] w (Oh w (.slice (some ⟨b,0,none⟩) n c) (E.take i++x::E.drop i)):=by
 have hnc:n<=c:=(Pz h).2;have hel:(encs (E.drop i)).length=(n-i)*2:=by rw[YJ,List.length_drop,hn]
 have Wq:(encs (E.take i)).length=i*2:=by rw[YJ,List.length_take]; omega
 have Et:(E.take i++x::E.drop i).length=n+1:=by rw[List.length_append,List.length_cons,List.length_take,List.length_drop]; omega
 have qB:encs (E.take i++x::E.drop i)=encs (E.take i)++Yc x++encs (E.drop i):=by
  rw[VX,List.append_assoc]; rfl
 obtain⟨ys,hyl,ND⟩:=J6 h hcc;have hc63:c<=9223372036854775807:=by
  rcases h.2 with⟨h0,-⟩ | ⟨g2,cap,cur,h0,-,-,-,hcm,-⟩
  ·cases h0
  ·simp only[Value.slice.injEq] at h0;obtain⟨-,-,rfl⟩:=h0;unfold maxLen at hcm; omega
 have hsl:(encs E).length=n*2:=by rw[YJ,hn]
 have hc1:=XT (w:=w.drew) 3 (g:=b) (o:=(i+1)*2) (dL:=n+1-(i+1)) (dC:=c-(i+1)) (A:=⟨b,i*2,none⟩) (sL:=n+1-i) (sC:=c-i) (m:=n-i) (ys:=encs (E.drop i)) (by simp only[Nat.min_def]; split <;> omega) hel (fun j u hj=>by
  rw[<- Wy,List.getElem?_drop] at hj;rw[Addr.add_lit];exact Vx (Ye h) hj) (fun j hj=>Xv (Ye ND) (by rw[hel] at hj; omega)) (VY _)
 have hO2:=Yo (encs (E.drop i)) ((i+1)*2) w.drew _ (Ye ND) (by rw[hel,List.length_append,hsl,hyl]; omega);obtain⟨V2,hV2⟩:=ZR (w.drew.setCells b ((i+1)*2) (encs (E.drop i)));rw[hV2] at hc1 hO2;have hg2:w.grownBy V2 (some b):=by rw[<- hV2]; exact WT (grown_drew (World.grownBy.refl w _)) (WI _ _)
 have hx2:Bx V2 g (ZO x) 168:=(hg2.5 g hx.lt (by simpa using hgb)).trans hx;have hc2:=XT (w:=V2) 3 (g:=b) (o:=i*2) (dL:=n+1-i) (dC:=c-i) (A:=⟨g,0,none⟩) (sL:=1) (sC:=1) (m:=1) (ys:=Yc x) (by simp only[Nat.min_def]; split <;> omega) rfl (fun j u hj=>by rw[Addr.add_lit,Nat.zero_add]; exact(ZU (cs:=Yc x) hx2 j u hj |> fun h=>by rwa [Nat.zero_add] at h)) (fun j hj=>Xv hO2 (by have:j<2:=hj; omega)) (Sv x);have hO3:=Yo (Yc x) (i*2) V2 _ hO2 (by
  rw[List.length_append,List.length_append,List.length_take,List.length_drop,List.length_append,hsl,hyl,hel];show i*2+2<=_; omega)
 have eL:(((encs E++ys).take ((i+1)*2)++encs (E.drop i)++(encs E++ys).drop ((i+1)*2+(encs (E.drop i)).length)).take (i*2)++Yc x++((encs E++ys).take ((i+1)*2)++encs (E.drop i)++(encs E++ys).drop ((i+1)*2+(encs (E.drop i)).length)).drop (i*2+(Yc x).length))=encs (E.take i++x::E.drop i):=by
  have h1:((encs E++ys).take ((i+1)*2)).length=(i+1)*2:=by rw[List.length_take,List.length_append,hsl,hyl]; omega
  have h2:(encs E++ys).drop ((i+1)*2+(encs (E.drop i)).length)=[]:=List.drop_of_length_le (by rw[List.length_append,hsl,hyl,hel]; omega);rw[h2,List.append_nil,qB,List.take_append_of_le_length (by omega),List.take_take,Nat.min_eq_left (by omega),List.take_append_of_le_length (by omega),WA];rw[show i*2+(Yc x).length=(i+1)*2 by show i*2+2=_; omega,List.drop_left' h1]
 rw[eL] at hO3;obtain⟨V3,TN⟩:=ZR (V2.setCells b (i*2) (Yc x));rw[TN] at hc2 hO3;have hg3:w.grownBy V3 (some b):=by rw[<- TN]; exact WT hg2 (WI _ _)
 have HE:Hid (Oh w (.slice (some ⟨b,0,none⟩) n c) (E.take i++x::E.drop i) (.returned (.slice (some ⟨b,0,none⟩) (n+1) c)) V3):=Z8 ⟨_,rfl,by unfold Zz; rw[Et]; exact hO3,hg3,.inl rfl⟩;obtain⟨PO,Yi⟩:=ZR (Oh w (.slice (some ⟨b,0,none⟩) n c) (E.take i++x::E.drop i));rw[Yi] at HE ⊢;have HOV:Hid (∀ (ρ:Operand->Value) (o:Oper) (y z:Operand) (oo lb cb:Nat),o.op=.call { callee:=.value (.func 115),args:=#[y,z],argTypes:=#[132,132] }->ρ y=.slice (some ⟨g,0,none⟩) 1 1->ρ z=.slice (some ⟨b,oo,none⟩) lb cb->ρ (.func 115)=.func (.func 115) #[] #[]->(execOp ρ o).run Tryz.prog w=.ok (.value ZY) w):=Z8 fun ρ o y z oo lb cb ho hy hz hf=>qE ho hy hz hx h (by omega) hgb hf;clear Yi hg3 TN hO3 eL hx2 hg2 hV2 hO2 ND hyl ys qB Et hel Wq h hn hx hsl;go_enter Tryz.func90,Tryz.ntmps90;go_upto_region 1 with fail;refine wl<|ZB (.slice (some ⟨b,0,none⟩) n c) (Z9 i)<|Za (.slice (Zb 2 (some ⟨b,0,none⟩) c i) (n-i) (c-i)) (Zq rfl (Zy (some ⟨b,0,none⟩) n c i _ (by omega)) (by kernel_rfl) (by kernel_rfl))<|wn ?_;simp only[pu];go_upto_region 2 with fail;refine wl<|YX (.slice (some ⟨g,0,none⟩) 1 1) (Z9 1) (Z9 1)<|wn ?_;simp only[pu];go_upto_region 3 with fail;refine wl<|ZQ (Z9 1)<|Zg (Y4 rfl 1 0 dF)<|wn ?_;simp only[pu];go_upto_region 5 with fail;refine wl<|YX (.slice (some ⟨b,0,none⟩) n c) (Z9 n) (Z9 n)<|wn ?_;simp only[pu];go_upto_region 6 with fail;refine wl<|ZB (Z9 i) (Z9 n)<|Zg (Y4 rfl i n dF)<|wn ?_;simp only[pu];go_upto_region 8 with fail;refine wl<|ZB (Z9 n) (Z9 1)<|Yd (Z9 (n+1:Nat)) (Yk rfl n 1 (by omega))<|ZB (.slice (some ⟨b,0,none⟩) n c) (Z9 c) <|
  Zg (YO rfl (n+1:Nat) c dF)<|wn ?_
 simp only[pu];go_upto_region 13 with fail;refine wl<|YX (.slice (some ⟨b,0,none⟩) n c) (Z9 n) (Z9 1)<|Yd (Z9 (n+1:Nat)) (Yk rfl n 1 (by omega)) <|
  Za (.slice (some ⟨b,0,none⟩) (n+1) c) (Ux rfl (VG (some ⟨b,0,none⟩) n c (n+1) _ (by omega)) (by kernel_rfl) (by kernel_rfl))<|ZQ (.slice (some ⟨b,0,none⟩) (n+1) c)<|wn ?_
 simp only[pu];go_upto_region 14 with fail;refine wl<|Qc (.slice (some ⟨g,0,none⟩) 1 1) (.slice (some ⟨b,0,none⟩) (n+1) c) (Z9 i) (Z9 1)<|Yd (Z9 (i+1:Nat)) (Yk rfl i 1 (by omega)) <|
  Za (.slice (some ⟨b,(i+1)*2,none⟩) (n+1-(i+1)) (c-(i+1))) (by rw[<- YS (s:=2) (c:=c) (k:=i+1) (g:=b) (by omega)]; exact Zq rfl (Zy (some ⟨b,0,none⟩) (n+1) c (i+1) _ (by omega)) (by kernel_rfl) (by kernel_rfl)) <|
  Za ZY (HOV.out _ _ _ _ ((i+1)*2) (n+1-(i+1)) (c-(i+1)) rfl (by kernel_rfl) (by kernel_rfl) (by kernel_rfl))<|ZQ ZX<|wn ?_
 simp only[pu];clear HOV;go_upto_region 15 with fail;refine ZP (C:=fun U=>U=w.drew) 8 (by kernel_rfl) (by kernel_rfl) (rfl) ?_;simp only[List.take_succ_cons,List.take_zero,List.drop_succ_cons,List.drop_zero];refine gy (.slice (some ⟨b,0,none⟩) (n+1) c)<|gy (Z9 i)<|gy (Z9 1)<|Ze (Z9 (i+1:Nat)) (fun U hU=>Yk rfl i 1 (by omega) (by kernel_rfl) (by kernel_rfl) _) <|
   Ze (.slice (some ⟨b,(i+1)*2,none⟩) (n+1-(i+1)) (c-(i+1))) (fun U hU=>by rw[<- YS (s:=2) (c:=c) (k:=i+1) (g:=b) (by omega)]; exact Zq rfl (Zy (some ⟨b,0,none⟩) (n+1) c (i+1) _ (by omega)) (by kernel_rfl) (by kernel_rfl)) <|
   gy (.slice (some ⟨b,0,none⟩) (n+1) c)<|gy (Z9 i) <|
   Ze (.slice (some ⟨b,i*2,none⟩) (n+1-i) (c-i)) (fun U hU=>by rw[<- YS (s:=2) (c:=c) (k:=i) (g:=b) (by omega)]; exact Zq rfl (Zy (some ⟨b,0,none⟩) (n+1) c (i) _ (by omega)) (by kernel_rfl) (by kernel_rfl)) ?_
 simp only[pu];apply wpQuiet_nil;intro U hU;subst hU;refine Xa rfl (some 77) rfl 3 rfl (.tmp 73) (.tmp 76) 132 rfl (.slice (some ⟨b,(i+1)*2,none⟩) (n+1-(i+1)) (c-(i+1))) (.slice (some ⟨b,i*2,none⟩) (n+1-i) (c-i)) (goInt (n-i:Nat)) V2 (by kernel_rfl) (by kernel_rfl) hc1 ?_;simp only[pu];apply wpList_nil;clear hc1;go_upto_region 16 with fail;refine wl<|ZB (.slice (some ⟨b,0,none⟩) (n+1) c) (Z9 i) <|
  Za (.slice (some ⟨b,i*2,none⟩) (n+1-i) (c-i)) (by rw[<- YS (s:=2) (c:=c) (k:=i) (g:=b) (by omega)]; exact Zq rfl (Zy (some ⟨b,0,none⟩) (n+1) c (i) _ (by omega)) (by kernel_rfl) (by kernel_rfl))<|ZQ (.slice (some ⟨g,0,none⟩) 1 1) ?_
 refine Xa rfl (some 82) rfl 3 rfl (.tmp 80) (.tmp 81) 132 rfl (.slice (some ⟨b,i*2,none⟩) (n+1-i) (c-i)) (.slice (some ⟨g,0,none⟩) 1 1) (goInt 1) V3 (by kernel_rfl) (by kernel_rfl) hc2 ?_;simp only[pu];apply wpList_nil;clear hc2;go_upto_region 17 with fail;refine wl<|ZB (.slice (some ⟨b,0,none⟩) (n+1) c) (.slice (some ⟨b,0,none⟩) (n+1) c)<|wn ?_;simp only[pu];go_wp2_with fail;exact HE.out
theorem qI {w:World}{v:Value}{E:List Eo}(h:Zz w 0 v E){i:Nat}(hi:i<=E.length)(hl:E.length<=10000)(x:Eo){g:Nat}(hx:Bx w g (ZO x) 168)(hg:v.ownBlock≠some g):Calls Tryz.prog 90 #[v,Z9 i,.slice (some ⟨g,0,none⟩) 1 1] w (Oh w v (E.take i++x::E.drop i)):=by
 by_cases he:i=E.length
 ·subst he;exact G5 h hl x hx
 ·rcases XF h with⟨rfl,h0⟩ | ⟨b,c,rfl,-,-,hnc⟩
  ·omega
  ·have hgb:g≠b:=fun e=>hg (by rw[e]; rfl);by_cases hr:c<E.length+1
   ·exact J4 h rfl (by omega) hl x hx hgb hr
   ·exact J3 h rfl (by omega) hl x hx hgb (by omega)
theorem JZ (b k c:Nat)(w:World)(h:k+1<=c):(Instr.slice 132 (.slice (some ⟨b,0,none⟩) k c) (some (Z9 (k:Int))) (some (Z9 ((k+1:Nat):Int))) none).run Tryz.prog w=.ok (.slice (some ⟨b,k*2,none⟩) 1 (c-k)) w:=by
 have h2:=RY (some ⟨b,0,none⟩) k c k (k+1) w (by omega) h;rw[YS (by omega),Nat.add_sub_cancel_left] at h2;exact h2
theorem JY (b c k:Nat):∃ A:Addr,Zb 2 (some ⟨b,0,none⟩) c k=some A/\(c≠k->A=⟨b,k*2,none⟩):=by
 unfold Zb;by_cases h:c=k
 ·rw[if_pos h]; exact⟨_,rfl,fun h2=>absurd h h2⟩
 ·rw[if_neg h,Option.map_some,Addr.add_mid,Nat.zero_add]; exact⟨_,rfl,fun _=>rfl⟩
theorem BG {w:World}{b k c:Nat}{E:List Eo}(h:w.ownsRow 0 168 2 (.slice (some ⟨b,0,none⟩) (k+1) c) (k+1) (encs E))(hn:E.length=k+1){i:Nat}(hi:i<=k)(hl:k<=10000):Calls Tryz.prog 95 #[.slice (some ⟨b,0,none⟩) (k+1) c,Z9 i,Z9 (i+1:Nat)] w (Oh w (.slice (some ⟨b,0,none⟩) (k+1) c) (E.take i++E.drop (i+1))):=by
 have hnc:k+1<=c:=(Pz h).2;have hel:(encs (E.drop (i+1))).length=(k-i)*2:=by rw[YJ,List.length_drop,hn]; omega
 have Wq:(encs (E.take i)).length=i*2:=by rw[YJ,List.length_take]; omega
 have Et:(E.take i++E.drop (i+1)).length=k:=by rw[List.length_append,List.length_take,List.length_drop]; omega
 obtain⟨i0,hi0,hz0,hz1,hz2⟩:=info_parts UE;obtain⟨A,hA,hA2⟩:=JY b c (i+1);have h1:=QL (k:=i) h (by omega);rw[WA] at h1;obtain⟨V1,ha1,ND,hg1⟩:=run_append_fits (P:=Tryz.prog) w.drew 0 132 132 168 i0 2 Tryz.underlying132 hi0 hz1 b i c (encs (E.take i)) (Ye h1) A (k-i) (c-(i+1)) (encs (E.drop (i+1))) hel (fun j u hj=>by
  have hlt:=(List.getElem?_eq_some_iff.1 hj).1;rw[hel] at hlt;rw[hA2 (by omega),Addr.add_lit];rw[<- Wy,List.getElem?_drop] at hj;exact Vx (Ye h) hj) (VY _) (by omega)
 rw[show i+(k-i)=k by omega] at ha1 ND;obtain⟨ys,hyl,hO2⟩:=J6 ND (by omega);obtain⟨zs,hzl,hc1⟩:=RQ V1 0 b (k*2) 1 (c-k) (by omega) (fun j hj=>Xv hO2 (by omega));have hxl:(encs (E.take i)++encs (E.drop (i+1))).length=k*2:=by rw[List.length_append,Wq,hel]; omega
 have hO3:=Yo zs (k*2) V1 _ hO2 (by rw[List.length_append,hxl,hyl,hzl]; omega);obtain⟨V2,hV2⟩:=ZR (V1.setCells b (k*2) zs);rw[hV2] at hc1 hO3;have hO4:=QL (k:=k) hO3 (by omega);have eL:((((encs (E.take i)++encs (E.drop (i+1)))++ys).take (k*2)++zs++((encs (E.take i)++encs (E.drop (i+1)))++ys).drop (k*2+zs.length))).take (k*2)=encs (E.take i++E.drop (i+1)):=by
  rw[List.take_left' hxl,List.append_assoc,List.take_left' hxl,VX]
 rw[eL] at hO4;have hg2:w.grownBy V2 (some b):=by rw[<- hV2]; exact WT (WT (grown_drew (World.grownBy.refl w _)) hg1) (WI _ _)
 have HE:Hid (Oh w (.slice (some ⟨b,0,none⟩) (k+1) c) (E.take i++E.drop (i+1)) (.returned (.slice (some ⟨b,0,none⟩) k c)) V2):=Z8 ⟨_,rfl,by unfold Zz; rw[Et]; exact hO4,hg2,.inl rfl⟩;obtain⟨PO,Yi⟩:=ZR (Oh w (.slice (some ⟨b,0,none⟩) (k+1) c) (E.take i++E.drop (i+1)));rw[Yi] at HE ⊢;have HA:=Z8 hA;clear Yi hg2 eL hO4 hO3 hV2 hxl hzl hO2 hyl hg1 ND h1 hA hA2 Et hel Wq h hn hi0 hz0 hz1 hz2 ys zs;go_enter Tryz.func95,Tryz.ntmps95;go_upto_region 1 with fail;refine wl<|Gg (.slice (some ⟨b,0,none⟩) (k+1) c) (Z9 i) (Z9 (i+1:Nat)) (.slice (some ⟨b,0,none⟩) (k+1) c) (Z9 (k+1:Nat)) <|
  Za (sliced (some ⟨b,0,none⟩) i (i+1) (k+1) 2) (NG rfl (Pg (some ⟨b,0,none⟩) (k+1) c i (i+1) (k+1) _ (by omega) (by omega) (by omega)) (by kernel_rfl) (by kernel_rfl) (by kernel_rfl) (by kernel_rfl))<|wn ?_
 simp only[pu];go_upto_region 2 with fail;refine wl<|ZB (Z9 i) (Z9 (i+1:Nat))<|Zg (Y4 rfl i (i+1) dF)<|wn ?_;simp only[pu];go_upto_region 4 with fail;refine wl<|YX (.slice (some ⟨b,0,none⟩) (k+1) c) (Z9 (k+1:Nat)) (Z9 (k+1:Nat))<|wn ?_;simp only[pu];go_upto_region 5 with fail;refine ZP (C:=fun U=>U=w.drew) 6 (by kernel_rfl) (by kernel_rfl) (rfl) ?_;simp only[List.take_succ_cons,List.take_zero,List.drop_succ_cons,List.drop_zero];refine gy (.slice (some ⟨b,0,none⟩) (k+1) c)<|gy (Z9 i)<|Ze (.slice (some ⟨b,0,none⟩) i c) (fun U hU=>Ux rfl (VG (some ⟨b,0,none⟩) (k+1) c i _ (by omega)) (by kernel_rfl) (by kernel_rfl))<|gy (.slice (some ⟨b,0,none⟩) (k+1) c) <|
   gy (Z9 (i+1:Nat))<|Ze (.slice (some A) (k-i) (c-(i+1))) (fun U hU=>by rw[<- HA.out,show k-i=k+1-(i+1) by omega]; exact Zq rfl (Zy (some ⟨b,0,none⟩) (k+1) c (i+1) _ (by omega)) (by kernel_rfl) (by kernel_rfl)) ?_
 simp only[pu];apply wpQuiet_nil;intro U hU;subst hU;refine YU rfl (some 26) rfl 132 rfl (.tmp 22) (.tmp 25) 132 rfl (.slice (some ⟨b,0,none⟩) i c) (.slice (some A) (k-i) (c-(i+1))) (.slice (some ⟨b,0,none⟩) k c) V1 (by kernel_rfl) (by kernel_rfl) ha1 ?_;refine ZQ (.slice (some ⟨b,0,none⟩) k c)<|wn ?_;simp only[pu];clear ha1 HA;go_upto_region 6 with fail;refine wl<|Qc (.slice (some ⟨b,0,none⟩) k c) (.slice (some ⟨b,0,none⟩) k c) (Z9 k) (Z9 (k+1:Nat))<|Za (.slice (some ⟨b,k*2,none⟩) 1 (c-k)) (SN rfl (JZ b k c _ (by omega)) (by kernel_rfl) (by kernel_rfl) (by kernel_rfl)) ?_;refine Pj rfl 0 rfl (.tmp 31) 132 rfl rfl (.slice (some ⟨b,k*2,none⟩) 1 (c-k)) (.tuple #[]) V2 (by kernel_rfl) hc1 ?_;apply wpList_nil;clear hc1;go_upto_region 7 with fail;refine wl<|ZB (.slice (some ⟨b,0,none⟩) k c) (.slice (some ⟨b,0,none⟩) k c)<|wn ?_;simp only[pu];go_wp2_with fail;exact HE.out
theorem qG {w:World}{v:Value}{E:List Eo}(h:Zz w 0 v E){i:Nat}(hi:i<E.length)(hl:E.length<=10000):Calls Tryz.prog 95 #[v,Z9 i,Z9 (i+1:Nat)] w (Oh w v (E.take i++E.drop (i+1))):=by
 rcases XF h with⟨rfl,h0⟩ | ⟨b,c,rfl,-,-,hnc⟩
 ·omega
 ·obtain⟨k,hk⟩:∃ k,E.length=k+1:=⟨E.length-1,by omega⟩;unfold Zz at h;rw[hk] at h ⊢;exact BG h hk (by omega) (by omega)
theorem ae3:(Tryz.prog.info? 5).map (fun i=>(i.zero,i.size,i.bytes))=some (some (.int .u8 0),1,1):=by kernel_rfl
theorem qF (s:ByteArray)(w:World)(hlim:s.size<=281474976710656):Calls Tryz.prog 144 #[.string s] w fun e w'=>e=.returned (.string s)/\Below w.heap.size w w':=by
 by_cases h0:s.size=0
 ·have hs:s=⟨#[]⟩:=ByteArray.ext (Array.eq_empty_of_size_eq_zero h0);subst hs;go_enter Tryz.func144,Tryz.ntmps144;go_wp2;go_ret;exact⟨rfl,Below.refl _ _⟩
 ·obtain⟨i0,hi,hz0,hz1,hz2⟩:=info_parts ae3;have hinfo:(Tryz.prog.info? 5).map (·.size)=some 1:=by rw[hi]; simp[hz1]
  have hco:Tryz.prog.cellsOf 5=1:=by simp[Program.cellsOf,hi,hz1]
  obtain⟨M,hM⟩:∃ M,M=madeCells (Value.int .u8 0).cells (((s.size:Nat):Int).toNat * i0.size):=⟨_,rfl⟩;have hMs:M.size=s.size:=by rw[hM,size_madeCells,hz1]; simp
  have hmk:∀ W:World,(Instr.makeSlice 50 (Z9 (s.size:Int)) (Z9 (s.size:Int))).run Tryz.prog W=.ok (.slice (some ⟨W.heap.size,0,none⟩) s.size s.size) (W.alloc (.cells M 5)):=fun W=>by
   have h:=run_make (P:=Tryz.prog) W 50 5 i0 (.int .u8 0) Tryz.underlying50 hi hz0 .i64 .i64 (s.size:Int) (s.size:Int) (by omega) (by omega) (by rw[hz2]; omega) (by omega);rw[<- hM] at h;simpa using h
  clear hM;have hcp:=Lib.run_copy_row_string (P:=Tryz.prog) (w.alloc (.cells M 5)) 50 9 3 5 w.heap.size 0 s.size s.size s M 5 Tryz.underlying50 hinfo (heap_alloc_new w _) (Nat.le_refl _) (by omega);obtain⟨Y,hY⟩:∃ Y,Y=(M.toList.take 0++Lib.byteCells s.data.toList++M.toList.drop (0+s.size)).toArray:=⟨_,rfl⟩;rw[<- hY] at hcp;have hYl:Y.toList=Lib.byteCells s.data.toList:=by
   rw[hY,List.toList_toArray,List.take_zero,List.nil_append,List.drop_of_length_le (by rw[Array.length_toList]; omega),List.append_nil]
  have hYs:Y.size=s.size:=by rw[<- Array.length_toList,hYl,Lib.byteCells_length,<- Lib.size_eq]
  have hgY:((w.alloc (.cells M 5)).setRow w.heap.size Y).heap[w.heap.size]?=some (.cells Y 5 (0,0)):=setRow_heap _ _ M _ 5 (0,0) (heap_alloc_new w _);have hne:s.data.toList≠[]:=fun e=>h0 (by rw[Lib.size_eq,e]; rfl);have hUS:=Lib.run_unsafeString_row (P:=Tryz.prog) ((w.alloc (.cells M 5)).setRow w.heap.size Y) 233 3 9 5 Tryz.underlying233 hco w.heap.size Y.size (by unfold World.shape?; rw[hgY]) s.data.toList hne (by rw[<- Lib.size_eq]; omega) (by rw[<- Lib.size_eq]; omega)
   (fun j x hx=>Lib.cells_of_row hgY Y.size j _ (by rw[List.take_of_length_le (by rw[Array.length_toList]; exact Nat.le_refl _),hYl]; simp[Lib.byteCells,hx]))
  rw[<- Lib.size_eq] at hUS;clear hY;go_enter Tryz.func144,Tryz.ntmps144;go_wp2;go_ret;have hb1:Below w.heap.size w (w.alloc (.cells M 5)):=(Below.refl _ w).alloc (Nat.le_refl _) _;have hb2:Below w.heap.size (w.alloc (.cells M 5)) ((w.alloc (.cells M 5)).setRow w.heap.size Y):=⟨rfl,rfl,rfl,by simp,fun k hk=>setRow_other _ _ _ _ (by omega)⟩;exact⟨rfl,Lib.below_freeze (hb1.trans hb2) (p:=⟨w.heap.size,0,none⟩) (Nat.le_refl _) _⟩
theorem jv (s:ByteArray)(w:World)(hlim:s.size<=281474976710656):Calls Tryz.prog 114 #[.string s] w fun e w'=>e=.returned (.string s)/\Below w.heap.size w w':=by
 have CC:=qF s w hlim;clear hlim;go_enter Tryz.func114,Tryz.ntmps114;go_upto_region 1 with fail;refine wl<|ZQ (.string s)<|YD (.string s) (fun w'=>Below w.heap.size w w') (CC) (fun V hV=>?_);have HB:=Z8 hV;refine ZQ (.string s)<|wn ?_;simp only[pu];clear CC hV;go_wp2_with fail;go_ret;exact⟨rfl,HB.out⟩
structure Ri (w:World)(g B:Nat)(f:ByteArray->Option Value)(m:List Rw):Prop where
 bx:Bx w g #[.map (some B),Z9 m.length] 159
 mp:Mf w B f
 no:∀ n,Zi m n=[]->f n=none
 ye:∀ n,Zi m n≠[]->∃ v,f n=some v/\Zz w 0 v (Zi m n)
 ap:∀ n n' v v' k,f n=some v->f n'=some v'->v.ownBlock=some k->v'.ownBlock=some k->n=n'
def nN (g B:Nat)(f:ByteArray->Option Value)(k:Nat):Prop:=k=g∨k=B∨∃ n v,f n=some v/\v.ownBlock=some k
def TV (w:World)(g:Nat)(S:Nat->Prop)(m:List Rw):Prop:=∃ B f,Ri w g B f m/\S=nN g B f
def LJ (g B:Nat)(S:Nat->Prop)(m:List Rw)(w w':World):Prop:=∃ S',TV w' g S' m/\(∀ k,S' k->S k∨w.heap.size<=k)/\ZL B S w w'
section
variable {w w' : World} {g B : Nat} {f : ByteArray -> Option Value} {m : List Rw}
theorem Mf.map (h:Mf w B f):∃ es c,w.heap[B]?=some (.map es c):=by
 obtain⟨L,⟨es,c,h1,-⟩,-⟩:=h;exact⟨es,c,h1⟩
theorem Ri.row (h:Ri w g B f m){n:ByteArray}{v:Value}(hf:f n=some v):Zi m n≠[]/\Zz w 0 v (Zi m n):=by
 have h1:Zi m n≠[]:=fun e=>by rw[h.no n e] at hf; cases hf
 obtain⟨v2,h2,h3⟩:=h.ye n h1;rw[hf] at h2;cases h2;exact⟨h1,h3⟩
theorem row_ne {v:Value}{E:List Eo}{k t:Nat}{cs:Array Value}(h:Zz w 0 v E)(hk:v.ownBlock=some k)(hX:Bx w k cs t)(ht:t≠168):False:=by
 rcases XF h with⟨rfl,-⟩ | ⟨b,c,rfl,-,-,-⟩
 ·cases hk
 ·obtain⟨cur,hc,-⟩:=XK h;simp only[Value.ownBlock,Option.some.injEq] at hk;subst hk;unfold Bx at hc hX;rw[hc] at hX;simp only[Option.some.injEq,Obj.cells.injEq] at hX;exact ht hX.2.1.symm
theorem NH {v:Value}{E:List Eo}{k:Nat}{es:Array MapEntry}{c:Nat}(h:Zz w 0 v E)(hk:v.ownBlock=some k)(hX:w.heap[k]?=some (.map es c)):False:=by
 rcases XF h with⟨rfl,-⟩ | ⟨b,c,rfl,-,-,-⟩
 ·cases hk
 ·obtain⟨cur,hc,-⟩:=XK h;simp only[Value.ownBlock,Option.some.injEq] at hk;subst hk;unfold Bx at hc;rw[hc] at hX;cases hX
theorem Ri.ng (h:Ri w g B f m){n:ByteArray}{v:Value}(hf:f n=some v):v.ownBlock≠some g:=fun e=>row_ne (h.row hf).2 e h.bx (by decide)
theorem Ri.nB (h:Ri w g B f m){n:ByteArray}{v:Value}(hf:f n=some v):v.ownBlock≠some B:=fun e=>by
 obtain⟨es,c,h1⟩:=h.mp.map;exact NH (h.row hf).2 e h1
theorem XU {v:Value}{E:List Eo}(h:Zz w 0 v E)(hs:∀ k,v.ownBlock=some k->w'.heap[k]?=w.heap[k]?):Zz w' 0 v E:=by
 obtain⟨a,c,rfl,-,-⟩:=h.cs;exact NU h fun x hx=>hs _ (by rw[hx]; rfl)
theorem Ri.inn (h:Ri w g B f m):∀ k,nN g B f k->k<w.heap.size:=fun k hk=>by
 rcases hk with rfl | rfl | ⟨n,v,h1,h2⟩
 ·exact h.bx.lt
 ·exact h.mp.lt
 ·exact((h.row h1).2.lt k h2).2
theorem Ri.same (h:Ri w g B f m)(hs:∀ k,nN g B f k->w'.heap[k]?=w.heap[k]?):Ri w' g B f m:=
 ⟨(hs g (.inl rfl)).trans h.bx,h.mp.same (hs B (.inr (.inl rfl))),h.no,fun n hn=>by
  obtain⟨v,h1,h2⟩:=h.ye n hn;exact⟨v,h1,XU h2 fun k hk=>hs k (.inr (.inr ⟨n,v,h1,hk⟩))⟩,h.ap⟩
theorem TV.inn {S:Nat->Prop}(h:TV w g S m):∀ k,S k->k<w.heap.size:=by
 obtain⟨B,f,h1,rfl⟩:=h;exact h1.inn
theorem TV.same {S:Nat->Prop}(h:TV w g S m)(hs:∀ k,S k->w'.heap[k]?=w.heap[k]?):TV w' g S m:=by
 obtain⟨B,f,h1,rfl⟩:=h;exact⟨B,f,h1.same hs,rfl⟩
theorem TV.below {S:Nat->Prop}(h:TV w g S m)(hb:Below w.heap.size w w'):TV w' g S m:=h.same fun k hk=>hb.block k (h.inn k hk)
theorem Ri.look (h:Ri w g B f m)(n:ByteArray):∃ v,BM (f n) false=v/\Zz w 0 v (Zi m n)/\(f n=some v∨v=.slice none 0 0):=by
 cases hf:f n with
 | some v=>exact⟨v,rfl,(h.row hf).2,.inl rfl⟩
 | none=>
  have h1:Zi m n=[]:=by
   by_cases h2:Zi m n=[]
   ·exact h2
   ·obtain⟨v,h3,-⟩:=h.ye n h2;rw[hf] at h3; cases h3
  exact⟨_,rfl,by rw[h1]; exact NW _ _ _ _,.inr rfl⟩
end
theorem zK {w:World}{g B:Nat}{f:ByteArray->Option Value}{m:List Rw}(h:Ri w g B f m)(n:ByteArray):Calls Tryz.prog 77 #[Z7 g 0,.string n] w fun e w'=>e=.returned (BM (f n) false)/\w=w':=by
 have hX:=h.bx;have TF:=Z8 (h.mp.look n false);generalize BM (f n) false=v at *
 clear h;go_enter Tryz.func77,Tryz.ntmps77;go_upto_region 1 with fail;refine wl<|ZB (Z7 g 0) ZY<|wn ?_;simp only[pu];go_upto_region 3 with fail;refine wl<|YX (Z7 g 0) (Z7 g 0) (Z7 g 0)<|ZC rfl ⟨g,0,none⟩ (.map (some B)) (hX.ZM 0)<|ZQ (.string n) <|
  Za (v) (Yv 157 (.tmp 10) (.tmp 11) false rfl (.map (some B)) (.string n) v (by kernel_rfl) (by kernel_rfl) TF.out)<|ZQ (v)<|wn ?_
 simp only[pu];clear hX TF;go_wp2_with fail;go_ret;exact⟨rfl,rfl⟩
theorem FQ {P:Program}{ops:Array Oper}{rest:List Oper}{o:Oper}{a:Act}{w:World}{Q:Exit->Act->World->Prop}(hg:o.guard=none)(hw:Region.wanted o (yielded ops a.tmps)=true)(hd:o.dst=none)(x y:Operand)(t u:TypeId)(ho:o.op=.call { callee:=.builtin .delete,args:=#[x,y],argTypes:=#[t,u] })(vx vy v:Value)(w2:World)(hx:a.eval x=vx)(hy:a.eval y=vy)(hr:(Builtin.delete_ #[t,u] o.type #[vx,vy]).run P w=.ok v w2)(k:wpList P ops Q rest a w2):wpList P ops Q (o::rest) a w:=by
 apply wpList_step;intro K hK;rw[if_pos hw,Oper.wp,NJ x y t u ho vx vy v hx hy hr];refine hK _ _ ?_;rw[hd];exact k
theorem ae2 {w:World}{g B:Nat}{f:ByteArray->Option Value}{ln:Int}(hX:Bx w g #[.map (some B),Z9 ln] 159)(hM:Mf w B f)(s:ByteArray)(hs:s.size<=1000000)(a:Option Addr)(k c:Nat)(hk:k=0):Calls Tryz.prog 89 #[Z7 g 0,.string s,.slice a k c] w fun e w'=>e=.returned (.tuple #[])/\Mf w' B (XC f s (none))/\w.grownBy w' (some B):=by
 obtain⟨V,hd,hM2,-,hgr⟩:=hM.del s 0;subst hk;have HE:=Z8 (And.intro hM2 hgr);clear hM hM2 hgr;go_enter Tryz.func89,Tryz.ntmps89;go_upto_region 0 with fail;refine wl<|ZB (.slice a 0 c) (Z9 0)<|Zg (Y4 rfl 0 0 (decide_eq_true rfl))<|wn ?_;simp only[pu];go_upto_region 1 with fail;refine wl<|YX (Z7 g 0) (Z7 g 0) (Z7 g 0)<|ZC rfl ⟨g,0,none⟩ (.map (some B)) (hX.ZM 0)<|ZQ (.string s) ?_;refine FQ rfl (by kernel_rfl) rfl (.tmp 12) (.tmp 13) 157 9 rfl (.map (some B)) (.string s) (.tuple #[]) V (by kernel_rfl) (by kernel_rfl) hd ?_;apply wpList_nil;clear hd hX;go_wp2_with fail;first | exact end_none rfl rfl ⟨rfl,HE.out⟩ | exact bodyPost_ret (v:=.tuple #[]) (by kernel_rfl) rfl ⟨rfl,HE.out⟩ | exact bodyPost_ret (v:=.tuple #[]) (by simp[results]) rfl ⟨rfl,HE.out⟩
theorem jy {w:World}{g B:Nat}{f:ByteArray->Option Value}{ln:Int}(hX:Bx w g #[.map (some B),Z9 ln] 159)(hM:Mf w B f)(s:ByteArray)(hs:s.size<=1000000)(a:Option Addr)(k c:Nat)(hk:k≠0):Calls Tryz.prog 89 #[Z7 g 0,.string s,.slice a k c] w fun e w'=>e=.returned (.tuple #[])/\Mf w' B (XC f s (some (.slice a k c)))/\w.grownBy w' (some B):=by
 have Gv:Hid (∀ U,Below w.heap.size w U->∃ V,(Instr.mapUpdate 157 (.map (some B)) (.string s) (.slice a k c)).run Tryz.prog U=.ok () V/\Mf V B (XC f s (some (.slice a k c)))/\w.grownBy V (some B)):=Z8 fun U hU=>by
  obtain⟨V,h1,h2,-,h3⟩:=(hM.same (hU.block B hM.lt)).put s (.slice a k c);exact⟨V,h1,h2,WT (grown_below hU) h3⟩
 have hX2:Hid (∀ U,Below w.heap.size w U->Bx U g #[.map (some B),Z9 ln] 159):=Z8 fun U hU=>hX.below hX.lt hU;clear hM hX;go_enter Tryz.func89,Tryz.ntmps89;go_upto_region 0 with fail;refine wl<|ZB (.slice a k c) (Z9 k)<|Zg (Y4 rfl k 0 (decide_eq_false hk))<|wn ?_;simp only[pu];go_upto_region 2 with fail;refine ZP (C:=fun U=>Below w.heap.size w U) 7 (by kernel_rfl) (by kernel_rfl) ((Below.refl _ w).drew) ?_;simp only[List.take_succ_cons,List.take_zero,List.drop_succ_cons,List.drop_zero];refine gy (Z7 g 0)<|gy (Z7 g 0)<|gy (Z7 g 0)<|Zx rfl ⟨g,0,none⟩ (.map (some B)) (fun U hU=>(hX2.out U hU).ZM 0)<|gy (.string s) ?_;refine ZA (by kernel_rfl) (some 19) rfl 114 #[.string s] (.string s) (fun U hU=>by kernel_rfl) (fun U hU=>(jv s U (by omega)).mono fun e w' z=>⟨z.1,hU.trans (z.2.mono hU.size)⟩) ?_;refine gy (.slice a k c) ?_;simp only[pu];apply wpQuiet_nil;intro U hU;obtain⟨V,hup,hV⟩:=Gv.out U hU;have HE:=Z8 hV;refine UU (by kernel_rfl) rfl V (SI 157 (.tmp 17) (.tmp 19) (.tmp 20) rfl (.map (some B)) (.string s) (.slice a k c) (by kernel_rfl) (by kernel_rfl) (by kernel_rfl) hup) ?_;apply wpList_nil;clear hup hV hU Gv hX2;go_wp2_with fail;first | exact end_none rfl rfl ⟨rfl,HE.out⟩ | exact bodyPost_ret (v:=.tuple #[]) (by kernel_rfl) rfl ⟨rfl,HE.out⟩ | exact bodyPost_ret (v:=.tuple #[]) (by simp[results]) rfl ⟨rfl,HE.out⟩
end Go.Proofs.YtnelmomagdcmnaaGreat.Sd
