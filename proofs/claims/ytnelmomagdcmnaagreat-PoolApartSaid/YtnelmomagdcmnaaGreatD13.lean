/-
  Texts joined.
-/
import Derived.Test.YtnelmomagdcmnaaGreatD12
import Derived.Lib.Overlaps
import Derived.Lib.AppendZerosOnto
import Derived.Lib.SliceRun
import Derived.Laws.OwnMore
import Derived.Lib.BufferWrite
import Derived.Lib.UnsafeStr
set_option maxRecDepth 100000
set_option maxHeartbeats 8000000
set_option linter.unusedSimpArgs false
set_option linter.unusedVariables false
namespace Go.Proofs.YtnelmomagdcmnaaGreat.Sd
attribute [local irreducible] wpList wpQuiet
open Go.RowKit
theorem JA {w:World}{B e s n c g:Nat}{xs:List Value}(h:w.ownsRow B e s (.slice (some ⟨g,0,none⟩) n c) n xs)(hc:n+1<=c):∃ ys:List Value,ys.length=s/\w.ownsRow B e s (.slice (some ⟨g,0,none⟩) (n+1) c) (n+1) (xs++ys):=by
 rcases h.2 with⟨h0,-⟩ | ⟨g2,cap,cur,h0,hB,hg,hnc,hcm,hcs,ht⟩
 ·cases h0
 ·simp only[Value.slice.injEq,Option.some.injEq,Addr.mk.injEq,and_true,true_and] at h0;obtain⟨rfl,rfl⟩:=h0;have hl:(n+1)*s<=cur.toList.length:=by rw[Array.length_toList,hcs]; exact Nat.mul_le_mul_right _ hc
  have hz:(n+1)*s=n*s+s:=by rw[Nat.add_mul,Nat.one_mul]
  refine⟨(cur.toList.drop (n*s)).take s,by rw[List.length_take,List.length_drop]; omega,⟨?_,.inr ⟨g,c,cur,rfl,hB,hg,hc,hcm,hcs,?_⟩⟩⟩
  ·rw[List.length_append,h.1,List.length_take,List.length_drop]; omega
  ·rw[hz,List.take_add,ht]
theorem Nq {w:World}{B e s n c g k:Nat}{xs:List Value}(h:w.ownsRow B e s (.slice (some ⟨g,0,none⟩) n c) n xs)(hk:k<=n):w.ownsRow B e s (.slice (some ⟨g,0,none⟩) k c) k (xs.take (k*s)):=by
 rcases h.2 with⟨h0,-⟩ | ⟨g2,cap,cur,h0,hB,hg,hnc,hcm,hcs,ht⟩
 ·cases h0
 ·simp only[Value.slice.injEq,Option.some.injEq,Addr.mk.injEq,and_true,true_and] at h0;obtain⟨rfl,rfl⟩:=h0;have hm:k*s<=n*s:=Nat.mul_le_mul_right _ hk;refine⟨by rw[List.length_take,h.1]; omega,.inr ⟨g,c,cur,rfl,hB,hg,by omega,hcm,hcs,?_⟩⟩;rw[<- ht,List.take_take,Nat.min_eq_left hm]
theorem VJ (w:World)(e s m cap:Nat)(cur:Array Value)(h1:cur.size=cap*s)(h2:m<=cap)(h3:cap<=maxLen):(w.alloc (.cells cur e)).ownsRow w.heap.size e s (.slice (some ⟨w.heap.size,0,none⟩) m cap) m (cur.toList.take (m*s)):=
 ⟨by rw[List.length_take,Array.length_toList,h1]; have:=Nat.mul_le_mul_right s h2; omega,.inr ⟨_,cap,cur,rfl,Nat.le_refl _,heap_alloc_last w _,h2,h3,h1,rfl⟩⟩
theorem X8 {w:World}{B e s n c g:Nat}{xs:List Value}(h:w.ownsRow B e s (.slice (some ⟨g,0,none⟩) n c) n xs){j:Nat}(hj:j<n*s):(w.cell? ⟨g,j,none⟩).isSome=true/\w.frozen? ⟨g,j,none⟩=false:=by
 obtain⟨cur,hcur,hz,-,-⟩:=YJ h;refine⟨?_,frozen_of_row w g _ _ e hcur⟩;rw[cell_of_row w g _ _ e (0,0) hcur,Array.getElem?_eq_getElem (by omega)];rfl
theorem VU {w:World}{B e s n c g:Nat}{xs:List Value}(h:w.ownsRow B e s (.slice (some ⟨g,0,none⟩) n c) n xs){j:Nat}{u:Value}(hj:xs[j]?=some u):w.cell? ⟨g,j,none⟩=some u:=by
 obtain⟨a,c2,e2,h1,-⟩:=Zi h;simp only[Value.slice.injEq] at e2;obtain⟨rfl,-,rfl⟩:=e2;obtain⟨b,off,e3,-,hc⟩:=h1 j u hj;cases e3;rw[Nat.zero_add] at hc;exact hc
theorem YG {w:World}(ty:TypeId){g o dL dC:Nat}{A:Addr}{sL sC m:Nat}{ys:List Value}(hm:Nat.min sL dL=m)(hl:ys.length=m*2)(hsrc:∀ j u,ys[j]?=some u->w.cell? (A.add j)=some u)(hdst:∀ j,j<ys.length->(w.cell? ⟨g,o+j,none⟩).isSome=true/\w.frozen? ⟨g,o+j,none⟩=false)(h1:∀ u∈ys,u.oneCell'=true) :
  (Builtin.copy_ #[132,132] ty #[.slice (some ⟨g,o,none⟩) dL dC,.slice (some A) sL sC]).run Tryz.prog w=.ok (goInt m) (w.setCells g o ys):=by
 obtain⟨i0,hi0,hz0,hz1,hz2⟩:=info_parts Vq;have hfc:=run_firstCells_some (P:=Tryz.prog) w i0.size m A sL sC ys (by rw[hz1]; exact hl) hsrc;have hst:=run_storeCells_cells (P:=Tryz.prog) g o ys 0 w (fun j hj=>(hdst j hj).1) (fun j hj=>(hdst j hj).2) h1;rw[Nat.add_zero] at hst;simp[Builtin.copy_,run_underlying Tryz.underlying132,Builtin.lenOf,sizeOf,typeInfo,hi0,hm,hfc,hst]
theorem Ye {P:Program}{w:World}{ops:Array Oper}{rest:List Oper}{o:Oper}{a:Act}{Q:Exit->Act->World->Prop}(hgd:o.guard=none)(d:Option Tmp)(hd:o.dst=d)(ty:TypeId)(hty:o.type=ty)(s x:Operand)(t:TypeId)
  (ho:o.op=.call { callee:=.builtin .copy,args:=#[s,x],argTypes:=#[t,t] }) (v u v':Value) (w':World) (hs:a.eval s=v) (hx:a.eval x=u)
  (hr:(Builtin.copy_ #[t,t] ty #[v,u]).run P w=.ok v' w') (k:wpList P ops Q rest (a.put d v') w'):wpList P ops Q (o::rest) a w:=by
 subst hd;subst hty;refine wpList_plain hgd fun K hK=>?_;unfold Oper.wp execOp;simp only[ho,resolve,invoke,builtin,Sem.run_bind,Sem.run_pure,Result.andThen_ok,List.map_toArray,List.map_cons,List.map_nil,hs,hx,hr];exact hK _ _ k
theorem Vm {P:Program}{w:World}{ops:Array Oper}{rest:List Oper}{o:Oper}{a:Act}{Q:Exit->Act->World->Prop}(hgd:o.guard=none)(d:Option Tmp)(hd:o.dst=d)(ty:TypeId)(hty:o.type=ty)(s x:Operand)(t t2:TypeId)
  (ho:o.op=.call { callee:=.builtin .append,args:=#[s,x],argTypes:=#[t,t2] }) (v u v':Value) (w':World) (hs:a.eval s=v) (hx:a.eval x=u)
  (hr:(Builtin.append_ #[t,t2] ty #[v,u]).run P w=.ok v' w') (k:wpList P ops Q rest (a.put d v') w'):wpList P ops Q (o::rest) a w:=by
 subst hd;subst hty;refine wpList_plain hgd fun K hK=>?_;unfold Oper.wp execOp;simp only[ho,resolve,invoke,builtin,Sem.run_bind,Sem.run_pure,Result.andThen_ok,List.map_toArray,List.map_cons,List.map_nil,hs,hx,hr];exact hK _ _ k
def Pm (w:World)(v:Value)(E:List Eo)(e:Ending)(w':World):Prop:=∃ v',e=.returned v'/\ZE w' 0 v' E/\w.grownBy w' v.ownBlock/\(v'.ownBlock=v.ownBlock∨∃ k,w.heap.size<=k/\v'.ownBlock=some k)
theorem Zm {s c k g:Nat}(h:c≠k):Yc s (some ⟨g,0,none⟩) c k=some ⟨g,k*s,none⟩:=by
 unfold Yc;rw[if_neg h,Option.map_some,Addr.add_mid,Nat.zero_add]
theorem WH {w:World}{b:Nat}(vs:List Value)(o:Nat):w.grownBy (w.setCells b o vs) (some b):=by
 obtain⟨⟨h1,h2,h3,h4,h5⟩,h6⟩:=Xt (b:=b) vs o w;exact⟨h1,h2,h3,h4,fun k hk hn=>h6 k hk fun e=>hn (by rw[e])⟩
theorem grown_below {w w':World}{r:Option Nat}(h:Below w.heap.size w w'):w.grownBy w' r:=by
 obtain⟨h1,h2,h3,h4,h5⟩:=h;exact⟨h1,h2,h3,h4,fun k hk hn=>h5 k hk⟩
theorem Vy {a b c:World}{r:Option Nat}(h:a.grownBy b r)(k:b.grownBy c r):a.grownBy c r:=⟨k.1.trans h.1,k.2.trans h.2,k.3.trans h.3,Nat.le_trans h.4 k.4,fun i hi hn=>(k.5 i (Nat.lt_of_lt_of_le hi h.4) hn).trans (h.5 i hi hn)⟩
theorem grown_drew {w w':World}{r:Option Nat}(h:w.grownBy w' r):w.grownBy w'.drew r:=⟨h.1,h.2,h.3,h.4,h.5⟩
theorem Qb {w:World}{g n c i k:Nat}{E:List Eo}(h:w.ownsRow 0 168 2 (.slice (some ⟨g,0,none⟩) n c) n (encs E))(hn:n=E.length)(hi:i<=n)(hk:0<k)(hg:c<i+k)(hb:i+k<=20000)(ty:TypeId) :
  ∃ G V ys,(Builtin.append_ #[132,3] ty #[.slice (some ⟨g,0,none⟩) i c,Z9 ((k:Nat):Int)]).run Tryz.prog w=.ok (.slice (some ⟨w.heap.size,0,none⟩) (i+k) G) V/\V.ownsRow w.heap.size 168 2 (.slice (some ⟨w.heap.size,0,none⟩) (i+k) G) (i+k) (encs (E.take i)++ys)/\ys.length=k*2/\i+k<=G/\Below w.heap.size w V:=by
 obtain⟨i0,hi0,hz0,hz1,hz2⟩:=info_parts Vq;have hl:(encs (E.take i)).length=i*2:=by rw[Y0,List.length_take]; omega
 have hold:(Builtin.firstCells i0.size i (.slice (some ⟨g,0,none⟩) i c)).run Tryz.prog w.drew=.ok (encs (E.take i)).toArray w.drew:=by
  rw[hz1];exact run_firstCells_some w.drew 2 i ⟨g,0,none⟩ i c (encs (E.take i)) hl fun j v hj=>by
   rw[Addr.add_lit,Nat.zero_add];have h2:=Nq (k:=i) h hi;rw[W9] at h2;exact VU h2 hj
 have hr:=Lib.run_append_grow_zeros w 132 3 ty 168 i0 _ .i64 .i64 Tryz.underlying132 Tryz.underlying3 hi0 hz0 (some ⟨g,0,none⟩) i c (encs (E.take i)) hold k hk (by omega) hg (by omega) (by rw[hz2]; omega) (by rw[hz2]; exact growslice_fits hg (by omega));have hG1:=grownCap_ge w (i+k) c 168;have hG2:=grownCap_le_maxLen w (i+k) c 168 (by unfold maxLen; omega);generalize grownCap w (i+k) c 168=G at *
 have hzs:(Builtin.zeroCells (Value.agg (ZQ Wn)).cells k).size=k*2:=by rw[size_zeroCells]; rfl
 have sD:(Builtin.zeroCells (Value.agg (ZQ Wn)).cells (G-(i+k))).size=(G-(i+k))*2:=by rw[size_zeroCells]; rfl
 have hown:=VJ w.drew 168 2 (i+k) G ((encs (E.take i)).toArray++Builtin.zeroCells (Value.agg (ZQ Wn)).cells k++Builtin.zeroCells (Value.agg (ZQ Wn)).cells (G-(i+k))) (by rw[Array.size_append,Array.size_append,List.size_toArray,hl,hzs,sD]; omega) hG1 hG2;refine⟨G,_,(Builtin.zeroCells (Value.agg (ZQ Wn)).cells k).toList,hr,?_,by rw[Array.length_toList,hzs],hG1,(Below.refl w.heap.size w).drew.alloc (Nat.le_refl _) _⟩
 ·have e:(((encs (E.take i)).toArray++Builtin.zeroCells (Value.agg (ZQ Wn)).cells k++Builtin.zeroCells (Value.agg (ZQ Wn)).cells (G-(i+k))).toList.take ((i+k)*2))=encs (E.take i)++(Builtin.zeroCells (Value.agg (ZQ Wn)).cells k).toList:=by
   rw[Array.toList_append,Array.toList_append,List.toList_toArray];refine List.take_left' ?_;rw[List.length_append,hl,Array.length_toList,hzs]; omega
  rw[<- e];exact hown
theorem DF {w:World}{ρ:Operand->Value}{o:Oper}{x y:Operand}(ho:o.op=.call { callee:=.value (.func 115),args:=#[x,y],argTypes:=#[132,132] }){g b oo lb cb n c:Nat}{xs:List Value}{v:Eo}(hx:ρ x=.slice (some ⟨g,0,none⟩) 1 1)(hy:ρ y=.slice (some ⟨b,oo,none⟩) lb cb)(hX:Bx w g (ZQ v) 168)(hb:w.ownsRow 0 168 2 (.slice (some ⟨b,0,none⟩) n c) n xs)(hn:0<n)(hne:g≠b)(hf:ρ (.func 115)=.func (.func 115) #[] #[]:=by rfl):(execOp ρ o).run Tryz.prog w=.ok (.value ZW) w:=by
 obtain⟨cur,hcur,hz,-,-⟩:=YJ hb;have hov:(callFunc 115 #[.slice (some ⟨g,0,none⟩) 1 1,.slice (some ⟨b,oo,none⟩) lb cb]).run Tryz.prog w=.ok (.value ZW) w:=by
  rw[run_callFunc_extern Tryz.func115 (by kernel_rfl) (by kernel_rfl) (by kernel_rfl) (e:=Extern.SlicesOverlaps.overlaps #[132,132] #[4]) (by kernel_rfl),
   Lib.run_overlaps_apart w 132 4 168 Tryz.underlying132 2 (fun w=>by kernel_rfl) ⟨g,0,none⟩ ⟨b,oo,none⟩ 1 1 lb cb hne 168 168 2 cur.size (by unfold World.shape?; rw[hX]; rfl) (by unfold World.shape?; rw[hcur]) (by omega) (frozen_of_row w g _ _ 168 hX) (frozen_of_row w g _ _ 168 hX)]
  rfl
 unfold execOp;simp only[ho,resolve,invoke,Sem.run_bind,Sem.run_pure,Result.andThen_ok,List.map_toArray,List.map_cons,List.map_nil,hx,hy,hf];simp only[Deferred.ofValue,Sem.run_pure,Result.andThen_ok,Array.append_empty,Array.empty_append,hov]
section
variable {ρ : Operand -> Value} {o : Oper} {x y z : Operand} {P : Program} {w : World} {ty : TypeId} {vx vy vz v : Value}
theorem UY (ho:o.op=.slice ty x none (some y) none)(hs:(Instr.sliceAt ty vx none (some vy) none).run P w=.ok v w)(hx:ρ x=vx)(hy:ρ y=vy):(execOp ρ o).run P w=.ok (.value v) w:=by
 unfold execOp;simp only[ho,hx,hy,Option.map_some,Option.map_none,Sem.run_bind];exact(congrArg (fun r=>Result.andThen r _) hs).trans rfl
theorem ZB (ho:o.op=.slice ty x (some y) none none)(hs:(Instr.sliceAt ty vx (some vy) none none).run P w=.ok v w)(hx:ρ x=vx)(hy:ρ y=vy):(execOp ρ o).run P w=.ok (.value v) w:=by
 unfold execOp;simp only[ho,hx,hy,Option.map_some,Option.map_none,Sem.run_bind];exact(congrArg (fun r=>Result.andThen r _) hs).trans rfl
theorem OM (ho:o.op=.slice ty x (some y) (some z) none)(hs:(Instr.sliceAt ty vx (some vy) (some vz) none).run P w=.ok v w)(hx:ρ x=vx)(hy:ρ y=vy)(hz:ρ z=vz):(execOp ρ o).run P w=.ok (.value v) w:=by
 unfold execOp;simp only[ho,hx,hy,hz,Option.map_some,Option.map_none,Sem.run_bind];exact(congrArg (fun r=>Result.andThen r _) hs).trans rfl
end
theorem JB (a:Option Addr)(n c i j:Nat)(w:World)(h:i<=j)(h2:j<=c):(Instr.slice 132 (.slice a n c) (some (Z9 (i:Int))) (some (Z9 (j:Int))) none).run Tryz.prog w=.ok (.slice (Yc 2 a c i) (j-i) (c-i)) w:=by
 have hs:(sizeOf (Tryz.prog.elem 132)).run Tryz.prog w=.ok 2 w:=by kernel_rfl
 have q:=run_slice_lh (P:=Tryz.prog) w 132 a n c (by kernel_rfl) .i64 .i64 (i:Int) (j:Int) (by omega) (by omega) (by omega);rw[q,hs];by_cases hk:c=i <;> cases a <;> simp[sliced,Result.andThen,Yc,hk]
theorem Yk {w:World}{B e s n:Nat}{v:Value}{xs:List Value}(h:w.ownsRow B e s v n xs):w.drew.ownsRow B e s v n xs:=h
theorem Np {w:World}{v:Value}{E:List Eo}(h:ZE w 0 v E)(hl:E.length<=10000)(x:Eo){g:Nat}(hx:Bx w g (ZQ x) 168):Calls Tryz.prog 90 #[v,Z9 E.length,.slice (some ⟨g,0,none⟩) 1 1] w (Pm w v (E.take E.length++x::E.drop E.length)):=by
 obtain⟨v6,W6,hap,hrow,hb6,SN,DC⟩:=JU h (Nat.zero_le _) (some ⟨g,0,none⟩) 1 1 [x] (Cs.block (cs:=YN x) hx) rfl (by omega) (by omega);have HE:Hid (Pm w v (E.take E.length++x::E.drop E.length) (.returned v6) W6):=Z8 ⟨v6,rfl,by rw[List.take_length,List.drop_length]; exact hrow,SN,DC.imp id fun h=>⟨_,Nat.le_refl _,h⟩⟩;obtain⟨PO,Yo⟩:=ZR (Pm w v (E.take E.length++x::E.drop E.length));rw[Yo] at HE ⊢;obtain⟨a,c,rfl,-,hnc⟩:=h.cs;obtain⟨n,hn⟩:=ZR E.length;rw[hn] at hap hnc ⊢;clear Yo hrow hb6 SN DC h hl hx hn;go_enter Tryz.func90,Tryz.ntmps90;go_upto_region 1 with fail;refine wl<|ZA (.slice a n c) (Z9 n)<|YT (.slice (Yc 2 a c n) (n-n) (c-n)) (ZB rfl (ZH a n c n _ (Nat.le_refl n)) (by kernel_rfl) (by kernel_rfl))<|wn ?_;simp only[pu];go_upto_region 2 with fail;refine wl<|YU (.slice (some ⟨g,0,none⟩) 1 1) (Z9 1) (Z9 1)<|wn ?_;simp only[pu];go_upto_region 3 with fail;refine wl<|ZN (Z9 1)<|YF (X0 rfl 1 0 dF)<|wn ?_;simp only[pu];go_upto_region 5 with fail;refine wl<|YU (.slice a n c) (Z9 n) (Z9 n)<|wn ?_;simp only[pu];go_upto_region 6 with fail;refine wl<|ZA (Z9 n) (Z9 n)<|YF (X0 rfl n n (decide_eq_true rfl))<|wn ?_;simp only[pu];go_upto_region 7 with fail;refine wl<|ZA (.slice a n c) (.slice (some ⟨g,0,none⟩) 1 1) ?_;refine Y5 rfl (some 25) rfl 132 rfl (.tmp 23) (.tmp 24) 132 rfl (.slice a n c) (.slice (some ⟨g,0,none⟩) 1 1) (v6) W6 (by kernel_rfl) (by kernel_rfl) hap ?_;refine ZN (v6)<|wn ?_;simp only[pu];go_wp2_with fail;exact HE.out
theorem Qa {w:World}{b n c:Nat}{E:List Eo}(h:w.ownsRow 0 168 2 (.slice (some ⟨b,0,none⟩) n c) n (encs E))(hn:E.length=n){i:Nat}(hi:i<n)(hl:n<=10000)(x:Eo){g:Nat}(hx:Bx w g (ZQ x) 168)(hgb:g≠b)(hcc:c<n+1):Calls Tryz.prog 90 #[.slice (some ⟨b,0,none⟩) n c,Z9 i,.slice (some ⟨g,0,none⟩) 1 1] w (Pm w (.slice (some ⟨b,0,none⟩) n c) (E.take i++x::E.drop i)):=by
 have hnc:n<=c:=(Qv h).2;have hel:(encs (E.drop i)).length=(n-i)*2:=by rw[Y0,List.length_drop,hn]
 have WE:(encs (E.take i)).length=i*2:=by rw[Y0,List.length_take]; omega
 have Dz:(E.take i++x::E.drop i).length=n+1:=by rw[List.length_append,List.length_cons,List.length_take,List.length_drop]; omega
 have Dy:encs (E.take i++x::E.drop i)=encs (E.take i)++YN x++encs (E.drop i):=by
  rw[WM,List.append_assoc]; rfl
 obtain⟨G,V1,ys,hz1,Nl,hyl,hG,hb1⟩:=Qb (i:=i) (k:=n+1-i) h hn.symm (by omega) (by omega) (by omega) (by omega) 132;rw[show i+(n+1-i)=n+1 by omega] at hz1 Nl hG;have hgl:g<w.heap.size:=hx.lt;obtain⟨q,hq⟩:=ZR w.heap.size;rw[hq] at hz1 Nl hgl;have hx1:Bx V1 g (ZQ x) 168:=hx.below hx.lt hb1;have hc1:=YG (w:=V1) 3 (g:=q) (o:=i*2) (dL:=n+1-i) (dC:=G-i) (A:=⟨g,0,none⟩) (sL:=1) (sC:=1) (m:=1) (ys:=YN x) (by simp only[Nat.min_def]; split <;> omega) rfl (fun j u hj=>by rw[Addr.add_lit,Nat.zero_add]; exact(ZV (cs:=YN x) hx1 j u hj |> fun h=>by rwa [Nat.zero_add] at h)) (fun j hj=>X8 Nl (by have:j<2:=hj; omega)) (Vr x);have hO2:=YI (YN x) (i*2) V1 _ Nl (by rw[List.length_append,WE,hyl]; show i*2+2<=_; omega);obtain⟨V2,hV2⟩:=ZR (V1.setCells q (i*2) (YN x));rw[hV2] at hc1 hO2;have hb2:Below q V1 V2:=by rw[<- hV2]; exact X5 (Nat.le_refl q) _ _ _
 have Jz:Below w.heap.size w V2:=hb1.trans (by rw[hq]; exact hb2);have hsrc:=own_below h Jz;have hc2:=YG (w:=V2.drew) 3 (g:=q) (o:=(i+1)*2) (dL:=n+1-(i+1)) (dC:=G-(i+1)) (A:=⟨b,i*2,none⟩) (sL:=n-i) (sC:=c-i) (m:=n-i) (ys:=encs (E.drop i)) (by simp only[Nat.min_def]; split <;> omega) hel (fun j u hj=>by
  rw[<- WZ,List.getElem?_drop] at hj;rw[Addr.add_lit];exact VU hsrc hj) (fun j hj=>X8 (Yk hO2) (by rw[hel] at hj; omega)) (WO _)
 have hO3:=YI (encs (E.drop i)) ((i+1)*2) V2.drew _ (Yk hO2) (by
  rw[hel,List.length_append,List.length_append,List.length_take,List.length_drop,List.length_append,WE,hyl];show(i+1)*2+(n-i)*2<=min (i*2) _+2+(_-(i*2+2)); omega)
 have eL:(((encs (E.take i)++ys).take (i*2)++YN x++(encs (E.take i)++ys).drop (i*2+(YN x).length)).take ((i+1)*2)++encs (E.drop i)++((encs (E.take i)++ys).take (i*2)++YN x++(encs (E.take i)++ys).drop (i*2+(YN x).length)).drop ((i+1)*2+(encs (E.drop i)).length))=encs (E.take i++x::E.drop i):=by
  rw[List.take_left' WE,Dy];have h1:(encs (E.take i)++YN x).length=(i+1)*2:=by rw[List.length_append,WE]; show i*2+2=_; omega
  have h2:((encs (E.take i)++YN x)++(encs (E.take i)++ys).drop (i*2+(YN x).length)).drop ((i+1)*2+(encs (E.drop i)).length)=[]:=List.drop_of_length_le (by
   rw[List.length_append,h1,List.length_drop,List.length_append,WE,hyl,hel];show(i+1)*2+(i*2+(n+1-i)*2-(i*2+2))<=_;omega)
  rw[h2,List.take_left' h1,List.append_nil]
 rw[eL] at hO3;obtain⟨V3,UJ⟩:=ZR (V2.drew.setCells q ((i+1)*2) (encs (E.drop i)));rw[UJ] at hc2 hO3;have hb3:Below q V2 V3:=by rw[<- UJ]; exact(Below.refl q V2).drew.trans (X5 (Nat.le_refl q) _ _ _)
 have Dx:Below w.heap.size w V3:=Jz.trans (by rw[hq]; exact hb3);have HE:Hid (Pm w (.slice (some ⟨b,0,none⟩) n c) (E.take i++x::E.drop i) (.returned (.slice (some ⟨q,0,none⟩) (n+1) G)) V3):=Z8 ⟨_,rfl,by unfold ZE; rw[Dz]; exact own_base hO3 (Nat.zero_le _),grown_below Dx,.inr ⟨q,by omega,rfl⟩⟩;obtain⟨PO,Yo⟩:=ZR (Pm w (.slice (some ⟨b,0,none⟩) n c) (E.take i++x::E.drop i));rw[Yo] at HE ⊢;have hz2:(Builtin.append_ #[132,3] 132 #[.slice (some ⟨b,0,none⟩) i c,Z9 ((n:Int)+1-i)]).run Tryz.prog w=.ok (.slice (some ⟨q,0,none⟩) (n+1) G) V1:=by
  rw[show(n:Int)+1-i=((n+1-i:Nat):Int) by omega]; exact hz1
 clear Yo Dx hb3 UJ hO3 eL hsrc Jz hb2 hV2 hO2 hx1 hb1 Nl hyl Dy Dz hel WE h hn hx hz1 hgl hq;go_enter Tryz.func90,Tryz.ntmps90;go_upto_region 1 with fail;refine wl<|ZA (.slice (some ⟨b,0,none⟩) n c) (Z9 i)<|YT (.slice (Yc 2 (some ⟨b,0,none⟩) c i) (n-i) (c-i)) (ZB rfl (ZH (some ⟨b,0,none⟩) n c i _ (by omega)) (by kernel_rfl) (by kernel_rfl))<|wn ?_;simp only[pu];go_upto_region 2 with fail;refine wl<|YU (.slice (some ⟨g,0,none⟩) 1 1) (Z9 1) (Z9 1)<|wn ?_;simp only[pu];go_upto_region 3 with fail;refine wl<|ZN (Z9 1)<|YF (X0 rfl 1 0 dF)<|wn ?_;simp only[pu];go_upto_region 5 with fail;refine wl<|YU (.slice (some ⟨b,0,none⟩) n c) (Z9 n) (Z9 n)<|wn ?_;simp only[pu];go_upto_region 6 with fail;refine wl<|ZA (Z9 i) (Z9 n)<|YF (X0 rfl i n dF)<|wn ?_;simp only[pu];go_upto_region 8 with fail;refine wl<|ZA (Z9 n) (Z9 1)<|Yb (Z9 (n+1:Nat)) (YK rfl n 1 (by omega))<|ZA (.slice (some ⟨b,0,none⟩) n c) (Z9 c) <|
  YF (VI rfl (n+1:Nat) c dT)<|wn ?_
 simp only[pu];go_upto_region 9 with fail;refine wl<|ZA (.slice (some ⟨b,0,none⟩) n c) (Z9 i)<|YT (.slice (some ⟨b,0,none⟩) i c) (UY rfl (VB (some ⟨b,0,none⟩) n c i _ (by omega)) (by kernel_rfl) (by kernel_rfl))<|ZA (Z9 n) (Z9 1) <|
  Yb (Z9 ((n:Int)+1)) (Wq rfl n 1 (by omega))<|ZN (Z9 i)<|Yb (Z9 ((n:Int)+1-i)) (TQ rfl ((n:Int)+1) i (by omega)) ?_
 refine Vm rfl (some 40) rfl 132 rfl (.tmp 34) (.tmp 39) 132 3 rfl (.slice (some ⟨b,0,none⟩) i c) (Z9 ((n:Int)+1-i)) (.slice (some ⟨q,0,none⟩) (n+1) G) V1 (by kernel_rfl) (by kernel_rfl) hz2 ?_;refine ZN (.slice (some ⟨q,0,none⟩) (n+1) G)<|wn ?_;simp only[pu];clear hz2;go_upto_region 10 with fail;refine wl<|ZA (.slice (some ⟨q,0,none⟩) (n+1) G) (Z9 i) <|
  YT (.slice (some ⟨q,i*2,none⟩) (n+1-i) (G-i)) (by rw[<- Zm (s:=2) (c:=G) (k:=i) (g:=q) (by omega)]; exact ZB rfl (ZH (some ⟨q,0,none⟩) (n+1) G i _ (by omega)) (by kernel_rfl) (by kernel_rfl))<|ZN (.slice (some ⟨g,0,none⟩) 1 1) ?_
 refine Ye rfl (some 45) rfl 3 rfl (.tmp 43) (.tmp 44) 132 rfl (.slice (some ⟨q,i*2,none⟩) (n+1-i) (G-i)) (.slice (some ⟨g,0,none⟩) 1 1) (goInt 1) V2 (by kernel_rfl) (by kernel_rfl) hc1 ?_;simp only[pu];apply wpList_nil;clear hc1;go_upto_region 11 with fail;refine ZO (C:=fun U=>U=V2.drew) 8 (by kernel_rfl) (by kernel_rfl) (rfl) ?_;simp only[List.take_succ_cons,List.take_zero,List.drop_succ_cons,List.drop_zero];refine gy (.slice (some ⟨q,0,none⟩) (n+1) G)<|gy (Z9 i)<|gy (Z9 1)<|Yz (Z9 (i+1:Nat)) (fun U hU=>YK rfl i 1 (by omega) (by kernel_rfl) (by kernel_rfl) _) <|
   Yz (.slice (some ⟨q,(i+1)*2,none⟩) (n+1-(i+1)) (G-(i+1))) (fun U hU=>by rw[<- Zm (s:=2) (c:=G) (k:=i+1) (g:=q) (by omega)]; exact ZB rfl (ZH (some ⟨q,0,none⟩) (n+1) G (i+1) _ (by omega)) (by kernel_rfl) (by kernel_rfl)) <|
   gy (.slice (some ⟨b,0,none⟩) n c)<|gy (Z9 i) <|
   Yz (.slice (some ⟨b,i*2,none⟩) (n-i) (c-i)) (fun U hU=>by rw[<- Zm (s:=2) (c:=c) (k:=i) (g:=b) (by omega)]; exact ZB rfl (ZH (some ⟨b,0,none⟩) n c i _ (by omega)) (by kernel_rfl) (by kernel_rfl)) ?_
 simp only[pu];apply wpQuiet_nil;intro U hU;subst hU;refine Ye rfl (some 54) rfl 3 rfl (.tmp 50) (.tmp 53) 132 rfl (.slice (some ⟨q,(i+1)*2,none⟩) (n+1-(i+1)) (G-(i+1))) (.slice (some ⟨b,i*2,none⟩) (n-i) (c-i)) (goInt (n-i:Nat)) V3 (by kernel_rfl) (by kernel_rfl) hc2 ?_;simp only[pu];apply wpList_nil;clear hc2;go_upto_region 12 with fail;refine wl<|ZA (.slice (some ⟨q,0,none⟩) (n+1) G) (.slice (some ⟨q,0,none⟩) (n+1) G)<|wn ?_;simp only[pu];go_wp2_with fail;exact HE.out
theorem P9 {w:World}{b n c:Nat}{E:List Eo}(h:w.ownsRow 0 168 2 (.slice (some ⟨b,0,none⟩) n c) n (encs E))(hn:E.length=n){i:Nat}(hi:i<n)(hl:n<=10000)(x:Eo){g:Nat}(hx:Bx w g (ZQ x) 168)(hgb:g≠b)(hcc:n+1<=c):Calls Tryz.prog 90 #[.slice (some ⟨b,0,none⟩) n c,Z9 i,.slice (some ⟨g,0,none⟩) 1 1] w (Pm w (.slice (some ⟨b,0,none⟩) n c) (E.take i++x::E.drop i)):=by
 have hnc:n<=c:=(Qv h).2;have hel:(encs (E.drop i)).length=(n-i)*2:=by rw[Y0,List.length_drop,hn]
 have WE:(encs (E.take i)).length=i*2:=by rw[Y0,List.length_take]; omega
 have Dz:(E.take i++x::E.drop i).length=n+1:=by rw[List.length_append,List.length_cons,List.length_take,List.length_drop]; omega
 have Dy:encs (E.take i++x::E.drop i)=encs (E.take i)++YN x++encs (E.drop i):=by
  rw[WM,List.append_assoc]; rfl
 obtain⟨ys,hyl,Nl⟩:=JA h hcc;have hc63:c<=9223372036854775807:=by
  rcases h.2 with⟨h0,-⟩ | ⟨g2,cap,cur,h0,-,-,-,hcm,-⟩
  ·cases h0
  ·simp only[Value.slice.injEq] at h0;obtain⟨-,-,rfl⟩:=h0;unfold maxLen at hcm; omega
 have hsl:(encs E).length=n*2:=by rw[Y0,hn]
 have hc1:=YG (w:=w.drew) 3 (g:=b) (o:=(i+1)*2) (dL:=n+1-(i+1)) (dC:=c-(i+1)) (A:=⟨b,i*2,none⟩) (sL:=n+1-i) (sC:=c-i) (m:=n-i) (ys:=encs (E.drop i)) (by simp only[Nat.min_def]; split <;> omega) hel (fun j u hj=>by
  rw[<- WZ,List.getElem?_drop] at hj;rw[Addr.add_lit];exact VU (Yk h) hj) (fun j hj=>X8 (Yk Nl) (by rw[hel] at hj; omega)) (WO _)
 have hO2:=YI (encs (E.drop i)) ((i+1)*2) w.drew _ (Yk Nl) (by rw[hel,List.length_append,hsl,hyl]; omega);obtain⟨V2,hV2⟩:=ZR (w.drew.setCells b ((i+1)*2) (encs (E.drop i)));rw[hV2] at hc1 hO2;have hg2:w.grownBy V2 (some b):=by rw[<- hV2]; exact Vy (grown_drew (World.grownBy.refl w _)) (WH _ _)
 have hx2:Bx V2 g (ZQ x) 168:=(hg2.5 g hx.lt (by simpa using hgb)).trans hx;have hc2:=YG (w:=V2) 3 (g:=b) (o:=i*2) (dL:=n+1-i) (dC:=c-i) (A:=⟨g,0,none⟩) (sL:=1) (sC:=1) (m:=1) (ys:=YN x) (by simp only[Nat.min_def]; split <;> omega) rfl (fun j u hj=>by rw[Addr.add_lit,Nat.zero_add]; exact(ZV (cs:=YN x) hx2 j u hj |> fun h=>by rwa [Nat.zero_add] at h)) (fun j hj=>X8 hO2 (by have:j<2:=hj; omega)) (Vr x);have hO3:=YI (YN x) (i*2) V2 _ hO2 (by
  rw[List.length_append,List.length_append,List.length_take,List.length_drop,List.length_append,hsl,hyl,hel];show i*2+2<=_; omega)
 have eL:(((encs E++ys).take ((i+1)*2)++encs (E.drop i)++(encs E++ys).drop ((i+1)*2+(encs (E.drop i)).length)).take (i*2)++YN x++((encs E++ys).take ((i+1)*2)++encs (E.drop i)++(encs E++ys).drop ((i+1)*2+(encs (E.drop i)).length)).drop (i*2+(YN x).length))=encs (E.take i++x::E.drop i):=by
  have h1:((encs E++ys).take ((i+1)*2)).length=(i+1)*2:=by rw[List.length_take,List.length_append,hsl,hyl]; omega
  have h2:(encs E++ys).drop ((i+1)*2+(encs (E.drop i)).length)=[]:=List.drop_of_length_le (by rw[List.length_append,hsl,hyl,hel]; omega);rw[h2,List.append_nil,Dy,List.take_append_of_le_length (by omega),List.take_take,Nat.min_eq_left (by omega),List.take_append_of_le_length (by omega),W9];rw[show i*2+(YN x).length=(i+1)*2 by show i*2+2=_; omega,List.drop_left' h1]
 rw[eL] at hO3;obtain⟨V3,UJ⟩:=ZR (V2.setCells b (i*2) (YN x));rw[UJ] at hc2 hO3;have hg3:w.grownBy V3 (some b):=by rw[<- UJ]; exact Vy hg2 (WH _ _)
 have HE:Hid (Pm w (.slice (some ⟨b,0,none⟩) n c) (E.take i++x::E.drop i) (.returned (.slice (some ⟨b,0,none⟩) (n+1) c)) V3):=Z8 ⟨_,rfl,by unfold ZE; rw[Dz]; exact hO3,hg3,.inl rfl⟩;obtain⟨PO,Yo⟩:=ZR (Pm w (.slice (some ⟨b,0,none⟩) n c) (E.take i++x::E.drop i));rw[Yo] at HE ⊢;have kM:Hid (∀ (ρ:Operand->Value) (o:Oper) (y z:Operand) (oo lb cb:Nat),o.op=.call { callee:=.value (.func 115),args:=#[y,z],argTypes:=#[132,132] }->ρ y=.slice (some ⟨g,0,none⟩) 1 1->ρ z=.slice (some ⟨b,oo,none⟩) lb cb->ρ (.func 115)=.func (.func 115) #[] #[]->(execOp ρ o).run Tryz.prog w=.ok (.value ZW) w):=Z8 fun ρ o y z oo lb cb ho hy hz hf=>DF ho hy hz hx h (by omega) hgb hf;clear Yo hg3 UJ hO3 eL hx2 hg2 hV2 hO2 Nl hyl ys Dy Dz hel WE h hn hx hsl;go_enter Tryz.func90,Tryz.ntmps90;go_upto_region 1 with fail;refine wl<|ZA (.slice (some ⟨b,0,none⟩) n c) (Z9 i)<|YT (.slice (Yc 2 (some ⟨b,0,none⟩) c i) (n-i) (c-i)) (ZB rfl (ZH (some ⟨b,0,none⟩) n c i _ (by omega)) (by kernel_rfl) (by kernel_rfl))<|wn ?_;simp only[pu];go_upto_region 2 with fail;refine wl<|YU (.slice (some ⟨g,0,none⟩) 1 1) (Z9 1) (Z9 1)<|wn ?_;simp only[pu];go_upto_region 3 with fail;refine wl<|ZN (Z9 1)<|YF (X0 rfl 1 0 dF)<|wn ?_;simp only[pu];go_upto_region 5 with fail;refine wl<|YU (.slice (some ⟨b,0,none⟩) n c) (Z9 n) (Z9 n)<|wn ?_;simp only[pu];go_upto_region 6 with fail;refine wl<|ZA (Z9 i) (Z9 n)<|YF (X0 rfl i n dF)<|wn ?_;simp only[pu];go_upto_region 8 with fail;refine wl<|ZA (Z9 n) (Z9 1)<|Yb (Z9 (n+1:Nat)) (YK rfl n 1 (by omega))<|ZA (.slice (some ⟨b,0,none⟩) n c) (Z9 c) <|
  YF (VI rfl (n+1:Nat) c dF)<|wn ?_
 simp only[pu];go_upto_region 13 with fail;refine wl<|YU (.slice (some ⟨b,0,none⟩) n c) (Z9 n) (Z9 1)<|Yb (Z9 (n+1:Nat)) (YK rfl n 1 (by omega)) <|
  YT (.slice (some ⟨b,0,none⟩) (n+1) c) (UY rfl (VB (some ⟨b,0,none⟩) n c (n+1) _ (by omega)) (by kernel_rfl) (by kernel_rfl))<|ZN (.slice (some ⟨b,0,none⟩) (n+1) c)<|wn ?_
 simp only[pu];go_upto_region 14 with fail;refine wl<|MR (.slice (some ⟨g,0,none⟩) 1 1) (.slice (some ⟨b,0,none⟩) (n+1) c) (Z9 i) (Z9 1)<|Yb (Z9 (i+1:Nat)) (YK rfl i 1 (by omega)) <|
  YT (.slice (some ⟨b,(i+1)*2,none⟩) (n+1-(i+1)) (c-(i+1))) (by rw[<- Zm (s:=2) (c:=c) (k:=i+1) (g:=b) (by omega)]; exact ZB rfl (ZH (some ⟨b,0,none⟩) (n+1) c (i+1) _ (by omega)) (by kernel_rfl) (by kernel_rfl)) <|
  YT ZW (kM.out _ _ _ _ ((i+1)*2) (n+1-(i+1)) (c-(i+1)) rfl (by kernel_rfl) (by kernel_rfl) (by kernel_rfl))<|ZN ZT<|wn ?_
 simp only[pu];clear kM;go_upto_region 15 with fail;refine ZO (C:=fun U=>U=w.drew) 8 (by kernel_rfl) (by kernel_rfl) (rfl) ?_;simp only[List.take_succ_cons,List.take_zero,List.drop_succ_cons,List.drop_zero];refine gy (.slice (some ⟨b,0,none⟩) (n+1) c)<|gy (Z9 i)<|gy (Z9 1)<|Yz (Z9 (i+1:Nat)) (fun U hU=>YK rfl i 1 (by omega) (by kernel_rfl) (by kernel_rfl) _) <|
   Yz (.slice (some ⟨b,(i+1)*2,none⟩) (n+1-(i+1)) (c-(i+1))) (fun U hU=>by rw[<- Zm (s:=2) (c:=c) (k:=i+1) (g:=b) (by omega)]; exact ZB rfl (ZH (some ⟨b,0,none⟩) (n+1) c (i+1) _ (by omega)) (by kernel_rfl) (by kernel_rfl)) <|
   gy (.slice (some ⟨b,0,none⟩) (n+1) c)<|gy (Z9 i) <|
   Yz (.slice (some ⟨b,i*2,none⟩) (n+1-i) (c-i)) (fun U hU=>by rw[<- Zm (s:=2) (c:=c) (k:=i) (g:=b) (by omega)]; exact ZB rfl (ZH (some ⟨b,0,none⟩) (n+1) c (i) _ (by omega)) (by kernel_rfl) (by kernel_rfl)) ?_
 simp only[pu];apply wpQuiet_nil;intro U hU;subst hU;refine Ye rfl (some 77) rfl 3 rfl (.tmp 73) (.tmp 76) 132 rfl (.slice (some ⟨b,(i+1)*2,none⟩) (n+1-(i+1)) (c-(i+1))) (.slice (some ⟨b,i*2,none⟩) (n+1-i) (c-i)) (goInt (n-i:Nat)) V2 (by kernel_rfl) (by kernel_rfl) hc1 ?_;simp only[pu];apply wpList_nil;clear hc1;go_upto_region 16 with fail;refine wl<|ZA (.slice (some ⟨b,0,none⟩) (n+1) c) (Z9 i) <|
  YT (.slice (some ⟨b,i*2,none⟩) (n+1-i) (c-i)) (by rw[<- Zm (s:=2) (c:=c) (k:=i) (g:=b) (by omega)]; exact ZB rfl (ZH (some ⟨b,0,none⟩) (n+1) c (i) _ (by omega)) (by kernel_rfl) (by kernel_rfl))<|ZN (.slice (some ⟨g,0,none⟩) 1 1) ?_
 refine Ye rfl (some 82) rfl 3 rfl (.tmp 80) (.tmp 81) 132 rfl (.slice (some ⟨b,i*2,none⟩) (n+1-i) (c-i)) (.slice (some ⟨g,0,none⟩) 1 1) (goInt 1) V3 (by kernel_rfl) (by kernel_rfl) hc2 ?_;simp only[pu];apply wpList_nil;clear hc2;go_upto_region 17 with fail;refine wl<|ZA (.slice (some ⟨b,0,none⟩) (n+1) c) (.slice (some ⟨b,0,none⟩) (n+1) c)<|wn ?_;simp only[pu];go_wp2_with fail;exact HE.out
theorem DJ {w:World}{v:Value}{E:List Eo}(h:ZE w 0 v E){i:Nat}(hi:i<=E.length)(hl:E.length<=10000)(x:Eo){g:Nat}(hx:Bx w g (ZQ x) 168)(hg:v.ownBlock≠some g):Calls Tryz.prog 90 #[v,Z9 i,.slice (some ⟨g,0,none⟩) 1 1] w (Pm w v (E.take i++x::E.drop i)):=by
 by_cases he:i=E.length
 ·subst he;exact Np h hl x hx
 ·rcases Yf h with⟨rfl,h0⟩ | ⟨b,c,rfl,-,-,hnc⟩
  ·omega
  ·have hgb:g≠b:=fun e=>hg (by rw[e]; rfl);by_cases hr:c<E.length+1
   ·exact Qa h rfl (by omega) hl x hx hgb hr
   ·exact P9 h rfl (by omega) hl x hx hgb (by omega)
theorem sG:(Tryz.prog.info? 5).map (fun i=>(i.zero,i.size,i.bytes))=some (some (.int .u8 0),1,1):=by kernel_rfl
theorem DI (s:ByteArray)(w:World)(hlim:s.size<=281474976710656):Calls Tryz.prog 144 #[.string s] w fun e w'=>e=.returned (.string s)/\Below w.heap.size w w':=by
 by_cases h0:s.size=0
 ·have hs:s=⟨#[]⟩:=ByteArray.ext (Array.eq_empty_of_size_eq_zero h0);subst hs;go_enter Tryz.func144,Tryz.ntmps144;go_wp2;go_ret;exact⟨rfl,Below.refl _ _⟩
 ·obtain⟨i0,hi,hz0,hz1,hz2⟩:=info_parts sG;have hinfo:(Tryz.prog.info? 5).map (·.size)=some 1:=by rw[hi]; simp[hz1]
  have hco:Tryz.prog.cellsOf 5=1:=by simp[Program.cellsOf,hi,hz1]
  obtain⟨M,hM⟩:∃ M,M=madeCells (Value.int .u8 0).cells (((s.size:Nat):Int).toNat * i0.size):=⟨_,rfl⟩;have hMs:M.size=s.size:=by rw[hM,size_madeCells,hz1]; simp
  have hmk:∀ W:World,(Instr.makeSlice 50 (Z9 (s.size:Int)) (Z9 (s.size:Int))).run Tryz.prog W=.ok (.slice (some ⟨W.heap.size,0,none⟩) s.size s.size) (W.alloc (.cells M 5)):=fun W=>by
   have h:=run_make (P:=Tryz.prog) W 50 5 i0 (.int .u8 0) Tryz.underlying50 hi hz0 .i64 .i64 (s.size:Int) (s.size:Int) (by omega) (by omega) (by rw[hz2]; omega) (by omega);rw[<- hM] at h;simpa using h
  clear hM;have hcp:=Lib.run_copy_row_string (P:=Tryz.prog) (w.alloc (.cells M 5)) 50 9 3 5 w.heap.size 0 s.size s.size s M 5 Tryz.underlying50 hinfo (heap_alloc_new w _) (Nat.le_refl _) (by omega);obtain⟨Y,hY⟩:∃ Y,Y=(M.toList.take 0++Lib.byteCells s.data.toList++M.toList.drop (0+s.size)).toArray:=⟨_,rfl⟩;rw[<- hY] at hcp;have hYl:Y.toList=Lib.byteCells s.data.toList:=by
   rw[hY,List.toList_toArray,List.take_zero,List.nil_append,List.drop_of_length_le (by rw[Array.length_toList]; omega),List.append_nil]
  have hYs:Y.size=s.size:=by rw[<- Array.length_toList,hYl,Lib.byteCells_length,<- Lib.size_eq]
  have hgY:((w.alloc (.cells M 5)).setRow w.heap.size Y).heap[w.heap.size]?=some (.cells Y 5 (0,0)):=setRow_heap _ _ M _ 5 (0,0) (heap_alloc_new w _);have hne:s.data.toList≠[]:=fun e=>h0 (by rw[Lib.size_eq,e]; rfl);have hUS:=Lib.run_unsafeString_row (P:=Tryz.prog) ((w.alloc (.cells M 5)).setRow w.heap.size Y) 233 3 9 5 Tryz.underlying233 hco w.heap.size Y.size (by unfold World.shape?; rw[hgY]) s.data.toList hne (by rw[<- Lib.size_eq]; omega) (by rw[<- Lib.size_eq]; omega)
   (fun j x hx=>Lib.cells_of_row hgY Y.size j _ (by rw[List.take_of_length_le (by rw[Array.length_toList]; exact Nat.le_refl _),hYl]; simp[Lib.byteCells,hx]))
  rw[<- Lib.size_eq] at hUS;clear hY;go_enter Tryz.func144,Tryz.ntmps144;go_wp2;go_ret;have hb1:Below w.heap.size w (w.alloc (.cells M 5)):=(Below.refl _ w).alloc (Nat.le_refl _) _;have hb2:Below w.heap.size (w.alloc (.cells M 5)) ((w.alloc (.cells M 5)).setRow w.heap.size Y):=⟨rfl,rfl,rfl,by simp,fun k hk=>setRow_other _ _ _ _ (by omega)⟩;exact⟨rfl,Lib.below_freeze (hb1.trans hb2) (p:=⟨w.heap.size,0,none⟩) (Nat.le_refl _) _⟩
theorem yY (s:ByteArray)(w:World)(hlim:s.size<=281474976710656):Calls Tryz.prog 114 #[.string s] w fun e w'=>e=.returned (.string s)/\Below w.heap.size w w':=by
 have CC:=DI s w hlim;clear hlim;go_enter Tryz.func114,Tryz.ntmps114;go_upto_region 1 with fail;refine wl<|ZN (.string s)<|Yd (.string s) (fun w'=>Below w.heap.size w w') (CC) (fun V hV=>?_);have HB:=Z8 hV;refine ZN (.string s)<|wn ?_;simp only[pu];clear CC hV;go_wp2_with fail;go_ret;exact⟨rfl,HB.out⟩
structure Ri (w:World)(g B:Nat)(f:ByteArray->Option Value)(m:List Rw):Prop where
 bx:Bx w g #[.map (some B),Z9 m.length] 159
 mp:Mf w B f
 no:∀ n,Zy m n=[]->f n=none
 ye:∀ n,Zy m n≠[]->∃ v,f n=some v/\ZE w 0 v (Zy m n)
 ap:∀ n n' v v' k,f n=some v->f n'=some v'->v.ownBlock=some k->v'.ownBlock=some k->n=n'
def y5 (g B:Nat)(f:ByteArray->Option Value)(k:Nat):Prop:=k=g∨k=B∨∃ n v,f n=some v/\v.ownBlock=some k
def VK (w:World)(g:Nat)(S:Nat->Prop)(m:List Rw):Prop:=∃ B f,Ri w g B f m/\S=y5 g B f
def Kq (g B:Nat)(S:Nat->Prop)(m:List Rw)(w w':World):Prop:=∃ S',VK w' g S' m/\(∀ k,S' k->S k∨w.heap.size<=k)/\ZP B S w w'
section
variable {w w' : World} {g B : Nat} {f : ByteArray -> Option Value} {m : List Rw}
theorem Mf.map (h:Mf w B f):∃ es c,w.heap[B]?=some (.map es c):=by
 obtain⟨L,⟨es,c,h1,-⟩,-⟩:=h;exact⟨es,c,h1⟩
theorem Ri.row (h:Ri w g B f m){n:ByteArray}{v:Value}(hf:f n=some v):Zy m n≠[]/\ZE w 0 v (Zy m n):=by
 have h1:Zy m n≠[]:=fun e=>by rw[h.no n e] at hf; cases hf
 obtain⟨v2,h2,h3⟩:=h.ye n h1;rw[hf] at h2;cases h2;exact⟨h1,h3⟩
theorem row_ne {v:Value}{E:List Eo}{k t:Nat}{cs:Array Value}(h:ZE w 0 v E)(hk:v.ownBlock=some k)(hX:Bx w k cs t)(ht:t≠168):False:=by
 rcases Yf h with⟨rfl,-⟩ | ⟨b,c,rfl,-,-,-⟩
 ·cases hk
 ·obtain⟨cur,hc,-⟩:=YJ h;simp only[Value.ownBlock,Option.some.injEq] at hk;subst hk;unfold Bx at hc hX;rw[hc] at hX;simp only[Option.some.injEq,Obj.cells.injEq] at hX;exact ht hX.2.1.symm
theorem Qc {v:Value}{E:List Eo}{k:Nat}{es:Array MapEntry}{c:Nat}(h:ZE w 0 v E)(hk:v.ownBlock=some k)(hX:w.heap[k]?=some (.map es c)):False:=by
 rcases Yf h with⟨rfl,-⟩ | ⟨b,c,rfl,-,-,-⟩
 ·cases hk
 ·obtain⟨cur,hc,-⟩:=YJ h;simp only[Value.ownBlock,Option.some.injEq] at hk;subst hk;unfold Bx at hc;rw[hc] at hX;cases hX
theorem Ri.ng (h:Ri w g B f m){n:ByteArray}{v:Value}(hf:f n=some v):v.ownBlock≠some g:=fun e=>row_ne (h.row hf).2 e h.bx (by decide)
theorem Ri.nB (h:Ri w g B f m){n:ByteArray}{v:Value}(hf:f n=some v):v.ownBlock≠some B:=fun e=>by
 obtain⟨es,c,h1⟩:=h.mp.map;exact Qc (h.row hf).2 e h1
theorem Yt {v:Value}{E:List Eo}(h:ZE w 0 v E)(hs:∀ k,v.ownBlock=some k->w'.heap[k]?=w.heap[k]?):ZE w' 0 v E:=by
 obtain⟨a,c,rfl,-,-⟩:=h.cs;exact SB h fun x hx=>hs _ (by rw[hx]; rfl)
theorem Ri.inn (h:Ri w g B f m):∀ k,y5 g B f k->k<w.heap.size:=fun k hk=>by
 rcases hk with rfl | rfl | ⟨n,v,h1,h2⟩
 ·exact h.bx.lt
 ·exact h.mp.lt
 ·exact((h.row h1).2.lt k h2).2
theorem Ri.same (h:Ri w g B f m)(hs:∀ k,y5 g B f k->w'.heap[k]?=w.heap[k]?):Ri w' g B f m:=
 ⟨(hs g (.inl rfl)).trans h.bx,h.mp.same (hs B (.inr (.inl rfl))),h.no,fun n hn=>by
  obtain⟨v,h1,h2⟩:=h.ye n hn;exact⟨v,h1,Yt h2 fun k hk=>hs k (.inr (.inr ⟨n,v,h1,hk⟩))⟩,h.ap⟩
theorem VK.inn {S:Nat->Prop}(h:VK w g S m):∀ k,S k->k<w.heap.size:=by
 obtain⟨B,f,h1,rfl⟩:=h;exact h1.inn
theorem VK.same {S:Nat->Prop}(h:VK w g S m)(hs:∀ k,S k->w'.heap[k]?=w.heap[k]?):VK w' g S m:=by
 obtain⟨B,f,h1,rfl⟩:=h;exact⟨B,f,h1.same hs,rfl⟩
theorem VK.below {S:Nat->Prop}(h:VK w g S m)(hb:Below w.heap.size w w'):VK w' g S m:=h.same fun k hk=>hb.block k (h.inn k hk)
theorem Ri.look (h:Ri w g B f m)(n:ByteArray):∃ v,JF (f n) false=v/\ZE w 0 v (Zy m n)/\(f n=some v∨v=.slice none 0 0):=by
 cases hf:f n with
 | some v=>exact⟨v,rfl,(h.row hf).2,.inl rfl⟩
 | none=>
  have h1:Zy m n=[]:=by
   by_cases h2:Zy m n=[]
   ·exact h2
   ·obtain⟨v,h3,-⟩:=h.ye n h2;rw[hf] at h3; cases h3
  exact⟨_,rfl,by rw[h1]; exact SE _ _ _ _,.inr rfl⟩
end
theorem wX {w:World}{g B:Nat}{f:ByteArray->Option Value}{m:List Rw}(h:Ri w g B f m)(n:ByteArray):Calls Tryz.prog 77 #[Z7 g 0,.string n] w fun e w'=>e=.returned (JF (f n) false)/\w=w':=by
 have hX:=h.bx;have Ux:=Z8 (h.mp.look n false);generalize JF (f n) false=v at *
 clear h;go_enter Tryz.func77,Tryz.ntmps77;go_upto_region 1 with fail;refine wl<|ZA (Z7 g 0) ZW<|wn ?_;simp only[pu];go_upto_region 3 with fail;refine wl<|YU (Z7 g 0) (Z7 g 0) (Z7 g 0)<|Zq rfl ⟨g,0,none⟩ (.map (some B)) (hX.ZL 0)<|ZN (.string n) <|
  YT (v) (Yy 157 (.tmp 10) (.tmp 11) false rfl (.map (some B)) (.string n) v (by kernel_rfl) (by kernel_rfl) Ux.out)<|ZN (v)<|wn ?_
 simp only[pu];clear hX Ux;go_wp2_with fail;go_ret;exact⟨rfl,rfl⟩
theorem kN {P:Program}{ops:Array Oper}{rest:List Oper}{o:Oper}{a:Act}{w:World}{Q:Exit->Act->World->Prop}(hg:o.guard=none)(hw:Region.wanted o (yielded ops a.tmps)=true)(hd:o.dst=none)(x y:Operand)(t u:TypeId)(ho:o.op=.call { callee:=.builtin .delete,args:=#[x,y],argTypes:=#[t,u] })(vx vy v:Value)(w2:World)(hx:a.eval x=vx)(hy:a.eval y=vy)(hr:(Builtin.delete_ #[t,u] o.type #[vx,vy]).run P w=.ok v w2)(k:wpList P ops Q rest a w2):wpList P ops Q (o::rest) a w:=by
 apply wpList_step;intro K hK;rw[if_pos hw,Oper.wp,sF x y t u ho vx vy v hx hy hr];refine hK _ _ ?_;rw[hd];exact k
theorem sJ {w:World}{g B:Nat}{f:ByteArray->Option Value}{ln:Int}(hX:Bx w g #[.map (some B),Z9 ln] 159)(hM:Mf w B f)(s:ByteArray)(hs:s.size<=1000000)(a:Option Addr)(k c:Nat)(hk:k=0):Calls Tryz.prog 89 #[Z7 g 0,.string s,.slice a k c] w fun e w'=>e=.returned (.tuple #[])/\Mf w' B (Ya f s (none))/\w.grownBy w' (some B):=by
 obtain⟨V,hd,hM2,-,hgr⟩:=hM.del s 0;subst hk;have HE:=Z8 (And.intro hM2 hgr);clear hM hM2 hgr;go_enter Tryz.func89,Tryz.ntmps89;go_upto_region 0 with fail;refine wl<|ZA (.slice a 0 c) (Z9 0)<|YF (X0 rfl 0 0 (decide_eq_true rfl))<|wn ?_;simp only[pu];go_upto_region 1 with fail;refine wl<|YU (Z7 g 0) (Z7 g 0) (Z7 g 0)<|Zq rfl ⟨g,0,none⟩ (.map (some B)) (hX.ZL 0)<|ZN (.string s) ?_;refine kN rfl (by kernel_rfl) rfl (.tmp 12) (.tmp 13) 157 9 rfl (.map (some B)) (.string s) (.tuple #[]) V (by kernel_rfl) (by kernel_rfl) hd ?_;apply wpList_nil;clear hd hX;go_wp2_with fail;first | exact end_none rfl rfl ⟨rfl,HE.out⟩ | exact bodyPost_ret (v:=.tuple #[]) (by kernel_rfl) rfl ⟨rfl,HE.out⟩ | exact bodyPost_ret (v:=.tuple #[]) (by simp[results]) rfl ⟨rfl,HE.out⟩
theorem yZ {w:World}{g B:Nat}{f:ByteArray->Option Value}{ln:Int}(hX:Bx w g #[.map (some B),Z9 ln] 159)(hM:Mf w B f)(s:ByteArray)(hs:s.size<=1000000)(a:Option Addr)(k c:Nat)(hk:k≠0):Calls Tryz.prog 89 #[Z7 g 0,.string s,.slice a k c] w fun e w'=>e=.returned (.tuple #[])/\Mf w' B (Ya f s (some (.slice a k c)))/\w.grownBy w' (some B):=by
 have Cc:Hid (∀ U,Below w.heap.size w U->∃ V,(Instr.mapUpdate 157 (.map (some B)) (.string s) (.slice a k c)).run Tryz.prog U=.ok () V/\Mf V B (Ya f s (some (.slice a k c)))/\w.grownBy V (some B)):=Z8 fun U hU=>by
  obtain⟨V,h1,h2,-,h3⟩:=(hM.same (hU.block B hM.lt)).put s (.slice a k c);exact⟨V,h1,h2,Vy (grown_below hU) h3⟩
 have hX2:Hid (∀ U,Below w.heap.size w U->Bx U g #[.map (some B),Z9 ln] 159):=Z8 fun U hU=>hX.below hX.lt hU;clear hM hX;go_enter Tryz.func89,Tryz.ntmps89;go_upto_region 0 with fail;refine wl<|ZA (.slice a k c) (Z9 k)<|YF (X0 rfl k 0 (decide_eq_false hk))<|wn ?_;simp only[pu];go_upto_region 2 with fail;refine ZO (C:=fun U=>Below w.heap.size w U) 7 (by kernel_rfl) (by kernel_rfl) ((Below.refl _ w).drew) ?_;simp only[List.take_succ_cons,List.take_zero,List.drop_succ_cons,List.drop_zero];refine gy (Z7 g 0)<|gy (Z7 g 0)<|gy (Z7 g 0)<|Zj rfl ⟨g,0,none⟩ (.map (some B)) (fun U hU=>(hX2.out U hU).ZL 0)<|gy (.string s) ?_;refine Zz (by kernel_rfl) (some 19) rfl 114 #[.string s] (.string s) (fun U hU=>by kernel_rfl) (fun U hU=>(yY s U (by omega)).mono fun e w' z=>⟨z.1,hU.trans (z.2.mono hU.size)⟩) ?_;refine gy (.slice a k c) ?_;simp only[pu];apply wpQuiet_nil;intro U hU;obtain⟨V,hup,hV⟩:=Cc.out U hU;have HE:=Z8 hV;refine Xe (by kernel_rfl) rfl V (Vu 157 (.tmp 17) (.tmp 19) (.tmp 20) rfl (.map (some B)) (.string s) (.slice a k c) (by kernel_rfl) (by kernel_rfl) (by kernel_rfl) hup) ?_;apply wpList_nil;clear hup hV hU Cc hX2;go_wp2_with fail;first | exact end_none rfl rfl ⟨rfl,HE.out⟩ | exact bodyPost_ret (v:=.tuple #[]) (by kernel_rfl) rfl ⟨rfl,HE.out⟩ | exact bodyPost_ret (v:=.tuple #[]) (by simp[results]) rfl ⟨rfl,HE.out⟩
def Qe (E:List Eo)(v:Value):Option Value:=if E=[] then none else some v
section
variable {w w' : World} {g B : Nat} {f : ByteArray -> Option Value} {m : List Rw}
theorem Ym {Q:Nat->Prop}{r:Option Nat}(h:w.grownBy w' r)(hQ:∀ j,r=some j->Q j):ZP 0 Q w w':=⟨⟨h.1,h.2,h.3,h.4,fun k hk=>absurd hk (Nat.not_lt_zero k)⟩,fun k hk hn=>h.5 k hk fun e=>hn (hQ k e.symm)⟩
theorem Qd {Q:Nat->Prop}(h:But g w w')(hQ:Q g):ZP 0 Q w w':=⟨h.1.mono (Nat.zero_le _),fun k hk hn=>h.2 k hk fun e=>hn (e ▸ hQ)⟩
theorem XF {Q:Nat->Prop}(h:Below w.heap.size w w'):ZP 0 Q w w':=ZP.of_below h (Nat.zero_le _)
theorem Q7 {Q S:Nat->Prop}{B0:Nat}(h:ZP 0 Q w w')(hQ:∀ j,Q j->S j)(hB:∀ j,S j->B0<=j)(hw:B0<=w.heap.size):ZP B0 S w w':=by
 obtain⟨⟨h1,h2,h3,h4,-⟩,h6⟩:=h;exact⟨⟨h1,h2,h3,h4,fun k hk=>h6 k (by omega) fun q=>by have:=hB k (hQ k q); omega⟩,fun k hk hn=>h6 k hk fun q=>hn (hQ k q)⟩
theorem Td {v:Value}{k:Nat}(h:v=.slice none 0 0):v.ownBlock≠some k:=fun e=>by rw[h] at e; cases e
theorem Ri.upd (h:Ri w g B f m){m2:List Rw}{n:ByteArray}{v v':Value}{W:World}(hlk:f n=some v∨v=.slice none 0 0)(hX:Bx W g #[.map (some B),Z9 m2.length] 159)(hM:Mf W B (Ya f n (Qe (Zy m2 n) v')))(hrow:ZE W 0 v' (Zy m2 n))(hoth:∀ n',n'≠n->Zy m2 n'=Zy m n')
  (hat:v'.ownBlock=v.ownBlock∨∃ k,w.heap.size<=k/\v'.ownBlock=some k) (hch:ZP 0 (fun j=>j=g∨j=B∨v.ownBlock=some j) w W) {S:Nat->Prop} (hS:S=y5 g B f) {B0:Nat} (hB:∀ k,S k->B0<=k) (hw:B0<=w.heap.size):Kq g B0 S m2 w W:=by
 subst hS;have hvS:∀ k,v.ownBlock=some k->y5 g B f k:=fun k hk=>hlk.elim (fun h1=>.inr (.inr ⟨n,v,h1,hk⟩)) fun h1=>absurd hk (Td h1);have fN:Ya f n (Qe (Zy m2 n) v') n=Qe (Zy m2 n) v':=if_pos rfl;have fO:∀ n',n'≠n->Ya f n (Qe (Zy m2 n) v') n'=f n':=fun n' hn=>if_neg hn;have fV:∀ u,Ya f n (Qe (Zy m2 n) v') n=some u->u=v':=fun u hu=>by
  rw[fN] at hu;unfold Qe at hu
  split at hu
  ·cases hu
  ·cases hu; rfl
 refine⟨y5 g B (Ya f n (Qe (Zy m2 n) v')),⟨B,_,⟨hX,hM,fun n' hn=>?_,fun n' hn=>?_,fun a b u u2 k ha hb hk hk2=>?_⟩,rfl⟩,fun k hk=>?_,Q7 hch (fun j hj=>?_) hB hw⟩
 ·by_cases e:n'=n
  ·subst e;rw[fN,hn]; rfl
  ·rw[fO n' e];exact h.no n' (by rw[<- hoth n' e]; exact hn)
 ·by_cases e:n'=n
  ·subst e;exact⟨v',by rw[fN]; exact if_neg hn,hrow⟩
  ·rw[hoth n' e] at hn ⊢;obtain⟨u,hu,hru⟩:=h.ye n' hn;refine⟨u,by rw[fO n' e]; exact hu,Yt hru fun k hk=>hch.2 k (hru.lt k hk).2 fun q=>?_⟩;rcases q with rfl | rfl | q
   ·exact h.ng hu hk
   ·exact h.nB hu hk
   ·exact hlk.elim (fun h1=>e (h.ap _ _ _ _ _ hu h1 hk q)) fun h1=>Td h1 q
 ·have key:∀ c x,c≠n->f c=some x->x.ownBlock=some k->v'.ownBlock=some k->False:=fun c x hc hx h1 h2=>by
   rcases hat with h3 | ⟨j,h3,h4⟩
   ·rw[h2] at h3;exact hlk.elim (fun h5=>hc (h.ap _ _ _ _ _ hx h5 h1 h3.symm)) fun h5=>Td h5 h3.symm
   ·rw[h2] at h4;cases h4;have:=((h.row hx).2.lt k h1).2;omega
  by_cases ea:a=n <;> by_cases eb:b=n
  ·rw[ea,eb]
  ·subst ea;obtain rfl:=fV u ha;rw[fO b eb] at hb;exact(key b u2 eb hb hk2 hk).elim
  ·subst eb;obtain rfl:=fV u2 hb;rw[fO a ea] at ha;exact(key a u ea ha hk hk2).elim
  ·rw[fO a ea] at ha;rw[fO b eb] at hb;exact h.ap _ _ _ _ _ ha hb hk hk2
 ·rcases hk with rfl | rfl | ⟨n',u,h1,h2⟩
  ·exact .inl (.inl rfl)
  ·exact .inl (.inr (.inl rfl))
  ·by_cases e:n'=n
   ·subst e;obtain rfl:=fV u h1;rcases hat with h3 | ⟨j,h3,h4⟩
    ·rw[h2] at h3;exact .inl (hvS k h3.symm)
    ·rw[h2] at h4;cases h4;exact .inr h3
   ·rw[fO n' e] at h1;exact .inl (.inr (.inr ⟨n',u,h1,h2⟩))
 ·rcases hj with rfl | rfl | hj
  ·exact .inl rfl
  ·exact .inr (.inl rfl)
  ·exact hvS j hj
theorem kR {ln:Int}(hX:Bx w g #[.map (some B),Z9 ln] 159)(hM:Mf w B f)(s:ByteArray)(hs:s.size<=1000000){v:Value}{E:List Eo}(hr:ZE w 0 v E):Calls Tryz.prog 89 #[Z7 g 0,.string s,v] w fun e w'=>e=.returned (.tuple #[])/\Mf w' B (Ya f s (Qe E v))/\w.grownBy w' (some B):=by
 obtain⟨a,c,rfl,-,-⟩:=hr.cs;by_cases he:E=[]
 ·subst he;exact sJ hX hM s hs a 0 c rfl
 ·have:Qe E (.slice a E.length c)=some (.slice a E.length c):=if_neg he;rw[this];exact yZ hX hM s hs a E.length c (by rw[Ne,List.length_eq_zero_iff]; exact he)
end
theorem Uy (w:World):Calls Tryz.prog 56 #[] w fun e w'=>∃ g S,e=.returned (Z7 g 0)/\VK w' g S []/\(∀ k,S k->w.heap.size<=k)/\Below w.heap.size w w':=by
 obtain⟨W1,hW1⟩:=ZR (w.alloc (.map #[] 0));obtain⟨W2,hW2⟩:=ZR (W1.alloc (.cells #[.map (some w.heap.size),Z9 0] 159));have hb1:Below w.heap.size w W1:=by rw[<- hW1]; exact(Below.refl _ w).alloc (Nat.le_refl _) _
 have hb2:Below W1.heap.size W1 W2:=by rw[<- hW2]; exact(Below.refl _ W1).alloc (Nat.le_refl _) _
 have hM1:Mf W1 w.heap.size (fun _=>none):=by rw[<- hW1]; exact Mf.new w
 have hM2:Mf W2 w.heap.size (fun _=>none):=hM1.same (hb2.block _ hM1.lt);have hX:Bx W2 W1.heap.size #[.map (some w.heap.size),Z9 0] 159:=by rw[<- hW2]; exact heap_alloc_last W1 _
 have hrep:VK W2 W1.heap.size (y5 W1.heap.size w.heap.size (fun _=>none)) []:=⟨_,_,⟨hX,hM2,fun _ _=>rfl,fun n h=>absurd rfl h,fun n n' v v' k h=>by cases h⟩,rfl⟩;have hsub:∀ k,y5 W1.heap.size w.heap.size (fun _=>none) k->w.heap.size<=k:=fun k hk=>by
  rcases hk with rfl | rfl | ⟨n,v,h,-⟩
  ·exact hb1.size
  ·exact Nat.le_refl _
  ·cases h
 have HE:=Z8 (And.intro hrep (And.intro hsub (hb1.trans (hb2.mono hb1.size))));clear hrep hsub;clear hb1 hb2 hM1 hM2 hX;go_enter Tryz.func56,Tryz.ntmps56;go_upto_region 1 with fail;apply wp_region_lit;refine VR (by kernel_rfl) (some 1) rfl (.map (some w.heap.size)) W1 (by rw[<- hW1]; exact Vw 157 rfl) ?_;refine ZN (.agg #[.map (some w.heap.size),Z9 0]) ?_;refine YP rfl (some 3) rfl (Z7 W1.heap.size 0) W2 (by rw[<- hW2]; kernel_rfl) ?_;refine ZN (Z7 W1.heap.size 0)<|wn ?_;simp only[pu];go_wp2_with fail;go_ret;exact⟨W1.heap.size,rfl,_,HE.out⟩
theorem Nr {w:World}{g B:Nat}{f:ByteArray->Option Value}{m:List Rw}(h:Ri w g B f m)(hm:FI m)(hl:m.length<=1000)(k:Ky)(id:Int)(hh:XP m k=true):Calls Tryz.prog 61 #[Z7 g 0,.string k.1,ZY k.2,Z9 id] w fun e w'=>e=.returned ZW/\Below w.heap.size w w':=by
 have hX:=h.bx;have Ux:=Z8 (h.mp.look k.1 false);obtain⟨v,hv,hrow,hor⟩:=h.look k.1;rw[hv] at Ux;have hEl:(Zy m k.1).length<=1000:=Nat.le_trans (Rk m k.1) hl;have CP:=Qg hrow (TN hm k.1) (by omega) k.2;rw[NT k,hh] at CP;generalize Zw (Zy m k.1) k.2=ct at *
 clear h hm hl hh hv hrow hor hEl;go_enter Tryz.func61,Tryz.ntmps61;go_upto_region 1 with fail;refine wl<|ZA (Z7 g 0) ZW<|wn ?_;simp only[pu];go_upto_region 3 with fail;refine wl<|YU (Z7 g 0) (Z7 g 0) (Z7 g 0)<|Zq rfl ⟨g,0,none⟩ (.map (some B)) (hX.ZL 0)<|ZN (.string k.1) <|
  YT (v) (Yy 157 (.tmp 17) (.tmp 18) false rfl (.map (some B)) (.string k.1) v (by kernel_rfl) (by kernel_rfl) Ux.out)<|ZN (v)<|wn ?_
 simp only[pu];clear hX Ux;go_upto_region 4 with fail;refine wl<|ZA (v) (ZY k.2)<|Yd (.tuple #[Z9 ct,ZT]) (fun w'=>Below w.heap.size w w') (CP) (fun W1 hW1=>?_);have HB:=Z8 hW1;refine qF (.tuple #[Z9 ct,ZT]) (Z9 ct) ZT (Z9 ct) ZT<|wn ?_;simp only[pu];clear CP hW1;go_upto_region 5 with fail;refine wl<|ZN ZT<|wn ?_;simp only[pu];go_upto_region 6 with fail;refine wl<|ZN ZW<|wn ?_;simp only[pu];go_wp2_with fail;go_ret;exact⟨rfl,HB.out⟩
theorem X7 {w:World}{g B:Nat}{f:ByteArray->Option Value}{m:List Rw}(h:Ri w g B f m)(hm:FI m)(hl:m.length<=1000)(k:Ky)(hk:k.1.size<=1000000)(id:Int)(hh:XP m k=false){S:Nat->Prop}(hS:S=y5 g B f){B0:Nat}(hB:∀ j,S j->B0<=j)(hw:B0<=w.heap.size):Calls Tryz.prog 61 #[Z7 g 0,.string k.1,ZY k.2,Z9 id] w fun e w'=>e=.returned ZT/\Kq g B0 S (Va m k id) w w':=by
 have hX:=h.bx;have Ux:=Z8 (h.mp.look k.1 false);obtain⟨v,hv,hrow,hor⟩:=h.look k.1;rw[hv] at Ux;have hEl:(Zy m k.1).length<=1000:=Nat.le_trans (Rk m k.1) hl;have CP:=Qg hrow (TN hm k.1) (by omega) k.2;rw[NT k,hh] at CP;have DK:=UQ hm hh id;have hvg:v.ownBlock≠some g:=fun e=>hor.elim (fun h1=>h.ng h1 e) fun h1=>Td h1 e;have hvB:v.ownBlock≠some B:=fun e=>hor.elim (fun h1=>h.nB h1 e) fun h1=>Td h1 e;have HVB:=Z8 hvB;have HVG:=Z8 hvg;have hct:=cnt_le (Zy m k.1) k.2;have Cc:Hid (∀ W v',Bx W g #[.map (some B),Z9 (m.length+1:Nat)] 159->Mf W B (Ya f k.1 (Qe (Zy (Va m k id) k.1) v'))->ZE W 0 v' (Zy (Va m k id) k.1)->(v'.ownBlock=v.ownBlock∨∃ j,w.heap.size<=j/\v'.ownBlock=some j)->ZP 0 (fun j=>j=g∨j=B∨v.ownBlock=some j) w W->Kq g B0 S (Va m k id) w W):=Z8 fun W v' h1 h2 h3 h4 h5=>h.upd hor (by rw[DK.len]; exact h1) h2 h3 DK.oth h4 h5 hS hB hw;have hown:=DK.own;generalize Zw (Zy m k.1) k.2=ct at *
 obtain⟨E,hE⟩:=ZR (Zy m k.1);obtain⟨E2,hE2⟩:=ZR (Zy (Va m k id) k.1);rw[hE,hE2] at hown;rw[hE] at hrow hEl hct;rw[hE2] at Cc;generalize Va m k id=m2 at *
 have HM:=Z8 h.mp;have HOW:=Z8 hown.symm;have xH:Hid (m.length<=1000):=Z8 hl;obtain⟨ln,hln⟩:=ZR m.length;rw[hln] at hX Cc xH;clear h hm hl hh hv hor DK hvg hvB hE hE2 hown hln hB hw hS;go_enter Tryz.func61,Tryz.ntmps61;go_upto_region 1 with fail;refine wl<|ZA (Z7 g 0) ZW<|wn ?_;simp only[pu];go_upto_region 3 with fail;refine wl<|YU (Z7 g 0) (Z7 g 0) (Z7 g 0)<|Zq rfl ⟨g,0,none⟩ (.map (some B)) (hX.ZL 0)<|ZN (.string k.1) <|
  YT (v) (Yy 157 (.tmp 17) (.tmp 18) false rfl (.map (some B)) (.string k.1) v (by kernel_rfl) (by kernel_rfl) Ux.out)<|ZN (v)<|wn ?_
 simp only[pu];clear Ux;go_upto_region 4 with fail;refine wl<|ZA (v) (ZY k.2)<|Yd (.tuple #[Z9 ct,ZW]) (fun w'=>Below w.heap.size w w') (CP) (fun W1 hW1=>?_);refine qF (.tuple #[Z9 ct,ZW]) (Z9 ct) ZW (Z9 ct) ZW<|wn ?_;simp only[pu];clear CP;go_upto_region 5 with fail;refine wl<|ZN ZW<|wn ?_;simp only[pu];have hX1:=hX.below hX.lt hW1;have hM1:=HM.out.same (hW1.block B HM.out.lt);have hr1:ZE W1 0 v E:=hrow.below hW1;have hne:=hr1.ne;obtain⟨W2,hW2⟩:=ZR (W1.alloc (.cells (ZQ (k.2,id)) 168));have hb2:Below W1.heap.size W1 W2:=by rw[<- hW2]; exact(Below.refl _ W1).alloc (Nat.le_refl _) _
 have hq:Bx W2 W1.heap.size (ZQ (k.2,id)) 168:=by rw[<- hW2]; exact heap_alloc_last W1 _
 have hbd:(Instr.buildSlice 132 1 #[(0,.agg (ZQ (k.2,id)))]).run Tryz.prog W1=.ok (.slice (some ⟨W1.heap.size,0,none⟩) 1 1) W2:=by rw[<- hW2]; exact Qu (k.2,id) W1
 have CI:=DJ (hr1.below hb2) hct (by omega) (k.2,id) hq hne;rw[HOW.out] at CI;have hX2:=hX1.below hX1.lt hb2;have hM2:=hM1.same (hb2.block B hM1.lt);have HC2:Hid (ZP 0 (fun j=>j=g∨j=B∨v.ownBlock=some j) w W2):=Z8 ((XF hW1).trans' (XF hb2));have HSZ:Hid (w.heap.size<=W2.heap.size):=Z8 (Nat.le_trans hW1.size hb2.size);obtain⟨gq,hgq⟩:=ZR W1.heap.size;rw[hgq] at hbd CI;clear hX hrow hr1 hne hb2 hq hX1 hM1 hW1 hW2 HM HOW hgq hEl hct;go_upto_region 7 with fail;refine wl<|AP (Z7 g 0) (.string k.1) (v) (Z9 ct) (ZY k.2) (Z9 id)<|ZN (.agg #[ZY k.2,Z9 id]) ?_;refine YM (by kernel_rfl) (some 34) rfl 132 1 #[(0,.tmp 33)] rfl #[(0,.agg (ZQ (k.2,id)))] (by kernel_rfl) (.slice (some ⟨gq,0,none⟩) 1 1) _ hbd ?_;clear hbd;refine Vx (fun u w'=>ZE w' 0 u E2/\W2.grownBy w' v.ownBlock/\(u.ownBlock=v.ownBlock∨∃ j,W2.heap.size<=j/\u.ownBlock=some j)) CI (fun v' W3 hq3=>?_);obtain⟨hr3,hg3,kQ⟩:=hq3;have Ze:Bx W3 g #[.map (some B),Z9 ln] 159:=(hg3.5 g hX2.lt (Ne.symm HVG.out)).trans hX2;have Ci:=hM2.same (hg3.5 B hM2.lt (Ne.symm HVB.out));have kP:=Z8 (HC2.out.trans' (Ym (Q:=fun j=>j=g∨j=B∨v.ownBlock=some j) hg3 fun j hj=>.inr (.inr hj)));have HAT:Hid (v'.ownBlock=v.ownBlock∨∃ j,w.heap.size<=j/\v'.ownBlock=some j):=Z8 (kQ.imp (fun h=>h) fun⟨j,h1,h2⟩=>⟨j,Nat.le_trans HSZ.out h1,h2⟩);have CJ:Hid (v'.ownBlock≠some B/\v'.ownBlock≠some g):=Z8 ⟨fun e=>by obtain⟨es,c,h1⟩:=Ci.map; exact Qc hr3 e h1,fun e=>row_ne hr3 e Ze (by decide)⟩;have CU:=kR Ze Ci k.1 hk hr3;have sH:=Z8 hr3;clear hg3 kQ hr3 hX2 hM2 HC2 CI HSZ;refine Yd (.tuple #[]) (fun w'=>Mf w' B (Ya f k.1 (Qe E2 v'))/\W3.grownBy w' (some B)) CU (fun W4 hq4=>?_);obtain⟨gY,hg4⟩:=hq4;have VH:Bx W4 g #[.map (some B),Z9 ln] 159:=(hg4.5 g Ze.lt (by intro e; cases e; obtain⟨es,c,h1⟩:=Ci.map; unfold Bx at Ze; rw[h1] at Ze; cases Ze)).trans Ze;have hr4:ZE W4 0 v' E2:=Yt sH.out fun j hj=>hg4.5 j (sH.out.lt j hj).2 fun e=>CJ.out.1 (by rw[hj,e]);have HC4:=Z8 (kP.out.trans' (Ym (Q:=fun j=>j=g∨j=B∨v.ownBlock=some j) hg4 fun j hj=>.inr (.inl (by cases hj; rfl))));obtain⟨W5,hst5,Ou,JO⟩:=Xm (i:=1) (v:=Z9 (ln+1:Nat)) (ty:=3) #[.map (some B),Z9 (ln+1:Nat)] VH (by simp) rfl rfl (by kernel_rfl);have hr5:ZE W5 0 v' E2:=Yt hr4 fun j hj=>JO.2 j (hr4.lt j hj).2 fun e=>CJ.out.2 (by rw[hj,e]);have hM5:=gY.same (JO.2 B gY.lt fun e=>by obtain⟨es,c,h1⟩:=gY.map; unfold Bx at VH; rw[<- e,h1] at VH; cases VH);have HC5:=HC4.out.trans' (Qd (Q:=fun j=>j=g∨j=B∨v.ownBlock=some j) JO (.inl rfl));have HE:=Z8 (Cc.out W5 v' Ou hM5 hr5 HAT.out HC5);clear hg4 hr4 HC4 Ou JO hr5 hM5 HC5 gY Ze Ci kP CJ HAT CU sH Cc;simp only[pu];apply wpList_nil;go_upto_region 8 with fail;refine wl<|YU (Z7 g 0) (Z7 g 0) (Z7 g 1)<|Zq rfl ⟨g,1,none⟩ (Z9 ln) (VH.ZL 1)<|YT (Z9 (ln+1:Nat)) (add_one rfl ln (by have:=xH.out; omega) (by kernel_rfl) _) <|
  ZA (Z7 g 0) (Z7 g 1)<|WC rfl (hst5)<|wn ?_
 simp only[pu];clear hst5 VH HVB HVG xH;go_upto_region 9 with fail;refine wl<|ZN ZT<|wn ?_;simp only[pu];go_wp2_with fail;go_ret;exact⟨rfl,HE.out⟩
theorem VK.upd {w w':World}{g B0:Nat}{S:Nat->Prop}{m:List Rw}(h:VK w g S m)(hb:Below w.heap.size w w')(hw:B0<=w.heap.size):Kq g B0 S m w w':=⟨S,h.below hb,fun k hk=>.inl hk,ZP.of_below hb hw⟩
theorem MK {w:World}{g:Nat}{S:Nat->Prop}{m:List Rw}(h:VK w g S m)(hm:FI m)(hl:m.length<=1000)(k:Ky)(hk:k.1.size<=1000000)(id:Int){B0:Nat}(hB:∀ j,S j->B0<=j)(hw:B0<=w.heap.size):Calls Tryz.prog 61 #[Z7 g 0,.string k.1,ZY k.2,Z9 id] w fun e w'=>e=.returned (.bool (!XP m k))/\Kq g B0 S (Va m k id) w w':=by
 have h0:=h;obtain⟨B,f,h1,hS⟩:=h;cases hh:XP m k with
 | true=>exact(Nr h1 hm hl k id hh).mono fun e w' z=>⟨z.1,by rw[Qw hh]; exact h0.upd z.2 hw⟩
 | false=>exact X7 h1 hm hl k hk id hh hS hB hw
end Go.Proofs.YtnelmomagdcmnaaGreat.Sd
