/-
  Texts joined.
-/
import Derived.Test.YtnelmomagdcmnaaGreatD9
import Derived.Lib.Small
set_option maxRecDepth 100000
set_option maxHeartbeats 8000000
set_option linter.unusedSimpArgs false
set_option linter.unusedVariables false
namespace Go.Proofs.YtnelmomagdcmnaaGreat.Hp
attribute [local irreducible] wpList wpQuiet
open Go.RowKit
section
variable {P : Program} {o : Oper} {a : Act} {w w2 : World}
theorem Yy (ty:TypeId)(x y:Operand)(b:Bool)(ho:o.op=.lookup ty x y b)(vx vy v:Value)(hx:a.eval x=vx)(hy:a.eval y=vy)(hr:(Instr.lookup ty vx vy b).run P w=.ok v w):(execOp a.eval o).run P w=.ok (.value v) w:=by
 unfold execOp;simp only[ho,hx,hy,Sem.run_bind,hr];rfl
theorem Vu (ty:TypeId)(x y z:Operand)(ho:o.op=.mapUpdate ty x y z)(vx vy vz:Value)(hx:a.eval x=vx)(hy:a.eval y=vy)(hz:a.eval z=vz)(hr:(Instr.mapUpdate ty vx vy vz).run P w=.ok () w2):(execOp a.eval o).run P w=.ok .skip w2:=by
 unfold execOp;simp only[ho,hx,hy,hz,Sem.run_bind,hr];rfl
theorem Vw (ty:TypeId)(ho:o.op=.makeMap ty none):(execOp a.eval o).run P w=.ok (.value (.map (some w.heap.size))) (w.alloc (.map #[] 0)):=by
 unfold execOp;simp only[ho];rfl
end
theorem Xe {P:Program}{ops:Array Oper}{rest:List Oper}{o:Oper}{a:Act}{w:World}{Q:Exit->Act->World->Prop}(hw:Region.wanted o (yielded ops a.tmps)=true)(hd:o.dst=none)(w2:World)(hr:(execOp a.eval o).run P w=.ok .skip w2)(k:wpList P ops Q rest a w2):wpList P ops Q (o::rest) a w:=by
 apply wpList_step;intro K hK;rw[if_pos hw,Oper.wp,hr];refine hK _ _ ?_;rw[hd];exact k
theorem Yl {α β:Type}(f:α->β)(g:α->α)(g':β->β)(h:∀ x,f (g x)=g' (f x)):∀ (l:List α) (i:Nat),(l.modify i g).map f=(l.map f).modify i g'
 | [],i=>by cases i <;> rfl
 | x::r,0=>by simp[List.modify_cons,h]
 | x::r,i+1=>by simp[List.modify_cons,Yl f g g' h r i]
theorem WJ {α:Type}(l:List α)(i:Nat)(x:α)(g:α->α)(h:l[i]?=some x):l.modify i g=l.set i (g x):=by
 apply List.ext_getElem?;intro j;rw[List.getElem?_modify,List.getElem?_set];by_cases hj:i=j
 ·subst hj;obtain⟨hl,hv⟩:=List.getElem?_eq_some_iff.1 h;simp[hl,hv]
 ·simp[hj]
def Mi (w:World)(B:Nat)(L:List (Int×Int)):Prop:=
 ∃ es clock,w.heap[B]?=some (.map es clock)/\es.toList.map (fun e=>(e.key,e.val))=L.map (fun x=>(Value.int .i64 x.1,Value.int .i64 x.2))
def Zx (x:Int):List (Int×Int)->Nat->Option (Nat×Int)
 | [],_=>none
 | p::r,i=>if p.1=x then some (i,p.2) else Zx x r (i+1)
theorem Zl {x:Int}:∀ {L:List (Int×Int)} {i j:Nat} {v:Int},Zx x L i=some (j,v)->∃ k,j=i+k/\k<L.length/\L[k]?=some (x,v)
 | [],i,j,v,h=>by cases h
 | p::r,i,j,v,h=>by
  unfold Zx at h;by_cases hp:p.1=x
  ·rw[if_pos hp] at h;simp only[Option.some.injEq,Prod.mk.injEq] at h;exact⟨0,by omega,by simp,by simp[<- hp,<- h.2]⟩
  ·rw[if_neg hp] at h;obtain⟨k,h1,h2,h3⟩:=Zl h;exact⟨k+1,by omega,by simpa using h2,by simpa using h3⟩
theorem Za {x:Int}:∀ {L:List (Int×Int)} {i:Nat},Zx x L i=none↔∀ p∈L,p.1≠x
 | [],i=>by simp[Zx]
 | p::r,i=>by
  unfold Zx;by_cases hp:p.1=x
  ·simp[hp]
  ·rw[if_neg hp,Za];simp[hp]
def Wi (L:List (Int×Int))(x:Int):Option Int:=(Zx x L 0).map (·.2)
theorem XU (x:Int):∀ (L:List (Int×Int)) (i j:Nat),(Zx x L i).map (·.2)=(Zx x L j).map (·.2)
 | [],i,j=>rfl
 | p::r,i,j=>by
  unfold Zx
  split
  ·rfl
  ·exact XU x r _ _
theorem ZG (p:Int×Int)(r:List (Int×Int))(x:Int):Wi (p::r) x=if p.1=x then some p.2 else Wi r x:=by
 unfold Wi;rw[Zx]
 split
 ·rfl
 ·exact XU x r _ _
theorem VZ (x:Int)(p:Int×Int):∀ (L:List (Int×Int)),(∀ q∈L,q.1≠p.1)->Wi (L++[p]) x=if x=p.1 then some p.2 else Wi L x
 | [],_=>by
  rw[List.nil_append,ZG];by_cases h:p.1=x
  ·rw[if_pos h,if_pos h.symm]
  ·rw[if_neg h,if_neg (fun e=>h e.symm)]
 | q::r,hq=>by
  have h1:=hq q (by simp);rw[List.cons_append,ZG,VZ x p r (fun z hz=>hq z (by simp[hz])),ZG];by_cases h:q.1=x
  ·rw[if_pos h,if_neg (fun e=>h1 (h.trans e)),if_pos h]
  ·rw[if_neg h,if_neg h]
theorem VY (x k v u:Int):∀ (L:List (Int×Int)) (j:Nat),L[j]?=some (k,u)->(L.map (·.1)).Nodup->Wi (L.set j (k,v)) x=if x=k then some v else Wi L x
 | [],j,h,_=>by simp at h
 | p::r,0,h,hn=>by
  simp only[List.getElem?_cons_zero,Option.some.injEq] at h;subst h;rw[List.set_cons_zero,ZG,ZG];by_cases h:k=x
  ·rw[if_pos h,if_pos h.symm]
  ·rw[if_neg h,if_neg (fun e=>h e.symm),if_neg h]
 | p::r,j+1,h,hn=>by
  rw[List.getElem?_cons_succ] at h;rw[List.map_cons,List.nodup_cons] at hn;have hpk:p.1≠k:=fun e=>hn.1 (by rw[e]; exact List.mem_map.2 ⟨(k,u),List.mem_of_getElem? h,rfl⟩);rw[List.set_cons_succ,ZG,VY x k v u r j h hn.2,ZG];by_cases h1:p.1=x
  ·rw[if_pos h1,if_neg (fun e=>hpk (h1.trans e)),if_pos h1]
  ·rw[if_neg h1,if_neg h1]
theorem Xq {L:List (Int×Int)}{x:Int}(h:∀ p∈L,p.1≠x):Wi L x=none:=by
 unfold Wi;rw[Za.2 h];rfl
theorem VX (x k u:Int):∀ (L:List (Int×Int)) (j:Nat),L[j]?=some (k,u)->(L.map (·.1)).Nodup->Wi (L.eraseIdx j) x=if x=k then none else Wi L x
 | [],j,h,_=>by simp at h
 | p::r,0,h,hn=>by
  simp only[List.getElem?_cons_zero,Option.some.injEq] at h;subst h;rw[List.map_cons,List.nodup_cons] at hn;rw[List.eraseIdx_cons_zero,ZG];by_cases h:k=x
  ·rw[if_pos h.symm];exact Xq fun q hq e=>hn.1 (List.mem_map.2 ⟨q,hq,e.trans h.symm⟩)
  ·rw[if_neg (fun e=>h e.symm),if_neg h]
 | p::r,j+1,h,hn=>by
  rw[List.getElem?_cons_succ] at h;rw[List.map_cons,List.nodup_cons] at hn;have hpk:p.1≠k:=fun e=>hn.1 (by rw[e]; exact List.mem_map.2 ⟨(k,u),List.mem_of_getElem? h,rfl⟩);rw[List.eraseIdx_cons_succ,ZG,VX x k u r j h hn.2,ZG];by_cases h1:p.1=x
  ·rw[if_pos h1,if_neg (fun e=>hpk (h1.trans e)),if_pos h1]
  ·rw[if_neg h1,if_neg h1]
theorem Zt (w:World)(b:Bool)(x:Int):(Instr.checkKey b 10000 3 (Z9 x)).run Tryz.prog w=.ok () w:=by
 rw[show(10000:Nat)=9999+1 from rfl,Instr.checkKey];simp[run_underlying Tryz.underlying3]
theorem Xp (x:Int):∀ (es:List MapEntry) (L:List (Int×Int)) (i:Nat),es.map (fun e=>(e.key,e.val))=L.map (fun x=>(Value.int .i64 x.1,Value.int .i64 x.2)) ->
  Instr.findNow (TypeDesc.int .i64) (Z9 x) es i=some ((Zx x L i).map fun p=>(p.1,Value.int .i64 p.2))
 | [],[],i,_=>by simp[Instr.findNow,Zx]
 | [],_::_,i,h=>by simp at h
 | _::_,[],i,h=>by simp at h
 | e::es,p::L,i,h=>by
  simp only[List.map_cons,List.cons.injEq,Prod.mk.injEq] at h;obtain⟨⟨h1,h2⟩,h3⟩:=h;have ih:=Xp x es L (i+1) h3;unfold Zx;rw[Instr.findNow,h1];simp only[Instr.sameNow];by_cases hx:p.1=x
  ·have:(x == p.1)=true:=(by simp[hx]);simp[this,hx,h2]
  ·have:(x == p.1)=false:=(by simpa using fun h=>hx h.symm);simp[this,hx,ih]
theorem YH (w:World)(x:Int)(es:List MapEntry)(L:List (Int×Int))(h:es.map (fun e=>(e.key,e.val))=L.map (fun x=>(Value.int .i64 x.1,Value.int .i64 x.2))) :
  (Instr.findKey 3 (Z9 x) es).run Tryz.prog w=.ok ((Zx x L 0).map fun p=>(p.1,Value.int .i64 p.2)) w:=by
 simp[Instr.findKey,run_underlying Tryz.underlying3,Xp x es L 0 h]
def JF (o:Option Int)(b:Bool):Value:=
 match o with
 | some v=>if b then .tuple #[Z9 v,ZT] else Z9 v
 | none=>if b then .tuple #[Z9 0,ZW] else Z9 0
theorem Ti {w:World}{B:Nat}{L:List (Int×Int)}(h:Mi w B L)(x:Int)(b:Bool):(Instr.lookup 126 (.map (some B)) (Z9 x) b).run Tryz.prog w=.ok (JF (Wi L x) b) w:=by
 obtain⟨es,c,hb,he⟩:=h;have hu:(Go.underlying 126).run Tryz.prog w=.ok (.map 3 3) w:=run_underlying (by kernel_rfl) w;have hz:(zeroValue 3).run Tryz.prog w=.ok (Z9 0) w:=by kernel_rfl
 have hr:=YH w x es.toList L he;unfold JF Wi;cases hf:Zx x L 0 with
 | none=>
  rw[hf] at hr;cases b <;> simp[Instr.lookup,hu,MapKept.run_getObj_map hb,Zt w _ x,hr,hz,Result.andThen]
 | some p=>
  rw[hf] at hr;cases b <;> simp[Instr.lookup,hu,MapKept.run_getObj_map hb,Zt w _ x,hr,hz,Result.andThen]
theorem Qj {w:World}{B:Nat}{L:List (Int×Int)}(h:Mi w B L)(x v:Int)(hn:Zx x L 0=none) :
  ∃ w',(Instr.mapUpdate 126 (.map (some B)) (Z9 x) (Z9 v)).run Tryz.prog w=.ok () w'/\Mi w' B (L++[(x,v)])/\w'.heap.size=w.heap.size/\w.grownBy w' (some B):=by
 obtain⟨es,c,hb,he⟩:=h;have hu:(Go.underlying 126).run Tryz.prog w=.ok (.map 3 3) w:=run_underlying (by kernel_rfl) w;have hr:=YH w x es.toList L he;rw[hn] at hr;have hlt:B<w.heap.size:=(Array.getElem?_eq_some_iff.1 hb).1;refine⟨{ w with heap:=w.heap.setIfInBounds B (.map (es.push { key:=Z9 x,val:=Z9 v,born:=c }) (c+1)) },
  by simp[Instr.mapUpdate,hu,MapKept.run_getObj_map hb,Zt w _ x,hr,MapKept.run_setObj_map _ hb,Result.andThen],⟨_,_,by simp[hlt]; exact⟨rfl,rfl⟩,by simp[he]⟩,by simp,rfl,rfl,rfl,by simp,fun i _ hi=>?_⟩
 have hne:B≠i:=fun e=>hi (by rw[e]);simp[Array.getElem?_setIfInBounds_ne hne]
theorem Qi {w:World}{B:Nat}{L:List (Int×Int)}(h:Mi w B L)(x v u:Int)(j:Nat)(hn:Zx x L 0=some (j,u)) :
  ∃ w',(Instr.mapUpdate 126 (.map (some B)) (Z9 x) (Z9 v)).run Tryz.prog w=.ok () w'/\Mi w' B (L.set j (x,v))/\w'.heap.size=w.heap.size/\w.grownBy w' (some B):=by
 obtain⟨es,c,hb,he⟩:=h;have hu:(Go.underlying 126).run Tryz.prog w=.ok (.map 3 3) w:=run_underlying (by kernel_rfl) w;have hr:=YH w x es.toList L he;rw[hn] at hr;have hlt:B<w.heap.size:=(Array.getElem?_eq_some_iff.1 hb).1;obtain⟨k,hj,hkl,hg⟩:=Zl hn;obtain rfl:j=k:=by omega
 have hlen:es.size=L.length:=by
  have:=congrArg List.length he;simpa using this
 have hes:j<es.size:=by omega
 have hkey:es[j].key=Z9 x:=by
  have h1:=congrArg (fun l=>l[j]?) he;simp only[List.getElem?_map,hg,Array.getElem?_toList,Array.getElem?_eq_getElem hes,Option.map_some,Option.some.injEq,Prod.mk.injEq] at h1;exact h1.1
 have hsb:Instr.sameBits 10000 (Z9 x) (Z9 x)=true:=by
  rw[show(10000:Nat)=9999+1 from rfl];simp[Instr.sameBits]
 have hst:(Instr.keyThatStays (((es[j]?).map (·.key)).getD (Z9 x)) (Z9 x)).run Tryz.prog w=.ok (Z9 x) w:=by
  simp only[Array.getElem?_eq_getElem hes,Option.map_some,Option.getD_some,hkey,Instr.keyThatStays,hsb,if_true];rfl
 refine⟨{ w with heap:=w.heap.setIfInBounds B (.map (es.modify j fun e=>{ e with key:=Z9 x,val:=Z9 v }) c) },
  by simp only[Instr.mapUpdate,Sem.run_bind,hu,MapKept.run_getObj_map hb,Zt w _ x,hr,Option.map_some,hst,MapKept.run_setObj_map _ hb,Result.andThen],⟨_,_,by simp[hlt]; exact⟨rfl,rfl⟩,?_⟩,by simp,rfl,rfl,rfl,by simp,fun i _ hi=>?_⟩
 ·rw[Array.toList_modify,Yl (fun e:MapEntry=>(e.key,e.val)) _ (fun _=>(Value.int .i64 x,Value.int .i64 v)) (fun _=>rfl),he,
   WJ _ j (Value.int .i64 x,Value.int .i64 u) _ (by simp[hg]),List.map_set]
 ·have hne:B≠i:=fun e=>hi (by rw[e]);simp[Array.getElem?_setIfInBounds_ne hne]
theorem Zg {α β:Type}(f:α->β):∀ (l:List α) (i:Nat),(l.eraseIdx i).map f=(l.map f).eraseIdx i
 | [],i=>by simp
 | x::r,0=>by simp
 | x::r,i+1=>by simp[Zg f r i]
theorem Qh {w:World}{B:Nat}{L:List (Int×Int)}(h:Mi w B L)(x:Int)(ty:TypeId) :
  ∃ w',(Builtin.delete_ #[126,3] ty #[.map (some B),Z9 x]).run Tryz.prog w=.ok (.tuple #[]) w'/\Mi w' B (match Zx x L 0 with | some (j,_)=>L.eraseIdx j | none=>L)/\w'.heap.size=w.heap.size/\w.grownBy w' (some B):=by
 obtain⟨es,c,hb,he⟩:=h;have hu:(Go.underlying 126).run Tryz.prog w=.ok (.map 3 3) w:=run_underlying (by kernel_rfl) w;have hr:=YH w x es.toList L he;have hlt:B<w.heap.size:=(Array.getElem?_eq_some_iff.1 hb).1;have hg:∀ o:Obj,w.grownBy { w with heap:=w.heap.setIfInBounds B o } (some B):=fun o=>⟨rfl,rfl,rfl,by simp,fun i _ hi=>by
  have hne:B≠i:=fun e=>hi (by rw[e]);simp[Array.getElem?_setIfInBounds_ne hne]⟩
 cases hf:Zx x L 0 with
 | none=>
  rw[hf] at hr;exact⟨{ w with heap:=w.heap.setIfInBounds B (.map es c) },by simp[Builtin.delete_,hu,MapKept.run_getObj_map hb,Zt w _ x,hr,MapKept.run_setObj_map _ hb,Result.andThen],⟨es,c,by simp[hlt],he⟩,by simp,hg _⟩
 | some p=>
  rw[hf] at hr;obtain⟨k,hj,hkl,-⟩:=Zl (show Zx x L 0=some (p.1,p.2) from hf);have hlen:es.size=L.length:=by
   have:=congrArg List.length he;simpa using this
  refine⟨{ w with heap:=w.heap.setIfInBounds B (.map (es.eraseIdxIfInBounds p.1) c) },by simp[Builtin.delete_,hu,MapKept.run_getObj_map hb,Zt w _ x,hr,MapKept.run_setObj_map _ hb,Result.andThen],⟨es.eraseIdxIfInBounds p.1,c,by simp[hlt],?_⟩,by simp,hg _⟩;have hin:p.1<es.size:=by omega
  show(es.eraseIdxIfInBounds p.1).toList.map _=(L.eraseIdx p.1).map _;rw[Array.eraseIdxIfInBounds,dif_pos hin,Array.toList_eraseIdx,Zg,he,Zg]
def Mf (w:World)(B:Nat)(f:Int->Option Int):Prop:=∃ L,Mi w B L/\(L.map (·.1)).Nodup/\∀ x,Wi L x=f x
theorem Mf.lt {w:World}{B:Nat}{f:Int->Option Int}(h:Mf w B f):B<w.heap.size:=by
 obtain⟨L,⟨es,c,h1,-⟩,-⟩:=h;exact(Array.getElem?_eq_some_iff.1 h1).1
theorem Mf.same {w w':World}{B:Nat}{f:Int->Option Int}(h:Mf w B f)(hs:w'.heap[B]?=w.heap[B]?):Mf w' B f:=by
 obtain⟨L,⟨es,c,h1,h2⟩,h3⟩:=h;exact⟨L,⟨es,c,hs.trans h1,h2⟩,h3⟩
theorem Mf.new (w:World):Mf (w.alloc (.map #[] 0)) w.heap.size fun _=>none:=⟨[],⟨#[],0,heap_alloc_last w _,rfl⟩,by simp,fun _=>rfl⟩
theorem Mf.look {w:World}{B:Nat}{f:Int->Option Int}(h:Mf w B f)(x:Int)(b:Bool):(Instr.lookup 126 (.map (some B)) (Z9 x) b).run Tryz.prog w=.ok (JF (f x) b) w:=by
 obtain⟨L,h1,-,h3⟩:=h;rw[<- h3 x];exact Ti h1 x b
theorem Mf.put {w:World}{B:Nat}{f:Int->Option Int}(h:Mf w B f)(x v:Int) :
  ∃ w',(Instr.mapUpdate 126 (.map (some B)) (Z9 x) (Z9 v)).run Tryz.prog w=.ok () w'/\Mf w' B (Ya f x (some v))/\w'.heap.size=w.heap.size/\w.grownBy w' (some B):=by
 obtain⟨L,h1,h2,h3⟩:=h;cases hf:Zx x L 0 with
 | none=>
  have hno:=Za.1 hf;obtain⟨w',hr,hm,hz,hg⟩:=Qj h1 x v hf;refine⟨w',hr,⟨_,hm,?_,fun y=>?_⟩,hz,hg⟩
  ·rw[List.map_append,List.nodup_append];refine⟨h2,by simp,fun a ha b hb e=>?_⟩;obtain⟨q,hq,rfl⟩:=List.mem_map.1 ha;simp only[List.map_cons,List.map_nil,List.mem_singleton] at hb;exact hno q hq (e.trans hb)
  ·rw[VZ y (x,v) L hno,h3 y];rfl
 | some p=>
  obtain⟨w',hr,hm,hz,hg⟩:=Qi h1 x v p.2 p.1 hf;obtain⟨k,hj,hkl,hgt⟩:=Zl (show Zx x L 0=some (p.1,p.2) from hf);have hk:p.1=k:=by omega
  rw[<- hk] at hgt;refine⟨w',hr,⟨_,hm,?_,fun y=>?_⟩,hz,hg⟩
  ·have e:(L.set p.1 (x,v)).map (·.1)=L.map (·.1):=by
    rw[List.map_set];apply List.ext_getElem?;intro i;rw[List.getElem?_set];by_cases hi:p.1=i
    ·subst hi;simp[hgt];omega
    ·rw[if_neg hi]
   rw[e];exact h2
  ·rw[VY y x v p.2 L p.1 hgt h2,h3 y];rfl
theorem Mf.del {w:World}{B:Nat}{f:Int->Option Int}(h:Mf w B f)(x:Int)(ty:TypeId) :
  ∃ w',(Builtin.delete_ #[126,3] ty #[.map (some B),Z9 x]).run Tryz.prog w=.ok (.tuple #[]) w'/\Mf w' B (Ya f x none)/\w'.heap.size=w.heap.size/\w.grownBy w' (some B):=by
 obtain⟨L,h1,h2,h3⟩:=h;obtain⟨w',hr,hm,hz,hg⟩:=Qh h1 x ty;refine⟨w',hr,?_,hz,hg⟩;cases hf:Zx x L 0 with
 | none=>
  rw[hf] at hm;refine⟨L,hm,h2,fun y=>?_⟩;rw[h3 y];unfold Ya;by_cases e:y=x
  ·rw[if_pos e,e,<- h3 x];exact Xq (Za.1 hf)
  ·rw[if_neg e]
 | some p=>
  rw[hf] at hm;obtain⟨k,hj,hkl,hgt⟩:=Zl (show Zx x L 0=some (p.1,p.2) from hf);have hk:p.1=k:=by omega
  rw[<- hk] at hgt;refine⟨_,hm,?_,fun y=>?_⟩
  ·rw[Zg];exact h2.sublist (List.eraseIdx_sublist _ _)
  ·rw[VX y x p.2 L p.1 hgt h2,h3 y];rfl
end Go.Proofs.YtnelmomagdcmnaaGreat.Hp
namespace Go.Proofs.YtnelmomagdcmnaaGreat.Hp
open Go.RowKit
def ZP (B:Nat)(S:Nat->Prop)(w w':World):Prop:=Below B w w'/\∀ k,k<w.heap.size->¬ S k->w'.heap[k]?=w.heap[k]?
theorem ZP.of_below {B:Nat}{S:Nat->Prop}{w w':World}(h:Below w.heap.size w w')(hB:B<=w.heap.size):ZP B S w w':=⟨h.mono hB,fun k hk _=>h.block k hk⟩
theorem Bx.VQ {w w':World}{k t B:Nat}{S:Nat->Prop}{cs:Array Value}(h:Bx w k cs t)(hb:ZP B S w w')(hn:¬ S k):Bx w' k cs t:=(hb.2 k h.lt hn).trans h
theorem Cs.VQ {w w':World}{B:Nat}{S:Nat->Prop}{a:Option Addr}{cs:List Value}(h:Cs w a cs)(hb:ZP B S w w')(hn:∀ x,a=some x->¬ S x.block):Cs w' a cs:=fun j v hj=>by
 obtain⟨b,off,e,hlt,hc⟩:=h j v hj;refine⟨b,off,e,Nat.lt_of_lt_of_le hlt hb.1.size,?_⟩;rw[<- hc];unfold World.cell?;rw[hb.2 b hlt (hn _ e)]
theorem ZP.refl (B:Nat)(S:Nat->Prop)(w:World):ZP B S w w:=⟨Below.refl _ _,fun _ _ _=>rfl⟩
theorem ZP.trans {B:Nat}{S S2:Nat->Prop}{a b c:World}(h:ZP B S a b)(k:ZP B S2 b c)(hs:∀ x,S2 x->S x∨a.heap.size<=x):ZP B S a c:=
 ⟨h.1.trans k.1,fun i hi hn=>(k.2 i (by have:=h.1.size; omega) (fun h2=>(hs i h2).elim hn (by omega))).trans (h.2 i hi hn)⟩
theorem ZP.trans' {B:Nat}{S:Nat->Prop}{a b c:World}(h:ZP B S a b)(k:ZP B S b c):ZP B S a c:=h.trans k fun _=>.inl
theorem ZP.setCell {B:Nat}{S:Nat->Prop}(w:World)(b o:Nat)(v:Value)(hB:B<=b)(hS:S b):ZP B S w (w.setCell ⟨b,o,none⟩ v):=
 ⟨(Below.refl B w).setCell hB v,fun k _ hn=>heap_setCell_other w _ k v (fun e=>hn (by rw[e]; exact hS))⟩
theorem XD {w:World}{B e s n c b:Nat}{xs:List Value}(h:w.ownsRow B e s (.slice (some ⟨b,0,none⟩) n c) n xs)(j:Nat)(v:Value)(hj:j<xs.length):(w.setCell ⟨b,j,none⟩ v).ownsRow B e s (.slice (some ⟨b,0,none⟩) n c) n (xs.set j v):=by
 have hlen:=h.1;rcases h.2 with⟨e0,-⟩ | ⟨g,cap,cur,e0,hb,hg,hn,hm,hc,ht⟩
 ·cases e0
 ·simp only[Value.slice.injEq,Option.some.injEq,Addr.mk.injEq,and_true,true_and] at e0;obtain⟨rfl,rfl⟩:=e0;refine⟨by simpa using hlen,.inr ⟨b,c,cur.setIfInBounds j v,rfl,hb,Joins.block_setCell hg v,hn,hm,by simpa using hc,?_⟩⟩;rw[Array.toList_setIfInBounds,List.take_set,ht]
theorem YJ {w:World}{B e s n c b:Nat}{xs:List Value}(h:w.ownsRow B e s (.slice (some ⟨b,0,none⟩) n c) n xs):∃ cur,Bx w b cur e/\n*s<=cur.size/\B<=b/\cur.toList.take (n*s)=xs:=by
 rcases h.2 with⟨e0,-⟩ | ⟨g,cap,cur,e0,hb,hg,hn,hm,hc,ht⟩
 ·cases e0
 ·simp only[Value.slice.injEq,Option.some.injEq,Addr.mk.injEq,and_true,true_and] at e0;obtain⟨rfl,rfl⟩:=e0;exact⟨cur,hg,by rw[hc]; exact Nat.mul_le_mul_right _ hn,hb,ht⟩
theorem YL {w w':World}{B e s n c:Nat}{a:Option Addr}{xs:List Value}(h:w.ownsRow B e s (.slice a n c) n xs)(hs:∀ x,a=some x->w'.heap[x.block]?=w.heap[x.block]?):w'.ownsRow B e s (.slice a n c) n xs:=by
 refine⟨h.1,?_⟩;rcases h.2 with h0 | ⟨g,cap,cur,e0,hb,hg,r⟩
 ·exact .inl h0
 ·refine .inr ⟨g,cap,cur,e0,hb,?_,r⟩;simp only[Value.slice.injEq,true_and] at e0;rw[<- hg];exact hs _ e0.1
theorem ZP.sets {B b:Nat}{S:Nat->Prop}(hB:B<=b)(hS:S b):∀ (vs:List Value) (o:Nat) (w:World),ZP B S w (w.setCells b o vs)
 | [],o,w=>ZP.refl _ _ _
 | v::r,o,w=>(ZP.setCell w b o v hB hS).trans' (ZP.sets hB hS r (o+1) _)
theorem Nz {w:World}{P:Program}{t e s bytes:Nat}{v0:Value}(hu:P.underlying t=some (.slice e))(hinfo:(P.info? e).map (fun i=>(i.zero,i.size,i.bytes))=some (some v0,s,bytes))(hzs:v0.cells.size=s)(hs:0<s)(hby:bytes<=1000)
  {B n:Nat} {v:Value} {xs:List Value} (hO:w.ownsRow B e s v n xs) (b:Nat) (ys:List Value) (hP:Cs w (some ⟨b,0,none⟩) ys) (hl:ys.length=s) (h1:∀ u∈ys,u.oneCell'=true) (hB:B<=w.heap.size) (hn:n<=100000) :
  ∃ v' w',(Builtin.append_ #[t,t] t #[v,.slice (some ⟨b,0,none⟩) 1 1]).run P w=.ok v' w'/\w'.ownsRow B e s v' (n+1) (xs++ys)/\w.grownBy w' v.ownBlock/\(v'.ownBlock=v.ownBlock∨v'.ownBlock=some w.heap.size):=by
 obtain⟨i0,hi,hz0,hz1,hz2⟩:=info_parts hinfo;obtain⟨v',w',hr,h2,h3,-,h4⟩:=run_append_own_at (P:=P) w B t t e i0 v0 s bytes hu hi hz0 hz1 hz2 hzs hs v n xs hO ⟨b,0,none⟩ 1 1 ys (by omega) (fun j u hj=>by
  obtain⟨b2,off2,e2,-,hc⟩:=hP j u hj;simp only[Option.some.injEq,Addr.mk.injEq,and_true] at e2;obtain⟨rfl,rfl⟩:=e2;rw[Addr.add_mid];exact hc) h1 (by unfold maxLen; omega) (by have:=Nat.mul_le_mul (show n+1<=100001 by omega) hby; omega) hB
 exact⟨v',w',hr,h2,h3,h4⟩
theorem Ql {q:Option Addr}{n c k:Nat}(e:(Value.slice q n c).ownBlock=some k):∃ x,q=some x/\x.block=k:=by
 cases q with
 | none=>cases e
 | some x=>exact⟨x,rfl,by simpa [Value.ownBlock] using e⟩
theorem GX {a q:Option Addr}{n c n2 c2 K:Nat}(ha:(Value.slice a n c).ownBlock=(Value.slice q n2 c2).ownBlock∨(Value.slice a n c).ownBlock=some K)(y:Addr)(hy:a=some y):(∃ x,q=some x/\x.block=y.block)∨y.block=K:=by
 subst hy;rcases ha with e | e
 ·exact .inl (Ql e.symm)
 ·exact .inr (by simpa [Value.ownBlock] using e)
structure Hd where
 B:Nat
 ka:Option Addr
 kc:Nat
 A:List It
def zk (d:Hd):Array Value:=#[.slice d.ka d.A.length d.kc,.map (some d.B)]
def Ph (g:Nat)(d:Hd):Nat->Nat->Prop
 | 0,k=>k=g
 | 1,k=>k=d.B
 | 2,k=>∃ x,d.ka=some x/\x.block=k
 | _,_=>False
structure Mh (w:World)(g:Nat)(d:Hd)(f:Int->Option Int):Prop where
 bx:Bx w g (zk d) 128
 mp:Mf w d.B f
 rk:w.ownsRow 0 99 3 (.slice d.ka d.A.length d.kc) d.A.length (itc d.A)
 Um:∀ i j k,Ph g d i k->Ph g d j k->i=j
section
variable {w w' : World} {g : Nat} {d : Hd} {f : Int -> Option Int}
theorem Mh.inn (h:Mh w g d f):∀ i k,Ph g d i k->k<w.heap.size
 | 0,k,hk=>by
  have e:k=g:=hk;rw[e]; exact h.bx.lt
 | 1,k,hk=>by
  have e:k=d.B:=hk;rw[e]; exact h.mp.lt
 | 2,k,hk=>by
  obtain⟨x,hx,rfl⟩:=hk;exact(h.rk.lt x.block (by rw[hx]; rfl)).2
theorem Mh.same (h:Mh w g d f)(hs:∀ i k,Ph g d i k->w'.heap[k]?=w.heap[k]?):Mh w' g d f:=
 {bx:=(hs 0 g rfl).trans h.bx
  mp:=h.mp.same (hs 1 d.B rfl)
  rk:=YL h.rk fun x hx=>hs 2 _ ⟨x,hx,rfl⟩
  Um:=h.Um }
theorem Mh.below (h:Mh w g d f)(hb:Below w.heap.size w w'):Mh w' g d f:=h.same fun i k hk=>hb.block k (h.inn i k hk)
theorem Mh.drew (h:Mh w g d f):Mh { w with drawn:=w.drawn+1 } g d f:=h.same fun _ _ _=>rfl
theorem Mh.iC (h:Mh w g d f):(Instr.loadAt 96 (Z7 g 0)).run Tryz.prog w=.ok (.slice d.ka d.A.length d.kc) w:=h.bx.ZL 0
theorem Mh.ld1 (h:Mh w g d f):(Instr.loadAt 126 (Z7 g 1)).run Tryz.prog w=.ok (.map (some d.B)) w:=h.bx.ZL 1
theorem Mh.addr (h:Mh w g d f)(hi:0<d.A.length):∃ b,d.ka=some ⟨b,0,none⟩:=by
 rcases h.rk.2 with⟨-,h0⟩ | ⟨b,cap,cur,e0,-⟩
 ·omega
 ·simp only[Value.slice.injEq,true_and] at e0;exact⟨b,e0.1⟩
theorem Mh.cs (h:Mh w g d f):Cs w d.ka (itc d.A):=by
 obtain⟨a,c,e,hc,-⟩:=Zi h.rk;simp only[Value.slice.injEq,true_and] at e;rw[e.1]; exact hc
theorem Mh.range (h:Mh w g d f){b:Nat}(hb:d.ka=some ⟨b,0,none⟩){i:Nat}(hi:i<d.A.length):w.rangeAt b (i*3) (TV (ita d.A i)):=by
 obtain⟨b2,off,e,-,hr⟩:=MN h.cs hi;rw[hb] at e;simp only[Option.some.injEq,Addr.mk.injEq,and_true] at e;obtain⟨rfl,rfl⟩:=e;rw[Nat.zero_add] at hr;exact hr
theorem Mh.item (h:Mh w g d f){b:Nat}(hb:d.ka=some ⟨b,0,none⟩){i:Nat}(hi:i<d.A.length):(Instr.loadAt 99 (Z7 b (i*3))).run Tryz.prog w=.ok (.agg (YS (ita d.A i))) w:=Om (h.range hb hi)
theorem Mh.id (h:Mh w g d f){b:Nat}(hb:d.ka=some ⟨b,0,none⟩){i:Nat}(hi:i<d.A.length):(Instr.loadAt 3 (Z7 b (i*3))).run Tryz.prog w=.ok (Z9 (ita d.A i).1) w:=by
 refine Zc ?_ (by kernel_rfl);have:=h.range hb hi 0 (Z9 (ita d.A i).1) rfl;simpa using this
theorem Mh.there (h:Mh w g d f){b:Nat}(hb:d.ka=some ⟨b,0,none⟩){i:Nat}(hi:i<d.A.length):w.there b (i*3) 3:=fun j hj=>by
 have hr:=h.rk;rw[hb] at hr;obtain⟨cur,hcur,hz,-,-⟩:=YJ hr;refine⟨?_,frozen_of_row w b _ _ 99 hcur⟩;rw[cell_of_row w b _ _ 99 (0,0) hcur,Array.getElem?_eq_getElem (by omega)];rfl
theorem Mh.store (h:Mh w g d f){b:Nat}(hb:d.ka=some ⟨b,0,none⟩){i:Nat}(hi:i<d.A.length)(x:It):(Instr.storeAt 99 (Z7 b (i*3)) (.agg (YS x))).run Tryz.prog w=.ok () (w.setCells b (i*3) (TV x)):=
 run_storeAt_mid w b (i*3) 99 (TV x).toArray (h.there hb hi) (by kernel_rfl) (y8 x)
end
def Sh (g:Nat)(d:Hd)(k:Nat):Prop:=∃ i,Ph g d i k
structure Gh (Bd g:Nat)(d:Hd)(w:World)(d':Hd)(f':Int->Option Int)(w':World):Prop where
 mem:Mh w' g d' f'
 sub:∀ k,Sh g d' k->Sh g d k∨w.heap.size<=k
 but:ZP Bd (Sh g d) w w'
section
variable {Bd g : Nat} {d d1 d2 : Hd} {f f1 f2 : Int -> Option Int} {w w1 w2 : World}
theorem Gh.refl (h:Mh w g d f):Gh Bd g d w d f w:=⟨h,fun k hk=>.inl hk,ZP.refl _ _ _⟩
theorem Gh.trans (h:Gh Bd g d w d1 f1 w1)(k:Gh Bd g d1 w1 d2 f2 w2):Gh Bd g d w d2 f2 w2:=
 ⟨k.mem,fun x hx=>(k.sub x hx).elim (h.sub x) (fun h2=>.inr (Nat.le_trans h.but.1.size h2)),h.but.trans k.but h.sub⟩
theorem Gh.base (h:Gh Bd g d w d1 f1 w1)(hB:∀ k,Sh g d k->Bd<=k)(hw:Bd<=w.heap.size):∀ k,Sh g d1 k->Bd<=k:=fun k hk=>(h.sub k hk).elim (hB k) (Nat.le_trans hw)
theorem Gh.size (h:Gh Bd g d w d1 f1 w1)(hw:Bd<=w.heap.size):Bd<=w1.heap.size:=Nat.le_trans hw h.but.1.size
theorem Gh.below (h:Mh w g d f)(hb:Below w.heap.size w w1)(hw:Bd<=w.heap.size):Gh Bd g d w d f w1:=⟨h.below hb,fun k hk=>.inl hk,ZP.of_below hb hw⟩
theorem Gh.drew (h:Gh Bd g d w d1 f1 w1):Gh Bd g d w d1 f1 { w1 with drawn:=w1.drawn+1 }:=
 ⟨h.mem.drew,h.sub,⟨h.but.1.drew,h.but.2⟩⟩
theorem sO {n:Nat}(hin:∀ i k,Ph g d i k->k<w.heap.size)(hd:∀ i j k,Ph g d i k->Ph g d j k->i=j)(hp:∀ j k,Ph g d1 j k->Ph g d j k∨(w.heap.size<=k/\j=n)):∀ i j k,Ph g d1 i k->Ph g d1 j k->i=j:=fun i j k hi hj=>by
 rcases hp i k hi with h1 | h1 <;> rcases hp j k hj with h2 | h2
 ·exact hd i j k h1 h2
 ·have:=hin i k h1;omega
 ·have:=hin j k h2;omega
 ·rw[h1.2,h2.2]
theorem Gh.map (h:Mh w g d f)(hB:Bd<=d.B)(hm:Mf w1 d.B f1)(hg:w.grownBy w1 (some d.B)):Gh Bd g d w d f1 w1:=by
 obtain⟨h1,h2,h3,h4,h5⟩:=hg;have hk:∀ i k,i≠1->Ph g d i k->w1.heap[k]?=w.heap[k]?:=fun i k hi hk=>h5 k (h.inn i k hk) fun e=>by
  rw[Option.some.injEq] at e;exact hi (h.Um i 1 k hk e)
 exact⟨⟨(hk 0 g (by omega) rfl).trans h.bx,hm,YL h.rk fun x hx=>hk 2 _ (by omega) ⟨x,hx,rfl⟩,h.Um⟩,fun k hk=>.inl hk,
  ⟨by assumption,by assumption,by assumption,by assumption,fun i hi=>h5 i (Nat.lt_of_lt_of_le hi (Nat.le_trans hB (Nat.le_of_lt h.mp.lt))) (fun e=>by rw[Option.some.injEq] at e; omega)⟩,fun i hi hn=>h5 i hi fun e=>hn ⟨1,by rw[Option.some.injEq] at e; exact e⟩⟩
theorem Gh.kV (h:Mh w g d f)(hB:∀ k,Sh g d k->Bd<=k){b:Nat}(hb:d.ka=some ⟨b,0,none⟩)(i:Nat)(hi:i<d.A.length)(x:It):Gh Bd g d w { d with A:=d.A.set i x } f (w.setCells b (i*3) (TV x)):=by
 have h2:Ph g d 2 b:=⟨_,hb,rfl⟩;have sN:=ZP.sets (S:=fun x=>x=b) (hB b ⟨2,h2⟩) rfl (TV x) (i*3) w;have hs:∀ j k,j≠2->Ph g d j k->(w.setCells b (i*3) (TV x)).heap[k]?=w.heap[k]?:=fun j k hj hk=>sN.2 k (h.inn j k hk) fun e=>hj (h.Um j 2 k hk (by rw[e]; exact h2));have hl:(d.A.set i x).length=d.A.length:=List.length_set;refine⟨⟨?_,h.mp.same (hs 1 _ (by omega) rfl),?_,h.Um⟩,fun k hk=>.inl hk,sN.1,fun k hk hn=>sN.2 k hk fun e=>hn ⟨2,by rw[e]; exact h2⟩⟩
 ·show Bx _ _ (zk { d with A:=d.A.set i x }) _;unfold zk;simp only[hl];exact(hs 0 g (by omega) rfl).trans h.bx
 ·show World.ownsRow _ 0 99 3 (.slice d.ka (d.A.set i x).length d.kc) (d.A.set i x).length (itc (d.A.set i x));have h1:=h.rk;rw[hl];rw[hb] at h1 ⊢;have h3:=XD (XD (XD h1 (i*3) (Z9 x.1) (by rw[Xb]; omega)) (i*3+1) (ZY x.2.1) (by rw[List.length_set,Xb]; omega)) (i*3+1+1) (Z9 x.2.2) (by rw[List.length_set,List.length_set,Xb]; omega);rw[KZ _ _ _ hi] at h3;exact h3
theorem Gh.head (h:Mh w g d f)(hB:∀ k,Sh g d k->Bd<=k){V:World}(hb:ZP Bd (Sh g d) w V)(h0:∀ j k,j<=1->Ph g d j k->V.heap[k]?=w.heap[k]?)(e1:d1.B=d.B)
  (r3:V.ownsRow 0 99 3 (.slice d1.ka d1.A.length d1.kc) d1.A.length (itc d1.A)) (hp:∀ k,Ph g d1 2 k->Ph g d 2 k∨w.heap.size<=k) (v:Value) (hv:v=.slice d1.ka d1.A.length d1.kc):Gh Bd g d w d1 f (V.setCell ⟨g,0,none⟩ v):=by
 have hp2:∀ j k,Ph g d1 j k->Ph g d j k∨(w.heap.size<=k/\j=2)
  | 0,k,hk=>.inl hk
  | 1,k,hk=>.inl (show k=d.B from e1 ▸ hk)
  | 2,k,hk=>(hp k hk).imp id fun h=>⟨h,rfl⟩
  | _+3,k,hk=>hk.elim
 have hdis:=sO h.inn h.Um hp2;have hgw:=h.bx.lt;have hset:∀ j k,j≠0->Ph g d1 j k->(V.setCell ⟨g,0,none⟩ v).heap[k]?=V.heap[k]?:=fun j k hj hk=>heap_setCell_other V ⟨g,0,none⟩ k v fun e=>hj (hdis j 0 k hk e);refine⟨⟨?_,?_,YL r3 fun x hx=>hset 2 _ (by omega) ⟨x,hx,rfl⟩,hdis⟩,?_,hb.trans' (ZP.setCell V g 0 v (hB g ⟨0,rfl⟩) ⟨0,rfl⟩)⟩
 ·have:=Bx.Hu ((h0 0 g (by omega) rfl).trans h.bx:Bx V g (zk d) 128) (i:=0) v;rw[hv] at this ⊢;have e:zk d1=(zk d).setIfInBounds 0 (.slice d1.ka d1.A.length d1.kc):=by
   unfold zk;rw[e1];rfl
  rw[e];exact this
 ·rw[e1];exact h.mp.same ((hset 1 _ (by omega) e1.symm).trans (h0 1 _ (by omega) rfl))
 ·rintro k ⟨j,hj⟩;exact(hp2 j k hj).imp (fun h=>⟨j,h⟩) (·.1)
theorem Gh.grown (h:Mh w g d f)(hB:∀ k,Sh g d k->Bd<=k)(hw:Bd<=w.heap.size)(hb:Below w.heap.size w w1){row:Option Nat}(n:Nat)(hn:∀ k,row=some k->Ph g d n k)(hg:w1.grownBy w2 row):ZP Bd (Sh g d) w w2/\∀ j k,j≠n->Ph g d j k->w2.heap[k]?=w.heap[k]?:=by
 obtain⟨g1,g2,g3,g4,g5⟩:=hg;have hs:=hb.size;have hx:∀ k,k<w.heap.size->¬ Ph g d n k->w2.heap[k]?=w.heap[k]?:=fun k hk hn2=>(g5 k (by omega) fun e=>hn2 (hn k e.symm)).trans (hb.block k hk);have hb2:Below Bd w1 w2:=⟨by assumption,by assumption,by assumption,by assumption,fun i hi=>g5 i (by omega) fun e=>by
  have:=hB i ⟨n,hn i e.symm⟩;omega⟩
 exact⟨⟨(hb.mono hw).trans hb2,fun k hk hn2=>hx k hk fun h2=>hn2 ⟨n,h2⟩⟩,fun j k hj hk=>hx k (h.inn j k hk) fun h2=>hj (h.Um j n k hk h2)⟩
theorem Gh.push (h:Mh w g d f)(hB:∀ k,Sh g d k->Bd<=k)(hw:Bd<=w.heap.size)(hb:Below w.heap.size w w1){v:Value}{x:It}(hO:w2.ownsRow 0 99 3 v (d.A.length+1) (itc (d.A++[x])))(hg:w1.grownBy w2 (Value.slice d.ka d.A.length d.kc).ownBlock)(ha:v.ownBlock=(Value.slice d.ka d.A.length d.kc).ownBlock∨v.ownBlock=some w1.heap.size) :
  ∃ a c,v=.slice a (d.A++[x]).length c/\Gh Bd g d w { d with ka:=a,kc:=c,A:=d.A++[x] } f (w2.setCell ⟨g,0,none⟩ v):=by
 obtain⟨a,c,rfl,-,-⟩:=Zi hO;have hl:d.A.length+1=(d.A++[x]).length:=by simp
 rw[hl] at hO ha ⊢;have hs:=hb.size;obtain⟨hb2,hk⟩:=Gh.grown h hB hw hb 2 (fun k e=>Ql e) hg;refine⟨a,c,rfl,Gh.head (d1:={ d with ka:=a,kc:=c,A:=d.A++[x] }) h hB hb2 (fun j k hj=>hk j k (by omega)) rfl hO ?_ _ rfl⟩;rintro k ⟨y,hy,e⟩;exact(GX ha y hy).elim (fun h2=>.inl (by rw[<- e]; exact h2)) fun h2=>.inr (by omega)
theorem Gh.lu {g0:Nat}(h:Mh w g d f)(h0:w.heap.size<=g0):¬ Sh g d g0:=fun⟨i,hi⟩=>by
 have:=h.inn i g0 hi;omega
end
def YD (x y:Int):Int:=if x<y then -1 else if y<x then 1 else 0
def Sj (a b:It):Int:=if YD b.2.1 a.2.1=0 then (if YD a.2.2 b.2.2=0 then YD a.1 b.1 else YD a.2.2 b.2.2) else YD b.2.1 a.2.1
theorem JC (x y:Int):YD x y<0↔x<y:=by
 unfold YD
 split
 ·omega
 ·split <;> omega
theorem WI (x y:Int):YD x y=0↔x=y:=by
 unfold YD
 split
 ·omega
 ·split <;> omega
theorem IV (a b:It):decide (Sj a b<0)=bf a b:=by
 rw[Bool.eq_iff_iff,decide_eq_true_iff,Ui];unfold Sj;by_cases h1:YD b.2.1 a.2.1=0
 ·rw[if_pos h1];rw[WI] at h1;by_cases h2:YD a.2.2 b.2.2=0
  ·rw[if_pos h2,JC];rw[WI] at h2;omega
  ·rw[if_neg h2,JC];rw[WI] at h2;omega
 ·rw[if_neg h1,JC];rw[WI] at h1;omega
def Gd (W V:World):Prop:=Below W.heap.size W V/\W.drawn<=V.drawn
theorem Gd.trans {a b c:World}(h:Gd a b)(k:Gd b c):Gd a c:=⟨h.1.trans (k.1.mono h.1.size),Nat.le_trans h.2 k.2⟩
theorem Gd.alloc (W:World)(o:Obj):Gd W (W.alloc o):=⟨(Below.refl _ W).alloc (Nat.le_refl _) _,Nat.le_refl _⟩
theorem Gd.drew (W:World):Gd W { W with drawn:=W.drawn+1 }:=⟨(Below.refl _ W).drew,Nat.le_succ _⟩
theorem Nu (x:Int)(w:World):Calls Tryz.prog 142 #[ZY x] w fun e w'=>e=.returned ZW/\w=w':=by
 go_enter Tryz.func142,Tryz.ntmps142;go_wp2;go_ret;exact⟨rfl,rfl⟩
theorem Ns (x:Int)(w:World):Calls Tryz.prog 143 #[Z9 x] w fun e w'=>e=.returned ZW/\w=w':=by
 go_enter Tryz.func143,Tryz.ntmps143;go_wp2;go_ret;exact⟨rfl,rfl⟩
theorem kU (x y:Int)(w:World):Calls Tryz.prog 106 #[ZY x,ZY y] w fun e w'=>e=.returned (Z9 (YD x y))/\w=w':=by
 unfold YD;by_cases h1:x<y
 ·rw[if_pos h1];go_enter Tryz.func106,Tryz.ntmps106;go_wp2_with (go_at_call 142; refine(Nu _ _).mono ?_; rintro e w' ⟨rfl,rfl⟩)
  go_ret;exact⟨rfl,rfl⟩
 ·by_cases h2:y<x
  ·rw[if_neg h1,if_pos h2];go_enter Tryz.func106,Tryz.ntmps106;go_wp2_with (go_at_call 142; refine(Nu _ _).mono ?_; rintro e w' ⟨rfl,rfl⟩)
   go_ret;exact⟨rfl,rfl⟩
  ·rw[if_neg h1,if_neg h2];go_enter Tryz.func106,Tryz.ntmps106;go_wp2_with (go_at_call 142; refine(Nu _ _).mono ?_; rintro e w' ⟨rfl,rfl⟩)
   go_ret;exact⟨rfl,rfl⟩
theorem wZ (x y:Int)(w:World):Calls Tryz.prog 107 #[Z9 x,Z9 y] w fun e w'=>e=.returned (Z9 (YD x y))/\w=w':=by
 unfold YD;by_cases h1:x<y
 ·rw[if_pos h1];go_enter Tryz.func107,Tryz.ntmps107;go_wp2_with (go_at_call 143; refine(Ns _ _).mono ?_; rintro e w' ⟨rfl,rfl⟩)
  go_ret;exact⟨rfl,rfl⟩
 ·by_cases h2:y<x
  ·rw[if_neg h1,if_pos h2];go_enter Tryz.func107,Tryz.ntmps107;go_wp2_with (go_at_call 143; refine(Ns _ _).mono ?_; rintro e w' ⟨rfl,rfl⟩)
   go_ret;exact⟨rfl,rfl⟩
  ·rw[if_neg h1,if_neg h2];go_enter Tryz.func107,Tryz.ntmps107;go_wp2_with (go_at_call 143; refine(Ns _ _).mono ?_; rintro e w' ⟨rfl,rfl⟩)
   go_ret;exact⟨rfl,rfl⟩
def Tf:List Int->Int
 | []=>0
 | x::r=>if x=0 then Tf r else x
theorem aY {ρ:Operand->Value}{o:Oper}{x y:Operand}(ho:o.op=.binOp .neq 3 x y 3)(a b:Int)(hx:ρ x=Z9 a)(hy:ρ y=Z9 b)(w:World):(execOp ρ o).run Tryz.prog w=.ok (.value (.bool (a != b))) w:=by
 unfold execOp;simp only[ho,hx,hy];go_simp
theorem kT {ρ:Operand->Value}{o:Oper}{x y:Operand}(ho:o.op=.binOp .lss 3 x y 3)(a b:Int)(hx:ρ x=Z9 a)(hy:ρ y=Z9 b)(w:World):(execOp ρ o).run Tryz.prog w=.ok (.value (.bool (decide (a<b)))) w:=by
 unfold execOp;simp only[ho,hx,hy];go_simp
theorem JD (L:List Int)(k:Nat)(h:k<L.length):Tf (L.drop k)=if L.getD k 0=0 then Tf (L.drop (k+1)) else L.getD k 0:=by
 rw[List.drop_eq_getElem_cons h,getD_lt L k 0 h];rfl
theorem JE (L:List Int)(g c:Nat)(w:World)(hl:L.length<=1000)(hX:Cs w (some ⟨g,0,none⟩) (ZM L)):Calls Tryz.prog 105 #[.slice (some ⟨g,0,none⟩) L.length c] w fun e w'=>e=.returned (Z9 (Tf L))/\w=w':=by
 have HR:=Z8 (show Tf (L.drop 0)=Tf L from rfl);have HC:=Z8 hX;generalize Tf L=R at *
 obtain⟨n,hn⟩:=ZR L.length;have HN:=Z8 hn;rw[hn] at hl ⊢;clear hn hX;go_enter Tryz.func105,Tryz.ntmps105;go_wp2_with fail;go_loopg [8] n (fun gg s8 wx=>∃ i:Nat,s8=Z9 i/\i<=n/\Hid (Tf (L.drop i)=R)/\w=wx/\n-i=gg)
 case atStart=>exact⟨0,rfl,by omega,HR,rfl,rfl⟩
 case round=>
  obtain⟨i,rfl,hi,hR,rfl,hg⟩:=hrel;by_cases hlt:i<n
  ·have hd:decide (i<n)=true:=decide_eq_true hlt;obtain⟨b,off,e2,hbb,hrx⟩:=Uk HC.out (k:=i) (by rw[HN.out]; exact hlt);simp only[Option.some.injEq,Addr.mk.injEq,and_true] at e2;obtain⟨rfl,rfl⟩:=e2;have hR1:=hR.out;rw[JD L i (by rw[HN.out]; exact hlt)] at hR1;rw[Nat.zero_add] at hrx;generalize L.getD i 0=x at *
   have HR1:=Z8 hR1;have HG:Hid (n-(i+1)=gk-1/\0<gk/\i+1<=n):=Z8 ⟨by omega,by omega,by omega⟩;have HX:=Z8 hrx;clear hR1 hR hg hrx;go_upto_region 3 with fail;refine wl<|Yb (.bool (decide (i<n))) (NM rfl i n) ?_;simp only[pu];rw[hd];apply wpList_nil;go_upto_region 4 with fail;refine wl<|YT (Z7 g (0+i)) (XQ g 0 n c i hlt _ _ _ rfl (by kernel_rfl) (by kernel_rfl))<|Zq rfl ⟨g,0+i,none⟩ (Z9 x) (Zc (by rw[Nat.zero_add]; exact HX.out) (by kernel_rfl))<|ZN (Z9 x)<|wn ?_;simp only[pu];by_cases hx0:x=0
   ·have hR2:=HR1.out;rw[if_pos hx0] at hR2;have HR2:=Z8 hR2;obtain rfl:=hx0;clear hR2 HR1 HX;go_upto_region 5 with fail;refine wl<|YU (Z9 0) (Z9 0) ZW<|wn ?_;simp only[pu];go_upto_region 7 with fail;refine wl<|YT (Z9 (i+1:Nat)) (add_one rfl i (by omega) (by kernel_rfl) _)<|ZN (Z9 (i+1:Nat))<|wn ?_;simp only[pu];go_wp2_with fail;go_roundg (gk-1)
    case measure=>have:=HG.out; omega
    case rel=>exact⟨i+1,rfl,HG.out.2.2,HR2,rfl,HG.out.1⟩
   ·have hR2:=HR1.out;rw[if_neg hx0] at hR2;have HR2:=Z8 hR2;have aX:(x != 0)=true:=(by simpa using hx0);clear hR2 HR1 HX;go_upto_region 5 with fail;refine wl<|ZA (Z9 x) (Z9 0)<|Yb (.bool (x != 0)) (aY rfl x 0) ?_;simp only[pu];rw[aX];apply wpList_nil;have iF:=Z8 aX;have HN2:=Z8 hx0;clear aX hx0;go_upto_region 6 with fail;refine wl<|ZA (Z9 x) (Z9 x)<|wn ?_;simp only[pu];go_wp2_with fail;go_ret;exact⟨by rw[HR2.out]; rfl,rfl⟩
  ·have hd:decide (i<n)=false:=decide_eq_false hlt;have hR1:=hR.out;rw[List.drop_eq_nil_of_le (by rw[HN.out]; omega)] at hR1;have HR1:=Z8 hR1;clear hR1 hR hg;go_upto_region 3 with fail;refine wl<|Yb (.bool (decide (i<n))) (NM rfl i n) ?_;simp only[pu];rw[hd];apply wpList_nil;go_upto_region 8 with fail;refine wl<|ZA (Z9 0) (Z9 0)<|wn ?_;simp only[pu];go_wp2_with fail;go_ret;exact⟨by rw[<- HR1.out]; rfl,rfl⟩
end Go.Proofs.YtnelmomagdcmnaaGreat.Hp
namespace Go.Proofs.YtnelmomagdcmnaaGreat.Hp
attribute [local irreducible] wpList wpQuiet
open Go.RowKit
theorem IL (x y:It)(w:World):Gd w ((w.alloc (.cells (YS x) 99)).alloc (.cells (YS y) 99))/\Bx ((w.alloc (.cells (YS x) 99)).alloc (.cells (YS y) 99)) w.heap.size (YS x) 99/\Bx ((w.alloc (.cells (YS x) 99)).alloc (.cells (YS y) 99)) (w.heap.size+1) (YS y) 99:=by
 refine⟨(Gd.alloc w (.cells (YS x) 99)).trans (Gd.alloc _ (.cells (YS y) 99)),?_,?_⟩
 ·have h0:Bx (w.alloc (.cells (YS x) 99)) w.heap.size (YS x) 99:=heap_alloc_last w _;exact h0.below h0.lt ((Below.refl _ _).alloc (Nat.le_refl _) _)
 ·have h1:=heap_alloc_last (w.alloc (.cells (YS x) 99)) (.cells (YS y) 99);have e:(w.alloc (.cells (YS x) 99)).heap.size=w.heap.size+1:=by simp
  rw[e] at h1;exact h1
theorem La {w:World}{g:Nat}{x:It}(h:Bx w g (YS x) 99):(Instr.loadAt 3 (Z7 g 0)).run Tryz.prog w=.ok (Z9 x.1) w:=h.ZL 0
theorem xq {w:World}{g:Nat}{x:It}(h:Bx w g (YS x) 99):(Instr.loadAt 23 (Z7 g 1)).run Tryz.prog w=.ok (ZY x.2.1) w:=h.ZL 1
theorem xg {w:World}{g:Nat}{x:It}(h:Bx w g (YS x) 99):(Instr.loadAt 3 (Z7 g 2)).run Tryz.prog w=.ok (Z9 x.2.2) w:=h.ZL 2
theorem aZ (x y:It):Tf [YD y.2.1 x.2.1,YD x.2.2 y.2.2,YD x.1 y.1]=Sj x y:=by
 unfold Sj Tf Tf Tf Tf;by_cases a1:YD y.2.1 x.2.1=0
 ·rw[if_pos a1,if_pos a1];by_cases a2:YD x.2.2 y.2.2=0
  ·rw[if_pos a2,if_pos a2];by_cases a3:YD x.1 y.1=0
   ·rw[if_pos a3,a3]
   ·rw[if_neg a3]
  ·rw[if_neg a2,if_neg a2]
 ·rw[if_neg a1,if_neg a1]
theorem GU (a b c:Int)(w:World):(Instr.buildSlice 22 3 #[(0,Z9 a),(1,Z9 b),(2,Z9 c)]).run Tryz.prog w=.ok (.slice (some ⟨w.heap.size,0,none⟩) 3 3) (w.alloc (.cells #[Z9 a,Z9 b,Z9 c] 3)):=by
 obtain⟨i0,hi,hz0,hz1,hz2⟩:=info_parts Ut;refine run_buildSlice w 22 3 3 _ #[Z9 a,Z9 b,Z9 c] i0 _ Tryz.underlying22 hi hz0 (by rw[hz1]; omega) (by rw[hz1]; omega) ?_;rw[hz1];kernel_rfl
theorem DY (x y:It)(w:World):Calls Tryz.prog 75 #[.agg (YS x),.agg (YS y)] w fun e w'=>e=.returned (Z9 (Sj x y))/\Gd w w':=by
 have HF:=Z8 (aZ x y);generalize Sj x y=R at *
 obtain⟨hg,h1,h2⟩:=IL x y w;obtain⟨g0,e0⟩:=ZR w.heap.size;rw[e0] at h1 h2;go_enter Tryz.func75,Tryz.ntmps75;go_upto_region 1 with fail;change Code.wp _ _ _ _ ((w.alloc (.cells (YS x) 99)).alloc (.cells (YS y) 99));generalize (w.alloc (.cells (YS x) 99)).alloc (.cells (YS y) 99)=W at *
 clear e0;have HG:=Z8 hg;clear hg;refine ZO (C:=fun U=>Bx U g0 (YS x) 99/\Bx U (g0+1) (YS y) 99/\Gd W U) 15 (by kernel_rfl) (by kernel_rfl) (⟨h1,h2,Gd.drew W⟩) ?_;simp only[List.take_succ_cons,List.take_zero,List.drop_succ_cons,List.drop_zero];refine gy (Z7 (g0+1) 1)<|Zj rfl ⟨g0+1,1,none⟩ (ZY y.2.1) (fun U hU=>xq hU.2.1)<|gy (Z7 g0 1)<|Zj rfl ⟨g0,1,none⟩ (ZY x.2.1) (fun U hU=>xq hU.1) ?_;refine Zz (by kernel_rfl) (some 9) rfl 106 #[ZY y.2.1,ZY x.2.1] (Z9 (YD y.2.1 x.2.1)) (fun U hU=>by kernel_rfl) (fun U hU=>(kU (y.2.1) (x.2.1) U).mono fun e w2 q=>⟨q.1,q.2 ▸ hU⟩) ?_;refine gy (Z7 g0 2)<|Zj rfl ⟨g0,2,none⟩ (Z9 x.2.2) (fun U hU=>xg hU.1)<|gy (Z7 (g0+1) 2)<|Zj rfl ⟨g0+1,2,none⟩ (Z9 y.2.2) (fun U hU=>xg hU.2.1) ?_;refine Zz (by kernel_rfl) (some 14) rfl 107 #[Z9 x.2.2,Z9 y.2.2] (Z9 (YD x.2.2 y.2.2)) (fun U hU=>by kernel_rfl) (fun U hU=>(wZ (x.2.2) (y.2.2) U).mono fun e w2 q=>⟨q.1,q.2 ▸ hU⟩) ?_;refine gy (Z7 g0 0)<|Zj rfl ⟨g0,0,none⟩ (Z9 x.1) (fun U hU=>La hU.1)<|gy (Z7 (g0+1) 0)<|Zj rfl ⟨g0+1,0,none⟩ (Z9 y.1) (fun U hU=>La hU.2.1) ?_;refine Zz (by kernel_rfl) (some 19) rfl 107 #[Z9 x.1,Z9 y.1] (Z9 (YD x.1 y.1)) (fun U hU=>by kernel_rfl) (fun U hU=>(wZ (x.1) (y.1) U).mono fun e w2 q=>⟨q.1,q.2 ▸ hU⟩) ?_;simp only[pu];apply wpQuiet_nil;intro V hV;have HV:=Z8 (HG.out.trans hV.2.2);clear hV h1 h2;have CS:Cs (V.alloc (.cells #[Z9 (YD y.2.1 x.2.1),Z9 (YD x.2.2 y.2.2),Z9 (YD x.1 y.1)] 3)) (some ⟨V.heap.size,0,none⟩) (ZM [YD y.2.1 x.2.1,YD x.2.2 y.2.2,YD x.1 y.1]):=Cs.block (t:=3) (fr:=(0,0)) (heap_alloc_last V _);have CO:=JE [YD y.2.1 x.2.1,YD x.2.2 y.2.2,YD x.1 y.1] V.heap.size 3 _ (by simp) CS;rw[HF.out] at CO;have qj:=Z8 (HV.out.trans (Gd.alloc V (.cells #[Z9 (YD y.2.1 x.2.1),Z9 (YD x.2.2 y.2.2),Z9 (YD x.1 y.1)] 3)));refine YM (by kernel_rfl) (some 20) rfl 22 3 #[(0,.tmp 9),(1,.tmp 14),(2,.tmp 19)] rfl #[(0,Z9 (YD y.2.1 x.2.1)),(1,Z9 (YD x.2.2 y.2.2)),(2,Z9 (YD x.1 y.1))] (by kernel_rfl) (.slice (some ⟨V.heap.size,0,none⟩) 3 3) _ (GU _ _ _ V) ?_;simp only[pu];generalize V.alloc (.cells #[Z9 (YD y.2.1 x.2.1),Z9 (YD x.2.2 y.2.2),Z9 (YD x.1 y.1)] 3)=V2 at *
 refine Yd (Z9 R) (fun w9=>V2=w9) CO (fun w9 h9=>?_);simp only[pu];subst h9;refine ZN (Z9 R)<|wn ?_;simp only[pu];clear CS CO HF HV;go_wp2_with fail;go_ret;exact⟨rfl,qj.out⟩
theorem GY (x y:It)(w:World):Calls Tryz.prog 111 #[.agg (YS x),.agg (YS y)] w fun e w'=>e=.returned (.bool (bf x y))/\Gd w w':=by
 have HC:=Z8 (fun V=>DY x y V);have HL:=Z8 (IV x y);generalize Sj x y=R at *
 generalize bf x y=B at *
 obtain⟨hg,h1,h2⟩:=IL x y w;obtain⟨g0,e0⟩:=ZR w.heap.size;rw[e0] at h1 h2;go_enter Tryz.func111,Tryz.ntmps111;go_upto_region 1 with fail;change Code.wp _ _ _ _ ((w.alloc (.cells (YS x) 99)).alloc (.cells (YS y) 99));generalize (w.alloc (.cells (YS x) 99)).alloc (.cells (YS y) 99)=W at *
 clear e0;have HG:=Z8 hg;clear hg;refine wl<|Zq rfl ⟨g0,0,none⟩ (.agg (YS x)) (Qk h1)<|Zq rfl ⟨g0+1,0,none⟩ (.agg (YS y)) (Qk h2)<|Yd (Z9 R) (fun w9=>Gd W w9) (HC.out W) (fun V hV=>?_);refine YT (.bool B) (by rw[<- HL.out]; exact kT rfl R 0 (by kernel_rfl) (by kernel_rfl) _)<|ZN (.bool B)<|wn ?_;simp only[pu];have HV:=Z8 (HG.out.trans hV);clear hV h1 h2 HC HL;go_wp2_with fail;go_ret;exact⟨rfl,HV.out⟩
end Go.Proofs.YtnelmomagdcmnaaGreat.Hp
