/-
  Texts joined.
-/
import Derived.Test.YtnelmomagdcmnaaGreatJ15
set_option maxRecDepth 100000
set_option maxHeartbeats 8000000
set_option linter.unusedSimpArgs false
set_option linter.unusedVariables false
namespace Go.Proofs.YtnelmomagdcmnaaGreat.Sd
attribute [local irreducible] wpList wpQuiet
open Go.RowKit
section
variable {P : Program} {o : Oper} {a : Act} {w w2 : World}
theorem Yv (ty:TypeId)(x y:Operand)(b:Bool)(ho:o.op=.lookup ty x y b)(vx vy v:Value)(hx:a.eval x=vx)(hy:a.eval y=vy)(hr:(Instr.lookup ty vx vy b).run P w=.ok v w):(execOp a.eval o).run P w=.ok (.value v) w:=by
 unfold execOp;simp only[ho,hx,hy,Sem.run_bind,hr];rfl
theorem SI (ty:TypeId)(x y z:Operand)(ho:o.op=.mapUpdate ty x y z)(vx vy vz:Value)(hx:a.eval x=vx)(hy:a.eval y=vy)(hz:a.eval z=vz)(hr:(Instr.mapUpdate ty vx vy vz).run P w=.ok () w2):(execOp a.eval o).run P w=.ok .skip w2:=by
 unfold execOp;simp only[ho,hx,hy,hz,Sem.run_bind,hr];rfl
theorem SK (ty:TypeId)(ho:o.op=.makeMap ty none):(execOp a.eval o).run P w=.ok (.value (.map (some w.heap.size))) (w.alloc (.map #[] 0)):=by
 unfold execOp;simp only[ho];rfl
theorem NJ (x y:Operand)(t u:TypeId)(ho:o.op=.call { callee:=.builtin .delete,args:=#[x,y],argTypes:=#[t,u] })(vx vy v:Value)(hx:a.eval x=vx)(hy:a.eval y=vy)(hr:(Builtin.delete_ #[t,u] o.type #[vx,vy]).run P w=.ok v w2):(execOp a.eval o).run P w=.ok (.value v) w2:=by
 unfold execOp;simp only[ho,resolve,invoke,builtin,Sem.run_bind,Sem.run_pure,Result.andThen_ok,List.map_toArray,List.map_cons,List.map_nil,hx,hy,hr]
end
theorem UU {P:Program}{ops:Array Oper}{rest:List Oper}{o:Oper}{a:Act}{w:World}{Q:Exit->Act->World->Prop}(hw:Region.wanted o (yielded ops a.tmps)=true)(hd:o.dst=none)(w2:World)(hr:(execOp a.eval o).run P w=.ok .skip w2)(k:wpList P ops Q rest a w2):wpList P ops Q (o::rest) a w:=by
 apply wpList_step;intro K hK;rw[if_pos hw,Oper.wp,hr];refine hK _ _ ?_;rw[hd];exact k
theorem Xg {α β:Type}(f:α->β)(g:α->α)(g':β->β)(h:∀ x,f (g x)=g' (f x)):∀ (l:List α) (i:Nat),(l.modify i g).map f=(l.map f).modify i g'
 | [],i=>by cases i <;> rfl
 | x::r,0=>by simp[List.modify_cons,h]
 | x::r,i+1=>by simp[List.modify_cons,Xg f g g' h r i]
theorem Uz {α:Type}(l:List α)(i:Nat)(x:α)(g:α->α)(h:l[i]?=some x):l.modify i g=l.set i (g x):=by
 apply List.ext_getElem?;intro j;rw[List.getElem?_modify,List.getElem?_set];by_cases hj:i=j
 ·subst hj;obtain⟨hl,hv⟩:=List.getElem?_eq_some_iff.1 h;simp[hl,hv]
 ·simp[hj]
def XC (f:ByteArray->Option Value)(x:ByteArray)(v:Option Value):ByteArray->Option Value:=fun y=>if y=x then v else f y
def Mi (w:World)(B:Nat)(L:List (ByteArray×Value)):Prop:=
 ∃ es clock,w.heap[B]?=some (.map es clock)/\es.toList.map (fun e=>(e.key,e.val))=L.map (fun x=>(Value.string x.1,x.2))/\MapKept.Stamped es clock
def Y3 (x:ByteArray):List (ByteArray×Value)->Nat->Option (Nat×Value)
 | [],_=>none
 | p::r,i=>if p.1=x then some (i,p.2) else Y3 x r (i+1)
theorem YI {x:ByteArray}:∀ {L:List (ByteArray×Value)} {i j:Nat} {v:Value},Y3 x L i=some (j,v)->∃ k,j=i+k/\k<L.length/\L[k]?=some (x,v)
 | [],i,j,v,h=>by cases h
 | p::r,i,j,v,h=>by
  unfold Y3 at h;by_cases hp:p.1=x
  ·rw[if_pos hp] at h;simp only[Option.some.injEq,Prod.mk.injEq] at h;exact⟨0,by omega,by simp,by simp[<- hp,<- h.2]⟩
  ·rw[if_neg hp] at h;obtain⟨k,h1,h2,h3⟩:=YI h;exact⟨k+1,by omega,by simpa using h2,by simpa using h3⟩
theorem Yx {x:ByteArray}:∀ {L:List (ByteArray×Value)} {i:Nat},Y3 x L i=none↔∀ p∈L,p.1≠x
 | [],i=>by simp[Y3]
 | p::r,i=>by
  unfold Y3;by_cases hp:p.1=x
  ·simp[hp]
  ·rw[if_neg hp,Yx];simp[hp]
def Ue (L:List (ByteArray×Value))(x:ByteArray):Option Value:=(Y3 x L 0).map (·.2)
theorem Wv (x:ByteArray):∀ (L:List (ByteArray×Value)) (i j:Nat),(Y3 x L i).map (·.2)=(Y3 x L j).map (·.2)
 | [],i,j=>rfl
 | p::r,i,j=>by
  unfold Y3
  split
  ·rfl
  ·exact Wv x r _ _
theorem Zt (p:ByteArray×Value)(r:List (ByteArray×Value))(x:ByteArray):Ue (p::r) x=if p.1=x then some p.2 else Ue r x:=by
 unfold Ue;rw[Y3]
 split
 ·rfl
 ·exact Wv x r _ _
theorem Ud (x:ByteArray)(p:ByteArray×Value):∀ (L:List (ByteArray×Value)),(∀ q∈L,q.1≠p.1)->Ue (L++[p]) x=if x=p.1 then some p.2 else Ue L x
 | [],_=>by
  rw[List.nil_append,Zt];by_cases h:p.1=x
  ·rw[if_pos h,if_pos h.symm]
  ·rw[if_neg h,if_neg (fun e=>h e.symm)]
 | q::r,hq=>by
  have h1:=hq q (by simp);rw[List.cons_append,Zt,Ud x p r (fun z hz=>hq z (by simp[hz])),Zt];by_cases h:q.1=x
  ·rw[if_pos h,if_neg (fun e=>h1 (h.trans e)),if_pos h]
  ·rw[if_neg h,if_neg h]
theorem Uc (x k:ByteArray)(v u:Value):∀ (L:List (ByteArray×Value)) (j:Nat),L[j]?=some (k,u)->(L.map (·.1)).Nodup->Ue (L.set j (k,v)) x=if x=k then some v else Ue L x
 | [],j,h,_=>by simp at h
 | p::r,0,h,hn=>by
  simp only[List.getElem?_cons_zero,Option.some.injEq] at h;subst h;rw[List.set_cons_zero,Zt,Zt];by_cases h:k=x
  ·rw[if_pos h,if_pos h.symm]
  ·rw[if_neg h,if_neg (fun e=>h e.symm),if_neg h]
 | p::r,j+1,h,hn=>by
  rw[List.getElem?_cons_succ] at h;rw[List.map_cons,List.nodup_cons] at hn;have hpk:p.1≠k:=fun e=>hn.1 (by rw[e]; exact List.mem_map.2 ⟨(k,u),List.mem_of_getElem? h,rfl⟩);rw[List.set_cons_succ,Zt,Uc x k v u r j h hn.2,Zt];by_cases h1:p.1=x
  ·rw[if_pos h1,if_neg (fun e=>hpk (h1.trans e)),if_pos h1]
  ·rw[if_neg h1,if_neg h1]
theorem Vk {L:List (ByteArray×Value)}{x:ByteArray}(h:∀ p∈L,p.1≠x):Ue L x=none:=by
 unfold Ue;rw[Yx.2 h];rfl
theorem Ub (x k:ByteArray)(u:Value):∀ (L:List (ByteArray×Value)) (j:Nat),L[j]?=some (k,u)->(L.map (·.1)).Nodup->Ue (L.eraseIdx j) x=if x=k then none else Ue L x
 | [],j,h,_=>by simp at h
 | p::r,0,h,hn=>by
  simp only[List.getElem?_cons_zero,Option.some.injEq] at h;subst h;rw[List.map_cons,List.nodup_cons] at hn;rw[List.eraseIdx_cons_zero,Zt];by_cases h:k=x
  ·rw[if_pos h.symm];exact Vk fun q hq e=>hn.1 (List.mem_map.2 ⟨q,hq,e.trans h.symm⟩)
  ·rw[if_neg (fun e=>h e.symm),if_neg h]
 | p::r,j+1,h,hn=>by
  rw[List.getElem?_cons_succ] at h;rw[List.map_cons,List.nodup_cons] at hn;have hpk:p.1≠k:=fun e=>hn.1 (by rw[e]; exact List.mem_map.2 ⟨(k,u),List.mem_of_getElem? h,rfl⟩);rw[List.eraseIdx_cons_succ,Zt,Ub x k u r j h hn.2,Zt];by_cases h1:p.1=x
  ·rw[if_pos h1,if_neg (fun e=>hpk (h1.trans e)),if_pos h1]
  ·rw[if_neg h1,if_neg h1]
theorem YZ (w:World)(b:Bool)(x:ByteArray):(Instr.checkKey b 10000 9 (.string x)).run Tryz.prog w=.ok () w:=by
 rw[show(10000:Nat)=9999+1 from rfl,Instr.checkKey];simp[run_underlying Tryz.underlying9]
theorem Vj (x:ByteArray):∀ (es:List MapEntry) (L:List (ByteArray×Value)) (i:Nat),es.map (fun e=>(e.key,e.val))=L.map (fun x=>(Value.string x.1,x.2)) ->
  Instr.findNow .string (.string x) es i=some ((Y3 x L i).map fun p=>(p.1,p.2))
 | [],[],i,_=>by simp[Instr.findNow,Y3]
 | [],_::_,i,h=>by simp at h
 | _::_,[],i,h=>by simp at h
 | e::es,p::L,i,h=>by
  simp only[List.map_cons,List.cons.injEq,Prod.mk.injEq] at h;obtain⟨⟨h1,h2⟩,h3⟩:=h;have ih:=Vj x es L (i+1) h3;unfold Y3;rw[Instr.findNow,h1];simp only[Instr.sameNow];by_cases hx:p.1=x
  ·have:(x == p.1)=true:=(by rw[yI]; exact decide_eq_true hx.symm);simp[hx,h2,Ou]
  ·have:(x == p.1)=false:=(by rw[yI]; exact decide_eq_false fun h=>hx h.symm);simp[this,hx,ih]
theorem XV (w:World)(x:ByteArray)(es:List MapEntry)(L:List (ByteArray×Value))(h:es.map (fun e=>(e.key,e.val))=L.map (fun x=>(Value.string x.1,x.2))) :
  (Instr.findKey 9 (.string x) es).run Tryz.prog w=.ok ((Y3 x L 0).map fun p=>(p.1,p.2)) w:=by
 simp[Instr.findKey,run_underlying Tryz.underlying9,Vj x es L 0 h]
def BM (o:Option Value)(b:Bool):Value:=
 match o with
 | some v=>if b then .tuple #[v,ZX] else v
 | none=>if b then .tuple #[.slice none 0 0,ZY] else .slice none 0 0
theorem Ol {w:World}{B:Nat}{L:List (ByteArray×Value)}(h:Mi w B L)(x:ByteArray)(b:Bool):(Instr.lookup 157 (.map (some B)) (.string x) b).run Tryz.prog w=.ok (BM (Ue L x) b) w:=by
 obtain⟨es,c,hb,he,YM⟩:=h;have hu:(Go.underlying 157).run Tryz.prog w=.ok (.map 9 132) w:=run_underlying (by kernel_rfl) w;have hz:(zeroValue 132).run Tryz.prog w=.ok (.slice none 0 0) w:=by kernel_rfl
 have hr:=XV w x es.toList L he;unfold BM Ue;cases hf:Y3 x L 0 with
 | none=>
  rw[hf] at hr;cases b <;> simp[Instr.lookup,hu,MapKept.run_getObj_map hb,YZ w _ x,hr,hz,Result.andThen]
 | some p=>
  rw[hf] at hr;cases b <;> simp[Instr.lookup,hu,MapKept.run_getObj_map hb,YZ w _ x,hr,hz,Result.andThen]
theorem J9 {w:World}{B:Nat}{L:List (ByteArray×Value)}(h:Mi w B L)(x:ByteArray)(v:Value)(hn:Y3 x L 0=none) :
  ∃ w',(Instr.mapUpdate 157 (.map (some B)) (.string x) v).run Tryz.prog w=.ok () w'/\Mi w' B (L++[(x,v)])/\w'.heap.size=w.heap.size/\w.grownBy w' (some B):=by
 obtain⟨es,c,hb,he,YM⟩:=h;have hu:(Go.underlying 157).run Tryz.prog w=.ok (.map 9 132) w:=run_underlying (by kernel_rfl) w;have hr:=XV w x es.toList L he;rw[hn] at hr;have hlt:B<w.heap.size:=(Array.getElem?_eq_some_iff.1 hb).1;refine⟨{ w with heap:=w.heap.setIfInBounds B (.map (es.push { key:=.string x,val:=v,born:=c }) (c+1)) },
  by simp[Instr.mapUpdate,hu,MapKept.run_getObj_map hb,YZ w _ x,hr,MapKept.run_setObj_map _ hb,Result.andThen],⟨es.push { key:=.string x,val:=v,born:=c },c+1,by simp[hlt],by simp[he],MapKept.stamped_push YM fun y hy e=>?_⟩,by simp,rfl,rfl,rfl,by simp,fun i _ hi=>?_⟩
 ·have hm:(y.key,y.val)∈L.map (fun x=>(Value.string x.1,x.2)):=by rw[<- he]; exact List.mem_map.2 ⟨y,hy,rfl⟩
  obtain⟨q,hq,hq2⟩:=List.mem_map.1 hm;have h3:=congrArg Prod.fst hq2;simp only[e,Value.string.injEq] at h3;exact Yx.1 hn q hq h3
 ·have hne:B≠i:=fun e=>hi (by rw[e]);simp[Array.getElem?_setIfInBounds_ne hne]
theorem J8 {w:World}{B:Nat}{L:List (ByteArray×Value)}(h:Mi w B L)(x:ByteArray)(v u:Value)(j:Nat)(hn:Y3 x L 0=some (j,u)) :
  ∃ w',(Instr.mapUpdate 157 (.map (some B)) (.string x) v).run Tryz.prog w=.ok () w'/\Mi w' B (L.set j (x,v))/\w'.heap.size=w.heap.size/\w.grownBy w' (some B):=by
 obtain⟨es,c,hb,he,YM⟩:=h;have hu:(Go.underlying 157).run Tryz.prog w=.ok (.map 9 132) w:=run_underlying (by kernel_rfl) w;have hr:=XV w x es.toList L he;rw[hn] at hr;have hlt:B<w.heap.size:=(Array.getElem?_eq_some_iff.1 hb).1;obtain⟨k,hj,hkl,hg⟩:=YI hn;obtain rfl:j=k:=by omega
 have hlen:es.size=L.length:=by
  have:=congrArg List.length he;simpa using this
 have hes:j<es.size:=by omega
 have hkey:es[j].key=.string x:=by
  have h1:=congrArg (fun l=>l[j]?) he;simp only[List.getElem?_map,hg,Array.getElem?_toList,Array.getElem?_eq_getElem hes,Option.map_some,Option.some.injEq,Prod.mk.injEq] at h1;exact h1.1
 have hsb:Instr.sameBits 10000 (.string x) (.string x)=true:=by
  rw[show(10000:Nat)=9999+1 from rfl];simp[Instr.sameBits,Ou]
 have hst:(Instr.keyThatStays (((es[j]?).map (·.key)).getD (.string x)) (.string x)).run Tryz.prog w=.ok (.string x) w:=by
  simp only[Array.getElem?_eq_getElem hes,Option.map_some,Option.getD_some,hkey,Instr.keyThatStays,hsb,if_true];rfl
 refine⟨{ w with heap:=w.heap.setIfInBounds B (.map (es.modify j fun e=>{ e with key:=.string x,val:=v }) c) },
  by simp only[Instr.mapUpdate,Sem.run_bind,hu,MapKept.run_getObj_map hb,YZ w _ x,hr,Option.map_some,hst,MapKept.run_setObj_map _ hb,Result.andThen],⟨es.modify j fun e=>{ e with key:=.string x,val:=v },c,by simp[hlt],?_,MapKept.stamped_modify YM j _ (fun _ _=>rfl) fun e _ he2=>by rw[Array.getElem?_eq_getElem hes] at he2; cases he2; exact hkey.symm⟩,by simp,rfl,rfl,rfl,by simp,fun i _ hi=>?_⟩
 ·rw[Array.toList_modify,Xg (fun e:MapEntry=>(e.key,e.val)) _ (fun _=>(Value.string x,v)) (fun _=>rfl),he,
   Uz _ j (Value.string x,u) _ (by simp[hg]),List.map_set]
 ·have hne:B≠i:=fun e=>hi (by rw[e]);simp[Array.getElem?_setIfInBounds_ne hne]
theorem YF {α β:Type}(f:α->β):∀ (l:List α) (i:Nat),(l.eraseIdx i).map f=(l.map f).eraseIdx i
 | [],i=>by simp
 | x::r,0=>by simp
 | x::r,i+1=>by simp[YF f r i]
theorem J7 {w:World}{B:Nat}{L:List (ByteArray×Value)}(h:Mi w B L)(x:ByteArray)(ty:TypeId) :
  ∃ w',(Builtin.delete_ #[157,9] ty #[.map (some B),.string x]).run Tryz.prog w=.ok (.tuple #[]) w'/\Mi w' B (match Y3 x L 0 with | some (j,_)=>L.eraseIdx j | none=>L)/\w'.heap.size=w.heap.size/\w.grownBy w' (some B):=by
 obtain⟨es,c,hb,he,YM⟩:=h;have hu:(Go.underlying 157).run Tryz.prog w=.ok (.map 9 132) w:=run_underlying (by kernel_rfl) w;have hr:=XV w x es.toList L he;have hlt:B<w.heap.size:=(Array.getElem?_eq_some_iff.1 hb).1;have hg:∀ o:Obj,w.grownBy { w with heap:=w.heap.setIfInBounds B o } (some B):=fun o=>⟨rfl,rfl,rfl,by simp,fun i _ hi=>by
  have hne:B≠i:=fun e=>hi (by rw[e]);simp[Array.getElem?_setIfInBounds_ne hne]⟩
 cases hf:Y3 x L 0 with
 | none=>
  rw[hf] at hr;exact⟨{ w with heap:=w.heap.setIfInBounds B (.map es c) },by simp[Builtin.delete_,hu,MapKept.run_getObj_map hb,YZ w _ x,hr,MapKept.run_setObj_map _ hb,Result.andThen],⟨es,c,by simp[hlt],he,YM⟩,by simp,hg _⟩
 | some p=>
  rw[hf] at hr;obtain⟨k,hj,hkl,-⟩:=YI (show Y3 x L 0=some (p.1,p.2) from hf);have hlen:es.size=L.length:=by
   have:=congrArg List.length he;simpa using this
  refine⟨{ w with heap:=w.heap.setIfInBounds B (.map (es.eraseIdxIfInBounds p.1) c) },by simp[Builtin.delete_,hu,MapKept.run_getObj_map hb,YZ w _ x,hr,MapKept.run_setObj_map _ hb,Result.andThen],⟨es.eraseIdxIfInBounds p.1,c,by simp[hlt],?_,MapKept.stamped_erase YM _⟩,by simp,hg _⟩;have hin:p.1<es.size:=by omega
  show(es.eraseIdxIfInBounds p.1).toList.map _=(L.eraseIdx p.1).map _;rw[Array.eraseIdxIfInBounds,dif_pos hin,Array.toList_eraseIdx,YF,he,YF]
def Mf (w:World)(B:Nat)(f:ByteArray->Option Value):Prop:=∃ L,Mi w B L/\(L.map (·.1)).Nodup/\∀ x,Ue L x=f x
theorem Mf.lt {w:World}{B:Nat}{f:ByteArray->Option Value}(h:Mf w B f):B<w.heap.size:=by
 obtain⟨L,⟨es,c,h1,-⟩,-⟩:=h;exact(Array.getElem?_eq_some_iff.1 h1).1
theorem Mf.same {w w':World}{B:Nat}{f:ByteArray->Option Value}(h:Mf w B f)(hs:w'.heap[B]?=w.heap[B]?):Mf w' B f:=by
 obtain⟨L,⟨es,c,h1,h2⟩,h3⟩:=h;exact⟨L,⟨es,c,hs.trans h1,h2⟩,h3⟩
theorem Mf.new (w:World):Mf (w.alloc (.map #[] 0)) w.heap.size fun _=>none:=⟨[],⟨#[],0,heap_alloc_last w _,rfl,MapKept.stamped_empty 0⟩,by simp,fun _=>rfl⟩
theorem Mf.look {w:World}{B:Nat}{f:ByteArray->Option Value}(h:Mf w B f)(x:ByteArray)(b:Bool):(Instr.lookup 157 (.map (some B)) (.string x) b).run Tryz.prog w=.ok (BM (f x) b) w:=by
 obtain⟨L,h1,-,h3⟩:=h;rw[<- h3 x];exact Ol h1 x b
theorem Mf.put {w:World}{B:Nat}{f:ByteArray->Option Value}(h:Mf w B f)(x:ByteArray)(v:Value) :
  ∃ w',(Instr.mapUpdate 157 (.map (some B)) (.string x) v).run Tryz.prog w=.ok () w'/\Mf w' B (XC f x (some v))/\w'.heap.size=w.heap.size/\w.grownBy w' (some B):=by
 obtain⟨L,h1,h2,h3⟩:=h;cases hf:Y3 x L 0 with
 | none=>
  have hno:=Yx.1 hf;obtain⟨w',hr,hm,hz,hg⟩:=J9 h1 x v hf;refine⟨w',hr,⟨_,hm,?_,fun y=>?_⟩,hz,hg⟩
  ·rw[List.map_append,List.nodup_append];refine⟨h2,by simp,fun a ha b hb e=>?_⟩;obtain⟨q,hq,rfl⟩:=List.mem_map.1 ha;simp only[List.map_cons,List.map_nil,List.mem_singleton] at hb;exact hno q hq (e.trans hb)
  ·rw[Ud y (x,v) L hno,h3 y];rfl
 | some p=>
  obtain⟨w',hr,hm,hz,hg⟩:=J8 h1 x v p.2 p.1 hf;obtain⟨k,hj,hkl,hgt⟩:=YI (show Y3 x L 0=some (p.1,p.2) from hf);have hk:p.1=k:=by omega
  rw[<- hk] at hgt;refine⟨w',hr,⟨_,hm,?_,fun y=>?_⟩,hz,hg⟩
  ·have e:(L.set p.1 (x,v)).map (·.1)=L.map (·.1):=by
    rw[List.map_set];apply List.ext_getElem?;intro i;rw[List.getElem?_set];by_cases hi:p.1=i
    ·subst hi;simp[hgt];omega
    ·rw[if_neg hi]
   rw[e];exact h2
  ·rw[Uc y x v p.2 L p.1 hgt h2,h3 y];rfl
theorem Mf.del {w:World}{B:Nat}{f:ByteArray->Option Value}(h:Mf w B f)(x:ByteArray)(ty:TypeId) :
  ∃ w',(Builtin.delete_ #[157,9] ty #[.map (some B),.string x]).run Tryz.prog w=.ok (.tuple #[]) w'/\Mf w' B (XC f x none)/\w'.heap.size=w.heap.size/\w.grownBy w' (some B):=by
 obtain⟨L,h1,h2,h3⟩:=h;obtain⟨w',hr,hm,hz,hg⟩:=J7 h1 x ty;refine⟨w',hr,?_,hz,hg⟩;cases hf:Y3 x L 0 with
 | none=>
  rw[hf] at hm;refine⟨L,hm,h2,fun y=>?_⟩;rw[h3 y];unfold XC;by_cases e:y=x
  ·rw[if_pos e,e,<- h3 x];exact Vk (Yx.1 hf)
  ·rw[if_neg e]
 | some p=>
  rw[hf] at hm;obtain⟨k,hj,hkl,hgt⟩:=YI (show Y3 x L 0=some (p.1,p.2) from hf);have hk:p.1=k:=by omega
  rw[<- hk] at hgt;refine⟨_,hm,?_,fun y=>?_⟩
  ·rw[YF];exact h2.sublist (List.eraseIdx_sublist _ _)
  ·rw[Ub y x p.2 L p.1 hgt h2,h3 y];rfl
def XJ (x y:Int):Int:=if x<y then -1 else if y<x then 1 else 0
def Gu (x y:Int):Bool:=decide (x<y)
theorem ap2 (x y:Int):decide (XJ x y<0)=Gu x y:=by
 unfold Gu XJ;refine decide_eq_decide.2 ?_
 split
 ·omega
 ·split <;> omega
theorem ap3 (x y:Int):decide (XJ x y=0)=decide (x=y):=by
 unfold XJ;refine decide_eq_decide.2 ?_
 split
 ·omega
 ·split <;> omega
theorem qy {a b c:Int}(h:Gu a b=true)(g:Gu b c=true):Gu a c=true:=decide_eq_true (Int.lt_trans (of_decide_eq_true h) (of_decide_eq_true g))
def Xy (A:List Eo)(j:Nat):Eo:=A.getD j VB
def Ew (A:List Eo):Prop:=∀ i j,i<j->j<A.length->Gu (Xy A i).1 (Xy A j).1=true
theorem jA {A:List Eo}(h:UQ A):Ew A:=fun i j hij hj=>by
 have:=List.pairwise_iff_getElem.1 h i j (by omega) hj hij;unfold Xy;rw[getD_lt A i VB (by omega),getD_lt A j VB hj];exact decide_eq_true this
theorem QN {w:World}{a:Option Addr}{L:List Eo}(h:Cs w a (encs L)){i:Nat}(hi:i<L.length):∃ b off,a=some ⟨b,off,none⟩/\b<w.heap.size/\w.rangeAt b (off+i*2) (Yc (Xy L i)):=uH h hi
theorem MF {A:List Eo}{j:Nat}(h:j<A.length):Xy A j∈A:=by unfold Xy; rw[getD_lt A j VB h]; exact List.getElem_mem h
theorem qx {A:List Eo}(hs:Ew A){i:Nat}(hi:i<=A.length){q:Int}(h1:∀ t,t<i->Gu (Xy A t).1 q=true)(h2:∀ t,i<=t->t<A.length->Gu (Xy A t).1 q=false):i=Zw A q/\Vm A q=decide (i<A.length/\(Xy A i).1=q):=by
 have hA:∀ e∈A.take i,e.1<q:=fun e he=>by
  obtain⟨t,ht,rfl⟩:=List.mem_take_iff_getElem.1 he;have:=h1 t (by omega);unfold Xy at this;rw[getD_lt A t VB (by omega)] at this;exact of_decide_eq_true this
 have hB:∀ e∈A.drop i,q<=e.1:=fun e he=>by
  obtain⟨t,ht,rfl⟩:=List.mem_drop_iff_getElem.1 he;have h3:=h2 (i+t) (by omega) (by omega);unfold Xy at h3;rw[getD_lt A (i+t) VB (by omega)] at h3;have h4:=of_decide_eq_false h3;exact Int.not_lt.1 h4
 refine⟨?_,?_⟩
 ·conv=>rhs; rw[<- List.take_append_drop i A]
  rw[PE hA hB,List.length_take]; omega
 ·unfold Vm;rw[Bool.eq_iff_iff,decide_eq_true_iff,List.any_eq_true];simp only[decide_eq_true_eq];constructor
  ·rintro⟨e,he,rfl⟩;obtain⟨t,ht,rfl⟩:=List.mem_iff_getElem.1 he;have e2:(Xy A t)=A[t]:=(by unfold Xy; exact getD_lt A t VB ht);rcases Nat.lt_or_ge t i with h3 | h3
   ·have:=of_decide_eq_true (h1 t h3);rw[e2] at this; omega
   ·rcases Nat.lt_or_ge i t with h4 | h4
    ·have h5:=of_decide_eq_true (hs i t h4 ht);have h6:=of_decide_eq_false (h2 i (Nat.le_refl _) (by omega));rw[e2] at h5; omega
    ·obtain rfl:i=t:=(by omega);exact⟨ht,by rw[e2]⟩
  ·rintro⟨h3,h4⟩;exact⟨_,MF h3,h4⟩
theorem Ep (x:Int)(w:World):Calls Tryz.prog 142 #[ZV x] w fun e w'=>e=.returned ZY/\w=w':=by
 go_enter Tryz.func142,Tryz.ntmps142;go_upto_region 1 with fail;refine wl<|ZB (ZV x) (ZV x)<|Zg (am3 rfl x x (decide_eq_false (fun h=>h rfl)))<|ZQ ZY<|wn ?_;simp only[pu];go_wp2_with fail;go_ret;exact⟨rfl,rfl⟩
theorem zJ (a b:Int)(w:World):Calls Tryz.prog 106 #[ZV a,ZV b] w fun e w'=>e=.returned (Z9 (XJ a b))/\w=w':=by
 have C1:=Ep a w;have C2:=Ep b w;obtain⟨q,hq⟩:=ZR (XJ a b);have HQ:Hid ((a<b->q=-1)/\(¬ a<b->b<a->q=1)/\(¬ a<b->¬ b<a->q=0)):=Z8 ⟨fun h=>by rw[<- hq]; exact if_pos h,fun h h2=>by rw[<- hq]; unfold XJ; rw[if_neg h,if_pos h2],fun h h2=>by rw[<- hq]; unfold XJ; rw[if_neg h,if_neg h2]⟩;rw[hq];clear hq;go_enter Tryz.func106,Tryz.ntmps106;go_upto_region 1 with fail;refine wl<|ZQ (ZV a)<|YD ZY (fun w'=>w=w') (C1) (fun V9 XZ=>?_);subst XZ;refine ZQ ZY<|wn ?_;simp only[pu];go_upto_region 2 with fail;refine wl<|ZQ (ZV b)<|YD ZY (fun w'=>w=w') (C2) (fun V9 XZ=>?_);subst XZ;refine ZQ ZY<|wn ?_;simp only[pu];clear C1 C2;go_upto_region 3 with fail;refine wl<|ZQ ZY<|wn ?_;simp only[pu];go_upto_region 7 with fail;refine wl<|ZQ ZY<|wn ?_;simp only[pu];by_cases h1:a<b
 ·obtain rfl:=HQ.out.1 h1;go_upto_region 9 with fail;refine wl<|ZB (ZV a) (ZV b)<|Zg (QZ rfl a b (decide_eq_true h1))<|wn ?_;simp only[pu];go_upto_region 10 with fail;refine wl<|ZQ (Z9 (-1))<|wn ?_;simp only[pu];go_wp2_with fail;go_ret;exact⟨rfl,rfl⟩
 ·go_upto_region 9 with fail;refine wl<|ZB (ZV a) (ZV b)<|Zg (QZ rfl a b (decide_eq_false h1))<|wn ?_;simp only[pu];by_cases h2:b<a
  ·obtain rfl:=HQ.out.2.1 h1 h2;go_upto_region 11 with fail;refine wl<|ZB (ZV a) (ZV b)<|Zg (KH rfl a b (decide_eq_true h2))<|wn ?_;simp only[pu];go_upto_region 12 with fail;refine wl<|ZQ (Z9 1)<|wn ?_;simp only[pu];go_wp2_with fail;go_ret;exact⟨rfl,rfl⟩
  ·obtain rfl:=HQ.out.2.2 h1 h2;go_upto_region 11 with fail;refine wl<|ZB (ZV a) (ZV b)<|Zg (KH rfl a b (decide_eq_false h2))<|wn ?_;simp only[pu];go_upto_region 13 with fail;refine wl<|ZQ (Z9 0)<|wn ?_;simp only[pu];go_wp2_with fail;go_ret;exact⟨rfl,rfl⟩
theorem Em (x:Eo)(s:Int)(w:World):Calls Tryz.prog 113 #[.agg (ZO x),ZV s] w fun e w'=>e=.returned (Z9 (XJ x.1 s))/\Below w.heap.size w w':=by
 have hb0:Below w.heap.size w (w.alloc (.cells (ZO x) 168)):=(Below.refl _ w).alloc (Nat.le_refl _) _;have hX:Bx (w.alloc (.cells (ZO x) 168)) w.heap.size (ZO x) 168:=heap_alloc_last w _;have CB:=zJ x.1 s (w.alloc (.cells (ZO x) 168));obtain⟨q,hq⟩:=ZR (XJ x.1 s);rw[hq] at CB ⊢;clear hq;go_enter Tryz.func113,Tryz.ntmps113;go_upto_region 1 with fail;change Code.wp _ _ _ _ (w.alloc (.cells (ZO x) 168));generalize w.alloc (.cells (ZO x) 168)=W at *
 have HB:=Z8 hb0;clear hb0;refine wl<|ZQ (Z7 w.heap.size 0)<|ZC rfl ⟨w.heap.size,0,none⟩ (ZV x.1) (hX.ZM 0)<|ZQ (ZV s)<|YD (Z9 q) (fun w'=>W=w') (CB) (fun V9 XZ=>?_);subst XZ;refine ZQ (Z9 q)<|wn ?_;simp only[pu];clear CB hX;go_wp2_with fail;go_ret;exact⟨rfl,HB.out⟩
theorem GZ {ρ:Operand->Value}{o:Oper}{x:Operand}(ho:o.op=.convert 3 185 x)(a:Nat)(h:a<=9223372036854775807)(hx:ρ x=Z9 a)(w:World):(execOp ρ o).run Tryz.prog w=.ok (.value (ZV a)) w:=by
 have e:IntKind.u64.wrap (a:Int)=a:=by rw[IntKind.wrap_u64]; omega
 unfold execOp;simp only[ho,hx];go_simp
theorem GY {ρ:Operand->Value}{o:Oper}{x:Operand}(ho:o.op=.convert 185 3 x)(a:Nat)(h:a<=9223372036854775807)(hx:ρ x=ZV a)(w:World):(execOp ρ o).run Tryz.prog w=.ok (.value (Z9 a)) w:=by
 have e:IntKind.i64.wrap (a:Int)=a:=by rw[IntKind.wrap_i64]; omega
 unfold execOp;simp only[ho,hx];go_simp
theorem BF {ρ:Operand->Value}{o:Oper}{x y:Operand}(ho:o.op=.binOp .shr 185 x y 185)(a:Nat)(h:a<=9223372036854775807)(hx:ρ x=ZV a)(hy:ρ y=ZV 1)(w:World):(execOp ρ o).run Tryz.prog w=.ok (.value (ZV (a / 2:Nat))) w:=by
 unfold execOp;simp only[ho,hx,hy];go_simp
theorem ae5 (a:Option Addr)(k:Nat)(A:List Eo)(s:Int)(w:World)(hR:Cs w a (encs A))(hs:Ew A)(hn:A.length<=1000000) :
  Calls Tryz.prog 112 #[.slice a A.length k,ZV s,.func (.func 113) #[] #[]] w fun e w'=>e=.returned (.tuple #[Z9 (Zw A s),.bool (Vm A s)])/\Below w.heap.size w w':=by
 have HA:=Z8 hR;have Af:=Z8 (fun i=>ap2 (Xy A i).1 s);have HEQ:=Z8 (fun i=>ap3 (Xy A i).1 s);have HS:=Z8 hs;obtain⟨n,hnn⟩:=ZR A.length;have HN:=Z8 hnn;have fZ:Hid (n<=1000000):=Z8 (by omega);obtain⟨lL,qw⟩:=ZR (Zw A s);obtain⟨fF,nM⟩:=ZR (Vm A s);have nO:Hid (∀ i,i<=n->(∀ t,t<i->Gu (Xy A t).1 s=true)->(∀ t,i<=t->t<n->Gu (Xy A t).1 s=false)->i=lL/\fF=decide (i<n/\(Xy A i).1=s)):=Z8 fun i h1 h2 h3=>by
  have e:=qx hs (i:=i) (by omega) h2 (fun t h4 h5=>h3 t h4 (by omega));rw[<- qw,<- nM,<- hnn];exact e
 rw[hnn,qw,nM];clear qw nM hR hs hn hnn;go_enter Tryz.func112,Tryz.ntmps112;go_upto_region 1 with fail;refine wl<|YX (.slice a n k) (Z9 n) (Z9 n)<|wn ?_;simp only[pu];go_upto_region 2 with fail;refine wl<|YX (Z9 n) (Z9 0) (Z9 n)<|wn ?_;simp only[pu];go_wp2_with fail;go_loopg [9,10] n (fun gg s9 s10 wx=>∃ i j:Nat,s9=Z9 i/\s10=Z9 j/\i<=j/\j<=n/\Hid ((∀ t,t<i->Gu (Xy A t).1 s=true)/\(∀ t,j<=t->t<n->Gu (Xy A t).1 s=false))/\Hid (Below w.heap.size w wx)/\j-i=gg)
 case atStart=>exact⟨0,n,rfl,rfl,by omega,by omega,Z8 ⟨fun t h=>by omega,fun t h h2=>by omega⟩,Z8 (Below.refl _ _),by omega⟩
 case round=>
  obtain⟨i,j,rfl,rfl,hij,hjn,HO,HB,hg⟩:=hrel;have OZ:=fZ.out;by_cases hlt:i<j
  ·go_upto_region 3 with fail;refine wl<|ZB (Z9 i) (Z9 j)<|Zg (ZG rfl (i) (j) dT)<|wn ?_;simp only[pu];go_upto_region 4 with fail;refine wl<|ZB (Z9 i) (Z9 j)<|Yd (Z9 (i+j:Nat)) (Yk rfl i j (by omega))<|Za (ZV (i+j:Nat)) (GZ rfl (i+j) (by omega) (by kernel_rfl) _) <|
    Yd (ZV ((i+j) / 2:Nat)) (BF rfl (i+j) (by omega))<|Za (Z9 ((i+j) / 2:Nat)) (GY rfl ((i+j) / 2) (by omega) (by kernel_rfl) _)<|ZQ (Z9 ((i+j) / 2:Nat))<|wn ?_
   simp only[pu];obtain⟨h,hh⟩:=ZR ((i+j) / 2);have HH:Hid (i<=h/\h<j):=Z8 (by omega);have hhn:h<n:=(by have:=HH.out; omega);rw[hh];clear hh;obtain⟨b,off,rfl,-,hrx⟩:=QN (HA.out.below HB.out) (i:=h) (by rw[HN.out]; exact hhn);have Vf:=Z8 (ZE hrx);have hl1:=Af.out h;generalize hy:Xy A h=y at *
   have CP:=Em y s wr;obtain⟨q,hq⟩:=ZR (XJ y.1 s);rw[hq] at CP hl1;have HY:=Z8 hy;have HG:=Z8 hg;clear hrx hq hy hg;go_upto_region 5 with fail;by_cases hqq:q<0
   ·rw[decide_eq_true hqq] at hl1;refine wl<|YX (.func (.func 113) #[] #[]) (.slice (some ⟨b,off,none⟩) n k) (Z9 h)<|Za (Z7 b (off+h*2)) (Zo b off n k h hhn _ _ _ rfl (by kernel_rfl) (by kernel_rfl))<|ZC rfl ⟨b,off+h*2,none⟩ (.agg (ZO y)) (Vf.out) <|
     ZQ (ZV s)<|YD (Z9 q) (fun w'=>Below wr.heap.size wr w') (CP) (fun V9 XZ=>?_)
    have UK:=Z8 (HB.out.trans (XZ.mono HB.out.size));refine Zg (ZG rfl (q) (0) (decide_eq_true (hqq)))<|wn ?_;simp only[pu];clear XZ HB Vf CP hqq;have JI:Hid ((∀ t,t<h+1->Gu (Xy A t).1 s=true)/\(∀ t,j<=t->t<n->Gu (Xy A t).1 s=false)):=Z8 ⟨fun t ht=>(by rcases Nat.lt_or_ge t h with h7 | h7; exact qy (HS.out t h h7 (by rw[HN.out]; exact hhn)) (by rw[HY.out]; exact hl1.symm); have e7:t=h:=(by omega); rw[e7,HY.out]; exact hl1.symm),HO.out.2⟩;go_upto_region 6 with fail;refine wl<|ZQ (Z9 h)<|Yd (Z9 (h+1:Nat)) (Yk rfl h 1 (by omega))<|ZQ (Z9 (h+1:Nat))<|wn ?_;simp only[pu];clear HO hl1;go_wp2_with fail;go_roundg (j-(h+1))
    case measure=>have:=HG.out; have:=HH.out; omega
    case rel=>exact⟨h+1,j,rfl,rfl,by have:=HH.out; omega,hjn,JI,UK,rfl⟩
   ·rw[decide_eq_false hqq] at hl1;refine wl<|YX (.func (.func 113) #[] #[]) (.slice (some ⟨b,off,none⟩) n k) (Z9 h)<|Za (Z7 b (off+h*2)) (Zo b off n k h hhn _ _ _ rfl (by kernel_rfl) (by kernel_rfl))<|ZC rfl ⟨b,off+h*2,none⟩ (.agg (ZO y)) (Vf.out) <|
     ZQ (ZV s)<|YD (Z9 q) (fun w'=>Below wr.heap.size wr w') (CP) (fun V9 XZ=>?_)
    have UK:=Z8 (HB.out.trans (XZ.mono HB.out.size));refine Zg (ZG rfl (q) (0) (decide_eq_false (hqq)))<|wn ?_;simp only[pu];clear XZ HB Vf CP hqq;have JI:Hid ((∀ t,t<i->Gu (Xy A t).1 s=true)/\(∀ t,h<=t->t<n->Gu (Xy A t).1 s=false)):=Z8 ⟨HO.out.1,fun t ht htn=>(by have h0:Gu (Xy A h).1 s=false:=(by rw[HY.out]; exact hl1.symm); rcases Nat.lt_or_ge h t with h7 | h7; have h8:=HS.out h t h7 (by rw[HN.out]; exact htn); by_cases h9:Gu (Xy A t).1 s=true; rw[qy h8 h9] at h0; cases h0; simpa using h9; have e7:t=h:=(by omega); rw[e7]; exact h0)⟩;go_upto_region 7 with fail;refine wl<|ZB (Z9 h) (Z9 h)<|wn ?_;simp only[pu];clear HO hl1;go_wp2_with fail;go_roundg (h-i)
    case measure=>have:=HG.out; have:=HH.out; omega
    case rel=>exact⟨i,h,rfl,rfl,by have:=HH.out; omega,by have:=HH.out; omega,JI,UK,rfl⟩
  ·obtain rfl:i=j:=(by omega);obtain⟨hil,nK⟩:=nO.out i hjn HO.out.1 HO.out.2;subst hil;clear HO nO hg hij;by_cases hin:i<n
   ·obtain⟨b,off,rfl,-,hrx⟩:=QN (HA.out.below HB.out) (i:=i) (by rw[HN.out]; exact hin);have Vf:=Z8 (ZE hrx);have hl1:=HEQ.out i;have jr:fF=decide ((Xy A i).1=s):=(by rw[nK,decide_eq_decide]; exact⟨fun h=>h.2,fun h=>⟨hin,h⟩⟩);clear nK;generalize Xy A i=y at *
    rw[<- hl1] at jr;have CP:=Em y s wr;obtain⟨q,hq⟩:=ZR (XJ y.1 s);rw[hq] at CP jr;have FT:=Z8 jr.symm;clear hrx hq hl1 jr;go_upto_region 3 with fail;refine wl<|ZB (Z9 i) (Z9 i)<|Zg (ZG rfl (i) (i) dF)<|wn ?_;simp only[pu];go_upto_region 8 with fail;refine wl<|YX (Z9 i) (Z9 i) (Z9 n)<|Zg (ZG rfl (i) (n) dT)<|Qc ZX (.func (.func 113) #[] #[]) (.slice (some ⟨b,off,none⟩) n k) (Z9 i) <|
     Za (Z7 b (off+i*2)) (Zo b off n k i hin _ _ _ rfl (by kernel_rfl) (by kernel_rfl))<|ZC rfl ⟨b,off+i*2,none⟩ (.agg (ZO y)) (Vf.out)<|ZQ (ZV s)<|YD (Z9 q) (fun w'=>Below wr.heap.size wr w') (CP) (fun V9 XZ=>?_)
    have UK:=Z8 (HB.out.trans (XZ.mono HB.out.size));refine Yd (.bool fF) (XY rfl q 0 FT.out)<|YX (.bool fF) (Z9 i) (.bool fF)<|wn ?_;simp only[pu];clear XZ HB Vf CP FT;go_wp2_with fail;go_ret2;exact⟨rfl,UK.out⟩
   ·rw[decide_eq_false (fun h=>hin h.1)] at nK;subst nK;go_upto_region 3 with fail;refine wl<|ZB (Z9 i) (Z9 i)<|Zg (ZG rfl (i) (i) dF)<|wn ?_;simp only[pu];go_upto_region 8 with fail;refine wl<|YX (Z9 i) (Z9 i) (Z9 n)<|Zg (ZG rfl (i) (n) dF)<|Ia ZY undef undef undef undef undef<|Ia undef undef undef ZY (Z9 i) ZY <|
     wpList_nil ?_
    simp only[pu];go_wp2_with fail;go_ret2;exact⟨rfl,HB.out⟩
theorem MB (a:Option Addr)(k:Nat)(A:List Eo)(s:Int)(w:World)(hR:Cs w a (encs A))(hs:Ew A)(hn:A.length<=1000000) :
  Calls Tryz.prog 88 #[.slice a A.length k,ZV s] w fun e w'=>e=.returned (.tuple #[Z9 (Zw A s),.bool (Vm A s)])/\Below w.heap.size w w':=by
 have CB:=ae5 a k A s w hR hs hn;obtain⟨lL,qw⟩:=ZR (Zw A s);obtain⟨fF,nM⟩:=ZR (Vm A s);rw[qw,nM] at CB ⊢;generalize A.length=n at *
 clear qw nM hR hs hn;go_enter Tryz.func88,Tryz.ntmps88;go_upto_region 1 with fail;refine wl<|ZB (.slice a n k) (ZV s)<|YD (.tuple #[Z9 lL,.bool fF]) (fun w'=>Below w.heap.size w w') (CB) (fun V9 XZ=>?_);have UK:=Z8 XZ;refine Qc (Z9 lL) (.bool fF) (Z9 lL) (.bool fF)<|wn ?_;simp only[pu];clear XZ CB;go_wp2_with fail;go_ret2;exact⟨rfl,UK.out⟩
theorem QM {w:World}{B:Nat}{v:Value}{E:List Eo}(h:Zz w B v E)(hs:UQ E)(hl:E.length<=1000000)(q:Int):Calls Tryz.prog 88 #[v,ZV q] w fun e w'=>e=.returned (.tuple #[Z9 (Zw E q),.bool (Vm E q)])/\Below w.heap.size w w':=by
 obtain⟨a,c,rfl,h1,-⟩:=h.cs;exact MB a c E q w h1 (jA hs) hl
end Go.Proofs.YtnelmomagdcmnaaGreat.Sd
