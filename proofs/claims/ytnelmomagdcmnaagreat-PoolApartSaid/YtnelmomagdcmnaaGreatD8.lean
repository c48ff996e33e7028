/-
  Texts joined.
-/
import Derived.Test.YtnelmomagdcmnaaGreatD7
import Derived.Maps.Own
import Derived.Shelf.SlIterI.Nil
import Derived.Shelf.SortM.Plain
import Derived.Shelf.SortM.SortNone
import Derived.StringKeys
set_option maxRecDepth 100000
set_option maxHeartbeats 8000000
set_option linter.unusedSimpArgs false
set_option linter.unusedVariables false
namespace Go.Proofs.YtnelmomagdcmnaaGreat
attribute [local irreducible] wpList wpQuiet
open Go.RowKit
def late (now than lim:Int):Bool:=decide (0<lim/\than<now/\lim<now-than)
section
variable {ρ : Operand -> Value} {o : Oper} {x y : Operand}
end
theorem Am (k:Nat->Int):∀ u∈Ht k,u.oneCell'=true:=List.all_eq_true.1 (show(Ht k).all (·.oneCell')=true by kernel_rfl)
theorem Ak (k:Nat->Int):(Ht k).length=32:=rfl
def Aj (L:List (Nat->Int)):List Value:=L.flatMap Ht
theorem Ai (L:List (Nat->Int)):(Aj L).length=L.length*32:=WR Ht Ak L
theorem Ah (L:List (Nat->Int)):∀ u∈Aj L,u.oneCell'=true:=SC Ht Am L
theorem Ag (A B:List (Nat->Int)):Aj (A++B)=Aj A++Aj B:=List.flatMap_append
theorem EO:(Tryz.prog.info? 38).map (fun i=>(i.zero,i.size,i.bytes))=some (some (.agg (Y4 fun _=>0)),32,32):=by kernel_rfl
theorem F7 (k:Nat->Int)(V:World):(Instr.buildSlice 47 1 #[(0,.agg (Y4 k))]).run Tryz.prog V=.ok (.slice (some ⟨V.heap.size,0,none⟩) 1 1) (V.alloc (.cells (Y4 k) 38)):=by
 obtain⟨i0,hi,hz0,hz1,hz2⟩:=info_parts EO;refine run_buildSlice V 47 38 1 _ (Y4 k) i0 _ Tryz.underlying47 hi hz0 (by rw[hz1]; omega) (by rw[hz1]; omega) ?_;rw[hz1];kernel_rfl
def Vj (w:World)(B:Nat)(v:Value)(L:List (Nat->Int)):Prop:=w.ownsRow B 38 32 v L.length (Aj L)
theorem Vj.below {w w':World}{B:Nat}{v:Value}{L:List (Nat->Int)}(h:Vj w B v L)(hb:Below w.heap.size w w'):Vj w' B v L:=own_below h hb
theorem BJ {w:World}{B:Nat}{v:Value}{A:List (Nat->Int)}(h:Vj w B v A)(hB:B<=w.heap.size)(k:Nat->Int)(hl:A.length<=100000) :
  ∃ v2 V2,(Builtin.append_ #[47,47] 47 #[v,.slice (some ⟨w.heap.size,0,none⟩) 1 1]).run Tryz.prog (w.alloc (.cells (Y4 k) 38))=.ok v2 V2/\Vj V2 B v2 (A++[k])/\Below B w V2:=by
 have hb:Below w.heap.size w (w.alloc (.cells (Y4 k) 38)):=(Below.refl _ w).alloc (Nat.le_refl _) _;have hc:Cs (w.alloc (.cells (Y4 k) 38)) (some ⟨w.heap.size,0,none⟩) (Aj [k]):=by
  have:=Cs.block (cs:=Ht k) (t:=38) (fr:=(0,0)) (heap_alloc_last w (.cells (Y4 k) 38));unfold Aj;simpa using this
 obtain⟨v2,V2,hr,hO,h3⟩:=VP (P:=Tryz.prog) (t:=47) (m:=1) Tryz.underlying47 EO (by kernel_rfl) (by omega) (by omega) (h.below hb) (some ⟨w.heap.size,0,none⟩) 1 (Aj [k]) hc (Ai [k]) (Ah [k]) (Nat.le_trans hB hb.size) hl (by omega);refine⟨v2,V2,hr,?_,(hb.mono hB).trans h3.1⟩;unfold Vj;rw[Ag,List.length_append];exact hO
def Jm (cf:List Int)(h t:Int)(e:En):Bool:=late h e.ht (cf.getD 4 0) || late t e.tm (cf.getD 5 0)
end Go.Proofs.YtnelmomagdcmnaaGreat
namespace Go.Proofs.YtnelmomagdcmnaaGreat
open Go.RowKit
end Go.Proofs.YtnelmomagdcmnaaGreat
namespace Go.Proofs.YtnelmomagdcmnaaGreat
open Go.RowKit
def fI (p:El->Bool):List El->Nat->Option (Nat×El)
 | [],_=>none
 | x::r,i=>if p x=true then some (i,x) else fI p r (i+1)
theorem Oh (p:El->Bool):∀ (L:List El) (i:Nat),(fI p L i).map (·.2)=L.find? p
 | [],i=>rfl
 | x::r,i=>by
  unfold fI;rw[List.find?_cons];cases h:p x with
  | true=>simp
  | false=>simpa using Oh p r (i+1)
theorem Og {p:El->Bool}:∀ {L:List El} {i:Nat},(∀ x∈L,p x=false)->fI p L i=none
 | [],i,_=>rfl
 | x::r,i,h=>by
  unfold fI;rw[if_neg (by rw[h x (by simp)]; decide)];exact Og fun y hy=>h y (by simp[hy])
theorem MG {w:World}{B:Nat}(o:Obj):w.grownBy { w with heap:=w.heap.setIfInBounds B o } (some B):=⟨rfl,rfl,rfl,by simp,fun i _ hi=>by
 have hne:B≠i:=fun e=>hi (by rw[e]);simp[Array.getElem?_setIfInBounds_ne hne]⟩
abbrev Uw (x:El):Array Value:=#[Z9 x.h.1,Z9 x.h.2,Z9 x.n]
def nH (x:El):Value×Value:=(.agg (Y4 x.e.k),.agg (Uw x))
def vw (x:El):Value×Value:=(Z9 x.n,.agg (Y4 x.e.k))
def MQ (w:World)(B:Nat)(L:List El):Prop:=∃ es clock,w.heap[B]?=some (.map es clock)/\es.toList.map (fun e=>(e.key,e.val))=L.map nH
def O9 (w:World)(B:Nat)(L:List El):Prop:=∃ es clock,w.heap[B]?=some (.map es clock)/\es.toList.map (fun e=>(e.key,e.val))=L.map vw/\MapKept.Stamped es clock
section
variable {w w' : World} {B : Nat} {L : List El}
theorem MQ.lt (h:MQ w B L):B<w.heap.size:=by
 obtain⟨es,c,h1,-⟩:=h;exact(Array.getElem?_eq_some_iff.1 h1).1
theorem O9.lt (h:O9 w B L):B<w.heap.size:=by
 obtain⟨es,c,h1,-⟩:=h;exact(Array.getElem?_eq_some_iff.1 h1).1
theorem MQ.same (h:MQ w B L)(hs:w'.heap[B]?=w.heap[B]?):MQ w' B L:=by
 obtain⟨es,c,h1,h2⟩:=h;exact⟨es,c,hs.trans h1,h2⟩
theorem O9.same (h:O9 w B L)(hs:w'.heap[B]?=w.heap[B]?):O9 w' B L:=by
 obtain⟨es,c,h1,h2⟩:=h;exact⟨es,c,hs.trans h1,h2⟩
theorem MQ.new (w:World):MQ (w.alloc (.map #[] 0)) w.heap.size []:=⟨#[],0,heap_alloc_last w _,rfl⟩
theorem O9.new (w:World):O9 (w.alloc (.map #[] 0)) w.heap.size []:=⟨#[],0,heap_alloc_last w _,rfl,MapKept.stamped_empty 0⟩
end
theorem H6 (w:World)(b:Bool)(A:List Int)(hA:A.length=32):(Instr.checkKey b 10000 38 (.agg (Vg A))).run Tryz.prog w=.ok () w:=by
 have hu:(Go.underlying 38).run Tryz.prog w=.ok (.array 32 5) w:=run_underlying (by kernel_rfl) w;have hsz:(sizeOf 5).run Tryz.prog w=.ok 1 w:=by kernel_rfl
 rw[show(10000:Nat)=9999+1 from rfl,Instr.checkKey];simp only[Sem.run_bind,hu,Result.andThen_ok,Std.Legacy.Range.forIn_eq_forIn_range',Std.Legacy.Range.size,Nat.sub_zero,Nat.add_sub_cancel,Nat.div_one];have hl:∀ i∈List.range' 0 32 1,i<32:=fun i hi=>by simpa using(List.mem_range'_1.1 hi).2
 generalize List.range' 0 32 1=l at hl ⊢;induction l with
 | nil=>simp
 | cons i l ih=>
  have hi:i<32:=hl i (by simp);have px:(part 5 (Vg A) (i*1)).run Tryz.prog w=.ok (.int .u8 (A.getD i 0)) w:=by
   simp[part,isAgg,run_underlying Tryz.underlying5,List.getD,List.getElem?_eq_getElem (show i<A.length by omega)]
  have pc:(Instr.checkKey b 9999 5 (.int .u8 (A.getD i 0))).run Tryz.prog w=.ok () w:=by
   rw[show(9999:Nat)=9998+1 from rfl,Instr.checkKey];simp[run_underlying Tryz.underlying5]
  simp only[List.forIn_cons,Sem.run_bind,hsz,px,pc,Result.andThen_ok,Sem.run_pure];exact ih fun j hj=>hl j (by simp[hj])
theorem FM (k:Nat->Int):Y4 k=Vg ((List.range 32).map k):=by kernel_rfl
theorem Oe (w:World)(b:Bool)(k:Nat->Int):(Instr.checkKey b 10000 38 (.agg (Y4 k))).run Tryz.prog w=.ok () w:=by
 rw[FM]; exact H6 w b _ (by simp)
theorem Oc (w:World)(b:Bool)(n:Int):(Instr.checkKey b 10000 3 (Z9 n)).run Tryz.prog w=.ok () w:=by
 rw[show(10000:Nat)=9999+1 from rfl,Instr.checkKey];simp[run_underlying Tryz.underlying3]
theorem Bj (a b:Nat->Int)(w:World):(Op.equal 38 (.agg (Y4 a)) (.agg (Y4 b))).run Tryz.prog w=.ok (keq a b) w:=by
 rw[FM,FM,<- Bh];exact Jf _ _ (by simp) (by simp) w
theorem MF (w:World)(k:Nat->Int):∀ (es:List MapEntry) (L:List El) (i:Nat),es.map (fun e=>(e.key,e.val))=L.map nH ->
  (Instr.findAsking 38 (.agg (Y4 k)) es i).run Tryz.prog w=.ok ((fI (fun x=>keq x.e.k k) L i).map fun p=>(p.1,Value.agg (Uw p.2))) w
 | [],[],i,_=>by simp[Instr.findAsking,fI]
 | [],_::_,i,h=>by simp at h
 | _::_,[],i,h=>by simp at h
 | e::es,p::L,i,h=>by
  simp only[List.map_cons,List.cons.injEq,nH,Prod.mk.injEq] at h;obtain⟨⟨h1,h2⟩,h3⟩:=h;have he:(Op.equal 38 (.agg (Y4 k)) e.key).run Tryz.prog w=.ok (keq k p.e.k) w:=by
   rw[h1]; exact Bj k p.e.k w
  have ih:=MF w k es L (i+1) h3;unfold fI;rw[Instr.findAsking];cases hx:keq p.e.k k with
  | true=>
   rw[QN] at hx;simp[he,hx,h2]
  | false=>
   rw[QN] at hx;simp[he,hx,ih]
theorem Je (w:World)(k:Nat->Int)(es:List MapEntry)(L:List El)(h:es.map (fun e=>(e.key,e.val))=L.map nH) :
  (Instr.findKey 38 (.agg (Y4 k)) es).run Tryz.prog w=.ok ((fI (fun x=>keq x.e.k k) L 0).map fun p=>(p.1,Value.agg (Uw p.2))) w:=by
 have hu:(Go.underlying 38).run Tryz.prog w=.ok (.array 32 5) w:=run_underlying (by kernel_rfl) w;cases es with
 | nil=>
  obtain rfl:L=[]:=by simpa using h.symm
  simp[Instr.findKey,hu,Instr.findNow,fI]
 | cons e es=>
  have hr:=MF w k (e::es) L 0 h;have hn:Instr.findNow (.array 32 5) (.agg (Y4 k)) (e::es) 0=none:=by simp[Instr.findNow,Instr.sameNow]
  simp[Instr.findKey,hu,hn,hr]
theorem Jd (n:Int):∀ (es:List MapEntry) (L:List El) (i:Nat),es.map (fun e=>(e.key,e.val))=L.map vw ->
  Instr.findNow (TypeDesc.int .i64) (Z9 n) es i=some ((fI (fun x=>decide (x.n=n)) L i).map fun p=>(p.1,Value.agg (Y4 p.2.e.k)))
 | [],[],i,_=>by simp[Instr.findNow,fI]
 | [],_::_,i,h=>by simp at h
 | _::_,[],i,h=>by simp at h
 | e::es,p::L,i,h=>by
  simp only[List.map_cons,List.cons.injEq,vw,Prod.mk.injEq] at h;obtain⟨⟨h1,h2⟩,h3⟩:=h;have ih:=Jd n es L (i+1) h3;unfold fI;rw[Instr.findNow,h1];simp only[Instr.sameNow];by_cases hx:p.n=n
  ·simp[hx,h2]
  ·have:(n == p.n)=false:=(by simpa using fun h=>hx h.symm);simp[this,hx,ih]
theorem Jc (w:World)(n:Int)(es:List MapEntry)(L:List El)(h:es.map (fun e=>(e.key,e.val))=L.map vw) :
  (Instr.findKey 3 (Z9 n) es).run Tryz.prog w=.ok ((fI (fun x=>decide (x.n=n)) L 0).map fun p=>(p.1,Value.agg (Y4 p.2.e.k))) w:=by
 simp[Instr.findKey,run_underlying Tryz.underlying3,Jd n es L 0 h]
abbrev Ru:Array Value:=#[Z9 0,Z9 0,Z9 0]
def dV (o:Option El)(b:Bool):Value:=
 match o with
 | some x=>if b then .tuple #[.agg (Uw x),ZT] else .agg (Uw x)
 | none=>if b then .tuple #[.agg Ru,ZW] else .agg Ru
def dU (o:Option El):Value:=
 match o with
 | some x=>.agg (Y4 x.e.k)
 | none=>.agg (Y4 fun _=>0)
section
variable {w : World} {B : Nat} {L : List El}
theorem MQ.look (h:MQ w B L)(k:Nat->Int)(b:Bool):(Instr.lookup 89 (.map (some B)) (.agg (Y4 k)) b).run Tryz.prog w=.ok (dV (Ve k L) b) w:=by
 obtain⟨es,c,hb,he⟩:=h;have hu:(Go.underlying 89).run Tryz.prog w=.ok (.map 38 106) w:=run_underlying (by kernel_rfl) w;have hz:(zeroValue 106).run Tryz.prog w=.ok (.agg Ru) w:=by kernel_rfl
 have hr:=Je w k es.toList L he;unfold Ve;rw[<- Oh _ L 0];cases hf:fI (fun x=>keq x.e.k k) L 0 with
 | none=>
  rw[hf] at hr;cases b <;> simp[Instr.lookup,hu,MapKept.run_getObj_map hb,Oe w _ k,hr,hz,Result.andThen,dV]
 | some p=>
  rw[hf] at hr;cases b <;> simp[Instr.lookup,hu,MapKept.run_getObj_map hb,Oe w _ k,hr,hz,Result.andThen,dV]
theorem O9.look (h:O9 w B L)(n:Int):(Instr.lookup 88 (.map (some B)) (Z9 n) false).run Tryz.prog w=.ok (dU (Oq n L)) w:=by
 obtain⟨es,c,hb,he,-⟩:=h;have hu:(Go.underlying 88).run Tryz.prog w=.ok (.map 3 38) w:=run_underlying (by kernel_rfl) w;have hz:(zeroValue 38).run Tryz.prog w=.ok (.agg (Y4 fun _=>0)) w:=by kernel_rfl
 have hr:=Jc w n es.toList L he;unfold Oq;rw[<- Oh _ L 0];cases hf:fI (fun x=>decide (x.n=n)) L 0 with
 | none=>
  rw[hf] at hr;simp[Instr.lookup,hu,MapKept.run_getObj_map hb,Oc w _ n,hr,hz,Result.andThen,dU]
 | some p=>
  rw[hf] at hr;simp[Instr.lookup,hu,MapKept.run_getObj_map hb,Oc w _ n,hr,hz,Result.andThen,dU]
theorem MQ.put (h:MQ w B L)(x:El)(hn:∀ y∈L,keq y.e.k x.e.k=false) :
  ∃ w',(Instr.mapUpdate 89 (.map (some B)) (.agg (Y4 x.e.k)) (.agg (Uw x))).run Tryz.prog w=.ok () w'/\MQ w' B (L++[x])/\w.grownBy w' (some B):=by
 obtain⟨es,c,hb,he⟩:=h;have hu:(Go.underlying 89).run Tryz.prog w=.ok (.map 38 106) w:=run_underlying (by kernel_rfl) w;have hr:=Je w x.e.k es.toList L he;rw[Og hn] at hr;have hlt:B<w.heap.size:=(Array.getElem?_eq_some_iff.1 hb).1;exact⟨{ w with heap:=w.heap.setIfInBounds B (.map (es.push { key:=.agg (Y4 x.e.k),val:=.agg (Uw x),born:=c }) (c+1)) },
  by simp[Instr.mapUpdate,hu,MapKept.run_getObj_map hb,Oe w _ x.e.k,hr,MapKept.run_setObj_map _ hb,Result.andThen],⟨es.push { key:=.agg (Y4 x.e.k),val:=.agg (Uw x),born:=c },c+1,by simp[hlt],by simp[he,nH]⟩,MG _⟩
theorem O9.put (h:O9 w B L)(x:El)(hn:∀ y∈L,y.n≠x.n) :
  ∃ w',(Instr.mapUpdate 88 (.map (some B)) (Z9 x.n) (.agg (Y4 x.e.k))).run Tryz.prog w=.ok () w'/\O9 w' B (L++[x])/\w.grownBy w' (some B):=by
 obtain⟨es,c,hb,he,hst⟩:=h;have hu:(Go.underlying 88).run Tryz.prog w=.ok (.map 3 38) w:=run_underlying (by kernel_rfl) w;have hr:=Jc w x.n es.toList L he;rw[Og fun y hy=>decide_eq_false (hn y hy)] at hr;have hlt:B<w.heap.size:=(Array.getElem?_eq_some_iff.1 hb).1;refine⟨{ w with heap:=w.heap.setIfInBounds B (.map (es.push { key:=Z9 x.n,val:=.agg (Y4 x.e.k),born:=c }) (c+1)) },
  by simp[Instr.mapUpdate,hu,MapKept.run_getObj_map hb,Oc w _ x.n,hr,MapKept.run_setObj_map _ hb,Result.andThen],⟨es.push { key:=Z9 x.n,val:=.agg (Y4 x.e.k),born:=c },c+1,by simp[hlt],by simp[he,vw],MapKept.stamped_push hst fun y hy e=>?_⟩,MG _⟩
 have hm:(y.key,y.val)∈L.map vw:=by rw[<- he]; exact List.mem_map.2 ⟨y,hy,rfl⟩
 obtain⟨q,hq,hq2⟩:=List.mem_map.1 hm;have h3:Value.int .i64 q.n=y.key:=congrArg Prod.fst hq2;rw[e] at h3;simp only[Value.int.injEq,true_and] at h3;exact hn q hq h3
end
end Go.Proofs.YtnelmomagdcmnaaGreat
namespace Go.Proofs.YtnelmomagdcmnaaGreat
open Go.RowKit Go.Maps Go.Sort Go.Shelf
def OO:Go.Shelf.Ren:=⟨fun | 7=>42 | 10=>73 | n=>n,fun | 23=>88 | 26=>3 | 3=>38 | 28=>86 | 0=>0 | 27=>85 | 33=>122 | 4=>4 | n=>n,fun | n=>n⟩
theorem xE:Go.Proofs.SlLaysZI.n7 Tryz.prog OO:={
  mixed:=by kernel_rfl
  f7:=⟨Tryz.f42.name,by decide,Tryz.func42.trans (congrArg some (by kernel_rfl))⟩
  f10:=⟨Tryz.f73.name,by decide,Tryz.func73.trans (congrArg some (by kernel_rfl))⟩
  t0:=Tryz.underlying0
  a0:=Tryz.isAgg0
  z0:=Tryz.sizeOf0
  v0:=Tryz.zeroValue0
  t4:=Tryz.underlying4
  a4:=Tryz.isAgg4
  z4:=Tryz.sizeOf4
  v4:=Tryz.zeroValue4
  t23:=Tryz.underlying88
  a23:=Tryz.isAgg88
  z23:=Tryz.sizeOf88
  v23:=Tryz.zeroValue88
  t26:=Tryz.underlying3
  a26:=Tryz.isAgg3
  z26:=Tryz.sizeOf3
  v26:=Tryz.zeroValue3
  t27:=Tryz.underlying85
  a27:=Tryz.isAgg85
  z27:=Tryz.sizeOf85
  v27:=Tryz.zeroValue85
  t28:=Tryz.underlying86
  a28:=Tryz.isAgg86
  z28:=Tryz.sizeOf86
  v28:=Tryz.zeroValue86
  t33:=Tryz.underlying122
  a33:=Tryz.isAgg122
  z33:=Tryz.sizeOf122
  v33:=Tryz.zeroValue122 }
def RV:Go.Shelf.Ren:=⟨fun | 6=>41 | 8=>71 | 9=>72 | 11=>101 | 13=>103 | 12=>102 | 23=>132 | 24=>133 | 14=>123 | 15=>124 | 16=>125 | 17=>126 | 18=>127 | 19=>128 | 20=>129 | 21=>130 | 22=>131 | 25=>148 | 26=>149 | 27=>150 | 28=>151 | 29=>152 | 30=>143 | 31=>158 | n=>n,fun | 26=>3 | 28=>86 | 24=>22 | 0=>0 | 3=>3 | 37=>185 | 48=>175 | 50=>23 | 4=>4 | 40=>210 | 39=>209 | 45=>162 | 5=>5 | 9=>9 | 51=>226 | 55=>190 | 57=>235 | 58=>236 | 33=>122 | n=>n,fun | n=>n⟩
theorem zD:Go.Proofs.SlLaysZI.n6 Tryz.prog RV:={
  mixed:=by kernel_rfl
  f6:=⟨Tryz.f41.name,by decide,Tryz.func41.trans (congrArg some (by kernel_rfl))⟩
  f8:=⟨Tryz.f71.name,by decide,Tryz.func71.trans (congrArg some (by kernel_rfl))⟩
  f11:=⟨Tryz.f101.name,by decide,Tryz.func101.trans (congrArg some (by kernel_rfl))⟩
  t0:=Tryz.underlying0
  a0:=Tryz.isAgg0
  z0:=Tryz.sizeOf0
  v0:=Tryz.zeroValue0
  t24:=Tryz.underlying22
  a24:=Tryz.isAgg22
  z24:=Tryz.sizeOf22
  v24:=Tryz.zeroValue22
  t26:=Tryz.underlying3
  a26:=Tryz.isAgg3
  z26:=Tryz.sizeOf3
  v26:=Tryz.zeroValue3
  t28:=Tryz.underlying86
  a28:=Tryz.isAgg86
  z28:=Tryz.sizeOf86
  v28:=Tryz.zeroValue86
  i26:=by kernel_rfl }
def Vz:Go.Shelf.Ren:=⟨fun | 5=>72 | 8=>103 | 7=>102 | 19=>132 | 20=>133 | 10=>123 | 11=>124 | 12=>125 | 13=>126 | 14=>127 | 15=>128 | 16=>129 | 17=>130 | 18=>131 | 30=>148 | 31=>149 | 32=>150 | 33=>151 | 34=>152 | 35=>143 | 40=>158 | n=>n,fun | 23=>22 | 25=>3 | 3=>3 | 32=>185 | 22=>22 | 0=>0 | 44=>175 | 46=>23 | 4=>4 | 36=>210 | 35=>209 | 41=>162 | 5=>5 | 9=>9 | 53=>226 | 57=>190 | 63=>235 | 64=>236 | n=>n,fun | n=>n⟩
theorem RQ:Go.Proofs.SlLaysM.n5 Tryz.prog Vz:={
  mixed:=by kernel_rfl
  f5:=⟨Tryz.f72.name,by decide,Tryz.func72.trans (congrArg some (by kernel_rfl))⟩
  f7:=⟨Tryz.f102.name,by decide,Tryz.func102.trans (congrArg some (by kernel_rfl))⟩
  f8:=Tryz.func103.trans (congrArg some (by kernel_rfl))
  f10:=⟨Tryz.f123.name,by decide,Tryz.func123.trans (congrArg some (by kernel_rfl))⟩
  f11:=⟨Tryz.f124.name,by decide,Tryz.func124.trans (congrArg some (by kernel_rfl))⟩
  f12:=⟨Tryz.f125.name,by decide,Tryz.func125.trans (congrArg some (by kernel_rfl))⟩
  f13:=⟨Tryz.f126.name,by decide,Tryz.func126.trans (congrArg some (by kernel_rfl))⟩
  f14:=⟨Tryz.f127.name,by decide,Tryz.func127.trans (congrArg some (by kernel_rfl))⟩
  f15:=⟨Tryz.f128.name,by decide,Tryz.func128.trans (congrArg some (by kernel_rfl))⟩
  f16:=⟨Tryz.f129.name,by decide,Tryz.func129.trans (congrArg some (by kernel_rfl))⟩
  f17:=⟨Tryz.f130.name,by decide,Tryz.func130.trans (congrArg some (by kernel_rfl))⟩
  f18:=⟨Tryz.f131.name,by decide,Tryz.func131.trans (congrArg some (by kernel_rfl))⟩
  f19:=Tryz.func132.trans (congrArg some (by kernel_rfl))
  f20:=Tryz.func133.trans (congrArg some (by kernel_rfl))
  f30:=⟨Tryz.f148.name,by decide,Tryz.func148.trans (congrArg some (by kernel_rfl))⟩
  f31:=Tryz.func149.trans (congrArg some (by kernel_rfl))
  f32:=Tryz.func150.trans (congrArg some (by kernel_rfl))
  f33:=⟨Tryz.f151.name,by decide,Tryz.func151.trans (congrArg some (by kernel_rfl))⟩
  f34:=⟨Tryz.f152.name,by decide,Tryz.func152.trans (congrArg some (by kernel_rfl))⟩
  f35:=⟨Tryz.f143.name,by decide,Tryz.func143.trans (congrArg some (by kernel_rfl))⟩
  f40:=⟨Tryz.f158.name,by decide,Tryz.func158.trans (congrArg some (by kernel_rfl))⟩
  t0:=Tryz.underlying0
  a0:=Tryz.isAgg0
  z0:=Tryz.sizeOf0
  v0:=Tryz.zeroValue0
  t3:=Tryz.underlying3
  a3:=Tryz.isAgg3
  z3:=Tryz.sizeOf3
  v3:=Tryz.zeroValue3
  t4:=Tryz.underlying4
  a4:=Tryz.isAgg4
  z4:=Tryz.sizeOf4
  v4:=Tryz.zeroValue4
  t5:=Tryz.underlying5
  a5:=Tryz.isAgg5
  z5:=Tryz.sizeOf5
  v5:=Tryz.zeroValue5
  t9:=Tryz.underlying9
  a9:=Tryz.isAgg9
  z9:=Tryz.sizeOf9
  v9:=Tryz.zeroValue9
  t22:=Tryz.underlying22
  a22:=Tryz.isAgg22
  z22:=Tryz.sizeOf22
  v22:=Tryz.zeroValue22
  t23:=Tryz.underlying22
  a23:=Tryz.isAgg22
  z23:=Tryz.sizeOf22
  v23:=Tryz.zeroValue22
  t25:=Tryz.underlying3
  a25:=Tryz.isAgg3
  z25:=Tryz.sizeOf3
  v25:=Tryz.zeroValue3
  t32:=Tryz.underlying185
  a32:=Tryz.isAgg185
  z32:=Tryz.sizeOf185
  v32:=Tryz.zeroValue185
  t35:=Tryz.underlying209
  a35:=Tryz.isAgg209
  z35:=Tryz.sizeOf209
  v35:=Tryz.zeroValue209
  t36:=Tryz.underlying210
  a36:=Tryz.isAgg210
  z36:=Tryz.sizeOf210
  v36:=Tryz.zeroValue210
  t41:=Tryz.underlying162
  a41:=Tryz.isAgg162
  z41:=Tryz.sizeOf162
  v41:=Tryz.zeroValue162
  t44:=Tryz.underlying175
  a44:=Tryz.isAgg175
  z44:=Tryz.sizeOf175
  v44:=Tryz.zeroValue175
  t46:=Tryz.underlying23
  a46:=Tryz.isAgg23
  z46:=Tryz.sizeOf23
  v46:=Tryz.zeroValue23
  t53:=Tryz.underlying226
  a53:=Tryz.isAgg226
  z53:=Tryz.sizeOf226
  v53:=Tryz.zeroValue226
  t57:=Tryz.underlying190
  a57:=Tryz.isAgg190
  z57:=Tryz.sizeOf190
  v57:=Tryz.zeroValue190
  t63:=Tryz.underlying235
  a63:=Tryz.isAgg235
  z63:=Tryz.sizeOf235
  v63:=Tryz.zeroValue235
  t64:=Tryz.underlying236
  a64:=Tryz.isAgg236
  z64:=Tryz.sizeOf236
  v64:=Tryz.zeroValue236 }
theorem Ed (m:Nat):AnyZI.SortsIn Tryz.prog RV Fence.wide m:=
  ⟨fun blk off cap ss W hH hblk hsz=>callsIn_wide.2 (AnyM.slices_Sort_int RQ blk off cap ss W hH hblk hsz),
   fun p cap W=>callsIn_wide.2 (AnyM.slices_Sort_int_none RQ p cap W)⟩
theorem H9 (mb:Option Nat)(W:World):CallsIn Fence.wide 5 Tryz.prog 42 #[.map mb] W fun e w'=>e=.returned (.func (.func 73) #[] #[Z7 W.heap.size 0])/\w'=W.alloc (.cells #[.map mb] 88):=
  AnyZI.keys_in xE Fence.wide 5 trivial rfl mb W
theorem MH {H:Type}(b nn:Nat)(D0:DataW H)(R:Value->Option (DataW H×List MemPlace))(w:World)(hown:w.ownsMap Tryz.prog 3 R b nn D0)(hmax:Maps.size D0<=maxLen)(hbytes:Maps.size D0*8<=140737488355328) :
    CallsIn Fence.wide 5 Tryz.prog 41 #[.func (.func 73) #[] #[Z7 w.heap.size 0]] (w.alloc (.cells #[.map (some b)] 88)) fun e w'=>∃ (v:Value) (ss:List Int),e=.returned v/\ss.Perm (intKeys D0) /\
      w'.ownsRow (w.alloc (.cells #[.map (some b)] 88)).heap.size 3 1 v ss.length ((ss.mergeSort (fun x y=>decide (x<=y))).map encZ)/\(v=.slice none 0 0↔ss=[])/\Below (w.alloc (.cells #[.map (some b)] 88)).heap.size (w.alloc (.cells #[.map (some b)] 88)) w':=by
  have hbl:=hown.lt;have hseq:SeqGives Fence.wide 2 Tryz.prog 73 #[Z7 w.heap.size 0] encZ (fun ss=>ss.Perm (intKeys D0)) (Maps.size D0) (w.alloc (.cells #[.map (some b)] 88)):=
    AnyZI.keys_gives (ρ:=OO) { xE with } Fence.wide _ trivial rfl (by omega) w.heap.size b nn D0 _ (by simp) (by simp) (by
      obtain⟨es,clock,hb,Ft,hs,hD⟩:=hown;exact⟨es,clock,(Below.heap_alloc _ _ b hbl).trans hb,Ft,hs,hD⟩)
  exact AnyZI.sorted_in zD Fence.wide 5 trivial trivial trivial trivial rfl (by omega) (Ed _) (enters_of Tryz.func72 (by kernel_rfl) rfl) 73 #[Z7 w.heap.size 0] trivial (enters_of Tryz.func73 (by kernel_rfl) rfl) _ _ hmax hbytes _ hseq
end Go.Proofs.YtnelmomagdcmnaaGreat
namespace Go.Proofs.YtnelmomagdcmnaaGreat
open Go.RowKit Go.Maps Go.Sort Go.Shelf Go.WideMaps Go.WideShapes
def RU:Value->Option (DataW Unit×List MemPlace):=fun _=>some (.nil,[])
def Vb (w:World)(B:Nat)(v:Value)(L:List Int):Prop:=w.ownsRow B 3 1 v L.length (ZM L)
structure KyO (w:World)(B nn:Nat)(D0:DataW Unit)(N:List Int):Prop where
 own:w.ownsMap Tryz.prog 3 RU B nn D0
 nN:Maps.size D0<=1000
 qy:(intKeys D0).Perm N
theorem O9.own {w:World}{B:Nat}{L:List El}(h:O9 w B L)(hb:∀ x∈L,0<=x.n/\x.n<1000000)(hl:L.length<=1000):∃ nn D0,KyO w B nn D0 (L.map El.n):=by
 obtain⟨es,c,h1,he,hst⟩:=h;have hlen:es.size=L.length:=by
  have:=congrArg List.length he;simpa using this
 have hkey:∀ x∈es.toList,∃ n,x.key=Z9 n/\0<=n/\n<1000000:=fun x hx=>by
  have h1:(x.key,x.val)∈L.map vw:=by rw[<- he]; exact List.mem_map.2 ⟨x,hx,rfl⟩
  obtain⟨p,hp,hp2⟩:=List.mem_map.1 h1;exact⟨p.n,(congrArg Prod.fst hp2).symm,hb p hp⟩
 have hrd:∀ x∈es.toList,∀ n,x.key=Z9 n->0<=n->n<1000000->WideElems.rd Tryz.prog 3 RU x=some (Lit.int .i64 n,.nil):=fun x hx n hn h0 hs=>by
  have hw:(Lit.int .i64 n).wf=true:=by simp[Lit.wf,IntKind.min,IntKind.max,IntKind.bits,IntKind.signed]; omega
  unfold WideElems.rd;rw[hn,keyOf_int_mk Tryz.underlying3 hw];rfl
 refine⟨es.size,_,⟨⟨es,c,h1,⟨by unfold maxLen; omega,hst,fun x hx=>by
  obtain⟨n,h1,h2,h3⟩:=hkey x hx;exact⟨_,hrd x hx n h1 h2 h3⟩⟩,Nat.le_refl _,rfl⟩,?_,?_⟩⟩
 ·rw[Maps.size_eq,(sorted_perm _).length_eq,List.length_map,Array.length_toList];omega
 ·refine((sorted_perm _).map _).trans ?_;rw[List.map_map];have h1:es.toList.map ((fun p=>Go.intOf p.1) ∘ WideElems.rg Tryz.prog 3 RU)=(es.toList.map fun e=>(e.key,e.val)).map fun q=>match q.1 with | .int _ a=>a | _=>0:=by
   rw[List.map_map];refine List.map_congr_left fun x hx=>?_;obtain⟨n,h2,h3,h4⟩:=hkey x hx;show Go.intOf (WideElems.rg Tryz.prog 3 RU x).1=_;unfold WideElems.rg;rw[hrd x hx n h2 h3 h4];show n=match x.key with | .int _ a=>a | _=>0
   rw[h2]
  rw[h1,he,List.map_map];exact List.Perm.refl _
theorem Ia {ss:List Int}{D0:DataW Unit}{L:List El}(hs:L.Pairwise fun a b=>a.n<b.n)(h1:ss.Perm (intKeys D0))(h2:(intKeys D0).Perm (L.map El.n)):ss.mergeSort (fun x y=>decide (x<=y))=L.map El.n:=by
 refine(mergeSort_of_perm_i (h1.trans h2)).trans (List.mergeSort_of_pairwise ?_);rw[List.pairwise_map];exact hs.imp fun h=>decide_eq_true (Int.le_of_lt h)
abbrev fE (w:World)(B:Nat):World:=w.alloc (.cells #[.map (some B)] 88)
abbrev kyF (w:World):Value:=.func (.func 73) #[] #[Z7 w.heap.size 0]
theorem vX (w:World)(B:Nat):Calls Tryz.prog 42 #[.map (some B)] w fun e w'=>e=.returned (kyF w)/\w'=fE w B:=callsIn_wide.1 (H9 (some B) w)
theorem BF {w:World}{B:Nat}{L:List El}(h:O9 w B L)(hs:L.Pairwise fun a b=>a.n<b.n)(hb:∀ x∈L,0<=x.n/\x.n<1000000)(hl:L.length<=1000) :
  Calls Tryz.prog 41 #[kyF w] (fE w B) fun e w'=>∃ v,e=.returned v/\Vb w' w.heap.size v (L.map El.n)/\Below w.heap.size w w':=by
 obtain⟨nn,D0,hO⟩:=h.own hb hl;refine(callsIn_wide.1 (MH B nn D0 RU w hO.own (by have:=hO.nN; unfold maxLen; omega) (by have:=hO.nN; omega))).mono fun e w' z=>?_;obtain⟨v,ss,rfl,z1,z2,-,z3⟩:=z;refine⟨v,rfl,?_,((Below.refl _ w).alloc (Nat.le_refl _) _).trans (z3.mono (by simp))⟩;rw[Ia hs z1 hO.qy] at z2;have hlen:ss.length=(L.map El.n).length:=(z1.trans hO.qy).length_eq;rw[hlen] at z2;exact own_base z2 (by simp)
end Go.Proofs.YtnelmomagdcmnaaGreat
namespace Go.Proofs.YtnelmomagdcmnaaGreat.Sl
open Go.RowKit
def hdp (mo fr ln bt:Int)(a:Option Addr)(n c:Nat):Array Value:=#[Z9 mo,.slice a n c,Z9 fr,Z9 ln,Z9 bt]
def Sp (g:Nat)(a:Option Addr)(T:List Sn)(k:Nat):Prop:=k=g∨(∃ x,a=some x/\x.block=k)∨∃ i,i<T.length/\EB (T.getD i Yj).e (T.getD i Yj).d k
structure Mp (w:World)(g:Nat)(a:Option Addr)(c:Nat)(T:List Sn)(mo fr ln bt:Int):Prop where
 bx:Bx w g (hdp mo fr ln bt a T.length c) 147
 row:w.ownsRow 0 144 44 (.slice a T.length c) T.length (T.flatMap RX)
 en:∀ i,i<T.length->Vl w (T.getD i Yj).e (T.getD i Yj).d
 dg:∀ x,a=some x->x.block≠g
 de:∀ i k,i<T.length->EB (T.getD i Yj).e (T.getD i Yj).d k->k≠g/\∀ x,a=some x->x.block≠k
section
variable {w w' : World} {g : Nat} {a : Option Addr} {c : Nat} {T : List Sn} {mo fr ln bt : Int}
theorem Mp.inn (h:Mp w g a c T mo fr ln bt):∀ k,Sp g a T k->k<w.heap.size:=fun k hk=>by
 rcases hk with rfl | ⟨x,hx,rfl⟩ | ⟨i,hi,hk⟩
 ·exact h.bx.lt
 ·exact(h.row.lt x.block (by rw[hx]; rfl)).2
 ·exact(h.en i hi).lt k hk
theorem Mp.same (h:Mp w g a c T mo fr ln bt)(hs:∀ k,Sp g a T k->w'.heap[k]?=w.heap[k]?):Mp w' g a c T mo fr ln bt:=
 ⟨(hs g (.inl rfl)).trans h.bx,YL h.row fun x hx=>hs _ (.inr (.inl ⟨x,hx,rfl⟩)),fun i hi=>(h.en i hi).same fun k hk=>hs k (.inr (.inr ⟨i,hi,hk⟩)),h.dg,h.de⟩
theorem Mp.below (h:Mp w g a c T mo fr ln bt)(hb:Below w.heap.size w w'):Mp w' g a c T mo fr ln bt:=h.same fun k hk=>hb.block k (h.inn k hk)
theorem Mp.rg (h:Mp w g a c T mo fr ln bt){i:Nat}(hi:i<T.length):∃ b,a=some ⟨b,0,none⟩/\w.rangeAt b (0+i*44) (RX (T.getD i Yj)):=by
 obtain⟨a2,c2,e,hcs,-⟩:=Zi h.row;obtain⟨b,off,e2,-,hr⟩:=XR RX JM (by omega) Yj hcs hi;rcases h.row.2 with⟨e0,-⟩ | ⟨g2,cap,cur,e0,-⟩
 ·simp only[Value.slice.injEq] at e0 e;rw[e2] at e;rw[e.1] at e0;cases e0.1
 ·simp only[Value.slice.injEq] at e0 e;refine⟨g2,e0.1,?_⟩;rw[e0.1,e2] at e;have e3:=e.1;simp only[Option.some.injEq,Addr.mk.injEq,and_true] at e3;obtain⟨rfl,rfl⟩:=e3;exact hr
end
structure Gm (Bd g:Nat)(a:Option Addr)(T:List Sn)(w:World)(a':Option Addr)(c':Nat)(T':List Sn)(mo fr ln bt:Int)(w':World):Prop where
 mem:Mp w' g a' c' T' mo fr ln bt
 sub:∀ k,Sp g a' T' k->Sp g a T k∨w.heap.size<=k
 but:ZP Bd (Sp g a T) w w'
section
variable {w w1 w2 : World} {Bd g : Nat} {a a1 a2 : Option Addr} {c c1 c2 : Nat} {T T1 T2 : List Sn} {mo qg mo2 fr ln bt Tm zC zB pW ln2 bt2 : Int}
theorem Gm.trans (h:Gm Bd g a T w a1 c1 T1 qg Tm zC zB w1)(k:Gm Bd g a1 T1 w1 a2 c2 T2 mo2 pW ln2 bt2 w2):Gm Bd g a T w a2 c2 T2 mo2 pW ln2 bt2 w2:=
 ⟨k.mem,fun x hx=>(k.sub x hx).elim (h.sub x) (fun h2=>.inr (Nat.le_trans h.but.1.size h2)),h.but.trans k.but h.sub⟩
theorem Gm.base (h:Gm Bd g a T w a1 c1 T1 qg Tm zC zB w1)(hB:∀ k,Sp g a T k->Bd<=k)(hw:Bd<=w.heap.size):∀ k,Sp g a1 T1 k->Bd<=k:=fun k hk=>(h.sub k hk).elim (hB k) (Nat.le_trans hw)
theorem Gm.below (h:Mp w g a c T mo fr ln bt)(hb:Below w.heap.size w w1)(hw:Bd<=w.heap.size):Gm Bd g a T w a c T mo fr ln bt w1:=⟨h.below hb,fun k hk=>.inl hk,ZP.of_below hb hw⟩
theorem Gm.num (h:Mp w g a c T mo fr ln bt)(hB:∀ k,Sp g a T k->Bd<=k)(i:Nat)(v:Int)(Tm zC zB:Int)(hi:i<5)(hc:(hdp mo fr ln bt a T.length c).setIfInBounds i (Z9 v)=hdp mo Tm zC zB a T.length c):∃ V,(Instr.storeAt 3 (Z7 g i) (Z9 v)).run Tryz.prog w=.ok () V/\Gm Bd g a T w a c T mo Tm zC zB V:=by
 obtain⟨V,hst,hX,hbt⟩:=Xm (i:=i) (ty:=3) (v:=Z9 v) _ h.bx hi hc rfl (by kernel_rfl);refine⟨V,hst,⟨hX,YL h.row fun x hx=>hbt.2 _ (h.inn _ (.inr (.inl ⟨x,hx,rfl⟩))) (h.dg x hx),fun j hj=>(h.en j hj).same fun k hk=>hbt.2 k ((h.en j hj).lt k hk) (h.de j k hj hk).1,h.dg,h.de⟩,fun k hk=>.inl hk,hbt.1.mono (hB g (.inl rfl)),fun k hk hn=>hbt.2 k hk fun e=>hn (.inl e)⟩
theorem Gm.el (h:Mp w g a c T mo fr ln bt)(hB:∀ k,Sp g a T k->Bd<=k)(hw:Bd<=w.heap.size)(hb:Below w.heap.size w w1){b:Nat}(ha:a=some ⟨b,0,none⟩){i o:Nat}(hi:i<T.length){y:Sn}{vs:List Value}(ho:o+vs.length<=44)
  (hy:(RX (T.getD i Yj)).take o++vs++(RX (T.getD i Yj)).drop (o+vs.length)=RX y) (he:Vl w1 y.e y.d) (hk:∀ k,EB y.e y.d k->EB (T.getD i Yj).e (T.getD i Yj).d k∨w.heap.size<=k):Gm Bd g a T w a c (T.set i y) mo fr ln bt (w1.setCells b (i*44+o) vs):=by
 subst ha;have h1:=h.below hb;have hbt:But b w1 (w1.setCells b (i*44+o) vs):=Xt vs _ w1;have hSb:Sp g (some ⟨b,0,none⟩) T b:=.inr (.inl ⟨_,rfl,rfl⟩);have hBS:ZP Bd (Sp g (some ⟨b,0,none⟩) T) w1 (w1.setCells b (i*44+o) vs):=ZP.sets (hB b hSb) hSb vs _ w1;have hgb:g≠b:=fun e=>h.dg _ rfl e.symm;have hlen:(T.set i y).length=T.length:=List.length_set;have hyk:∀ k,EB y.e y.d k->k≠g/\b≠k:=fun k hk2=>by
  rcases hk k hk2 with h2 | h2
  ·exact⟨(h.de i k hi h2).1,(h.de i k hi h2).2 _ rfl⟩
  ·have q1:=h.inn g (.inl rfl);have q2:=h.inn b hSb;exact⟨by omega,by omega⟩
 have hcase:∀ (X:Sn->Prop),X y->(∀ j,j<T.length->j≠i->X (T.getD j Yj))->∀ j,j<(T.set i y).length->X ((T.set i y).getD j Yj):=fun X x1 x2 j hj=>by
  rw[hlen] at hj;by_cases hij:i=j
  ·subst hij; rw[YV _ _ _ _ hi]; exact x1
  ·rw[Wv _ _ _ _ _ hij]; exact x2 j hj (Ne.symm hij)
 refine⟨⟨?_,?_,?_,h.dg,?_⟩,?_,(ZP.of_below hb hw).trans' hBS⟩
 ·rw[hlen];exact h1.bx.but hbt hgb
 ·rw[hlen];exact Ey RX JM Yj h1.row hi ho hy
 ·refine hcase (fun x=>Vl _ x.e x.d) (he.but hbt fun q=>(hyk b q).2 rfl) fun j hj _=>(h1.en j hj).but hbt fun q=>(h.de j b hj q).2 _ rfl rfl
 ·intro j k hj hk2;have:=hcase (fun x=>∀ k,EB x.e x.d k->k≠g/\b≠k) hyk (fun j hj _ k q=>⟨(h.de j k hj q).1,(h.de j k hj q).2 _ rfl⟩) j hj k hk2;exact⟨this.1,fun x hx=>by cases hx; exact this.2⟩
 ·rintro k (rfl | h2 | ⟨j,hj,h2⟩)
  ·exact .inl (.inl rfl)
  ·exact .inl (.inr (.inl h2))
  ·refine hcase (fun x=>∀ k,EB x.e x.d k->Sp g (some ⟨b,0,none⟩) T k∨w.heap.size<=k) (fun k q=>(hk k q).imp (fun q=>.inr (.inr ⟨i,hi,q⟩)) id) (fun j hj _ k q=>.inl (.inr (.inr ⟨j,hj,q⟩))) j hj k h2
theorem tX (h:Mp w g a c T mo fr ln bt){b:Nat}(ha:a=some ⟨b,0,none⟩){i o:Nat}(hi:i<T.length){ty:TypeId}(cells:Array Value)(ho:o+cells.size<=44)(hz:(Tryz.prog.info? ty).map (·.size)=some cells.size)(h1:cells.all (·.oneCell')=true){q:Nat}(hq:q=i*44+o):(Instr.storeAt ty (Z7 b q) (.agg cells)).run Tryz.prog w=.ok () (w.setCells b (i*44+o) cells.toList):=by
 subst ha;rw[hq];exact run_storeAt_mid (P:=Tryz.prog) w b (i*44+o) ty cells (He RX JM h.row rfl hi ho) hz h1
theorem tN (h:Mp w g a c T mo fr ln bt){b:Nat}(ha:a=some ⟨b,0,none⟩){i o:Nat}(hi:i<T.length){ty:TypeId}(v:Value)(ho:o<44)(hz:(Tryz.prog.info? ty).map (·.size)=some 1)(h1:v.oneCell'=true){q:Nat}(hq:q=i*44+o):(Instr.storeAt ty (Z7 b q) v).run Tryz.prog w=.ok () (w.setCells b (i*44+o) [v]):=by
 subst ha;rw[hq];obtain⟨cur,hcur,hsz,-,-⟩:=YJ h.row;refine Zh hcur ?_ h1 hz;have:=Nat.mul_le_mul_right 44 (show i+1<=T.length from hi);omega
theorem Gm.push (h:Mp w g a c T mo fr ln bt)(hB:∀ k,Sp g a T k->Bd<=k)(hw:Bd<=w.heap.size)(hn:T.length<=100000) :
  ∃ a1 c1 V V2,(Builtin.append_ #[145,145] 145 #[.slice a T.length c,.slice (some ⟨w.heap.size,0,none⟩) 1 1]).run Tryz.prog (w.alloc (.cells (Gu Yj) 144))=.ok (.slice a1 (T.length+1) c1) V/\(Instr.storeAt 145 (Z7 g 1) (.slice a1 (T.length+1) c1)).run Tryz.prog V=.ok () V2/\Gm Bd g a T w a1 c1 (T++[Yj]) mo fr ln bt V2:=by
 have hb:Below w.heap.size w (w.alloc (.cells (Gu Yj) 144)):=(Below.refl _ w).alloc (Nat.le_refl _) _;have hX:Bx (w.alloc (.cells (Gu Yj) 144)) w.heap.size (Gu Yj) 144:=heap_alloc_last w _;have hsz:(w.alloc (.cells (Gu Yj) 144)).heap.size=w.heap.size+1:=by simp
 generalize w.alloc (.cells (Gu Yj) 144)=w1 at *
 have h1:=h.below hb;obtain⟨v,V,hr,hO,hg,hat⟩:=Nz (P:=Tryz.prog) (t:=145) (by kernel_rfl) Eu (by kernel_rfl) (by omega) (by omega) h1.row w.heap.size (RX Yj) (Cs.block hX) rfl (zM Yj) (Nat.zero_le _) hn;obtain⟨a1,c1,rfl,-,-⟩:=Zi hO;have tu:∀ y,a1=some y->(∃ x,a=some x/\x.block=y.block)∨y.block=w1.heap.size:=fun y hy=>by
  subst hy;rcases hat with e | e
  ·cases a with
   | none=>cases e
   | some x=>exact .inl ⟨x,rfl,by simpa [Value.ownBlock] using e.symm⟩
  ·exact .inr (by simpa [Value.ownBlock] using e)
 have hgr:∀ k,k<w1.heap.size->(∀ x,a=some x->x.block≠k)->V.heap[k]?=w1.heap[k]?:=fun k hk hx=>hg.block k hk fun e=>by
  cases a with
  | none=>cases e
  | some x=>exact hx x rfl (by simpa [Value.ownBlock] using e.symm)
 have hgw:g<w.heap.size:=h.bx.lt;have pV:Bx V g (hdp mo fr ln bt a T.length c) 147:=(hgr g (by omega) h.dg).trans h1.bx;have lC:∀ y,a1=some y->y.block≠g:=fun y hy=>(tu y hy).elim (fun⟨x,hx,e⟩=>by rw[<- e]; exact h.dg x hx) fun e=>by omega
 obtain⟨V2,hst,hX2,hbt⟩:=Xm (i:=1) (ty:=145) (v:=.slice a1 (T.length+1) c1) (hdp mo fr ln bt a1 (T.length+1) c1) pV (by show 1<5; decide) (by kernel_rfl) rfl (by kernel_rfl);have hVs:w1.heap.size<=V.heap.size:=by obtain⟨g1,g2,g3,g4,g5⟩:=hg; exact g4
 have bQ:=hO.lt;have hlen:(T++[Yj]).length=T.length+1:=by simp
 have hcase:∀ (X:Sn->Prop),X Yj->(∀ j,j<T.length->X (T.getD j Yj))->∀ j,j<(T++[Yj]).length->X ((T++[Yj]).getD j Yj):=fun X x1 x2 j hj=>by
  rw[hlen] at hj;by_cases hij:j<T.length
  ·rw[XY _ _ _ _ hij]; exact x2 j hij
  ·obtain rfl:j=T.length:=(by omega);rw[Yr]; exact x1
 have hke:∀ j k,j<T.length->EB (T.getD j Yj).e (T.getD j Yj).d k->V2.heap[k]?=w.heap[k]?:=fun j k hj hk=>by
  have hlt:=(h.en j hj).lt k hk;have hd:=h.de j k hj hk;rw[hbt.2 k (by omega) hd.1,hgr k (by omega) hd.2,hb.block k hlt]
 refine⟨a1,c1,V,V2,hr,hst,⟨⟨?_,?_,?_,?_,?_⟩,?_,?_,?_⟩⟩
 ·rw[hlen]; exact hX2
 ·rw[hlen,uy,show([Yj]:List Sn).flatMap RX=RX Yj by simp];exact YL hO fun x hx=>hbt.2 _ (bQ x.block (by rw[hx]; rfl)).2 (lC x hx)
 ·exact hcase (fun x=>Vl V2 x.e x.d) (Vl.z V2) fun j hj=>(h.en j hj).same (hke j · hj)
 ·exact lC
 ·intro j k hj hk;refine hcase (fun x=>∀ k,EB x.e x.d k->k≠g/\∀ y,a1=some y->y.block≠k) (fun k q=>(EB.z q).elim) (fun j hj k q=>⟨(h.de j k hj q).1,fun y hy=>?_⟩) j hj k hk;have hlt:=(h.en j hj).lt k q;exact(tu y hy).elim (fun⟨x,hx,e⟩=>by rw[<- e]; exact(h.de j k hj q).2 x hx) fun e=>by omega
 ·rintro k (rfl | ⟨y,hy,rfl⟩ | ⟨j,hj,q⟩)
  ·exact .inl (.inl rfl)
  ·exact(tu y hy).elim (fun⟨x,hx,e⟩=>.inl (.inr (.inl ⟨x,hx,e⟩))) fun e=>.inr (by omega)
  ·exact hcase (fun x=>∀ k,EB x.e x.d k->Sp g a T k∨w.heap.size<=k) (fun k q=>(EB.z q).elim) (fun j hj k q=>.inl (.inr (.inr ⟨j,hj,q⟩))) j hj k q
 ·have hg2:=hg;obtain⟨g1,g2,g3,g4,g5⟩:=hg2;have hb2:Below Bd w1 V:=⟨by assumption,by assumption,by assumption,by assumption,fun i hi=>g5 i (by omega) fun e=>by
   cases a with
   | none=>cases e
   | some x=>
    have:=hB x.block (.inr (.inl ⟨x,rfl,rfl⟩));have e2:i=x.block:=(by simpa [Value.ownBlock] using e);omega⟩
  exact((hb.mono hw).trans hb2).trans (hbt.1.mono (hB g (.inl rfl)))
 ·intro k hk hn;rw[hbt.2 k (by omega) fun e=>hn (.inl e),hgr k (by omega) fun x hx e=>hn (.inr (.inl ⟨x,hx,e⟩)),hb.block k hk]
end
def D9 (T:List Sn):Int->List Nat->Prop
 | fr,[]=>fr=-1
 | fr,i::r=>fr=i/\i<T.length/\D9 T (T.getD i Yj).nx r
theorem D9.set {T:List Sn}{i:Nat}{y:Sn}:∀ {r:List Nat} {fr:Int},D9 T fr r->i ∉ r->D9 (T.set i y) fr r
 | [],_,h,_=>h
 | j::r,_,h,hn=>by
  have hij:i≠j:=fun e=>hn (by simp[e]);refine⟨h.1,by rw[List.length_set]; exact h.2.1,?_⟩;rw[Wv _ _ _ _ _ hij];exact D9.set h.2.2 fun q=>hn (by simp[q])
theorem D9.app {T:List Sn}{x:Sn}:∀ {r:List Nat} {fr:Int},D9 T fr r->D9 (T++[x]) fr r
 | [],_,h=>h
 | j::r,_,h=>by
  refine⟨h.1,by rw[List.length_append]; exact Nat.lt_add_right _ h.2.1,?_⟩;rw[XY _ _ _ _ h.2.1];exact D9.app h.2.2
structure Lk (m:Sm)(T:List Sn)(fr:Int):Prop where
 len:T.length=m.P.length
 full:∀ i,i<T.length->(T.getD i Yj).full=(m.P.getD i Yp).full
 e:∀ i,i<T.length->(T.getD i Yj).e=(m.P.getD i Yp).e
 us:∀ i,i<T.length->(T.getD i Yj).us=if (m.P.getD i Yp).full=true then ((m.P.getD i Yp).us:Int)-1 else (m.P.getD i Yp).us
 ch:D9 T fr m.F.reverse
theorem Lk.new (n:Int):Lk (newS n) [] (-1):=⟨rfl,fun i h=>by simp at h,fun i h=>by simp at h,fun i h=>by simp at h,rfl⟩
theorem Lk.upd {m:Sm}{T:List Sn}{fr pW:Int}(h:Lk m T fr){i:Nat}(hi:i<T.length){y:Sn}{p:Pn}{F:List Nat}(h1:y.full=p.full)(h2:y.e=p.e)(h3:y.us=if p.full=true then (p.us:Int)-1 else p.us)(hc:D9 (T.set i y) pW F.reverse):Lk ⟨m.mo,m.P.set i p,F⟩ (T.set i y) pW:=by
 have hl:=h.len;have key:∀ (X:Sn->Pn->Prop),X y p->(∀ j,j<T.length->X (T.getD j Yj) (m.P.getD j Yp))->∀ j,j<(T.set i y).length->X ((T.set i y).getD j Yj) ((m.P.set i p).getD j Yp):=fun X x1 x2 j hj=>by
  rw[List.length_set] at hj;by_cases hij:i=j
  ·subst hij; rw[YV _ _ _ _ hi,YV _ _ _ _ (by omega)]; exact x1
  ·rw[Wv _ _ _ _ _ hij,Wv _ _ _ _ _ hij]; exact x2 j hj
 exact⟨by rw[List.length_set,List.length_set]; exact hl,key (fun x q=>x.full=q.full) h1 h.full,key (fun x q=>x.e=q.e) h2 h.e,key (fun x q=>x.us=if q.full=true then (q.us:Int)-1 else q.us) h3 h.us,hc⟩
theorem Lk.app {m:Sm}{T:List Sn}{fr:Int}(h:Lk m T fr):Lk ⟨m.mo,m.P++[Yp],m.F⟩ (T++[Yj]) fr:=by
 have hl:=h.len;have key:∀ (X:Sn->Pn->Prop),X Yj Yp->(∀ j,j<T.length->X (T.getD j Yj) (m.P.getD j Yp))->∀ j,j<(T++[Yj]).length->X ((T++[Yj]).getD j Yj) ((m.P++[Yp]).getD j Yp):=fun X x1 x2 j hj=>by
  rw[List.length_append,List.length_singleton] at hj;by_cases hij:j<T.length
  ·rw[XY _ _ _ _ hij,XY _ _ _ _ (by omega)]; exact x2 j hij
  ·obtain rfl:j=T.length:=(by omega);rw[Yr,hl,Yr];exact x1
 exact⟨by simp[hl],key (fun x q=>x.full=q.full) rfl h.full,key (fun x q=>x.e=q.e) rfl h.e,key (fun x q=>x.us=if q.full=true then (q.us:Int)-1 else q.us) rfl h.us,h.ch.app⟩
structure iH (m:Sm)(e:En)(T1:List Sn)(Tm:Int)(i:Nat):Prop where
 il:i<T1.length
 nf:(T1.getD i Yj).full=false
 hd:Yx m=((i:Int),(T1.getD i Yj).us)
 lk:∀ d,Lk (Xh m e) (T1.set i ⟨e,d,true,(T1.getD i Yj).us,(T1.getD i Yj).nx⟩) Tm
theorem Lk.G6 {m:Sm}{T:List Sn}{fr:Int}{u:Nat}(h:Lk m T fr)(hm:Wm m u)(hc:YO m.P<m.mo){F:List Nat}{i:Nat}(hF:m.F=F++[i])(e:En):fr=i/\iH m e T (T.getD i Yj).nx i:=by
 obtain⟨h1,h2,-⟩:=Xv e hc hF;have hch:=h.ch;rw[hF,List.reverse_append] at hch;obtain⟨e1,e2,e3⟩:=hch;have hi:=hm.fr i (by rw[hF]; simp);have hnd:=hm.nd;rw[hF,List.nodup_append] at hnd;have hni:i ∉ F:=fun h1=>hnd.2.2 i h1 i (by simp) rfl;have hu:=h.us i e2;rw[hi.2,if_neg (by decide)] at hu;refine⟨e1,e2,by rw[h.full i e2]; exact hi.2,by rw[h2,hu],fun d=>?_⟩;rw[h1];exact h.upd e2 (p:=⟨true,(m.P.getD i Yp).us+1,e⟩) rfl rfl (by rw[if_pos rfl]; show(T.getD i Yj).us=_; rw[hu]; show((m.P.getD i Yp).us:Int)=(((m.P.getD i Yp).us+1:Nat):Int)-1; omega) (e3.set (by simpa using hni))
theorem Lk.Qm {m:Sm}{T:List Sn}{fr:Int}(h:Lk m T fr)(hc:YO m.P<m.mo)(hF:m.F=[])(e:En):fr=-1/\iH m e (T++[Yj]) fr T.length:=by
 obtain⟨h1,h2,-⟩:=X7 e hc hF;have hch:=h.ch;rw[hF] at hch;have hl:T.length<(T++[Yj]).length:=by simp
 have hz:(T++[Yj]).getD T.length Yj=Yj:=Yr _ _ _;refine⟨hch,hl,by rw[hz]; rfl,by rw[h2,hz,h.len]; rfl,fun d=>?_⟩;rw[h1,hz];have h3:=h.app;have h4:=h3.upd hl (y:=⟨e,d,true,0,0⟩) (p:=⟨true,1,e⟩) (F:=[]) (pW:=fr) rfl rfl rfl hch;have e5:(m.P++[Yp]).set T.length ⟨true,1,e⟩=m.P++[⟨true,1,e⟩]:=by rw[h.len]; simp
 rw[e5] at h4;exact h4
theorem val_neg {m:Sm}{h:Int×Int}(h0:h.1<0):Xl m h=false:=by
 unfold Xl;rw[decide_eq_false (by omega)];rfl
theorem zq {m:Sm}{h:Int×Int}(h0:(m.P.length:Int)<=h.1):Xl m h=false:=by
 unfold Xl;rw[decide_eq_false (p:=h.1<(m.P.length:Int)) (by omega)];simp
theorem tC {m:Sm}{h:Int×Int}{i:Nat}(hi:h.1=i)(hl:i<m.P.length):Xl m h=((m.P.getD i Yp).full && decide (((m.P.getD i Yp).us:Int)-1=h.2)):=by
 unfold Xl;rw[hi,decide_eq_true (by omega),decide_eq_true (by omega)];rfl
def XB (w:World)(g:Nat)(S:Nat->Prop)(m:Sm):Prop:=∃ a c T fr,Mp w g a c T m.mo fr (YO m.P) (Xw m.P)/\Lk m T fr/\S=Sp g a T
def nI (g B:Nat)(S:Nat->Prop)(m:Sm)(w w':World):Prop:=∃ S',XB w' g S' m/\(∀ k,S' k->S k∨w.heap.size<=k)/\ZP B S w w'
theorem Zu {w w':World}{b o:Nat}{cs:List Value}(h:w.rangeAt b o cs)(hb:Below w.heap.size w w'):w'.rangeAt b o cs:=fun j v hv=>by
 have:=h j v hv;exact(hb.cell (p:=⟨b,o+j,none⟩) (World.block_lt_of_cell? w _ this)).trans this
end Go.Proofs.YtnelmomagdcmnaaGreat.Sl
