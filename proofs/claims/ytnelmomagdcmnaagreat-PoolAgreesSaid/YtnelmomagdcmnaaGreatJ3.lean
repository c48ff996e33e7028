/-
  Texts joined.
-/
import Derived.Test.YtnelmomagdcmnaaGreatJ1
set_option maxRecDepth 100000
set_option maxHeartbeats 8000000
set_option linter.unusedSimpArgs false
set_option linter.unusedVariables false
namespace Go.Proofs.YtnelmomagdcmnaaGreat.Sd
open Go.RowKit
def ZL (B:Nat)(S:Nat->Prop)(w w':World):Prop:=Below B w w'/\∀ k,k<w.heap.size->¬ S k->w'.heap[k]?=w.heap[k]?
theorem ZL.of_below {B:Nat}{S:Nat->Prop}{w w':World}(h:Below w.heap.size w w')(hB:B<=w.heap.size):ZL B S w w':=⟨h.mono hB,fun k hk _=>h.block k hk⟩
theorem Bx.U7 {w w':World}{k t B:Nat}{S:Nat->Prop}{cs:Array Value}(h:Bx w k cs t)(hb:ZL B S w w')(hn:¬ S k):Bx w' k cs t:=(hb.2 k h.lt hn).trans h
theorem Cs.U7 {w w':World}{B:Nat}{S:Nat->Prop}{a:Option Addr}{cs:List Value}(h:Cs w a cs)(hb:ZL B S w w')(hn:∀ x,a=some x->¬ S x.block):Cs w' a cs:=fun j v hj=>by
 obtain⟨b,off,e,hlt,hc⟩:=h j v hj;refine⟨b,off,e,Nat.lt_of_lt_of_le hlt hb.1.size,?_⟩;rw[<- hc];unfold World.cell?;rw[hb.2 b hlt (hn _ e)]
theorem ZL.refl (B:Nat)(S:Nat->Prop)(w:World):ZL B S w w:=⟨Below.refl _ _,fun _ _ _=>rfl⟩
theorem ZL.trans {B:Nat}{S S2:Nat->Prop}{a b c:World}(h:ZL B S a b)(k:ZL B S2 b c)(hs:∀ x,S2 x->S x∨a.heap.size<=x):ZL B S a c:=
 ⟨h.1.trans k.1,fun i hi hn=>(k.2 i (by have:=h.1.size; omega) (fun h2=>(hs i h2).elim hn (by omega))).trans (h.2 i hi hn)⟩
theorem ZL.trans' {B:Nat}{S:Nat->Prop}{a b c:World}(h:ZL B S a b)(k:ZL B S b c):ZL B S a c:=h.trans k fun _=>.inl
theorem ZL.setCell {B:Nat}{S:Nat->Prop}(w:World)(b o:Nat)(v:Value)(hB:B<=b)(hS:S b):ZL B S w (w.setCell ⟨b,o,none⟩ v):=
 ⟨(Below.refl B w).setCell hB v,fun k _ hn=>heap_setCell_other w _ k v (fun e=>hn (by rw[e]; exact hS))⟩
theorem VD {w:World}{B e s n c b:Nat}{xs:List Value}(h:w.ownsRow B e s (.slice (some ⟨b,0,none⟩) n c) n xs)(j:Nat)(v:Value)(hj:j<xs.length):(w.setCell ⟨b,j,none⟩ v).ownsRow B e s (.slice (some ⟨b,0,none⟩) n c) n (xs.set j v):=by
 have hlen:=h.1;rcases h.2 with⟨e0,-⟩ | ⟨g,cap,cur,e0,hb,hg,hn,hm,hc,ht⟩
 ·cases e0
 ·simp only[Value.slice.injEq,Option.some.injEq,Addr.mk.injEq,and_true,true_and] at e0;obtain⟨rfl,rfl⟩:=e0;refine⟨by simpa using hlen,.inr ⟨b,c,cur.setIfInBounds j v,rfl,hb,Joins.block_setCell hg v,hn,hm,by simpa using hc,?_⟩⟩;rw[Array.toList_setIfInBounds,List.take_set,ht]
theorem XK {w:World}{B e s n c b:Nat}{xs:List Value}(h:w.ownsRow B e s (.slice (some ⟨b,0,none⟩) n c) n xs):∃ cur,Bx w b cur e/\n*s<=cur.size/\B<=b/\cur.toList.take (n*s)=xs:=by
 rcases h.2 with⟨e0,-⟩ | ⟨g,cap,cur,e0,hb,hg,hn,hm,hc,ht⟩
 ·cases e0
 ·simp only[Value.slice.injEq,Option.some.injEq,Addr.mk.injEq,and_true,true_and] at e0;obtain⟨rfl,rfl⟩:=e0;exact⟨cur,hg,by rw[hc]; exact Nat.mul_le_mul_right _ hn,hb,ht⟩
theorem ZL.sets {B b:Nat}{S:Nat->Prop}(hB:B<=b)(hS:S b):∀ (vs:List Value) (o:Nat) (w:World),ZL B S w (w.setCells b o vs)
 | [],o,w=>ZL.refl _ _ _
 | v::r,o,w=>(ZL.setCell w b o v hB hS).trans' (ZL.sets hB hS r (o+1) _)
theorem Yo {B e s n c b:Nat}:∀ (vs:List Value) (o:Nat) (w:World) (xs:List Value),w.ownsRow B e s (.slice (some ⟨b,0,none⟩) n c) n xs->o+vs.length<=xs.length->(w.setCells b o vs).ownsRow B e s (.slice (some ⟨b,0,none⟩) n c) n (xs.take o++vs++xs.drop (o+vs.length))
 | [],o,w,xs,h,_=>by simpa [World.setCells] using h
 | v::r,o,w,xs,h,hl=>by
  rw[List.length_cons] at hl;have h1:=Yo r (o+1) _ _ (VD h o v (by omega)) (by rw[List.length_set]; omega);rw[World.setCells];have e:(xs.set o v).take (o+1)++r++(xs.set o v).drop (o+1+r.length)=xs.take o++v::r++xs.drop (o+(v::r).length):=by
   rw[List.drop_set_of_lt (by omega),List.take_set,List.length_cons,show o+(r.length+1)=o+1+r.length by omega];have ho:o<xs.length:=(by omega);rw[List.take_add_one,List.getElem?_eq_getElem ho,Option.toList_some,List.set_append_right _ _ (by rw[List.length_take]; omega),List.length_take,Nat.min_eq_left (by omega),Nat.sub_self,List.set_cons_zero];simp
  rw[e] at h1;exact h1
section
variable {α : Type} (f : α -> List Value) {s : Nat}
theorem UG (hf:∀ x,(f x).length=s):∀ L:List α,(L.flatMap f).length=L.length*s
 | []=>by simp
 | x::r=>by
  rw[List.flatMap_cons,List.length_append,hf x,UG hf r,List.length_cons,Nat.add_mul]; omega
theorem UF (hf:∀ x,(f x).length=s)(z:α):∀ (L:List α) (i j:Nat),i<L.length->j<s->(L.flatMap f)[i*s+j]?=(f (L.getD i z))[j]?
 | [],i,j,h,_=>by simp at h
 | x::r,0,j,_,hj=>by
  rw[List.flatMap_cons,Nat.zero_mul,Nat.zero_add,List.getElem?_append_left (by rw[hf x]; exact hj)]; rfl
 | x::r,i+1,j,h,hj=>by
  rw[List.flatMap_cons,List.getElem?_append_right (by rw[hf x,Nat.add_mul]; omega),hf x,show(i+1)*s+j-s=i*s+j by rw[Nat.add_mul]; omega,UF hf z r i j (by simpa using h) hj]; rfl
theorem UO (hf:∀ x,(f x).length=s):∀ (L:List α) (k:Nat),(L.flatMap f).take (k*s)=(L.take k).flatMap f
 | [],k=>by simp
 | x::r,0=>by simp
 | x::r,k+1=>by
  rw[List.flatMap_cons,List.take_succ_cons,List.flatMap_cons,Nat.add_mul,Nat.one_mul,Nat.add_comm,<- hf x,List.take_append,List.take_of_length_le (by omega),hf x,Nat.add_sub_cancel_left,UO hf r k]
theorem Uh (hf:∀ x,(f x).length=s):∀ (L:List α) (k:Nat),(L.flatMap f).drop (k*s)=(L.drop k).flatMap f
 | [],k=>by simp
 | x::r,0=>by simp
 | x::r,k+1=>by
  rw[List.flatMap_cons,List.drop_succ_cons,Nat.add_mul,Nat.one_mul,Nat.add_comm,<- hf x,List.drop_append,List.drop_of_length_le (by omega),hf x,Nat.add_sub_cancel_left,Uh hf r k,List.nil_append]
theorem Yf {w:World}{a:Option Addr}(hf:∀ x,(f x).length=s)(hs:0<s)(z:α){L:List α}(h:Cs w a (L.flatMap f)){i:Nat}(hi:i<L.length):∃ b off,a=some ⟨b,off,none⟩/\b<w.heap.size/\w.rangeAt b (off+i*s) (f (L.getD i z)):=by
 have hz:=hf (L.getD i z);have h0:=UF f hf z L i 0 hi hs;rw[List.getElem?_eq_getElem (show 0<(f (L.getD i z)).length by omega)] at h0;obtain⟨b,off,rfl,hb,-⟩:=h _ _ h0;refine⟨b,off,rfl,hb,fun j v hj=>?_⟩;have hjs:j<s:=by have:=(List.getElem?_eq_some_iff.1 hj).1; omega
 obtain⟨b2,o2,e2,-,c2⟩:=h _ _ ((UF f hf z L i j hi hjs).trans hj);simp only[Option.some.injEq,Addr.mk.injEq,and_true] at e2;obtain⟨rfl,rfl⟩:=e2;rw[Nat.add_assoc];exact c2
theorem NV (h1:∀ x,∀ u∈f x,u.oneCell'=true)(L:List α):∀ u∈L.flatMap f,u.oneCell'=true:=fun u hu=>by
 obtain⟨x,-,hx⟩:=List.mem_flatMap.1 hu;exact h1 x u hx
end
theorem WL {B b:Nat}(hB:B<=b):∀ (vs:List Value) (o:Nat) (w:World),Below B w (w.setCells b o vs)
 | [],o,w=>Below.refl _ _
 | v::r,o,w=>((Below.refl B w).setCell hB v).trans (WL hB r (o+1) _)
theorem Vl {b:Nat}:∀ (vs:List Value) (o:Nat) (w:World),But b w (w.setCells b o vs)
 | [],o,w=>But.refl _ _
 | v::r,o,w=>(But.setCell w o v).trans (Vl r (o+1) _)
theorem ZN {w:World}{b o j:Nat}{cs:List Value}{v:Value}{ty:TypeId}(h:w.rangeAt b o cs)(hv:cs[j]?=some v)(hag:(isAgg ty).run Tryz.prog w=.ok false w):(Instr.loadAt ty (Z7 b (o+j))).run Tryz.prog w=.ok v w:=XH (h j v hv) hag
theorem ZU {w:World}{g t:Nat}{cs:List Value}(h:Bx w g cs.toArray t):w.rangeAt g 0 cs:=fun j v hv=>by
 rw[cell_of_row w g _ _ _ (0,0) h];simpa using hv
def rb (a:Option Addr){α:Type}(L:List α)(k:Nat):Prop:=L≠[]/\∃ x,a=some x/\x.block=k
theorem Ov {w w':World}{a:Option Addr}{cs:List Value}(h:Cs w a cs)(hs:∀ k,rb a cs k->w'.heap[k]?=w.heap[k]?):Cs w' a cs:=fun j v hj=>by
 obtain⟨b,off,e2,hb,hc⟩:=h j v hj;have hne:cs≠[]:=fun q=>by rw[q] at hj; simp at hj
 have hb2:=hs b ⟨hne,_,e2,rfl⟩;refine⟨b,off,e2,?_,?_⟩
 ·have h1:w.heap[b]?=some w.heap[b]:=Array.getElem?_eq_getElem hb;rw[h1] at hb2;exact(Array.getElem?_eq_some_iff.1 hb2).1
 ·rw[<- hc];unfold World.cell?;rw[hb2]
section
variable {ρ : Operand -> Value} {o : Oper} {x y : Operand}
theorem ZG (ho:o.op=.binOp .lss 3 x y 3)(a b:Int){t:Bool}(ht:decide (a<b)=t)(hx:ρ x=Z9 a)(hy:ρ y=Z9 b)(w:World):(execOp ρ o).run Tryz.prog w=.ok (.value (.bool t)) w:=by
 rw[<- ht];unfold execOp;simp only[ho,hx,hy];go_simp
theorem Uo (ho:o.op=.binOp .eql 23 x y 23)(a b:Int){t:Bool}(ht:decide (a=b)=t)(hx:ρ x=ZV a)(hy:ρ y=ZV b)(w:World):(execOp ρ o).run Tryz.prog w=.ok (.value (.bool t)) w:=by
 have e:(a == b)=t:=ht;unfold execOp;simp only[ho,hx,hy];go_simp
theorem W9 (ho:o.op=.binOp .add 3 x y 3)(a b:Int)(h:-1000000000000<=a+b/\a+b<=1000000000000)(hx:ρ x=Z9 a)(hy:ρ y=Z9 b)(w:World):(execOp ρ o).run Tryz.prog w=.ok (.value (Z9 (a+b))) w:=by
 have hw:IntKind.i64.wrap (a+b)=a+b:=by rw[IntKind.wrap_i64]; omega
 unfold execOp;simp only[ho,hx,hy];go_simp
theorem Tv (ho:o.op=.binOp .sub 3 x y 3)(a b:Int)(h:-1000000000000<=a-b/\a-b<=1000000000000)(hx:ρ x=Z9 a)(hy:ρ y=Z9 b)(w:World):(execOp ρ o).run Tryz.prog w=.ok (.value (Z9 (a-b))) w:=by
 have hw:IntKind.i64.wrap (a-b)=a-b:=by rw[IntKind.wrap_i64]; omega
 unfold execOp;simp only[ho,hx,hy];go_simp
theorem Ug (ho:o.op=.convert 3 23 x)(a:Int)(h0:0<=a)(h1:a<=1000000)(hx:ρ x=Z9 a)(w:World):(execOp ρ o).run Tryz.prog w=.ok (.value (ZV a)) w:=by
 have hw:IntKind.u64.wrap a=a:=by rw[IntKind.wrap_u64]; omega
 unfold execOp;simp only[ho,hx];go_simp
end
theorem YO {ρ:Operand->Value}{o:Oper}{x y:Operand}(ho:o.op=.binOp .gtr 3 x y 3)(a b:Int){t:Bool}(ht:decide (b<a)=t)(hx:ρ x=Z9 a)(hy:ρ y=Z9 b)(w:World):(execOp ρ o).run Tryz.prog w=.ok (.value (.bool t)) w:=by
 rw[<- ht];unfold execOp;simp only[ho,hx,hy];go_simp
theorem XY {ρ:Operand->Value}{o:Oper}{x y:Operand}(ho:o.op=.binOp .eql 3 x y 3)(a b:Int){t:Bool}(ht:decide (a=b)=t)(hx:ρ x=Z9 a)(hy:ρ y=Z9 b)(w:World):(execOp ρ o).run Tryz.prog w=.ok (.value (.bool t)) w:=by
 have e:(a == b)=t:=ht;unfold execOp;simp only[ho,hx,hy];go_simp
theorem Xo {w:World}{g t i:Nat}{cs:Array Value}(cs':Array Value){v:Value}{ty:TypeId}(h:Bx w g cs t)(hi:i<cs.size)(hc:cs.setIfInBounds i v=cs')(h1:v.oneCell'=true)(hs:(Tryz.prog.info? ty).map (·.size)=some 1):∃ V2,(Instr.storeAt ty (Z7 g i) v).run Tryz.prog w=.ok () V2/\Bx V2 g cs' t/\But g w V2:=
 ⟨_,YT h hi h1 hs,by rw[<- hc]; exact h.Gs v,But.setCell w i v⟩
theorem st_all {w:World}{g t:Nat}{cs cs':Array Value}{ty:TypeId}(h:Bx w g cs t)(hz:cs.size=cs'.size)(h1:cs'.all (·.oneCell')=true)(hs:(Tryz.prog.info? ty).map (·.size)=some cs'.size):∃ V2,(Instr.storeAt ty (Z7 g 0) (.agg cs')).run Tryz.prog w=.ok () V2/\Bx V2 g cs' t/\But g w V2:=
 ⟨_,VE h hz h1 hs,h.set,But.setRow w cs'⟩
theorem Zk {c c':Array Value}{ty:TypeId}(w:World)(hz:c.size=c'.size)(h1:c'.all (·.oneCell')=true)(hs:(Tryz.prog.info? ty).map (·.size)=some c'.size):∃ V,(Instr.storeAt ty (Z7 w.heap.size 0) (.agg c')).run Tryz.prog (w.alloc (.cells c ty))=.ok () V/\Below w.heap.size w V/\Bx V w.heap.size c' ty:=by
 obtain⟨V,hst,hX,hbt⟩:=st_all (cs':=c') (ty:=ty) (heap_alloc_last w (.cells c ty):Bx _ _ c ty) hz h1 hs;exact⟨V,hst,((Below.refl _ w).alloc (Nat.le_refl _) _).trans hbt.1,hX⟩
theorem NU {w w':World}{B e s n n2 c:Nat}{a:Option Addr}{xs:List Value}(h:w.ownsRow B e s (.slice a n c) n2 xs)(hs:∀ x,a=some x->w'.heap[x.block]?=w.heap[x.block]?):w'.ownsRow B e s (.slice a n c) n2 xs:=by
 refine⟨h.1,?_⟩;rcases h.2 with h0 | ⟨g,cap,cur,e0,hb,hg,r⟩
 ·exact .inl h0
 ·refine .inr ⟨g,cap,cur,e0,hb,?_,r⟩;simp only[Value.slice.injEq,true_and] at e0;rw[<- hg];exact hs _ e0.1
theorem Ou (s:ByteArray):(s == s)=true:=by
 rw[beq_toListBytes];exact beq_self_eq_true _
theorem Pz {w:World}{B e s n n2 c:Nat}{a:Option Addr}{xs:List Value}(h:w.ownsRow B e s (.slice a n c) n2 xs):Cs w a xs/\n2<=c:=by
 obtain⟨a2,c2,e2,h1,h2⟩:=Yy h;simp only[Value.slice.injEq] at e2;obtain⟨rfl,-,rfl⟩:=e2;exact⟨h1,h2⟩
section
variable {P : Program} {t e s bytes : Nat} {z : Value}
theorem Q5 (hu:P.underlying t=some (.slice e))(hinfo:(P.info? e).map (fun i=>(i.zero,i.size,i.bytes))=some (some z,s,bytes))(hzs:z.cells.size=s)(hs:0<s)(hby:bytes<=1000)
  {w:World} {B n m:Nat} {v:Value} {xs:List Value} (hO:w.ownsRow B e s v n xs) (pa:Option Addr) (cp:Nat) (ys:List Value) (hP:Cs w pa ys) (hl:ys.length=m*s) (h1:∀ u∈ys,u.oneCell'=true) (hB:B<=w.heap.size) (hn:n<=100000) (hm:m<=100000) :
  ∃ v' w',(Builtin.append_ #[t,t] t #[v,.slice pa m cp]).run P w=.ok v' w'/\w'.ownsRow B e s v' (n+m) (xs++ys)/\Below B w w'/\w.grownBy w' v.ownBlock/\(v'.ownBlock=v.ownBlock∨v'.ownBlock=some w.heap.size):=by
 obtain⟨i0,hi,hz0,hz1,hz2⟩:=info_parts hinfo;by_cases hy:ys=[]
 ·subst hy;obtain rfl:m=0:=by
   rcases Nat.eq_zero_or_pos m with h | h
   ·exact h
   ·have:=Nat.mul_pos h hs;rw[<- hl] at this;simp at this
  cases pa with
  | none=>
   refine⟨v,w,?_,by simpa using hO,Below.refl _ _,World.grownBy.refl w _,.inl rfl⟩;rcases hO.2 with⟨rfl,h0⟩ | ⟨g,cap,cur,rfl,_,_,hnc,_⟩
   ·simp[Builtin.append_,run_underlying hu,sizeOf,typeInfo,hi,Builtin.lenOf,Builtin.firstCells]
   ·simp[Builtin.append_,run_underlying hu,sizeOf,typeInfo,hi,Builtin.lenOf,Builtin.firstCells,hnc,storeCells]
  | some x=>
   obtain⟨v',w',hr,h2,h3,-,h4⟩:=run_append_own_at (P:=P) w B t t e i0 z s bytes hu hi hz0 hz1 hz2 hzs hs v n xs hO x 0 cp [] (by simp) (fun j u h=>by simp at h) (by simp) (by unfold maxLen; omega) (by have:=Nat.mul_le_mul (show n+0<=100000 by omega) hby; omega) hB;exact⟨v',w',hr,h2,(Below.refl _ w).grown h3 hB (fun j hj=>(hO.lt j hj).1),h3,h4⟩
 ·obtain⟨y,hy0⟩:∃ y,ys[0]?=some y:=by
   cases ys with
   | nil=>exact absurd rfl hy
   | cons y r=>exact⟨y,rfl⟩
  obtain⟨b,off,rfl,-⟩:=hP 0 y hy0;have hcells:∀ j u,ys[j]?=some u->w.cell? ((⟨b,off,none⟩:Addr).add j)=some u:=fun j u hu=>by
   obtain⟨b2,off2,e2,-,hc⟩:=hP j u hu;simp only[Option.some.injEq,Addr.mk.injEq,and_true] at e2;obtain⟨rfl,rfl⟩:=e2;rw[Addr.add_mid];exact hc
  obtain⟨v',w',hr,h2,h3,-,h4⟩:=run_append_own_at (P:=P) w B t t e i0 z s bytes hu hi hz0 hz1 hz2 hzs hs v n xs hO ⟨b,off,none⟩ m cp ys hl hcells h1 (by unfold maxLen; omega) (by have:=Nat.mul_le_mul (show n+m<=200000 by omega) hby; omega) hB;exact⟨v',w',hr,h2,(Below.refl _ w).grown h3 hB (fun j hj=>(hO.lt j hj).1),h3,h4⟩
end
section
variable {ρ : Operand -> Value} {o : Oper} {x y : Operand}
end
def nY (a b:ByteArray):Bool:=decide (a.data.toList<b.data.toList)
theorem Fa (a:ByteArray):a.toList=a.data.toList:=Lib.toList_data a
theorem eqB (a b:ByteArray):(a.toList == b.toList)=decide (a=b):=by
  rw[Fa,Fa];by_cases h:a=b
  · subst h; simp
  · rw[decide_eq_false h,beq_eq_false_iff_ne];intro e;exact h (ByteArray.ext (Array.toList_inj.1 e))
theorem yI (a b:ByteArray):(a == b)=decide (a=b):=by rw[beq_toListBytes,eqB]
theorem ML (a:ByteArray):nY a a=false:=decide_eq_false (List.lt_irrefl _)
theorem aa3 {a b c:ByteArray}(h:nY a b=true)(g:nY b c=true):nY a c=true:=decide_eq_true (List.lt_trans (of_decide_eq_true h) (of_decide_eq_true g))
theorem kV {a b:ByteArray}(h:nY a b=false)(hn:a≠b):nY b a=true:=by
  refine decide_eq_true ?_;have h1:¬ a.data.toList<b.data.toList:=of_decide_eq_false h;have h2:b.data.toList<=a.data.toList:=List.not_lt.1 h1;rcases List.le_iff_lt_or_eq.1 h2 with h3 | h3
  · exact h3
  · exact absurd (ByteArray.ext (Array.toList_inj.1 h3)).symm hn
section
variable {ρ : Operand -> Value} {o : Oper} {x y : Operand}
theorem QZ (ho:o.op=.binOp .lss 23 x y 23)(a b:Int){t:Bool}(ht:decide (a<b)=t)(hx:ρ x=ZV a)(hy:ρ y=ZV b)(w:World):(execOp ρ o).run Tryz.prog w=.ok (.value (.bool t)) w:=by
  rw[<- ht];unfold execOp;go_simp
theorem KH (ho:o.op=.binOp .gtr 23 x y 23)(a b:Int){t:Bool}(ht:decide (b<a)=t)(hx:ρ x=ZV a)(hy:ρ y=ZV b)(w:World):(execOp ρ o).run Tryz.prog w=.ok (.value (.bool t)) w:=by
  rw[<- ht];unfold execOp;go_simp
theorem am3 (ho:o.op=.binOp .neq 23 x y 23)(a b:Int){t:Bool}(ht:decide (a≠b)=t)(hx:ρ x=ZV a)(hy:ρ y=ZV b)(w:World):(execOp ρ o).run Tryz.prog w=.ok (.value (.bool t)) w:=by
  have e:(a != b)=t:=by rw[<- ht]; by_cases h:a=b <;> simp[h]
  unfold execOp;simp only[ho,hx,hy];go_simp
theorem Y4 (ho:o.op=.binOp .eql 3 x y 3)(a b:Nat){t:Bool}(ht:decide (a=b)=t)(hx:ρ x=Z9 a)(hy:ρ y=Z9 b)(w:World):(execOp ρ o).run Tryz.prog w=.ok (.value (.bool t)) w:=
  XY ho a b (by rw[<- ht]; exact decide_eq_decide.2 (by omega)) hx hy w
end
abbrev Rw:=ByteArray×Int×Int
abbrev Eo:=Int×Int
def Yc (x:Eo):List Value:=[ZV x.1,Z9 x.2]
abbrev ZO (x:Eo):Array Value:=#[ZV x.1,Z9 x.2]
def encs (L:List Eo):List Value:=L.flatMap Yc
theorem Sz (x:Eo):(Yc x).length=2:=rfl
theorem Sv (x:Eo):∀ u∈Yc x,u.oneCell'=true:=List.all_eq_true.1 (show(Yc x).all (·.oneCell')=true by kernel_rfl)
theorem YW (x:Eo):(ZO x).all (·.oneCell')=true:=by kernel_rfl
theorem YJ (L:List Eo):(encs L).length=L.length*2:=UG Yc Sz L
theorem VY (L:List Eo):∀ u∈encs L,u.oneCell'=true:=NV Yc Sv L
theorem VX (A B:List Eo):encs (A++B)=encs A++encs B:=List.flatMap_append
theorem WA (L:List Eo)(k:Nat):(encs L).take (k*2)=encs (L.take k):=UO Yc Sz L k
theorem Wy (L:List Eo)(k:Nat):(encs L).drop (k*2)=encs (L.drop k):=Uh Yc Sz L k
abbrev VB:Eo:=(0,0)
theorem UE:(Tryz.prog.info? 168).map (fun i=>(i.zero,i.size,i.bytes))=some (some (.agg (ZO VB)),2,16):=by kernel_rfl
theorem uH {w:World}{a:Option Addr}{L:List Eo}(h:Cs w a (encs L)){i:Nat}(hi:i<L.length):∃ b off,a=some ⟨b,off,none⟩/\b<w.heap.size/\w.rangeAt b (off+i*2) (Yc (L.getD i VB)):=Yf Yc Sz (by omega) VB h hi
theorem ZE {w:World}{b o:Nat}{x:Eo}(h:w.rangeAt b o (Yc x)):(Instr.loadAt 168 (Z7 b o)).run Tryz.prog w=.ok (.agg (ZO x)) w:=run_loadAt_mid w b o 168 (Yc x) _ h Tryz.underlying168 rfl (by kernel_rfl)
theorem Zo (b off n c k:Nat)(hk:k<n)(V:World)(ρ:Operand->Value)(o:Oper){x y:Operand}(ho:o.op=.indexAddr 132 x y)(hx:ρ x=.slice (some ⟨b,off,none⟩) n c)(hy:ρ y=Z9 k):(execOp ρ o).run Tryz.prog V=.ok (.value (Z7 b (off+k*2))) V:=by
  have hs:(sizeOf (Tryz.prog.elem 132)).run Tryz.prog V=.ok 2 V:=by kernel_rfl
  have hlm:(k:Int)<(n:Int):=by omega
  unfold execOp;simp only[ho,hx,hy];go_simp
theorem KF (x:Eo)(V:World):(Instr.buildSlice 132 1 #[(0,.agg (ZO x))]).run Tryz.prog V=.ok (.slice (some ⟨V.heap.size,0,none⟩) 1 1) (V.alloc (.cells (ZO x) 168)):=by
  obtain⟨i0,hi,hz0,hz1,hz2⟩:=info_parts UE;refine run_buildSlice V 132 168 1 _ (ZO x) i0 _ Tryz.underlying132 hi hz0 (by rw[hz1]; omega) (by rw[hz1]; omega) ?_;rw[hz1];kernel_rfl
theorem VG (a:Option Addr)(n c k:Nat)(w:World)(h:k<=c):(Instr.slice 132 (.slice a n c) none (some (Z9 (k:Int))) none).run Tryz.prog w=.ok (.slice a k c) w:=Ib (s:=2) (by kernel_rfl) (fun w=>by kernel_rfl) a n c k w h
theorem Zy (a:Option Addr)(n c k:Nat)(w:World)(h:k<=n):(Instr.slice 132 (.slice a n c) (some (Z9 (k:Int))) none none).run Tryz.prog w=.ok (.slice (Zb 2 a c k) (n-k) (c-k)) w:=KW (s:=2) (by kernel_rfl) (fun w=>by kernel_rfl) a n c k w h
def Zz (w:World)(B:Nat)(v:Value)(L:List Eo):Prop:=w.ownsRow B 168 2 v L.length (encs L)
theorem Zz.below {w w':World}{B:Nat}{v:Value}{L:List Eo}(h:Zz w B v L)(hb:Below w.heap.size w w'):Zz w' B v L:=own_below h hb
theorem Zz.cs {w:World}{B:Nat}{v:Value}{L:List Eo}(h:Zz w B v L):∃ a c,v=.slice a L.length c/\Cs w a (encs L)/\L.length<=c:=Yy h
theorem Zz.ne {w:World}{B:Nat}{x:Value}{L:List Eo}(h:Zz w B x L):x.ownBlock≠some w.heap.size:=fun e=>Nat.lt_irrefl _ (h.lt _ e).2
theorem CX {w:World}{B:Nat}{v:Value}{A:List Eo}(h:Zz w B v A)(hB:B<=w.heap.size)(pa:Option Addr)(n cp:Nat)(M:List Eo)(hM:Cs w pa (encs M))(hn:M.length=n)(hl:A.length<=100000)(hm:n<=100000) :
    ∃ v' w',(Builtin.append_ #[132,132] 132 #[v,.slice pa n cp]).run Tryz.prog w=.ok v' w'/\Zz w' B v' (A++M)/\Below B w w'/\w.grownBy w' v.ownBlock/\(v'.ownBlock=v.ownBlock∨v'.ownBlock=some w.heap.size):=by
  subst hn;obtain⟨v',w',h1,h2,h3⟩:=Q5 (P:=Tryz.prog) (t:=132) (m:=M.length) Tryz.underlying132 UE (by kernel_rfl) (by omega) (by omega) h pa cp (encs M) hM (YJ M) (VY M) hB hl hm;refine⟨v',w',h1,?_,h3⟩;unfold Zz;rw[VX,List.length_append];exact h2
def strs (S:List ByteArray):List Value:=S.map Value.string
def Py (w:World)(B:Nat)(v:Value)(L:List ByteArray):Prop:=w.ownsRow B 9 1 v L.length (strs L)
theorem Py.below {w w':World}{B:Nat}{v:Value}{L:List ByteArray}(h:Py w B v L)(hb:Below w.heap.size w w'):Py w' B v L:=own_below h hb
theorem Py.cs {w:World}{B:Nat}{v:Value}{L:List ByteArray}(h:Py w B v L):∃ a c,v=.slice a L.length c/\Cs w a (strs L)/\L.length<=c:=Yy h
theorem Py.ne {w:World}{B:Nat}{x:Value}{L:List ByteArray}(h:Py w B x L):x.ownBlock≠some w.heap.size:=fun e=>Nat.lt_irrefl _ (h.lt _ e).2
def YB (w:World)(B:Nat)(v:Value)(L:List Int):Prop:=w.ownsRow B 3 1 v L.length (ZJ L)
theorem YB.below {w w':World}{B:Nat}{v:Value}{L:List Int}(h:YB w B v L)(hb:Below w.heap.size w w'):YB w' B v L:=own_below h hb
theorem YB.cs {w:World}{B:Nat}{v:Value}{L:List Int}(h:YB w B v L):∃ a c,v=.slice a L.length c/\Cs w a (ZJ L)/\L.length<=c:=Yy h
theorem YB.ne {w:World}{B:Nat}{x:Value}{L:List Int}(h:YB w B x L):x.ownBlock≠some w.heap.size:=fun e=>Nat.lt_irrefl _ (h.lt _ e).2
theorem OU {w:World}{B:Nat}{v:Value}{A:List Int}(h:YB w B v A)(hB:B<=w.heap.size)(pa:Option Addr)(n cp:Nat)(M:List Int)(hM:Cs w pa (ZJ M))(hn:M.length=n)(hl:A.length<=100000)(hm:n<=100000) :
    ∃ v' w',(Builtin.append_ #[22,22] 22 #[v,.slice pa n cp]).run Tryz.prog w=.ok v' w'/\YB w' B v' (A++M)/\Below B w w'/\w.grownBy w' v.ownBlock/\(v'.ownBlock=v.ownBlock∨v'.ownBlock=some w.heap.size):=by
  subst hn;obtain⟨v',w',h1,h2,h3⟩:=Q5 (P:=Tryz.prog) (t:=22) (m:=M.length) Tryz.underlying22 OB (by kernel_rfl) (by omega) (by omega) h pa cp (ZJ M) hM (by rw[VH,Nat.mul_one]) (SA M) hB hl hm;refine⟨v',w',h1,?_,h3⟩;unfold YB;rw[SB,List.length_append];exact h2
theorem XF {w:World}{B e s n:Nat}{v:Value}{xs:List Value}(h:w.ownsRow B e s v n xs):(v=.slice none 0 0/\n=0)∨∃ g c,v=.slice (some ⟨g,0,none⟩) n c/\B<=g/\g<w.heap.size/\n<=c:=by
  rcases h.2 with⟨h1,h2⟩ | ⟨g,c,cur,h1,h2,h3,h4,-⟩
  · exact .inl ⟨h1,h2⟩
  · exact .inr ⟨g,c,h1,h2,(Array.getElem?_eq_some_iff.1 h3).1,h4⟩
abbrev Ky:=ByteArray×Int
def kl (a b:Ky):Bool:=nY a.1 b.1 || (decide (a.1=b.1) && decide (a.2<b.2))
def kx (x:Rw):Ky:=(x.1,x.2.1)
theorem Wi {a b:Ky}:kl a b=true↔nY a.1 b.1=true∨(a.1=b.1/\a.2<b.2):=by
 unfold kl;simp only[Bool.or_eq_true,Bool.and_eq_true,decide_eq_true_eq]
theorem uJ (a:Ky):kl a a=false:=by
 cases h:kl a a with
 | false=>rfl
 | true=>
  rcases Wi.1 h with h | h
  ·rw[ML] at h; cases h
  ·omega
theorem eY {a b c:Ky}(h:kl a b=true)(g:kl b c=true):kl a c=true:=by
 rcases Wi.1 h with h1 | ⟨h1,h2⟩ <;> rcases Wi.1 g with g1 | ⟨g1,g2⟩
 ·exact Wi.2 (.inl (aa3 h1 g1))
 ·exact Wi.2 (.inl (by rw[<- g1]; exact h1))
 ·exact Wi.2 (.inl (by rw[h1]; exact g1))
 ·exact Wi.2 (.inr ⟨h1.trans g1,by omega⟩)
theorem Fz {a b:Ky}(h:kl a b=true):a≠b:=fun e=>by rw[e,uJ] at h; cases h
theorem am1 {a b:Ky}(h:kl a b=true):kl b a=false:=by
 cases g:kl b a with
 | false=>rfl
 | true=>have:=eY h g; rw[uJ] at this; cases this
theorem aa4 {a b:Ky}(h:kl a b=false)(hn:a≠b):kl b a=true:=by
 have h1:nY a.1 b.1=false:=by
  cases q:nY a.1 b.1 with
  | false=>rfl
  | true=>rw[Wi.2 (.inl q)] at h; cases h
 by_cases he:a.1=b.1
 ·refine Wi.2 (.inr ⟨he.symm,?_⟩);have h2:¬ a.2<b.2:=fun q=>by rw[Wi.2 (.inr ⟨he,q⟩)] at h; cases h
  have h3:a.2≠b.2:=fun q=>hn (Prod.ext he q);omega
 ·exact Wi.2 (.inl (kV h1 he))
def DX (l:List Rw):Prop:=l.Pairwise fun x y=>kl (kx x) (kx y)=true
def XG (l:List Rw)(k:Ky):Bool:=l.any fun x=>decide (kx x=k)
def H9 (k:Ky):List Rw->Nat->Nat->Nat
 | [],_,p=>p
 | x::r,i,p=>H9 k r (i+1) (if kl (kx x) k then i+1 else p)
def Rk (l:List Rw)(k:Ky)(id:Int):List Rw:=if XG l k then l else l.take (H9 k l 0 0)++[(k.1,k.2,id)]++l.drop (H9 k l 0 0)
def U0 (k:Ky):List Rw->List Rw
 | []=>[]
 | x::r=>if kx x=k then r else x::U0 k r
def Zi (l:List Rw)(n:ByteArray):List Eo:=(l.filter fun x=>decide (x.1=n)).map fun x=>x.2
theorem WC:∀ {l:List Rw},DX l->∀ k:Ky,∃ A B,(l=A++B∨∃ x,kx x=k/\l=A++x::B)/\(∀ x∈A,kl (kx x) k=true)/\(∀ x∈B,kl k (kx x)=true)
 | [],_,k=>⟨[],[],.inl rfl,(fun x h=>by simp at h),(fun x h=>by simp at h)⟩
 | x::r,h,k=>by
  have hp:=List.pairwise_cons.1 h;cases hx:kl (kx x) k with
  | true=>
   obtain⟨A,B,h1,h2,h3⟩:=WC hp.2 k;refine⟨x::A,B,?_,fun y hy=>?_,h3⟩
   ·rcases h1 with h1 | ⟨z,hz,h1⟩
    ·exact .inl (by rw[h1]; rfl)
    ·exact .inr ⟨z,hz,by rw[h1]; rfl⟩
   ·rcases List.mem_cons.1 hy with rfl | hy
    ·exact hx
    ·exact h2 y hy
  | false=>
   by_cases he:kx x=k
   ·exact⟨[],r,.inr ⟨x,he,rfl⟩,(fun y h=>by simp at h),fun y hy=>by rw[<- he]; exact hp.1 y hy⟩
   ·have hk:=aa4 hx he;exact⟨[],x::r,.inl rfl,(fun y h=>by simp at h),fun y hy=>by
     rcases List.mem_cons.1 hy with rfl | hy
     ·exact hk
     ·exact eY hk (hp.1 y hy)⟩
section
variable {A B : List Rw} {k : Ky} {x : Rw}
theorem UR (A B:List Rw)(k:Ky):XG (A++B) k=(XG A k || XG B k):=List.any_append
theorem Tj (h:∀ x∈A,kl (kx x) k=true):XG A k=false:=by
 unfold XG;rw[List.any_eq_false];exact fun x hx=>by simpa using Fz (h x hx)
theorem Ti (h:∀ x∈B,kl k (kx x)=true):XG B k=false:=by
 unfold XG;rw[List.any_eq_false];exact fun x hx=>by simpa using Ne.symm (Fz (h x hx))
theorem Oy:∀ (A B:List Rw) (i p:Nat),(∀ x∈A,kl (kx x) k=true)->H9 k (A++B) i p=H9 k B (i+A.length) (if A=[] then p else i+A.length)
 | [],B,i,p,_=>by simp
 | x::r,B,i,p,h=>by
  rw[List.cons_append,H9,if_pos (h x (by simp)),Oy r B (i+1) (i+1) (fun y hy=>h y (by simp[hy]))];rw[if_neg (List.cons_ne_nil _ _),List.length_cons];by_cases hr:r=[]
  ·subst hr; simp
  ·rw[if_neg hr,show i+1+r.length=i+(r.length+1) by omega]
theorem Q8:∀ (B:List Rw) (i p:Nat),(∀ x∈B,kl k (kx x)=true)->H9 k B i p=p
 | [],i,p,_=>rfl
 | x::r,i,p,h=>by
  rw[H9,if_neg (by rw[am1 (h x (by simp))]; exact Bool.false_ne_true),Q8 r (i+1) p (fun y hy=>h y (by simp[hy]))]
theorem CY (hA:∀ x∈A,kl (kx x) k=true)(hB:∀ x∈B,kl k (kx x)=true):H9 k (A++B) 0 0=A.length:=by
 rw[Oy A B 0 0 hA,Q8 _ _ _ hB,Nat.zero_add];by_cases h:A=[]
 ·subst h; rfl
 ·rw[if_neg h]
theorem Lr (hA:∀ x∈A,kl (kx x) k=true)(hB:∀ x∈B,kl k (kx x)=true)(id:Int):Rk (A++B) k id=A++(k.1,k.2,id)::B:=by
 unfold Rk;rw[UR,Tj hA,Ti hB,CY hA hB,Bool.or_self,if_neg Bool.false_ne_true,List.take_left,List.drop_left,List.append_assoc];rfl
theorem Qz:∀ (A B:List Rw),(∀ x∈A,kl (kx x) k=true)->U0 k (A++B)=A++U0 k B
 | [],B,_=>rfl
 | x::r,B,h=>by
  rw[List.cons_append,U0,if_neg (Fz (h x (by simp))),Qz r B (fun y hy=>h y (by simp[hy]))];rfl
theorem Q7:∀ (B:List Rw),XG B k=false->U0 k B=B
 | [],_=>rfl
 | x::r,h=>by
  unfold XG at h;rw[List.any_cons,Bool.or_eq_false_iff] at h;rw[U0,if_neg (by simpa using h.1),Q7 r h.2]
theorem VZ (A B:List Rw)(n:ByteArray):Zi (A++B) n=Zi A n++Zi B n:=by
 unfold Zi;rw[List.filter_append,List.map_append]
theorem Tf (x:Rw)(B:List Rw)(n:ByteArray):Zi (x::B) n=if x.1=n then x.2::Zi B n else Zi B n:=by
 unfold Zi;by_cases h:x.1=n
 ·rw[List.filter_cons_of_pos (by simpa using h),if_pos h]; rfl
 ·rw[List.filter_cons_of_neg (by simpa using h),if_neg h]
theorem Ox {l:List Rw}{n:ByteArray}{e:Eo}:e∈Zi l n↔(n,e)∈l:=by
 unfold Zi;simp only[List.mem_map,List.mem_filter,decide_eq_true_eq];constructor
 ·rintro⟨x,⟨h1,h2⟩,h3⟩;rw[<- h2,<- h3]; exact h1
 ·exact fun h=>⟨(n,e),⟨h,rfl⟩,rfl⟩
theorem Fe {n:ByteArray}(h:∀ x∈A,kl (kx x) k=true)(hn:k.1=n):∀ e∈Zi A n,e.1<k.2:=fun e he=>by
 rcases Wi.1 (h _ (Ox.1 he)) with h1 | h1
 ·rw[show(kx (n,e)).1=n from rfl,hn,ML] at h1; cases h1
 ·exact h1.2
theorem Fb {n:ByteArray}(h:∀ x∈B,kl k (kx x)=true)(hn:k.1=n):∀ e∈Zi B n,k.2<e.1:=fun e he=>by
 rcases Wi.1 (h _ (Ox.1 he)) with h1 | h1
 ·rw[show(kx (n,e)).1=n from rfl,hn,ML] at h1; cases h1
 ·exact h1.2
end
def UQ (E:List Eo):Prop:=E.Pairwise fun x y=>x.1<y.1
theorem SC {l:List Rw}(h:DX l)(n:ByteArray):UQ (Zi l n):=by
 unfold UQ Zi;rw[List.pairwise_map];refine(h.filter _).imp_of_mem fun {x y} hx hy hk=>?_;have h1:x.1=n:=by simpa using(List.mem_filter.1 hx).2
 have h2:y.1=n:=by simpa using(List.mem_filter.1 hy).2
 rcases Wi.1 hk with h3 | h3
 ·rw[show(kx x).1=n from h1,show(kx y).1=n from h2,ML] at h3; cases h3
 ·exact h3.2
def Zw (E:List Eo)(q:Int):Nat:=E.countP fun e=>decide (e.1<q)
def Vm (E:List Eo)(q:Int):Bool:=E.any fun e=>decide (e.1=q)
theorem PE {EA EB:List Eo}{q:Int}(hA:∀ e∈EA,e.1<q)(hB:∀ e∈EB,q<=e.1):Zw (EA++EB) q=EA.length:=by
 unfold Zw;rw[List.countP_append,List.countP_eq_length.2 (fun e he=>by simpa using hA e he),List.countP_eq_zero.2 (fun e he=>by have:=hB e he; simp; omega)];rfl
theorem cnt_le (E:List Eo)(q:Int):Zw E q<=E.length:=List.countP_le_length
theorem OI {l:List Rw}(k:Ky):Vm (Zi l k.1) k.2=XG l k:=by
 unfold Vm XG;rw[Bool.eq_iff_iff];simp only[List.any_eq_true,decide_eq_true_eq];constructor
 ·rintro⟨e,he,h⟩;exact⟨_,Ox.1 he,Prod.ext rfl h⟩
 ·rintro⟨x,hx,h⟩;refine⟨x.2,Ox.2 ?_,congrArg Prod.snd h⟩;rw[<- show x.1=k.1 from congrArg Prod.fst h]; exact hx
structure uI (l l2:List Rw)(k:Ky)(id:Int):Prop where
 FB:DX l2
 len:l2.length=l.length+1
 own:Zi l2 k.1=(Zi l k.1).take (Zw (Zi l k.1) k.2)++(k.2,id)::(Zi l k.1).drop (Zw (Zi l k.1) k.2)
 oth:∀ n,n≠k.1->Zi l2 n=Zi l n
 mem:∀ x∈l2,x=(k.1,k.2,id)∨x∈l
theorem QB {l:List Rw}(h:DX l){k:Ky}(hn:XG l k=false)(id:Int):uI l (Rk l k id) k id:=by
 obtain⟨A,B,h1,hA,hB⟩:=WC h k;rcases h1 with rfl | ⟨x,hx,rfl⟩
 ·have hp:=List.pairwise_append.1 h;rw[Lr hA hB];have hlA:=Fe (n:=k.1) hA rfl;have hlB:=Fb (n:=k.1) hB rfl;have hc:Zw (Zi (A++B) k.1) k.2=(Zi A k.1).length:=by rw[VZ]; exact PE hlA fun e he=>Int.le_of_lt (hlB e he)
  refine⟨?_,by simp only[List.length_append,List.length_cons]; omega,?_,fun n hn=>?_,fun x hx=>?_⟩
  ·refine List.pairwise_append.2 ⟨hp.1,List.pairwise_cons.2 ⟨hB,hp.2.1⟩,fun a ha b hb=>?_⟩;rcases List.mem_cons.1 hb with rfl | hb
   ·exact hA a ha
   ·exact hp.2.2 a ha b hb
  ·rw[hc,VZ,VZ,Tf,if_pos rfl,List.take_left,List.drop_left]
  ·rw[VZ,VZ,Tf,if_neg (Ne.symm hn)]
  ·rcases List.mem_append.1 hx with h | h
   ·exact .inr (List.mem_append.2 (.inl h))
   ·rcases List.mem_cons.1 h with rfl | h
    ·exact .inl rfl
    ·exact .inr (List.mem_append.2 (.inr h))
 ·rw[UR,show XG (x::B) k=true by unfold XG; rw[List.any_cons,decide_eq_true hx]; rfl,Bool.or_true] at hn;cases hn
theorem KJ {l:List Rw}{k:Ky}(hn:XG l k=true)(id:Int):Rk l k id=l:=by unfold Rk; rw[if_pos hn]
structure Dw (l l2:List Rw)(k:Ky):Prop where
 FB:DX l2
 len:l2.length+1=l.length
 lt:Zw (Zi l k.1) k.2<(Zi l k.1).length
 own:Zi l2 k.1=(Zi l k.1).take (Zw (Zi l k.1) k.2)++(Zi l k.1).drop (Zw (Zi l k.1) k.2+1)
 oth:∀ n,n≠k.1->Zi l2 n=Zi l n
 mem:∀ x∈l2,x∈l
theorem WQ {l:List Rw}(h:DX l){k:Ky}(hn:XG l k=true):Dw l (U0 k l) k:=by
 obtain⟨A,B,h1,hA,hB⟩:=WC h k;rcases h1 with rfl | ⟨x,hx,rfl⟩
 ·rw[UR,Tj hA,Ti hB] at hn; cases hn
 ·have hp:=List.pairwise_append.1 h;have hr:U0 k (A++x::B)=A++B:=by rw[Qz A _ hA,U0,if_pos hx]
  rw[hr];have hxk:x.1=k.1:=congrArg Prod.fst hx;have hlA:=Fe (n:=k.1) hA rfl;have hlB:=Fb (n:=k.1) hB rfl;have hc:Zw (Zi (A++x::B) k.1) k.2=(Zi A k.1).length:=by
   rw[VZ,Tf,if_pos hxk];refine PE hlA fun e he=>?_;rcases List.mem_cons.1 he with rfl | he
   ·have:x.2.1=k.2:=congrArg Prod.snd hx;omega
   ·exact Int.le_of_lt (hlB e he)
  refine⟨?_,by simp only[List.length_append,List.length_cons]; omega,?_,?_,fun n hn=>?_,fun y hy=>?_⟩
  ·exact List.pairwise_append.2 ⟨hp.1,(List.pairwise_cons.1 hp.2.1).2,fun a ha b hb=>hp.2.2 a ha b (by simp[hb])⟩
  ·rw[hc,VZ,Tf,if_pos hxk,List.length_append,List.length_cons]; omega
  ·rw[hc,VZ,VZ,Tf,if_pos hxk,List.take_left,List.drop_append,List.drop_of_length_le (by omega),Nat.add_sub_cancel_left];rfl
  ·rw[VZ,VZ,Tf,if_neg (fun e=>hn (e.symm.trans hxk))]
  ·rcases List.mem_append.1 hy with h | h
   ·exact List.mem_append.2 (.inl h)
   ·exact List.mem_append.2 (.inr (by simp[h]))
theorem PL {l:List Rw}{k:Ky}(hn:XG l k=false):U0 k l=l:=Q7 l hn
def Tq:List Eo->Int->Nat
 | [],_=>0
 | e::r,q=>if e.1=q then Tq r (q+1)+1 else 0
theorem Ik:∀ (E:List Eo) (q:Int),Tq E q<=E.length
 | [],q=>Nat.le_refl 0
 | e::r,q=>by
  have:=Ik r (q+1);rw[Tq]
  split
  ·rw[List.length_cons]; omega
  ·omega
def Nj (E:List Eo)(q:Int):List Int:=((E.drop (Zw E q)).take (Tq (E.drop (Zw E q)) q)).map fun e=>e.2
def W64 (x:Int):Prop:=0<=x/\x<=18446744073709551615
def RwW (l:List Rw):Prop:=∀ x∈l,W64 x.2.1
theorem Le:∀ {E:List Eo} {q:Int},UQ E->(∀ e∈E.take (Zw E q),e.1<q)/\∀ e∈E.drop (Zw E q),q<=e.1
 | [],q,_=>⟨fun e h=>by simp at h,fun e h=>by simp at h⟩
 | e::r,q,h=>by
  have hc:=List.pairwise_cons.1 h;by_cases h1:e.1<q
  ·have h2:=Le (q:=q) hc.2;rw[show Zw (e::r) q=Zw r q+1 by unfold Zw; rw[List.countP_cons_of_pos (by simpa using h1)],List.take_succ_cons,List.drop_succ_cons];exact⟨fun y hy=>by
    rcases List.mem_cons.1 hy with rfl | hy
    ·exact h1
    ·exact h2.1 y hy,h2.2⟩
  ·have h2:∀ y∈e::r,q<=y.1:=fun y hy=>by
    rcases List.mem_cons.1 hy with rfl | hy
    ·omega
    ·have:=hc.1 y hy; omega
   rw[show Zw (e::r) q=0 by unfold Zw; exact List.countP_eq_zero.2 fun y hy=>by have:=h2 y hy; simp; omega];exact⟨fun y hy=>by simp at hy,h2⟩
section
variable {V0 V V2 : World} {k : Rw} {L1 L2 L3 : List Rw} {b0 b1 b2 b3 bk : Bool} {x0 x1 x2 x3 xk v : Value}
end
section
variable {M : List Rw} {k : Ky} {i : Nat}
end
def JK (w:World)(L:List Int)(e:Ending)(w':World):Prop:=∃ v,e=.returned v/\YB w' w.heap.size v L/\Below w.heap.size w w'
def U5 (E:List Eo):List Int:=E.map fun e=>e.2
theorem NW (w:World)(B e s:Nat):w.ownsRow B e s (.slice none 0 0) 0 []:=⟨by simp,.inl ⟨rfl,rfl⟩⟩
theorem fA {ρ:Operand->Value}{o:Oper}{x y:Operand}(ho:o.op=.binOp .add 23 x y 23)(a b:Int)(hx:ρ x=ZV a)(hy:ρ y=ZV b)(w:World):(execOp ρ o).run Tryz.prog w=.ok (.value (ZV (IntKind.u64.wrap (a+b)))) w:=by
 unfold execOp;simp only[ho,hx,hy];go_simp
theorem Qu (M:List Rw)(n:ByteArray):(Zi M n).length<=M.length:=by
 unfold Zi;rw[List.length_map];exact List.length_filter_le _ _
end Go.Proofs.YtnelmomagdcmnaaGreat.Sd
namespace Go.Proofs.YtnelmomagdcmnaaGreat.Ex
open Go.RowKit
def ZL (B:Nat)(S:Nat->Prop)(w w':World):Prop:=Below B w w'/\∀ k,k<w.heap.size->¬ S k->w'.heap[k]?=w.heap[k]?
theorem ZL.of_below {B:Nat}{S:Nat->Prop}{w w':World}(h:Below w.heap.size w w')(hB:B<=w.heap.size):ZL B S w w':=⟨h.mono hB,fun k hk _=>h.block k hk⟩
theorem Bx.U7 {w w':World}{k t B:Nat}{S:Nat->Prop}{cs:Array Value}(h:Bx w k cs t)(hb:ZL B S w w')(hn:¬ S k):Bx w' k cs t:=(hb.2 k h.lt hn).trans h
theorem Cs.U7 {w w':World}{B:Nat}{S:Nat->Prop}{a:Option Addr}{cs:List Value}(h:Cs w a cs)(hb:ZL B S w w')(hn:∀ x,a=some x->¬ S x.block):Cs w' a cs:=fun j v hj=>by
 obtain⟨b,off,e,hlt,hc⟩:=h j v hj;refine⟨b,off,e,Nat.lt_of_lt_of_le hlt hb.1.size,?_⟩;rw[<- hc];unfold World.cell?;rw[hb.2 b hlt (hn _ e)]
theorem ZL.refl (B:Nat)(S:Nat->Prop)(w:World):ZL B S w w:=⟨Below.refl _ _,fun _ _ _=>rfl⟩
theorem ZL.trans {B:Nat}{S S2:Nat->Prop}{a b c:World}(h:ZL B S a b)(k:ZL B S2 b c)(hs:∀ x,S2 x->S x∨a.heap.size<=x):ZL B S a c:=
 ⟨h.1.trans k.1,fun i hi hn=>(k.2 i (by have:=h.1.size; omega) (fun h2=>(hs i h2).elim hn (by omega))).trans (h.2 i hi hn)⟩
theorem ZL.trans' {B:Nat}{S:Nat->Prop}{a b c:World}(h:ZL B S a b)(k:ZL B S b c):ZL B S a c:=h.trans k fun _=>.inl
theorem ZL.setCell {B:Nat}{S:Nat->Prop}(w:World)(b o:Nat)(v:Value)(hB:B<=b)(hS:S b):ZL B S w (w.setCell ⟨b,o,none⟩ v):=
 ⟨(Below.refl B w).setCell hB v,fun k _ hn=>heap_setCell_other w _ k v (fun e=>hn (by rw[e]; exact hS))⟩
theorem VD {w:World}{B e s n c b:Nat}{xs:List Value}(h:w.ownsRow B e s (.slice (some ⟨b,0,none⟩) n c) n xs)(j:Nat)(v:Value)(hj:j<xs.length):(w.setCell ⟨b,j,none⟩ v).ownsRow B e s (.slice (some ⟨b,0,none⟩) n c) n (xs.set j v):=by
 have hlen:=h.1;rcases h.2 with⟨e0,-⟩ | ⟨g,cap,cur,e0,hb,hg,hn,hm,hc,ht⟩
 ·cases e0
 ·simp only[Value.slice.injEq,Option.some.injEq,Addr.mk.injEq,and_true,true_and] at e0;obtain⟨rfl,rfl⟩:=e0;refine⟨by simpa using hlen,.inr ⟨b,c,cur.setIfInBounds j v,rfl,hb,Joins.block_setCell hg v,hn,hm,by simpa using hc,?_⟩⟩;rw[Array.toList_setIfInBounds,List.take_set,ht]
theorem XK {w:World}{B e s n c b:Nat}{xs:List Value}(h:w.ownsRow B e s (.slice (some ⟨b,0,none⟩) n c) n xs):∃ cur,Bx w b cur e/\n*s<=cur.size/\B<=b/\cur.toList.take (n*s)=xs:=by
 rcases h.2 with⟨e0,-⟩ | ⟨g,cap,cur,e0,hb,hg,hn,hm,hc,ht⟩
 ·cases e0
 ·simp only[Value.slice.injEq,Option.some.injEq,Addr.mk.injEq,and_true,true_and] at e0;obtain⟨rfl,rfl⟩:=e0;exact⟨cur,hg,by rw[hc]; exact Nat.mul_le_mul_right _ hn,hb,ht⟩
theorem ZL.sets {B b:Nat}{S:Nat->Prop}(hB:B<=b)(hS:S b):∀ (vs:List Value) (o:Nat) (w:World),ZL B S w (w.setCells b o vs)
 | [],o,w=>ZL.refl _ _ _
 | v::r,o,w=>(ZL.setCell w b o v hB hS).trans' (ZL.sets hB hS r (o+1) _)
theorem Yo {B e s n c b:Nat}:∀ (vs:List Value) (o:Nat) (w:World) (xs:List Value),w.ownsRow B e s (.slice (some ⟨b,0,none⟩) n c) n xs->o+vs.length<=xs.length->(w.setCells b o vs).ownsRow B e s (.slice (some ⟨b,0,none⟩) n c) n (xs.take o++vs++xs.drop (o+vs.length))
 | [],o,w,xs,h,_=>by simpa [World.setCells] using h
 | v::r,o,w,xs,h,hl=>by
  rw[List.length_cons] at hl;have h1:=Yo r (o+1) _ _ (VD h o v (by omega)) (by rw[List.length_set]; omega);rw[World.setCells];have e:(xs.set o v).take (o+1)++r++(xs.set o v).drop (o+1+r.length)=xs.take o++v::r++xs.drop (o+(v::r).length):=by
   rw[List.drop_set_of_lt (by omega),List.take_set,List.length_cons,show o+(r.length+1)=o+1+r.length by omega];have ho:o<xs.length:=(by omega);rw[List.take_add_one,List.getElem?_eq_getElem ho,Option.toList_some,List.set_append_right _ _ (by rw[List.length_take]; omega),List.length_take,Nat.min_eq_left (by omega),Nat.sub_self,List.set_cons_zero];simp
  rw[e] at h1;exact h1
section
variable {α : Type} (f : α -> List Value) {s : Nat}
theorem UG (hf:∀ x,(f x).length=s):∀ L:List α,(L.flatMap f).length=L.length*s
 | []=>by simp
 | x::r=>by
  rw[List.flatMap_cons,List.length_append,hf x,UG hf r,List.length_cons,Nat.add_mul]; omega
theorem UF (hf:∀ x,(f x).length=s)(z:α):∀ (L:List α) (i j:Nat),i<L.length->j<s->(L.flatMap f)[i*s+j]?=(f (L.getD i z))[j]?
 | [],i,j,h,_=>by simp at h
 | x::r,0,j,_,hj=>by
  rw[List.flatMap_cons,Nat.zero_mul,Nat.zero_add,List.getElem?_append_left (by rw[hf x]; exact hj)]; rfl
 | x::r,i+1,j,h,hj=>by
  rw[List.flatMap_cons,List.getElem?_append_right (by rw[hf x,Nat.add_mul]; omega),hf x,show(i+1)*s+j-s=i*s+j by rw[Nat.add_mul]; omega,UF hf z r i j (by simpa using h) hj]; rfl
theorem UO (hf:∀ x,(f x).length=s):∀ (L:List α) (k:Nat),(L.flatMap f).take (k*s)=(L.take k).flatMap f
 | [],k=>by simp
 | x::r,0=>by simp
 | x::r,k+1=>by
  rw[List.flatMap_cons,List.take_succ_cons,List.flatMap_cons,Nat.add_mul,Nat.one_mul,Nat.add_comm,<- hf x,List.take_append,List.take_of_length_le (by omega),hf x,Nat.add_sub_cancel_left,UO hf r k]
theorem Uh (hf:∀ x,(f x).length=s):∀ (L:List α) (k:Nat),(L.flatMap f).drop (k*s)=(L.drop k).flatMap f
 | [],k=>by simp
 | x::r,0=>by simp
 | x::r,k+1=>by
  rw[List.flatMap_cons,List.drop_succ_cons,Nat.add_mul,Nat.one_mul,Nat.add_comm,<- hf x,List.drop_append,List.drop_of_length_le (by omega),hf x,Nat.add_sub_cancel_left,Uh hf r k,List.nil_append]
theorem Yf {w:World}{a:Option Addr}(hf:∀ x,(f x).length=s)(hs:0<s)(z:α){L:List α}(h:Cs w a (L.flatMap f)){i:Nat}(hi:i<L.length):∃ b off,a=some ⟨b,off,none⟩/\b<w.heap.size/\w.rangeAt b (off+i*s) (f (L.getD i z)):=by
 have hz:=hf (L.getD i z);have h0:=UF f hf z L i 0 hi hs;rw[List.getElem?_eq_getElem (show 0<(f (L.getD i z)).length by omega)] at h0;obtain⟨b,off,rfl,hb,-⟩:=h _ _ h0;refine⟨b,off,rfl,hb,fun j v hj=>?_⟩;have hjs:j<s:=by have:=(List.getElem?_eq_some_iff.1 hj).1; omega
 obtain⟨b2,o2,e2,-,c2⟩:=h _ _ ((UF f hf z L i j hi hjs).trans hj);simp only[Option.some.injEq,Addr.mk.injEq,and_true] at e2;obtain⟨rfl,rfl⟩:=e2;rw[Nat.add_assoc];exact c2
theorem NV (h1:∀ x,∀ u∈f x,u.oneCell'=true)(L:List α):∀ u∈L.flatMap f,u.oneCell'=true:=fun u hu=>by
 obtain⟨x,-,hx⟩:=List.mem_flatMap.1 hu;exact h1 x u hx
end
theorem WL {B b:Nat}(hB:B<=b):∀ (vs:List Value) (o:Nat) (w:World),Below B w (w.setCells b o vs)
 | [],o,w=>Below.refl _ _
 | v::r,o,w=>((Below.refl B w).setCell hB v).trans (WL hB r (o+1) _)
theorem Vl {b:Nat}:∀ (vs:List Value) (o:Nat) (w:World),But b w (w.setCells b o vs)
 | [],o,w=>But.refl _ _
 | v::r,o,w=>(But.setCell w o v).trans (Vl r (o+1) _)
theorem ZU {w:World}{g t:Nat}{cs:List Value}(h:Bx w g cs.toArray t):w.rangeAt g 0 cs:=fun j v hv=>by
 rw[cell_of_row w g _ _ _ (0,0) h];simpa using hv
section
variable {ρ : Operand -> Value} {o : Oper} {x y : Operand}
theorem eX (ho:o.op=.binOp .leq 3 x y 3)(a b:Int){t:Bool}(ht:decide (a<=b)=t)(hx:ρ x=Z9 a)(hy:ρ y=Z9 b)(w:World):(execOp ρ o).run Tryz.prog w=.ok (.value (.bool t)) w:=by
 rw[<- ht];unfold execOp;simp only[ho,hx,hy];go_simp
theorem ZG (ho:o.op=.binOp .lss 3 x y 3)(a b:Int){t:Bool}(ht:decide (a<b)=t)(hx:ρ x=Z9 a)(hy:ρ y=Z9 b)(w:World):(execOp ρ o).run Tryz.prog w=.ok (.value (.bool t)) w:=by
 rw[<- ht];unfold execOp;simp only[ho,hx,hy];go_simp
theorem VQ (ho:o.op=.binOp .neq 3 x y 3)(a b:Int){t:Bool}(ht:decide (a≠b)=t)(hx:ρ x=Z9 a)(hy:ρ y=Z9 b)(w:World):(execOp ρ o).run Tryz.prog w=.ok (.value (.bool t)) w:=by
 have e:(a != b)=t:=by rw[<- ht]; by_cases h:a=b <;> simp[h]
 unfold execOp;simp only[ho,hx,hy];go_simp
theorem W9 (ho:o.op=.binOp .add 3 x y 3)(a b:Int)(h:-1000000000000<=a+b/\a+b<=1000000000000)(hx:ρ x=Z9 a)(hy:ρ y=Z9 b)(w:World):(execOp ρ o).run Tryz.prog w=.ok (.value (Z9 (a+b))) w:=by
 have hw:IntKind.i64.wrap (a+b)=a+b:=by rw[IntKind.wrap_i64]; omega
 unfold execOp;simp only[ho,hx,hy];go_simp
theorem Tv (ho:o.op=.binOp .sub 3 x y 3)(a b:Int)(h:-1000000000000<=a-b/\a-b<=1000000000000)(hx:ρ x=Z9 a)(hy:ρ y=Z9 b)(w:World):(execOp ρ o).run Tryz.prog w=.ok (.value (Z9 (a-b))) w:=by
 have hw:IntKind.i64.wrap (a-b)=a-b:=by rw[IntKind.wrap_i64]; omega
 unfold execOp;simp only[ho,hx,hy];go_simp
end
theorem YO {ρ:Operand->Value}{o:Oper}{x y:Operand}(ho:o.op=.binOp .gtr 3 x y 3)(a b:Int){t:Bool}(ht:decide (b<a)=t)(hx:ρ x=Z9 a)(hy:ρ y=Z9 b)(w:World):(execOp ρ o).run Tryz.prog w=.ok (.value (.bool t)) w:=by
 rw[<- ht];unfold execOp;simp only[ho,hx,hy];go_simp
theorem XY {ρ:Operand->Value}{o:Oper}{x y:Operand}(ho:o.op=.binOp .eql 3 x y 3)(a b:Int){t:Bool}(ht:decide (a=b)=t)(hx:ρ x=Z9 a)(hy:ρ y=Z9 b)(w:World):(execOp ρ o).run Tryz.prog w=.ok (.value (.bool t)) w:=by
 have e:(a == b)=t:=ht;unfold execOp;simp only[ho,hx,hy];go_simp
theorem Xo {w:World}{g t i:Nat}{cs:Array Value}(cs':Array Value){v:Value}{ty:TypeId}(h:Bx w g cs t)(hi:i<cs.size)(hc:cs.setIfInBounds i v=cs')(h1:v.oneCell'=true)(hs:(Tryz.prog.info? ty).map (·.size)=some 1):∃ V2,(Instr.storeAt ty (Z7 g i) v).run Tryz.prog w=.ok () V2/\Bx V2 g cs' t/\But g w V2:=
 ⟨_,YT h hi h1 hs,by rw[<- hc]; exact h.Gs v,But.setCell w i v⟩
theorem st_all {w:World}{g t:Nat}{cs cs':Array Value}{ty:TypeId}(h:Bx w g cs t)(hz:cs.size=cs'.size)(h1:cs'.all (·.oneCell')=true)(hs:(Tryz.prog.info? ty).map (·.size)=some cs'.size):∃ V2,(Instr.storeAt ty (Z7 g 0) (.agg cs')).run Tryz.prog w=.ok () V2/\Bx V2 g cs' t/\But g w V2:=
 ⟨_,VE h hz h1 hs,h.set,But.setRow w cs'⟩
theorem ZF {w w':World}{b o:Nat}{cs:List Value}(h:w.rangeAt b o cs)(hb:Below w.heap.size w w'):w'.rangeAt b o cs:=fun j v hv=>by
 have:=h j v hv;exact(hb.cell (p:=⟨b,o+j,none⟩) (World.block_lt_of_cell? w _ this)).trans this
theorem Zk {c c':Array Value}{ty:TypeId}(w:World)(hz:c.size=c'.size)(h1:c'.all (·.oneCell')=true)(hs:(Tryz.prog.info? ty).map (·.size)=some c'.size):∃ V,(Instr.storeAt ty (Z7 w.heap.size 0) (.agg c')).run Tryz.prog (w.alloc (.cells c ty))=.ok () V/\Below w.heap.size w V/\Bx V w.heap.size c' ty:=by
 obtain⟨V,hst,hX,hbt⟩:=st_all (cs':=c') (ty:=ty) (heap_alloc_last w (.cells c ty):Bx _ _ c ty) hz h1 hs;exact⟨V,hst,((Below.refl _ w).alloc (Nat.le_refl _) _).trans hbt.1,hX⟩
theorem NU {w w':World}{B e s n n2 c:Nat}{a:Option Addr}{xs:List Value}(h:w.ownsRow B e s (.slice a n c) n2 xs)(hs:∀ x,a=some x->w'.heap[x.block]?=w.heap[x.block]?):w'.ownsRow B e s (.slice a n c) n2 xs:=by
 refine⟨h.1,?_⟩;rcases h.2 with h0 | ⟨g,cap,cur,e0,hb,hg,r⟩
 ·exact .inl h0
 ·refine .inr ⟨g,cap,cur,e0,hb,?_,r⟩;simp only[Value.slice.injEq,true_and] at e0;rw[<- hg];exact hs _ e0.1
theorem Pz {w:World}{B e s n n2 c:Nat}{a:Option Addr}{xs:List Value}(h:w.ownsRow B e s (.slice a n c) n2 xs):Cs w a xs/\n2<=c:=by
 obtain⟨a2,c2,e2,h1,h2⟩:=Yy h;simp only[Value.slice.injEq] at e2;obtain⟨rfl,-,rfl⟩:=e2;exact⟨h1,h2⟩
section
variable {P : Program} {t e s bytes : Nat} {z : Value}
theorem Q5 (hu:P.underlying t=some (.slice e))(hinfo:(P.info? e).map (fun i=>(i.zero,i.size,i.bytes))=some (some z,s,bytes))(hzs:z.cells.size=s)(hs:0<s)(hby:bytes<=1000)
  {w:World} {B n m:Nat} {v:Value} {xs:List Value} (hO:w.ownsRow B e s v n xs) (pa:Option Addr) (cp:Nat) (ys:List Value) (hP:Cs w pa ys) (hl:ys.length=m*s) (h1:∀ u∈ys,u.oneCell'=true) (hB:B<=w.heap.size) (hn:n<=100000) (hm:m<=100000) :
  ∃ v' w',(Builtin.append_ #[t,t] t #[v,.slice pa m cp]).run P w=.ok v' w'/\w'.ownsRow B e s v' (n+m) (xs++ys)/\Below B w w'/\w.grownBy w' v.ownBlock/\(v'.ownBlock=v.ownBlock∨v'.ownBlock=some w.heap.size):=by
 obtain⟨i0,hi,hz0,hz1,hz2⟩:=info_parts hinfo;by_cases hy:ys=[]
 ·subst hy;obtain rfl:m=0:=by
   rcases Nat.eq_zero_or_pos m with h | h
   ·exact h
   ·have:=Nat.mul_pos h hs;rw[<- hl] at this;simp at this
  cases pa with
  | none=>
   refine⟨v,w,?_,by simpa using hO,Below.refl _ _,World.grownBy.refl w _,.inl rfl⟩;rcases hO.2 with⟨rfl,h0⟩ | ⟨g,cap,cur,rfl,_,_,hnc,_⟩
   ·simp[Builtin.append_,run_underlying hu,sizeOf,typeInfo,hi,Builtin.lenOf,Builtin.firstCells]
   ·simp[Builtin.append_,run_underlying hu,sizeOf,typeInfo,hi,Builtin.lenOf,Builtin.firstCells,hnc,storeCells]
  | some x=>
   obtain⟨v',w',hr,h2,h3,-,h4⟩:=run_append_own_at (P:=P) w B t t e i0 z s bytes hu hi hz0 hz1 hz2 hzs hs v n xs hO x 0 cp [] (by simp) (fun j u h=>by simp at h) (by simp) (by unfold maxLen; omega) (by have:=Nat.mul_le_mul (show n+0<=100000 by omega) hby; omega) hB;exact⟨v',w',hr,h2,(Below.refl _ w).grown h3 hB (fun j hj=>(hO.lt j hj).1),h3,h4⟩
 ·obtain⟨y,hy0⟩:∃ y,ys[0]?=some y:=by
   cases ys with
   | nil=>exact absurd rfl hy
   | cons y r=>exact⟨y,rfl⟩
  obtain⟨b,off,rfl,-⟩:=hP 0 y hy0;have hcells:∀ j u,ys[j]?=some u->w.cell? ((⟨b,off,none⟩:Addr).add j)=some u:=fun j u hu=>by
   obtain⟨b2,off2,e2,-,hc⟩:=hP j u hu;simp only[Option.some.injEq,Addr.mk.injEq,and_true] at e2;obtain⟨rfl,rfl⟩:=e2;rw[Addr.add_mid];exact hc
  obtain⟨v',w',hr,h2,h3,-,h4⟩:=run_append_own_at (P:=P) w B t t e i0 z s bytes hu hi hz0 hz1 hz2 hzs hs v n xs hO ⟨b,off,none⟩ m cp ys hl hcells h1 (by unfold maxLen; omega) (by have:=Nat.mul_le_mul (show n+m<=200000 by omega) hby; omega) hB;exact⟨v',w',hr,h2,(Below.refl _ w).grown h3 hB (fun j hj=>(hO.lt j hj).1),h3,h4⟩
end
section
variable {ρ : Operand -> Value} {o : Oper} {x y : Operand}
end
section
variable {ρ : Operand -> Value} {o : Oper} {x y : Operand}
theorem Y4 (ho:o.op=.binOp .eql 3 x y 3)(a b:Nat){t:Bool}(ht:decide (a=b)=t)(hx:ρ x=Z9 a)(hy:ρ y=Z9 b)(w:World):(execOp ρ o).run Tryz.prog w=.ok (.value (.bool t)) w:=
  XY ho a b (by rw[<- ht]; exact decide_eq_decide.2 (by omega)) hx hy w
end
abbrev Wt:=Int×Int×Int
abbrev Eo:=Int×Int
def Yc (x:Eo):List Value:=[Z9 x.1,Z9 x.2]
abbrev ZO (x:Eo):Array Value:=#[Z9 x.1,Z9 x.2]
def encs (L:List Eo):List Value:=L.flatMap Yc
theorem Sz (x:Eo):(Yc x).length=2:=rfl
theorem Sv (x:Eo):∀ u∈Yc x,u.oneCell'=true:=List.all_eq_true.1 (show(Yc x).all (·.oneCell')=true by kernel_rfl)
theorem YW (x:Eo):(ZO x).all (·.oneCell')=true:=by kernel_rfl
theorem YJ (L:List Eo):(encs L).length=L.length*2:=UG Yc Sz L
theorem VY (L:List Eo):∀ u∈encs L,u.oneCell'=true:=NV Yc Sv L
theorem VX (A B:List Eo):encs (A++B)=encs A++encs B:=List.flatMap_append
theorem WA (L:List Eo)(k:Nat):(encs L).take (k*2)=encs (L.take k):=UO Yc Sz L k
theorem Wy (L:List Eo)(k:Nat):(encs L).drop (k*2)=encs (L.drop k):=Uh Yc Sz L k
abbrev VB:Eo:=(0,0)
theorem UE:(Tryz.prog.info? 174).map (fun i=>(i.zero,i.size,i.bytes))=some (some (.agg (ZO VB)),2,16):=by kernel_rfl
theorem uH {w:World}{a:Option Addr}{L:List Eo}(h:Cs w a (encs L)){i:Nat}(hi:i<L.length):∃ b off,a=some ⟨b,off,none⟩/\b<w.heap.size/\w.rangeAt b (off+i*2) (Yc (L.getD i VB)):=Yf Yc Sz (by omega) VB h hi
theorem ZE {w:World}{b o:Nat}{x:Eo}(h:w.rangeAt b o (Yc x)):(Instr.loadAt 174 (Z7 b o)).run Tryz.prog w=.ok (.agg (ZO x)) w:=run_loadAt_mid w b o 174 (Yc x) _ h Tryz.underlying174 rfl (by kernel_rfl)
theorem Td {w:World}{g k:Nat}{x:Eo}(h:Bx w g (ZO x) k):(Instr.loadAt 174 (Z7 g 0)).run Tryz.prog w=.ok (.agg (ZO x)) w:=ZE (ZU (cs:=Yc x) h)
theorem Zo (b off n c k:Nat)(hk:k<n)(V:World)(ρ:Operand->Value)(o:Oper){x y:Operand}(ho:o.op=.indexAddr 135 x y)(hx:ρ x=.slice (some ⟨b,off,none⟩) n c)(hy:ρ y=Z9 k):(execOp ρ o).run Tryz.prog V=.ok (.value (Z7 b (off+k*2))) V:=by
  have hs:(sizeOf (Tryz.prog.elem 135)).run Tryz.prog V=.ok 2 V:=by kernel_rfl
  have hlm:(k:Int)<(n:Int):=by omega
  unfold execOp;simp only[ho,hx,hy];go_simp
theorem KF (x:Eo)(V:World):(Instr.buildSlice 135 1 #[(0,.agg (ZO x))]).run Tryz.prog V=.ok (.slice (some ⟨V.heap.size,0,none⟩) 1 1) (V.alloc (.cells (ZO x) 174)):=by
  obtain⟨i0,hi,hz0,hz1,hz2⟩:=info_parts UE;refine run_buildSlice V 135 174 1 _ (ZO x) i0 _ Tryz.underlying135 hi hz0 (by rw[hz1]; omega) (by rw[hz1]; omega) ?_;rw[hz1];kernel_rfl
theorem VG (a:Option Addr)(n c k:Nat)(w:World)(h:k<=c):(Instr.slice 135 (.slice a n c) none (some (Z9 (k:Int))) none).run Tryz.prog w=.ok (.slice a k c) w:=Ib (s:=2) (by kernel_rfl) (fun w=>by kernel_rfl) a n c k w h
theorem Zy (a:Option Addr)(n c k:Nat)(w:World)(h:k<=n):(Instr.slice 135 (.slice a n c) (some (Z9 (k:Int))) none none).run Tryz.prog w=.ok (.slice (Zb 2 a c k) (n-k) (c-k)) w:=KW (s:=2) (by kernel_rfl) (fun w=>by kernel_rfl) a n c k w h
def Zz (w:World)(B:Nat)(v:Value)(L:List Eo):Prop:=w.ownsRow B 174 2 v L.length (encs L)
theorem Zz.below {w w':World}{B:Nat}{v:Value}{L:List Eo}(h:Zz w B v L)(hb:Below w.heap.size w w'):Zz w' B v L:=own_below h hb
theorem Zz.cs {w:World}{B:Nat}{v:Value}{L:List Eo}(h:Zz w B v L):∃ a c,v=.slice a L.length c/\Cs w a (encs L)/\L.length<=c:=Yy h
theorem Zz.ne {w:World}{B:Nat}{x:Value}{L:List Eo}(h:Zz w B x L):x.ownBlock≠some w.heap.size:=fun e=>Nat.lt_irrefl _ (h.lt _ e).2
theorem CX {w:World}{B:Nat}{v:Value}{A:List Eo}(h:Zz w B v A)(hB:B<=w.heap.size)(pa:Option Addr)(n cp:Nat)(M:List Eo)(hM:Cs w pa (encs M))(hn:M.length=n)(hl:A.length<=100000)(hm:n<=100000) :
    ∃ v' w',(Builtin.append_ #[135,135] 135 #[v,.slice pa n cp]).run Tryz.prog w=.ok v' w'/\Zz w' B v' (A++M)/\Below B w w'/\w.grownBy w' v.ownBlock/\(v'.ownBlock=v.ownBlock∨v'.ownBlock=some w.heap.size):=by
  subst hn;obtain⟨v',w',h1,h2,h3⟩:=Q5 (P:=Tryz.prog) (t:=135) (m:=M.length) Tryz.underlying135 UE (by kernel_rfl) (by omega) (by omega) h pa cp (encs M) hM (YJ M) (VY M) hB hl hm;refine⟨v',w',h1,?_,h3⟩;unfold Zz;rw[VX,List.length_append];exact h2
def YB (w:World)(B:Nat)(v:Value)(L:List Int):Prop:=w.ownsRow B 3 1 v L.length (ZJ L)
theorem YB.below {w w':World}{B:Nat}{v:Value}{L:List Int}(h:YB w B v L)(hb:Below w.heap.size w w'):YB w' B v L:=own_below h hb
theorem YB.cs {w:World}{B:Nat}{v:Value}{L:List Int}(h:YB w B v L):∃ a c,v=.slice a L.length c/\Cs w a (ZJ L)/\L.length<=c:=Yy h
theorem YB.ne {w:World}{B:Nat}{x:Value}{L:List Int}(h:YB w B x L):x.ownBlock≠some w.heap.size:=fun e=>Nat.lt_irrefl _ (h.lt _ e).2
theorem OU {w:World}{B:Nat}{v:Value}{A:List Int}(h:YB w B v A)(hB:B<=w.heap.size)(pa:Option Addr)(n cp:Nat)(M:List Int)(hM:Cs w pa (ZJ M))(hn:M.length=n)(hl:A.length<=100000)(hm:n<=100000) :
    ∃ v' w',(Builtin.append_ #[22,22] 22 #[v,.slice pa n cp]).run Tryz.prog w=.ok v' w'/\YB w' B v' (A++M)/\Below B w w'/\w.grownBy w' v.ownBlock/\(v'.ownBlock=v.ownBlock∨v'.ownBlock=some w.heap.size):=by
  subst hn;obtain⟨v',w',h1,h2,h3⟩:=Q5 (P:=Tryz.prog) (t:=22) (m:=M.length) Tryz.underlying22 OB (by kernel_rfl) (by omega) (by omega) h pa cp (ZJ M) hM (by rw[VH,Nat.mul_one]) (SA M) hB hl hm;refine⟨v',w',h1,?_,h3⟩;unfold YB;rw[SB,List.length_append];exact h2
theorem XF {w:World}{B e s n:Nat}{v:Value}{xs:List Value}(h:w.ownsRow B e s v n xs):(v=.slice none 0 0/\n=0)∨∃ g c,v=.slice (some ⟨g,0,none⟩) n c/\B<=g/\g<w.heap.size/\n<=c:=by
  rcases h.2 with⟨h1,h2⟩ | ⟨g,c,cur,h1,h2,h3,h4,-⟩
  · exact .inl ⟨h1,h2⟩
  · exact .inr ⟨g,c,h1,h2,(Array.getElem?_eq_some_iff.1 h3).1,h4⟩
end Go.Proofs.YtnelmomagdcmnaaGreat.Ex
