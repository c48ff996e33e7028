/-
  Texts joined.
-/
import Derived.Test.YtnelmomagdcmnaaGreatD16
set_option maxRecDepth 100000
set_option maxHeartbeats 8000000
set_option linter.unusedSimpArgs false
set_option linter.unusedVariables false
namespace Go.Proofs.YtnelmomagdcmnaaGreat.Cg
open Go.RowKit
def ZP (B:Nat)(S:Nat->Prop)(w w':World):Prop:=Below B w w'/\∀ k,k<w.heap.size->¬ S k->w'.heap[k]?=w.heap[k]?
theorem ZP.of_below {B:Nat}{S:Nat->Prop}{w w':World}(h:Below w.heap.size w w')(hB:B<=w.heap.size):ZP B S w w':=⟨h.mono hB,fun k hk _=>h.block k hk⟩
theorem Bx.VQ {w w':World}{k t B:Nat}{S:Nat->Prop}{cs:Array Value}(h:Bx w k cs t)(hb:ZP B S w w')(hn:¬ S k):Bx w' k cs t:=(hb.2 k h.lt hn).trans h
theorem Cs.VQ {w w':World}{B:Nat}{S:Nat->Prop}{a:Option Addr}{cs:List Value}(h:Cs w a cs)(hb:ZP B S w w')(hn:∀ x,a=some x->¬ S x.block):Cs w' a cs:=fun j v hj=>by
 obtain⟨b,off,e,hlt,hc⟩:=h j v hj;refine⟨b,off,e,Nat.lt_of_lt_of_le hlt hb.1.size,?_⟩;rw[<- hc];unfold World.cell?;rw[hb.2 b hlt (hn _ e)]
theorem ZP.refl (B:Nat)(S:Nat->Prop)(w:World):ZP B S w w:=⟨Below.refl _ _,fun _ _ _=>rfl⟩
theorem ZP.trans {B:Nat}{S S2:Nat->Prop}{a b c:World}(h:ZP B S a b)(k:ZP B S2 b c)(hs:∀ x,S2 x->S x∨a.heap.size<=x):ZP B S a c:=
 ⟨h.1.trans k.1,fun i hi hn=>(k.2 i (by have:=h.1.size; omega) (fun h2=>(hs i h2).elim hn (by omega))).trans (h.2 i hi hn)⟩
theorem ZP.trans' {B:Nat}{S:Nat->Prop}{a b c:World}(h:ZP B S a b)(k:ZP B S b c):ZP B S a c:=h.trans k fun _=>.inl
theorem ZP.setCell {B:Nat}{S:Nat->Prop}(w:World)(b o:Nat)(v:Value)(hB:B<=b)(hS:S b):ZP B S w (w.setCell ⟨b,o,none⟩ v):=
 ⟨(Below.refl B w).setCell hB v,fun k _ hn=>heap_setCell_other w _ k v (fun e=>hn (by rw[e]; exact hS))⟩
theorem ZP.sets {B b:Nat}{S:Nat->Prop}(hB:B<=b)(hS:S b):∀ (vs:List Value) (o:Nat) (w:World),ZP B S w (w.setCells b o vs)
 | [],o,w=>ZP.refl _ _ _
 | v::r,o,w=>(ZP.setCell w b o v hB hS).trans' (ZP.sets hB hS r (o+1) _)
section
variable {α : Type} (f : α -> List Value) {s : Nat}
theorem WQ (hf:∀ x,(f x).length=s)(z:α):∀ (L:List α) (i j:Nat),i<L.length->j<s->(L.flatMap f)[i*s+j]?=(f (L.getD i z))[j]?
 | [],i,j,h,_=>by simp at h
 | x::r,0,j,_,hj=>by
  rw[List.flatMap_cons,Nat.zero_mul,Nat.zero_add,List.getElem?_append_left (by rw[hf x]; exact hj)]; rfl
 | x::r,i+1,j,h,hj=>by
  rw[List.flatMap_cons,List.getElem?_append_right (by rw[hf x,Nat.add_mul]; omega),hf x,show(i+1)*s+j-s=i*s+j by rw[Nat.add_mul]; omega,WQ hf z r i j (by simpa using h) hj]; rfl
theorem XR {w:World}{a:Option Addr}(hf:∀ x,(f x).length=s)(hs:0<s)(z:α){L:List α}(h:Cs w a (L.flatMap f)){i:Nat}(hi:i<L.length):∃ b off,a=some ⟨b,off,none⟩/\b<w.heap.size/\w.rangeAt b (off+i*s) (f (L.getD i z)):=by
 have hz:=hf (L.getD i z);have h0:=WQ f hf z L i 0 hi hs;rw[List.getElem?_eq_getElem (show 0<(f (L.getD i z)).length by omega)] at h0;obtain⟨b,off,rfl,hb,-⟩:=h _ _ h0;refine⟨b,off,rfl,hb,fun j v hj=>?_⟩;have hjs:j<s:=by have:=(List.getElem?_eq_some_iff.1 hj).1; omega
 obtain⟨b2,o2,e2,-,c2⟩:=h _ _ ((WQ f hf z L i j hi hjs).trans hj);simp only[Option.some.injEq,Addr.mk.injEq,and_true] at e2;obtain⟨rfl,rfl⟩:=e2;rw[Nat.add_assoc];exact c2
end
theorem ZV {w:World}{g t:Nat}{cs:List Value}(h:Bx w g cs.toArray t):w.rangeAt g 0 cs:=fun j v hv=>by
 rw[cell_of_row w g _ _ _ (0,0) h];simpa using hv
theorem YR {fn:Func}{tmps:Array Value}{w:World}{p g ty:Nat}{v:Value}(hr:fn.results=#[.cell p ty])(h2:tmps.getD p undef=Z7 g 0)(hl:(Instr.loadAt ty (Z7 g 0)).run Tryz.prog w=.ok v w):(results fn tmps).run Tryz.prog w=.ok v w:=by
 unfold results;rw[hr];have h2':tmps[p]?.getD undef=Z7 g 0:=by simpa using h2
 have hl':=hl;simp only[Instr.loadAt,Instr.sureAddr,Sem.run_bind,Sem.run_pure,Result.andThen_ok] at hl';simp[h2',asAddr,hl',Result.andThen]
section
variable {ρ : Operand -> Value} {o : Oper} {x y : Operand}
end
theorem st_all {w:World}{g t:Nat}{cs cs':Array Value}{ty:TypeId}(h:Bx w g cs t)(hz:cs.size=cs'.size)(h1:cs'.all (·.oneCell')=true)(hs:(Tryz.prog.info? ty).map (·.size)=some cs'.size):∃ V2,(Instr.storeAt ty (Z7 g 0) (.agg cs')).run Tryz.prog w=.ok () V2/\Bx V2 g cs' t/\But g w V2:=
 ⟨_,XE h hz h1 hs,h.set,But.setRow w cs'⟩
theorem YQ {c c':Array Value}{ty:TypeId}(w:World)(hz:c.size=c'.size)(h1:c'.all (·.oneCell')=true)(hs:(Tryz.prog.info? ty).map (·.size)=some c'.size):∃ V,(Instr.storeAt ty (Z7 w.heap.size 0) (.agg c')).run Tryz.prog (w.alloc (.cells c ty))=.ok () V/\Below w.heap.size w V/\Bx V w.heap.size c' ty:=by
 obtain⟨V,hst,hX,hbt⟩:=st_all (cs':=c') (ty:=ty) (heap_alloc_last w (.cells c ty):Bx _ _ c ty) hz h1 hs;exact⟨V,hst,((Below.refl _ w).alloc (Nat.le_refl _) _).trans hbt.1,hX⟩
section
variable {P : Program} {t e s bytes : Nat} {z : Value}
end
section
variable {ρ : Operand -> Value} {o : Oper} {x y : Operand}
end
section
variable {ρ : Operand -> Value} {o : Oper} {x y : Operand}
theorem I7 (ho:o.op=.binOp .lss 23 x y 23)(a b:Int){t:Bool}(ht:decide (a<b)=t)(hx:ρ x=ZY a)(hy:ρ y=ZY b)(w:World):(execOp ρ o).run Tryz.prog w=.ok (.value (.bool t)) w:=by
  rw[<- ht];unfold execOp;go_simp
theorem I5 (ho:o.op=.binOp .gtr 23 x y 23)(a b:Int){t:Bool}(ht:decide (b<a)=t)(hx:ρ x=ZY a)(hy:ρ y=ZY b)(w:World):(execOp ρ o).run Tryz.prog w=.ok (.value (.bool t)) w:=by
  rw[<- ht];unfold execOp;go_simp
end
def strs (S:List ByteArray):List Value:=S.map Value.string
def Ug (w:World)(B:Nat)(v:Value)(L:List ByteArray):Prop:=w.ownsRow B 9 1 v L.length (strs L)
theorem Ug.below {w w':World}{B:Nat}{v:Value}{L:List ByteArray}(h:Ug w B v L)(hb:Below w.heap.size w w'):Ug w' B v L:=own_below h hb
theorem Ug.cs {w:World}{B:Nat}{v:Value}{L:List ByteArray}(h:Ug w B v L):∃ a c,v=.slice a L.length c/\Cs w a (strs L)/\L.length<=c:=Zi h
theorem Ug.ne {w:World}{B:Nat}{x:Value}{L:List ByteArray}(h:Ug w B x L):x.ownBlock≠some w.heap.size:=fun e=>Nat.lt_irrefl _ (h.lt _ e).2
def Zd (w:World)(B:Nat)(v:Value)(L:List Int):Prop:=w.ownsRow B 3 1 v L.length (ZM L)
theorem Zd.below {w w':World}{B:Nat}{v:Value}{L:List Int}(h:Zd w B v L)(hb:Below w.heap.size w w'):Zd w' B v L:=own_below h hb
theorem Zd.cs {w:World}{B:Nat}{v:Value}{L:List Int}(h:Zd w B v L):∃ a c,v=.slice a L.length c/\Cs w a (ZM L)/\L.length<=c:=Zi h
theorem Zd.ne {w:World}{B:Nat}{x:Value}{L:List Int}(h:Zd w B x L):x.ownBlock≠some w.heap.size:=fun e=>Nat.lt_irrefl _ (h.lt _ e).2
abbrev XK (c:List Int):Array Value:=#[Z9 (c.getD 0 0),Z9 (c.getD 1 0),Z9 (c.getD 2 0),Z9 (c.getD 3 0),Z9 (c.getD 4 0),Z9 (c.getD 5 0),.bool (decide (c.getD 6 0=1)),Z9 (c.getD 7 0),Z9 (c.getD 8 0),ZY (c.getD 9 0),Z9 (c.getD 10 0),Z9 (c.getD 11 0)]
def PY (c:List Int):Prop:=c.length=12/\(c.getD 6 0=0∨c.getD 6 0=1)/\0<=c.getD 9 0/\c.getD 9 0<18446744073709551616/\∀ i,i<12->i≠9->-9223372036854775808<=c.getD i 0/\c.getD i 0<9223372036854775808
def keysB:List ByteArray:=[⟨#[109,97,120,45,116,120,115]⟩,⟨#[109,97,120,45,98,121,116,101,115]⟩,⟨#[109,97,120,45,116,120,45,98,121,116,101,115]⟩,⟨#[99,97,99,104,101,45,115,105,122,101]⟩,⟨#[116,116,108,45,98,108,111,99,107,115]⟩,⟨#[116,116,108,45,116,105,109,101]⟩,⟨#[107,101,101,112,45,105,110,118,97,108,105,100]⟩,⟨#[98,108,111,99,107,45,98,121,116,101,115]⟩,⟨#[98,108,111,99,107,45,103,97,115]⟩,⟨#[112,114,105,99,101]⟩,⟨#[115,101,108,102]⟩,⟨#[110,111,100,101,115]⟩]
end Go.Proofs.YtnelmomagdcmnaaGreat.Cg
namespace Go.Proofs.YtnelmomagdcmnaaGreat.Cg
attribute [local irreducible] wpList wpQuiet
open Go.RowKit
end Go.Proofs.YtnelmomagdcmnaaGreat.Cg
namespace Go.Proofs.YtnelmomagdcmnaaGreat.Cg
open Go.RowKit
theorem Iz {w:World}{g k:Nat}{x0 x1 x2 x3 x4 x5 x7 x8 x9 x10 x11:Int}{q:Bool}(h:Bx w g #[Z9 x0,Z9 x1,Z9 x2,Z9 x3,Z9 x4,Z9 x5,.bool q,Z9 x7,Z9 x8,ZY x9,Z9 x10,Z9 x11] k):(Instr.loadAt 25 (Z7 g 0)).run Tryz.prog w=.ok (.agg #[Z9 x0,Z9 x1,Z9 x2,Z9 x3,Z9 x4,Z9 x5,.bool q,Z9 x7,Z9 x8,ZY x9,Z9 x10,Z9 x11]) w:=run_loadAt_mid w g 0 25 (#[Z9 x0,Z9 x1,Z9 x2,Z9 x3,Z9 x4,Z9 x5,.bool q,Z9 x7,Z9 x8,ZY x9,Z9 x10,Z9 x11]:Array Value).toList _ (ZV (cs:=(#[Z9 x0,Z9 x1,Z9 x2,Z9 x3,Z9 x4,Z9 x5,.bool q,Z9 x7,Z9 x8,ZY x9,Z9 x10,Z9 x11]:Array Value).toList) h) Tryz.underlying25 rfl (by kernel_rfl)
theorem Gz (w:World):Calls Tryz.prog 32 #[] w fun e w'=>e=.returned (.agg (XK Vd))/\Below w.heap.size w w':=by
 obtain⟨V2,hst,hb,hY⟩:=YQ (c:=#[Z9 0,Z9 0,Z9 0,Z9 0,Z9 0,Z9 0,ZW,Z9 0,Z9 0,ZY 0,Z9 0,Z9 0]) (c':=#[Z9 100,Z9 65536,Z9 1024,Z9 200,Z9 0,Z9 0,ZW,Z9 32768,Z9 (-1),ZY 1,Z9 0,Z9 1]) (ty:=25) w rfl (by kernel_rfl) (by kernel_rfl);have Q5:=Z8 (Iz hY);have HE:=Z8 hb;clear hb hY;go_enter Tryz.func32,Tryz.ntmps32;go_upto_region 1 with fail;change Code.wp _ _ _ _ (w.alloc (.cells #[Z9 0,Z9 0,Z9 0,Z9 0,Z9 0,Z9 0,ZW,Z9 0,Z9 0,ZY 0,Z9 0,Z9 0] 25));generalize w.alloc (.cells #[Z9 0,Z9 0,Z9 0,Z9 0,Z9 0,Z9 0,ZW,Z9 0,Z9 0,ZY 0,Z9 0,Z9 0] 25)=W at *
 obtain⟨g0,hg0⟩:=ZR w.heap.size;simp only[hg0] at hst Q5 ⊢;refine wl<|ZN (.agg #[Z9 100,Z9 65536,Z9 1024,Z9 200,Z9 0,Z9 0,ZW,Z9 32768,Z9 (-1),ZY 1,Z9 0,Z9 1])<|WC rfl (hst)<|wn ?_;simp only[pu];go_wp2_with fail;exact bodyPost_ret (YR rfl (by kernel_rfl) Q5.out) rfl ⟨rfl,HE.out⟩
end Go.Proofs.YtnelmomagdcmnaaGreat.Cg
namespace Go.Proofs.YtnelmomagdcmnaaGreat.Cg
attribute [local irreducible] wpList wpQuiet
open Go.RowKit
def Ic (c:List Int)(j:Nat):Prop:=j=9∨(XM.getD j 0<=c.getD j 0/\c.getD j 0<=QO.getD j 0)
theorem Jg {c:List Int}{i:Nat}(hi:i<12)(h:¬ Ic c i):Ul c=1:=by
 unfold Ul aH;rw[if_neg];intro hh;rw[Bool.and_eq_true,List.all_eq_true] at hh;have h1:=hh.1 i (List.mem_range.2 hi);rw[Bool.or_eq_true,Bool.and_eq_true,decide_eq_true_eq,decide_eq_true_eq,decide_eq_true_eq] at h1;exact h h1
theorem yN {c:List Int}(h:∀ i,i<12->Ic c i):Ul c=if c.getD 10 0<c.getD 11 0 then 0 else 1:=by
 have h1:((List.range 12).all fun i=>decide (i=9) || (decide (XM.getD i 0<=c.getD i 0) && decide (c.getD i 0<=QO.getD i 0)))=true:=by
  rw[List.all_eq_true];intro i hi;rw[Bool.or_eq_true,Bool.and_eq_true,decide_eq_true_eq,decide_eq_true_eq,decide_eq_true_eq];exact h i (List.mem_range.1 hi)
 unfold Ul aH;rw[h1,Bool.true_and];by_cases h2:c.getD 10 0<c.getD 11 0
 ·rw[if_pos (decide_eq_true h2),if_pos h2]
 ·rw[if_neg (by rw[decide_eq_true_eq]; exact h2),if_neg h2]
abbrev Ju (m:Bool)(s:Int):Array Value:=#[.bool m,ZY s]
def Vf (n:Int):Int:=if n<0 then -n else n
def OJ (m1:Bool)(s1:Int)(m2:Bool)(s2:Int):Bool:=match m1,m2 with
 | true,true=>decide (s2<s1)
 | false,false=>decide (s1<s2)
 | true,false=>true
 | false,true=>false
def yI (lo hi:Int)(m:Bool)(s:Int):Bool:=!(OJ m s (decide (lo<0)) (Vf lo)) && !(OJ false hi m s)
theorem yO {lo hi v:Int}(hh:0<=hi):yI lo hi (decide (v<0)) (Vf v)=(decide (lo<=v) && decide (v<=hi)):=by
 unfold yI Vf;by_cases h1:v<0 <;> by_cases h2:lo<0 <;> simp only[h1,h2,decide_true,decide_false,if_true,if_false,OJ,Bool.not_true,Bool.not_false,Bool.true_and,Bool.false_and]
 ·rw[show decide (v<=hi)=true from decide_eq_true (by omega),Bool.and_true,Bool.and_true];by_cases h3:lo<=v
  ·rw[decide_eq_true h3,decide_eq_false (by omega)]; rfl
  ·rw[decide_eq_false h3,decide_eq_true (by omega)]; rfl
 ·rw[show decide (lo<=v)=false from decide_eq_false (by omega),Bool.false_and]
 ·rw[show decide (lo<=v)=true from decide_eq_true (by omega),Bool.true_and];by_cases h3:v<=hi
  ·rw[decide_eq_true h3,decide_eq_false (by omega)]; rfl
  ·rw[decide_eq_false h3,decide_eq_true (by omega)]; rfl
 ·by_cases h3:v<=hi <;> by_cases h4:lo<=v
  ·rw[decide_eq_true h3,decide_eq_true h4,decide_eq_false (show ¬ v<lo by omega),decide_eq_false (show ¬ hi<v by omega)]; rfl
  ·rw[decide_eq_true h3,decide_eq_false h4,decide_eq_true (show v<lo by omega)]; rfl
  ·rw[decide_eq_false h3,decide_eq_true h4,decide_eq_false (show ¬ v<lo by omega),decide_eq_true (show hi<v by omega)]; rfl
  ·rw[decide_eq_false h3,decide_eq_false h4,decide_eq_true (show v<lo by omega)]; rfl
theorem XC {w:World}{g k:Nat}{m:Bool}{s:Int}(h:Bx w g (Ju m s) k):(Instr.loadAt 155 (Z7 g 0)).run Tryz.prog w=.ok (.agg (Ju m s)) w:=run_loadAt_mid w g 0 155 (Ju m s).toList _ (ZV (cs:=(Ju m s).toList) h) Tryz.underlying155 rfl (by kernel_rfl)
theorem Jt {n:Int}(h:-9223372036854775808<=n/\n<9223372036854775808):IntKind.u64.wrap (if IntKind.i64.wrap (-n) > n then IntKind.i64.wrap (-n) else n)=Vf n:=by
 unfold Vf;by_cases h0:n=-9223372036854775808
 ·subst h0; decide +kernel
 ·have e:IntKind.i64.wrap (-n)=-n:=by
   rw[show IntKind.i64.wrap (-n)=(-n+9223372036854775808) % 18446744073709551616-9223372036854775808 by simp[IntKind.wrap,IntKind.signed,IntKind.bits]; omega];omega
  rw[e,IntKind.wrap_u64]
  split <;> split <;> omega
section
variable {ρ : Operand -> Value} {o : Oper} {x y : Operand}
theorem Eb (ho:o.op=.call { callee:=.builtin .max,args:=#[x,y],argTypes:=#[3,3] })(a b:Int)(hx:ρ x=Z9 a)(hy:ρ y=Z9 b)(w:World):(execOp ρ o).run Tryz.prog w=.ok (.value (Z9 (if b > a then b else a))) w:=by
 unfold execOp;simp only[ho,hx,hy];go_simp;all_goals (by_cases hab:a<b <;> first | (rw[if_pos hab,Int.max_eq_right (by omega)]) | (rw[if_neg hab,Int.max_eq_left (by omega)]))
theorem jU (ho:o.op=.unOp .neg 3 x)(a:Int)(hx:ρ x=Z9 a)(w:World):(execOp ρ o).run Tryz.prog w=.ok (.value (Z9 (IntKind.i64.wrap (-a)))) w:=by
 unfold execOp;simp only[ho,hx];go_simp
theorem Dh (ho:o.op=.convert 3 23 x)(a b:Int)(hb:IntKind.u64.wrap a=b)(hx:ρ x=Z9 a)(w:World):(execOp ρ o).run Tryz.prog w=.ok (.value (ZY b)) w:=by
 unfold execOp;simp only[ho,hx];go_simp
theorem MZ (ho:o.op=.binOp .neq 4 x y 4)(a b:Bool){t:Bool}(ht:(a != b)=t)(hx:ρ x=.bool a)(hy:ρ y=.bool b)(w:World):(execOp ρ o).run Tryz.prog w=.ok (.value (.bool t)) w:=by
 subst ht;unfold execOp;simp only[ho,hx,hy];cases a <;> cases b <;> go_simp
end
theorem Na {n:Int}(hn:-9223372036854775808<=n/\n<9223372036854775808)(w:World):Calls Tryz.prog 110 #[Z9 n] w fun e w'=>e=.returned (.agg (Ju (decide (n<0)) (Vf n)))/\Below w.heap.size w w':=by
 have HA:=Jt hn;obtain⟨V2,hst,hb,hY⟩:=YQ (c:=#[ZW,ZY 0]) (c':=Ju (decide (n<0)) (Vf n)) (ty:=155) w rfl (by kernel_rfl) (by kernel_rfl);have Q5:=Z8 (XC hY);have HE:=Z8 hb;clear hb hY;obtain⟨y,hy⟩:=ZR (IntKind.i64.wrap (-n));have HY:=Z8 hy;rw[hy] at HA;obtain⟨x8,h8⟩:=ZR ((if y > n then y else n));have H8:=Z8 h8;rw[h8] at HA;clear hy h8;generalize hA:Vf n=A at *
 clear hA;go_enter Tryz.func110,Tryz.ntmps110;go_upto_region 1 with fail;change Code.wp _ _ _ _ (w.alloc (.cells #[ZW,ZY 0] 155));generalize w.alloc (.cells #[ZW,ZY 0] 155)=W at *
 obtain⟨g0,hg0⟩:=ZR w.heap.size;simp only[hg0] at hst Q5 ⊢;refine wl<|ZN (Z9 n)<|Yb (.bool (decide (n<0))) (Zv rfl n 0 rfl)<|ZA (Z9 n) (Z9 n)<|YT (Z9 y) ((by rw[<- HY.out]; exact jU rfl n (by kernel_rfl) _)) <|
  YT (Z9 x8) ((by rw[<- H8.out]; exact Eb rfl n y (by kernel_rfl) (by kernel_rfl) _))<|YT (ZY A) (Dh rfl x8 A HA (by kernel_rfl) _)<|ZN (.agg #[.bool (decide (n<0)),ZY A])<|WC rfl (hst)<|wn ?_
 simp only[pu];go_wp2_with fail;exact bodyPost_ret (YR rfl (by kernel_rfl) Q5.out) rfl ⟨rfl,HE.out⟩
theorem Df (m1 m2:Bool)(s1 s2:Int)(w:World):Calls Tryz.prog 109 #[.agg (Ju m1 s1),.agg (Ju m2 s2)] w fun e w'=>e=.returned (.bool (OJ m1 s1 m2 s2))/\Below w.heap.size w w':=by
 go_enter Tryz.func109,Tryz.ntmps109;go_upto_region 1 with fail;change Code.wp _ _ _ _ ((w.alloc (.cells #[.bool m1,ZY s1] 155)).alloc (.cells #[.bool m2,ZY s2] 155));have Zn:Below w.heap.size w (w.alloc (.cells #[.bool m1,ZY s1] 155)):=(Below.refl _ w).alloc (Nat.le_refl _) _;have hX2:Bx (w.alloc (.cells #[.bool m1,ZY s1] 155)) w.heap.size #[.bool m1,ZY s1] 155:=heap_alloc_last w _;have Yq:(w.alloc (.cells #[.bool m1,ZY s1] 155)).heap.size=w.heap.size+1:=by simp
 generalize w.alloc (.cells #[.bool m1,ZY s1] 155)=Yw at *
 have WV:Below w.heap.size w (Yw.alloc (.cells #[.bool m2,ZY s2] 155)):=Zn.alloc Zn.size _;have hX2:=hX2.below hX2.lt ((Below.refl _ Yw).alloc (Nat.le_refl _) (.cells #[.bool m2,ZY s2] 155));have Ze:Bx (Yw.alloc (.cells #[.bool m2,ZY s2] 155)) Yw.heap.size #[.bool m2,ZY s2] 155:=heap_alloc_last Yw _;have Uj:(Yw.alloc (.cells #[.bool m2,ZY s2] 155)).heap.size=Yw.heap.size+1:=by simp
 generalize Yw.alloc (.cells #[.bool m2,ZY s2] 155)=W at *
 obtain⟨g2,hg2⟩:=ZR w.heap.size;rw[hg2] at hX2;obtain⟨g3,hg3⟩:=ZR Yw.heap.size;rw[hg3] at Ze;have hq1:w.heap.size+1=g3:=by omega
 have WG:Hid (g2=w.heap.size+0/\g3=w.heap.size+1/\W.heap.size=w.heap.size+2):=Z8 ⟨by omega,by omega,by omega⟩;have HB:=Z8 WV;simp only[hg2];try simp only[show g2+1=g3 by omega]
 clear Zn Yq hg2 WV Uj hg3 hq1;have HE:=Z8 HB.out;clear WG HB;cases m1 <;> cases m2
 ·refine wl<|ZN (Z7 g2 0)<|Zq rfl ⟨g2,0,none⟩ ZW (hX2.ZL 0)<|ZN (Z7 g3 0)<|Zq rfl ⟨g3,0,none⟩ ZW (Ze.ZL 0) <|
   Yb ZW (MZ rfl false false rfl)<|wn ?_
  simp only[pu];go_upto_region 3 with fail;refine wl<|ZN (Z7 g2 0)<|Zq rfl ⟨g2,0,none⟩ ZW (hX2.ZL 0)<|wn ?_;simp only[pu];go_upto_region 5 with fail;refine wl<|ZN (Z7 g2 1)<|Zq rfl ⟨g2,1,none⟩ (ZY s1) (hX2.ZL 1)<|ZN (Z7 g3 1)<|Zq rfl ⟨g3,1,none⟩ (ZY s2) (Ze.ZL 1) <|
   Yb (.bool (decide (s1<s2))) (I7 rfl s1 s2 rfl)<|ZN (.bool (decide (s1<s2)))<|wn ?_
  simp only[pu];go_wp2_with fail;go_ret;exact⟨rfl,HE.out⟩
 ·refine wl<|ZN (Z7 g2 0)<|Zq rfl ⟨g2,0,none⟩ ZW (hX2.ZL 0)<|ZN (Z7 g3 0)<|Zq rfl ⟨g3,0,none⟩ ZT (Ze.ZL 0) <|
   Yb ZT (MZ rfl false true rfl)<|wn ?_
  simp only[pu];go_upto_region 2 with fail;refine wl<|ZN (Z7 g2 0)<|Zq rfl ⟨g2,0,none⟩ ZW (hX2.ZL 0)<|ZN ZW<|wn ?_;simp only[pu];go_wp2_with fail;go_ret;exact⟨rfl,HE.out⟩
 ·refine wl<|ZN (Z7 g2 0)<|Zq rfl ⟨g2,0,none⟩ ZT (hX2.ZL 0)<|ZN (Z7 g3 0)<|Zq rfl ⟨g3,0,none⟩ ZW (Ze.ZL 0) <|
   Yb ZT (MZ rfl true false rfl)<|wn ?_
  simp only[pu];go_upto_region 2 with fail;refine wl<|ZN (Z7 g2 0)<|Zq rfl ⟨g2,0,none⟩ ZT (hX2.ZL 0)<|ZN ZT<|wn ?_;simp only[pu];go_wp2_with fail;go_ret;exact⟨rfl,HE.out⟩
 ·refine wl<|ZN (Z7 g2 0)<|Zq rfl ⟨g2,0,none⟩ ZT (hX2.ZL 0)<|ZN (Z7 g3 0)<|Zq rfl ⟨g3,0,none⟩ ZT (Ze.ZL 0) <|
   Yb ZW (MZ rfl true true rfl)<|wn ?_
  simp only[pu];go_upto_region 3 with fail;refine wl<|ZN (Z7 g2 0)<|Zq rfl ⟨g2,0,none⟩ ZT (hX2.ZL 0)<|wn ?_;simp only[pu];go_upto_region 4 with fail;refine wl<|ZN (Z7 g2 1)<|Zq rfl ⟨g2,1,none⟩ (ZY s1) (hX2.ZL 1)<|ZN (Z7 g3 1)<|Zq rfl ⟨g3,1,none⟩ (ZY s2) (Ze.ZL 1) <|
   Yb (.bool (decide (s2<s1))) (I5 rfl s1 s2 rfl)<|ZN (.bool (decide (s2<s1)))<|wn ?_
  simp only[pu];go_wp2_with fail;go_ret;exact⟨rfl,HE.out⟩
theorem Dj (k fv:Value)(hk1:k.oneCell'=true)(hk2:fv.oneCell'=true){lo hi:Int}(hlo:-9223372036854775808<=lo/\lo<9223372036854775808)(m:Bool)(s:Int)(w:World):Calls Tryz.prog 83 #[.agg #[k,fv,Z9 lo,ZY hi],.agg (Ju m s)] w fun e w'=>e=.returned (.bool (yI lo hi m s))/\Below w.heap.size w w':=by
 have CW:=fun V=>Na hlo V;have C1:=fun V=>Df m (decide (lo<0)) s (Vf lo) V;have C2:=fun V=>Df false m hi s V;unfold yI;generalize OJ m s (decide (lo<0)) (Vf lo)=q1 at *
 generalize OJ false hi m s=q2 at *
 generalize decide (lo<0)=b at *
 generalize Vf lo=z at *
 clear hlo;go_enter Tryz.func83,Tryz.ntmps83;go_upto_region 1 with fail;change Code.wp _ _ _ _ ((w.alloc (.cells #[k,fv,Z9 lo,ZY hi] 152)).alloc (.cells #[.bool m,ZY s] 155));have Zn:Below w.heap.size w (w.alloc (.cells #[k,fv,Z9 lo,ZY hi] 152)):=(Below.refl _ w).alloc (Nat.le_refl _) _;have hX2:Bx (w.alloc (.cells #[k,fv,Z9 lo,ZY hi] 152)) w.heap.size #[k,fv,Z9 lo,ZY hi] 152:=heap_alloc_last w _;have Yq:(w.alloc (.cells #[k,fv,Z9 lo,ZY hi] 152)).heap.size=w.heap.size+1:=by simp
 generalize w.alloc (.cells #[k,fv,Z9 lo,ZY hi] 152)=Yw at *
 have WV:Below w.heap.size w (Yw.alloc (.cells #[.bool m,ZY s] 155)):=Zn.alloc Zn.size _;have hX2:=hX2.below hX2.lt ((Below.refl _ Yw).alloc (Nat.le_refl _) (.cells #[.bool m,ZY s] 155));have Ze:Bx (Yw.alloc (.cells #[.bool m,ZY s] 155)) Yw.heap.size #[.bool m,ZY s] 155:=heap_alloc_last Yw _;have Uj:(Yw.alloc (.cells #[.bool m,ZY s] 155)).heap.size=Yw.heap.size+1:=by simp
 generalize Yw.alloc (.cells #[.bool m,ZY s] 155)=W at *
 obtain⟨g2,hg2⟩:=ZR w.heap.size;rw[hg2] at hX2;obtain⟨g3,hg3⟩:=ZR Yw.heap.size;rw[hg3] at Ze;have hq1:w.heap.size+1=g3:=by omega
 have WG:Hid (g2=w.heap.size+0/\g3=w.heap.size+1/\W.heap.size=w.heap.size+2):=Z8 ⟨by omega,by omega,by omega⟩;have HB:=Z8 WV;simp only[hg2];try simp only[show g2+1=g3 by omega]
 clear Zn Yq hg2 WV Uj hg3 hq1;clear WG;cases q1
 ·cases q2
  ·refine ZU (C:=fun U=>Below W.heap.size W U) (by kernel_rfl) (by kernel_rfl) ((Below.refl _ W).drew) ?_;refine Zj rfl ⟨g3,0,none⟩ (.agg #[.bool m,ZY s]) (fun U hU=>XC (Ze.below Ze.lt hU))<|gy (Z7 g2 2)<|Zj rfl ⟨g2,2,none⟩ (Z9 lo) (fun U hU=>(hX2.below hX2.lt hU).ZL 2) ?_;refine Zz (by kernel_rfl) (some 8) rfl 110 #[Z9 lo] (.agg #[.bool b,ZY z]) (fun U hU=>by kernel_rfl) (fun U hU=>(CW U).mono fun e w2 z=>⟨z.1,hU.trans (z.2.mono hU.size)⟩) ?_;refine Zz (by kernel_rfl) (some 9) rfl 109 #[.agg #[.bool m,ZY s],.agg #[.bool b,ZY z]] ZW (fun U hU=>by kernel_rfl) (fun U hU=>(C1 U).mono fun e w2 z=>⟨z.1,hU.trans (z.2.mono hU.size)⟩) ?_;refine gy ZT<|gy ZT<|gy (Z7 g2 3)<|Zj rfl ⟨g2,3,none⟩ (ZY hi) (fun U hU=>(hX2.below hX2.lt hU).ZL 3)<|gy (.agg #[ZW,ZY hi]) <|
     Zj rfl ⟨g3,0,none⟩ (.agg #[.bool m,ZY s]) (fun U hU=>XC (Ze.below Ze.lt hU)) ?_
   refine Zz (by kernel_rfl) (some 16) rfl 109 #[.agg #[ZW,ZY hi],.agg #[.bool m,ZY s]] ZW (fun U hU=>by kernel_rfl) (fun U hU=>(C2 U).mono fun e w2 z=>⟨z.1,hU.trans (z.2.mono hU.size)⟩) ?_;refine gy ZT<|gy ZT<|gy ZT ?_;simp only[pu];apply wpQuiet_nil;intro V hV;go_wp2_with fail;go_ret;exact⟨rfl,HB.out.trans (hV.mono HB.out.size)⟩
  ·refine ZU (C:=fun U=>Below W.heap.size W U) (by kernel_rfl) (by kernel_rfl) ((Below.refl _ W).drew) ?_;refine Zj rfl ⟨g3,0,none⟩ (.agg #[.bool m,ZY s]) (fun U hU=>XC (Ze.below Ze.lt hU))<|gy (Z7 g2 2)<|Zj rfl ⟨g2,2,none⟩ (Z9 lo) (fun U hU=>(hX2.below hX2.lt hU).ZL 2) ?_;refine Zz (by kernel_rfl) (some 8) rfl 110 #[Z9 lo] (.agg #[.bool b,ZY z]) (fun U hU=>by kernel_rfl) (fun U hU=>(CW U).mono fun e w2 z=>⟨z.1,hU.trans (z.2.mono hU.size)⟩) ?_;refine Zz (by kernel_rfl) (some 9) rfl 109 #[.agg #[.bool m,ZY s],.agg #[.bool b,ZY z]] ZW (fun U hU=>by kernel_rfl) (fun U hU=>(C1 U).mono fun e w2 z=>⟨z.1,hU.trans (z.2.mono hU.size)⟩) ?_;refine gy ZT<|gy ZT<|gy (Z7 g2 3)<|Zj rfl ⟨g2,3,none⟩ (ZY hi) (fun U hU=>(hX2.below hX2.lt hU).ZL 3)<|gy (.agg #[ZW,ZY hi]) <|
     Zj rfl ⟨g3,0,none⟩ (.agg #[.bool m,ZY s]) (fun U hU=>XC (Ze.below Ze.lt hU)) ?_
   refine Zz (by kernel_rfl) (some 16) rfl 109 #[.agg #[ZW,ZY hi],.agg #[.bool m,ZY s]] ZT (fun U hU=>by kernel_rfl) (fun U hU=>(C2 U).mono fun e w2 z=>⟨z.1,hU.trans (z.2.mono hU.size)⟩) ?_;refine gy ZW<|gy ZW<|gy ZW ?_;simp only[pu];apply wpQuiet_nil;intro V hV;go_wp2_with fail;go_ret;exact⟨rfl,HB.out.trans (hV.mono HB.out.size)⟩
 ·refine ZU (C:=fun U=>Below W.heap.size W U) (by kernel_rfl) (by kernel_rfl) ((Below.refl _ W).drew) ?_;refine Zj rfl ⟨g3,0,none⟩ (.agg #[.bool m,ZY s]) (fun U hU=>XC (Ze.below Ze.lt hU))<|gy (Z7 g2 2)<|Zj rfl ⟨g2,2,none⟩ (Z9 lo) (fun U hU=>(hX2.below hX2.lt hU).ZL 2) ?_;refine Zz (by kernel_rfl) (some 8) rfl 110 #[Z9 lo] (.agg #[.bool b,ZY z]) (fun U hU=>by kernel_rfl) (fun U hU=>(CW U).mono fun e w2 z=>⟨z.1,hU.trans (z.2.mono hU.size)⟩) ?_;refine Zz (by kernel_rfl) (some 9) rfl 109 #[.agg #[.bool m,ZY s],.agg #[.bool b,ZY z]] ZT (fun U hU=>by kernel_rfl) (fun U hU=>(C1 U).mono fun e w2 z=>⟨z.1,hU.trans (z.2.mono hU.size)⟩) ?_;refine gy ZW<|gy ZW<|Wx<|Wx<|Wx<|Wx<|Wx<|Wx<|gy ZW<|gy ZW ?_;simp only[pu];apply wpQuiet_nil;intro V hV;go_wp2_with fail;go_ret;exact⟨rfl,HB.out.trans (hV.mono HB.out.size)⟩
def rF:List Int:=[512,1048576,4096,1024,1073741824,1073741824,1,1048576,1125899906842624,18446744073709551615,7,8]
def aI (j:Nat):Nat:=if j=6 then 191 else if j=9 then 192 else 190
abbrev Iy (g j:Nat):Array Value:=#[.string (keysB.getD j ⟨#[]⟩),.iface (aI j) (Z7 g j),Z9 (XM.getD j 0),ZY (rF.getD j 0)]
def aN (g j:Nat):List Value:=(Iy g j).toList
def wU (g:Nat):List Value:=(List.range 12).flatMap (aN g)
theorem jV:(Tryz.prog.info? 152).map (fun i=>(i.zero,i.size,i.bytes))=some (some (.agg #[.string ByteArray.empty,.nilIface,Z9 0,ZY 0]),4,48):=by kernel_rfl
theorem Di (g:Nat)(V:World):(Instr.buildSlice 148 12 #[(0,.agg #[.string ⟨#[109,97,120,45,116,120,115]⟩,.iface 190 (Z7 g 0),Z9 1,ZY 512]),(1,.agg #[.string ⟨#[109,97,120,45,98,121,116,101,115]⟩,.iface 190 (Z7 g 1),Z9 1,ZY 1048576]),(2,.agg #[.string ⟨#[109,97,120,45,116,120,45,98,121,116,101,115]⟩,.iface 190 (Z7 g 2),Z9 1,ZY 4096]),(3,.agg #[.string ⟨#[99,97,99,104,101,45,115,105,122,101]⟩,.iface 190 (Z7 g 3),Z9 0,ZY 1024]),(4,.agg #[.string ⟨#[116,116,108,45,98,108,111,99,107,115]⟩,.iface 190 (Z7 g 4),Z9 0,ZY 1073741824]),(5,.agg #[.string ⟨#[116,116,108,45,116,105,109,101]⟩,.iface 190 (Z7 g 5),Z9 0,ZY 1073741824]),(6,.agg #[.string ⟨#[107,101,101,112,45,105,110,118,97,108,105,100]⟩,.iface 191 (Z7 g 6),Z9 0,ZY 1]),(7,.agg #[.string ⟨#[98,108,111,99,107,45,98,121,116,101,115]⟩,.iface 190 (Z7 g 7),Z9 1,ZY 1048576]),(8,.agg #[.string ⟨#[98,108,111,99,107,45,103,97,115]⟩,.iface 190 (Z7 g 8),Z9 (-1),ZY 1125899906842624]),(9,.agg #[.string ⟨#[112,114,105,99,101]⟩,.iface 192 (Z7 g 9),Z9 0,ZY 18446744073709551615]),(10,.agg #[.string ⟨#[115,101,108,102]⟩,.iface 190 (Z7 g 10),Z9 0,ZY 7]),(11,.agg #[.string ⟨#[110,111,100,101,115]⟩,.iface 190 (Z7 g 11),Z9 1,ZY 8])]).run Tryz.prog V=.ok (.slice (some ⟨V.heap.size,0,none⟩) 12 12) (V.alloc (.cells (wU g).toArray 152)):=by
 obtain⟨i0,hi,hz0,hz1,hz2⟩:=info_parts jV;refine run_buildSlice V 148 152 12 _ (wU g).toArray i0 _ Tryz.underlying148 hi hz0 (by rw[hz1]; omega) (by rw[hz1]; omega) ?_;rw[hz1];kernel_rfl
theorem ru {c:List Int}{j:Nat}(hj:j<12):(XK c)[j]?=some (if j=6 then .bool (decide (c.getD 6 0=1)) else if j=9 then ZY (c.getD 9 0) else Z9 (c.getD j 0)):=by
 match j,hj with
 | 0,_=>rfl
 | 1,_=>rfl
 | 2,_=>rfl
 | 3,_=>rfl
 | 4,_=>rfl
 | 5,_=>rfl
 | 6,_=>rfl
 | 7,_=>rfl
 | 8,_=>rfl
 | 9,_=>rfl
 | 10,_=>rfl
 | 11,_=>rfl
section
variable {ρ : Operand -> Value} {o : Oper} {x y : Operand}
end
theorem Jv (g:Nat)(w:World):Calls Tryz.prog 82 #[Z7 g 0] w fun e w'=>∃ v,e=.returned v/\∃ gs,v=.slice (some ⟨gs,0,none⟩) 12 12/\Bx w' gs (wU g).toArray 152/\w.heap.size<=gs/\Below w.heap.size w w':=by
 have HF:Hid (∀ V,Below w.heap.size w V->∃ gs,(.slice (some ⟨V.heap.size,0,none⟩) 12 12:Value)=.slice (some ⟨gs,0,none⟩) 12 12/\Bx (V.alloc (.cells (wU g).toArray 152)) gs (wU g).toArray 152/\w.heap.size<=gs/\Below w.heap.size w (V.alloc (.cells (wU g).toArray 152))):=Z8 fun V h=>⟨_,rfl,heap_alloc_last V _,h.size,h.alloc h.size _⟩;have HBU:=Z8 (Di g);go_enter Tryz.func82,Tryz.ntmps82;go_upto_region 0 with fail;refine wl<|ZN (.slice none 0 0)<|wn ?_;simp only[pu];go_upto_region 1 with fail;refine ZO (C:=fun U=>Below w.heap.size w U) 60 (by kernel_rfl) (by kernel_rfl) ((Below.refl _ w).drew) ?_;simp only[List.take_succ_cons,List.take_zero,List.drop_succ_cons,List.drop_zero];refine gy (Z7 g 0)<|gy (Z7 g 0)<|gy (Z7 g 0)<|gy (.iface 190 (Z7 g 0))<|gy (.agg #[.string ⟨#[109,97,120,45,116,120,115]⟩,.iface 190 (Z7 g 0),Z9 1,ZY 512]) <|
   gy (Z7 g 0)<|gy (Z7 g 0)<|gy (Z7 g 1)<|gy (.iface 190 (Z7 g 1)) <|
   gy (.agg #[.string ⟨#[109,97,120,45,98,121,116,101,115]⟩,.iface 190 (Z7 g 1),Z9 1,ZY 1048576])<|gy (Z7 g 0)<|gy (Z7 g 0)<|gy (Z7 g 2) <|
   gy (.iface 190 (Z7 g 2))<|gy (.agg #[.string ⟨#[109,97,120,45,116,120,45,98,121,116,101,115]⟩,.iface 190 (Z7 g 2),Z9 1,ZY 4096])<|gy (Z7 g 0)<|gy (Z7 g 0) <|
   gy (Z7 g 3)<|gy (.iface 190 (Z7 g 3))<|gy (.agg #[.string ⟨#[99,97,99,104,101,45,115,105,122,101]⟩,.iface 190 (Z7 g 3),Z9 0,ZY 1024])<|gy (Z7 g 0) <|
   gy (Z7 g 0)<|gy (Z7 g 4)<|gy (.iface 190 (Z7 g 4))<|gy (.agg #[.string ⟨#[116,116,108,45,98,108,111,99,107,115]⟩,.iface 190 (Z7 g 4),Z9 0,ZY 1073741824]) <|
   gy (Z7 g 0)<|gy (Z7 g 0)<|gy (Z7 g 5)<|gy (.iface 190 (Z7 g 5)) <|
   gy (.agg #[.string ⟨#[116,116,108,45,116,105,109,101]⟩,.iface 190 (Z7 g 5),Z9 0,ZY 1073741824])<|gy (Z7 g 0)<|gy (Z7 g 0)<|gy (Z7 g 6) <|
   gy (.iface 191 (Z7 g 6))<|gy (.agg #[.string ⟨#[107,101,101,112,45,105,110,118,97,108,105,100]⟩,.iface 191 (Z7 g 6),Z9 0,ZY 1])<|gy (Z7 g 0)<|gy (Z7 g 0) <|
   gy (Z7 g 7)<|gy (.iface 190 (Z7 g 7))<|gy (.agg #[.string ⟨#[98,108,111,99,107,45,98,121,116,101,115]⟩,.iface 190 (Z7 g 7),Z9 1,ZY 1048576])<|gy (Z7 g 0) <|
   gy (Z7 g 0)<|gy (Z7 g 8)<|gy (.iface 190 (Z7 g 8))<|gy (.agg #[.string ⟨#[98,108,111,99,107,45,103,97,115]⟩,.iface 190 (Z7 g 8),Z9 (-1),ZY 1125899906842624]) <|
   gy (Z7 g 0)<|gy (Z7 g 0)<|gy (Z7 g 9)<|gy (.iface 192 (Z7 g 9))<|gy (.agg #[.string ⟨#[112,114,105,99,101]⟩,.iface 192 (Z7 g 9),Z9 0,ZY 18446744073709551615]) <|
   gy (Z7 g 0)<|gy (Z7 g 0)<|gy (Z7 g 10)<|gy (.iface 190 (Z7 g 10))<|gy (.agg #[.string ⟨#[115,101,108,102]⟩,.iface 190 (Z7 g 10),Z9 0,ZY 7]) <|
   gy (Z7 g 0)<|gy (Z7 g 0)<|gy (Z7 g 11)<|gy (.iface 190 (Z7 g 11))<|gy (.agg #[.string ⟨#[110,111,100,101,115]⟩,.iface 190 (Z7 g 11),Z9 1,ZY 8]) ?_
 simp only[pu];apply wpQuiet_nil;intro V hV;have hf:=HF.out V hV;refine YM (by kernel_rfl) (some 63) rfl 148 12 #[(0,.tmp 7),(1,.tmp 12),(2,.tmp 17),(3,.tmp 22),(4,.tmp 27),(5,.tmp 32),(6,.tmp 37),(7,.tmp 42),(8,.tmp 47),(9,.tmp 52),(10,.tmp 57),(11,.tmp 62)] rfl #[(0,(.agg #[.string ⟨#[109,97,120,45,116,120,115]⟩,.iface 190 (Z7 g 0),Z9 1,ZY 512])),(1,(.agg #[.string ⟨#[109,97,120,45,98,121,116,101,115]⟩,.iface 190 (Z7 g 1),Z9 1,ZY 1048576])),(2,(.agg #[.string ⟨#[109,97,120,45,116,120,45,98,121,116,101,115]⟩,.iface 190 (Z7 g 2),Z9 1,ZY 4096])),(3,(.agg #[.string ⟨#[99,97,99,104,101,45,115,105,122,101]⟩,.iface 190 (Z7 g 3),Z9 0,ZY 1024])),(4,(.agg #[.string ⟨#[116,116,108,45,98,108,111,99,107,115]⟩,.iface 190 (Z7 g 4),Z9 0,ZY 1073741824])),(5,(.agg #[.string ⟨#[116,116,108,45,116,105,109,101]⟩,.iface 190 (Z7 g 5),Z9 0,ZY 1073741824])),(6,(.agg #[.string ⟨#[107,101,101,112,45,105,110,118,97,108,105,100]⟩,.iface 191 (Z7 g 6),Z9 0,ZY 1])),(7,(.agg #[.string ⟨#[98,108,111,99,107,45,98,121,116,101,115]⟩,.iface 190 (Z7 g 7),Z9 1,ZY 1048576])),(8,(.agg #[.string ⟨#[98,108,111,99,107,45,103,97,115]⟩,.iface 190 (Z7 g 8),Z9 (-1),ZY 1125899906842624])),(9,(.agg #[.string ⟨#[112,114,105,99,101]⟩,.iface 192 (Z7 g 9),Z9 0,ZY 18446744073709551615])),(10,(.agg #[.string ⟨#[115,101,108,102]⟩,.iface 190 (Z7 g 10),Z9 0,ZY 7])),(11,(.agg #[.string ⟨#[110,111,100,101,115]⟩,.iface 190 (Z7 g 11),Z9 1,ZY 8]))] (by kernel_rfl) (.slice (some ⟨V.heap.size,0,none⟩) 12 12) _ (HBU.out V) ?_;refine ZN (.slice (some ⟨V.heap.size,0,none⟩) 12 12)<|wn ?_;simp only[pu];go_wp2_with fail;go_ret;exact⟨_,rfl,hf⟩
theorem qZ (k:Value)(hk:k.oneCell'=true)(lo hi:Int){n:Int}(hn:-9223372036854775808<=n/\n<9223372036854775808)(g j:Nat)(w:World)(hg:g<w.heap.size)(hl:∀ V,Below w.heap.size w V->(Instr.loadAt 3 (Z7 g j)).run Tryz.prog V=.ok (Z9 n) V):Calls Tryz.prog 84 #[.agg #[k,.iface 190 (Z7 g j),Z9 lo,ZY hi]] w fun e w'=>e=.returned (.agg (Ju (decide (n<0)) (Vf n)))/\Below w.heap.size w w':=by
 have CW:=fun V=>Na hn V;generalize decide (n<0)=b at *
 generalize Vf n=z at *
 clear hn;go_enter Tryz.func84,Tryz.ntmps84;go_upto_region 1 with fail;change Code.wp _ _ _ _ ((w.alloc (.cells #[k,.iface 190 (Z7 g j),Z9 lo,ZY hi] 152)).alloc (.cells #[ZW,ZY 0] 155));have Zn:Below w.heap.size w (w.alloc (.cells #[k,.iface 190 (Z7 g j),Z9 lo,ZY hi] 152)):=(Below.refl _ w).alloc (Nat.le_refl _) _;have hX1:Bx (w.alloc (.cells #[k,.iface 190 (Z7 g j),Z9 lo,ZY hi] 152)) w.heap.size #[k,.iface 190 (Z7 g j),Z9 lo,ZY hi] 152:=heap_alloc_last w _;have Yq:(w.alloc (.cells #[k,.iface 190 (Z7 g j),Z9 lo,ZY hi] 152)).heap.size=w.heap.size+1:=by simp
 generalize w.alloc (.cells #[k,.iface 190 (Z7 g j),Z9 lo,ZY hi] 152)=Yw at *
 have WV:Below w.heap.size w (Yw.alloc (.cells #[ZW,ZY 0] 155)):=Zn.alloc Zn.size _;have hX1:=hX1.below hX1.lt ((Below.refl _ Yw).alloc (Nat.le_refl _) (.cells #[ZW,ZY 0] 155));have hX2:Bx (Yw.alloc (.cells #[ZW,ZY 0] 155)) Yw.heap.size #[ZW,ZY 0] 155:=heap_alloc_last Yw _;have Uj:(Yw.alloc (.cells #[ZW,ZY 0] 155)).heap.size=Yw.heap.size+1:=by simp
 generalize Yw.alloc (.cells #[ZW,ZY 0] 155)=W at *
 obtain⟨g1,hg1⟩:=ZR w.heap.size;rw[hg1] at hX1;obtain⟨g2,hg2⟩:=ZR Yw.heap.size;rw[hg2] at hX2;have hq1:w.heap.size+1=g2:=by omega
 have WG:Hid (g1=w.heap.size+0/\g2=w.heap.size+1/\W.heap.size=w.heap.size+2):=Z8 ⟨by omega,by omega,by omega⟩;have HB:=Z8 WV;simp only[hg1];try simp only[show g1+1=g2 by omega]
 clear Zn Yq hg1 WV Uj hg2 hq1;refine wl<|ZN (Z7 g1 1)<|Zq rfl ⟨g1,1,none⟩ (.iface 190 (Z7 g j)) (hX1.ZL 1)<|wn ?_;simp only[pu];go_upto_region 2 with fail;refine wl<|YU (.tuple #[Z7 g j,ZT]) ZT (Z7 g j)<|wn ?_;simp only[pu];go_upto_region 3 with fail;refine wl<|ZN (Z7 g j)<|wn ?_;simp only[pu];have hld:=hl W HB.out;go_upto_region 4 with fail;refine wl<|ZA (Z7 g j) (Z7 g j)<|Zq rfl ⟨g,j,none⟩ (Z9 n) (hld)<|Yd (.agg #[.bool b,ZY z]) (fun w'=>Below W.heap.size W w') (CW W) (fun V1 hb1=>?_);obtain⟨V2,hst,hY,hbt⟩:=st_all (cs':=#[.bool b,ZY z]) (ty:=155) (hX2.below hX2.lt hb1) rfl (by kernel_rfl) (by kernel_rfl);refine WC rfl (hst)<|wn ?_;have HE:Hid (Below w.heap.size w V2):=Z8 ((HB.out.trans (hb1.mono HB.out.size)).trans (hbt.1.mono (by have:=WG.out; omega)));have Q5:=Z8 (XC hY);clear hX1 hX2 hb1 hbt hY hld hl;go_wp2_with fail;exact bodyPost_ret (YR (p:=2) rfl (by kernel_rfl) Q5.out) rfl ⟨rfl,HE.out⟩
theorem yL (k:Value)(hk:k.oneCell'=true)(lo hi:Int)(q:Bool)(g j:Nat)(w:World)(hg:g<w.heap.size)(hl:∀ V,Below w.heap.size w V->(Instr.loadAt 4 (Z7 g j)).run Tryz.prog V=.ok (.bool q) V):Calls Tryz.prog 84 #[.agg #[k,.iface 191 (Z7 g j),Z9 lo,ZY hi]] w fun e w'=>e=.returned (.agg (Ju false (if q=true then 1 else 0)))/\Below w.heap.size w w':=by
 have CW:∀ V,Calls Tryz.prog 110 #[Z9 1] V fun e w'=>e=.returned (.agg #[ZW,ZY 1])/\Below V.heap.size V w':=fun V=>Na (n:=1) (by omega) V;go_enter Tryz.func84,Tryz.ntmps84;go_upto_region 1 with fail;change Code.wp _ _ _ _ ((w.alloc (.cells #[k,.iface 191 (Z7 g j),Z9 lo,ZY hi] 152)).alloc (.cells #[ZW,ZY 0] 155));have Zn:Below w.heap.size w (w.alloc (.cells #[k,.iface 191 (Z7 g j),Z9 lo,ZY hi] 152)):=(Below.refl _ w).alloc (Nat.le_refl _) _;have hX1:Bx (w.alloc (.cells #[k,.iface 191 (Z7 g j),Z9 lo,ZY hi] 152)) w.heap.size #[k,.iface 191 (Z7 g j),Z9 lo,ZY hi] 152:=heap_alloc_last w _;have Yq:(w.alloc (.cells #[k,.iface 191 (Z7 g j),Z9 lo,ZY hi] 152)).heap.size=w.heap.size+1:=by simp
 generalize w.alloc (.cells #[k,.iface 191 (Z7 g j),Z9 lo,ZY hi] 152)=Yw at *
 have WV:Below w.heap.size w (Yw.alloc (.cells #[ZW,ZY 0] 155)):=Zn.alloc Zn.size _;have hX1:=hX1.below hX1.lt ((Below.refl _ Yw).alloc (Nat.le_refl _) (.cells #[ZW,ZY 0] 155));have hX2:Bx (Yw.alloc (.cells #[ZW,ZY 0] 155)) Yw.heap.size #[ZW,ZY 0] 155:=heap_alloc_last Yw _;have Uj:(Yw.alloc (.cells #[ZW,ZY 0] 155)).heap.size=Yw.heap.size+1:=by simp
 generalize Yw.alloc (.cells #[ZW,ZY 0] 155)=W at *
 obtain⟨g1,hg1⟩:=ZR w.heap.size;rw[hg1] at hX1;obtain⟨g2,hg2⟩:=ZR Yw.heap.size;rw[hg2] at hX2;have hq1:w.heap.size+1=g2:=by omega
 have WG:Hid (g1=w.heap.size+0/\g2=w.heap.size+1/\W.heap.size=w.heap.size+2):=Z8 ⟨by omega,by omega,by omega⟩;have HB:=Z8 WV;simp only[hg1];try simp only[show g1+1=g2 by omega]
 clear Zn Yq hg1 WV Uj hg2 hq1;refine wl<|ZN (Z7 g1 1)<|Zq rfl ⟨g1,1,none⟩ (.iface 191 (Z7 g j)) (hX1.ZL 1)<|wn ?_;simp only[pu];go_upto_region 2 with fail;refine wl<|YU (.tuple #[.pointer none,ZW]) ZW (.pointer none)<|wn ?_;simp only[pu];go_upto_region 5 with fail;refine wl<|YU (.tuple #[Z7 g j,ZT]) ZT (Z7 g j)<|wn ?_;simp only[pu];go_upto_region 6 with fail;refine wl<|ZN (Z7 g j)<|wn ?_;simp only[pu];have hld:=hl W HB.out;cases q
 ·go_upto_region 7 with fail;refine wl<|ZA (Z7 g j) (Z7 g j)<|Zq rfl ⟨g,j,none⟩ ZW (hld)<|wn ?_;simp only[pu];obtain⟨V2,hst,hY,hbt⟩:=st_all (cs':=#[ZW,ZY 0]) (ty:=155) hX2 rfl (by kernel_rfl) (by kernel_rfl);go_upto_region 12 with fail;refine wl<|ZN (.agg #[ZW,ZY 0])<|WC rfl (hst)<|wn ?_;simp only[pu];have HE:Hid (Below w.heap.size w V2):=Z8 (HB.out.trans (hbt.1.mono (by have:=WG.out; omega)));have Q5:=Z8 (XC hY);clear hX1 hX2 hbt hY hld hl;go_wp2_with fail;exact bodyPost_ret (YR (p:=2) rfl (by kernel_rfl) Q5.out) rfl ⟨rfl,HE.out⟩
 ·go_upto_region 7 with fail;refine wl<|ZA (Z7 g j) (Z7 g j)<|Zq rfl ⟨g,j,none⟩ ZT (hld)<|wn ?_;simp only[pu];go_upto_region 8 with fail;refine wl<|Yd (.agg #[ZW,ZY 1]) (fun w'=>Below W.heap.size W w') (CW W) (fun V1 hb1=>?_);obtain⟨V2,hst,hY,hbt⟩:=st_all (cs':=#[ZW,ZY 1]) (ty:=155) (hX2.below hX2.lt hb1) rfl (by kernel_rfl) (by kernel_rfl);refine WC rfl (hst)<|wn ?_;have HE:Hid (Below w.heap.size w V2):=Z8 ((HB.out.trans (hb1.mono HB.out.size)).trans (hbt.1.mono (by have:=WG.out; omega)));have Q5:=Z8 (XC hY);clear hX1 hX2 hbt hY hld hl;go_wp2_with fail;exact bodyPost_ret (YR (p:=2) rfl (by kernel_rfl) Q5.out) rfl ⟨rfl,HE.out⟩
theorem yK (k:Value)(hk:k.oneCell'=true)(lo hi:Int)(n:Int)(g j:Nat)(w:World)(hg:g<w.heap.size)(hl:∀ V,Below w.heap.size w V->(Instr.loadAt 23 (Z7 g j)).run Tryz.prog V=.ok (ZY n) V):Calls Tryz.prog 84 #[.agg #[k,.iface 192 (Z7 g j),Z9 lo,ZY hi]] w fun e w'=>e=.returned (.agg (Ju false n))/\Below w.heap.size w w':=by
 go_enter Tryz.func84,Tryz.ntmps84;go_upto_region 1 with fail;change Code.wp _ _ _ _ ((w.alloc (.cells #[k,.iface 192 (Z7 g j),Z9 lo,ZY hi] 152)).alloc (.cells #[ZW,ZY 0] 155));have Zn:Below w.heap.size w (w.alloc (.cells #[k,.iface 192 (Z7 g j),Z9 lo,ZY hi] 152)):=(Below.refl _ w).alloc (Nat.le_refl _) _;have hX1:Bx (w.alloc (.cells #[k,.iface 192 (Z7 g j),Z9 lo,ZY hi] 152)) w.heap.size #[k,.iface 192 (Z7 g j),Z9 lo,ZY hi] 152:=heap_alloc_last w _;have Yq:(w.alloc (.cells #[k,.iface 192 (Z7 g j),Z9 lo,ZY hi] 152)).heap.size=w.heap.size+1:=by simp
 generalize w.alloc (.cells #[k,.iface 192 (Z7 g j),Z9 lo,ZY hi] 152)=Yw at *
 have WV:Below w.heap.size w (Yw.alloc (.cells #[ZW,ZY 0] 155)):=Zn.alloc Zn.size _;have hX1:=hX1.below hX1.lt ((Below.refl _ Yw).alloc (Nat.le_refl _) (.cells #[ZW,ZY 0] 155));have hX2:Bx (Yw.alloc (.cells #[ZW,ZY 0] 155)) Yw.heap.size #[ZW,ZY 0] 155:=heap_alloc_last Yw _;have Uj:(Yw.alloc (.cells #[ZW,ZY 0] 155)).heap.size=Yw.heap.size+1:=by simp
 generalize Yw.alloc (.cells #[ZW,ZY 0] 155)=W at *
 obtain⟨g1,hg1⟩:=ZR w.heap.size;rw[hg1] at hX1;obtain⟨g2,hg2⟩:=ZR Yw.heap.size;rw[hg2] at hX2;have hq1:w.heap.size+1=g2:=by omega
 have WG:Hid (g1=w.heap.size+0/\g2=w.heap.size+1/\W.heap.size=w.heap.size+2):=Z8 ⟨by omega,by omega,by omega⟩;have HB:=Z8 WV;simp only[hg1];try simp only[show g1+1=g2 by omega]
 clear Zn Yq hg1 WV Uj hg2 hq1;refine wl<|ZN (Z7 g1 1)<|Zq rfl ⟨g1,1,none⟩ (.iface 192 (Z7 g j)) (hX1.ZL 1)<|wn ?_;simp only[pu];go_upto_region 2 with fail;refine wl<|YU (.tuple #[.pointer none,ZW]) ZW (.pointer none)<|wn ?_;simp only[pu];go_upto_region 5 with fail;refine wl<|YU (.tuple #[.pointer none,ZW]) ZW (.pointer none)<|wn ?_;simp only[pu];go_upto_region 9 with fail;refine wl<|YU (.tuple #[Z7 g j,ZT]) ZT (Z7 g j)<|wn ?_;simp only[pu];go_upto_region 10 with fail;refine wl<|ZN (Z7 g j)<|wn ?_;simp only[pu];have hld:=hl W HB.out;obtain⟨V2,hst,hY,hbt⟩:=st_all (cs':=#[ZW,ZY n]) (ty:=155) hX2 rfl (by kernel_rfl) (by kernel_rfl);go_upto_region 11 with fail;refine wl<|ZA (Z7 g j) (Z7 g j)<|Zq rfl ⟨g,j,none⟩ (ZY n) (hld)<|ZN (.agg #[ZW,ZY n])<|WC rfl (hst)<|wn ?_;simp only[pu];have HE:Hid (Below w.heap.size w V2):=Z8 (HB.out.trans (hbt.1.mono (by have:=WG.out; omega)));have Q5:=Z8 (XC hY);clear hX1 hX2 hbt hY hld hl;go_wp2_with fail;exact bodyPost_ret (YR (p:=2) rfl (by kernel_rfl) Q5.out) rfl ⟨rfl,HE.out⟩
theorem yJ {j:Nat}(h6:j≠6)(h9:j≠9):aI j=190:=by
 unfold aI;rw[if_neg h6,if_neg h9]
theorem yM {c:List Int}(hc:PY c){g k:Nat}(j:Nat)(hj:j<12)(w:World)(hX:Bx w g (XK c) k):Calls Tryz.prog 84 #[.agg (Iy g j)] w fun e w'=>e=.returned (.agg (Ju (decide (c.getD j 0<0)) (Vf (c.getD j 0))))/\Below w.heap.size w w':=by
 have hlt:=hX.lt;have HB:=fun V (h:Below w.heap.size w V)=>hX.below hlt h;obtain⟨-,h6,h90,h91,hn⟩:=hc;by_cases e6:j=6
 ·subst e6;refine(yL _ rfl _ _ (decide (c.getD 6 0=1)) g 6 w hlt fun V h=>(HB V h).ZL 6).mono fun e w' z=>⟨?_,z.2⟩;rw[z.1];rcases h6 with h | h <;> rw[h] <;> rfl
 ·by_cases e9:j=9
  ·subst e9;refine(yK _ rfl _ _ (c.getD 9 0) g 9 w hlt fun V h=>(HB V h).ZL 9).mono fun e w' z=>⟨?_,z.2⟩;rw[z.1,decide_eq_false (by omega)];unfold Vf;rw[if_neg (by omega)]
  ·have e:=yJ e6 e9;unfold Iy;rw[e];exact qZ _ rfl _ _ (hn j hj e9) g j w hlt fun V h=>(HB V h).load (i:=j) (by rw[ru hj,if_neg e6,if_neg e9]) (by kernel_rfl)
theorem Ii (w:World):Calls Tryz.prog 53 #[] w fun e w'=>e=.returned (.agg (XK Vd))/\Below w.heap.size w w':=by
 obtain⟨V2,hst,hb,hY⟩:=YQ (c:=#[Z9 0,Z9 0,Z9 0,Z9 0,Z9 0,Z9 0,ZW,Z9 0,Z9 0,ZY 0,Z9 0,Z9 0]) (c':=#[Z9 100,Z9 65536,Z9 1024,Z9 200,Z9 0,Z9 0,ZW,Z9 32768,Z9 (-1),ZY 1,Z9 0,Z9 1]) (ty:=25) w rfl (by kernel_rfl) (by kernel_rfl);have Q5:=Z8 (Iz hY);have HE:=Z8 hb;clear hb hY;go_enter Tryz.func53,Tryz.ntmps53;go_upto_region 1 with fail;change Code.wp _ _ _ _ (w.alloc (.cells #[Z9 0,Z9 0,Z9 0,Z9 0,Z9 0,Z9 0,ZW,Z9 0,Z9 0,ZY 0,Z9 0,Z9 0] 25));generalize w.alloc (.cells #[Z9 0,Z9 0,Z9 0,Z9 0,Z9 0,Z9 0,ZW,Z9 0,Z9 0,ZY 0,Z9 0,Z9 0] 25)=W at *
 obtain⟨g0,hg0⟩:=ZR w.heap.size;simp only[hg0] at hst Q5 ⊢;refine wl<|ZN (.agg #[Z9 100,Z9 65536,Z9 1024,Z9 200,Z9 0,Z9 0,ZW,Z9 32768,Z9 (-1),ZY 1,Z9 0,Z9 1])<|WC rfl (hst)<|wn ?_;simp only[pu];go_wp2_with fail;exact bodyPost_ret (YR rfl (by kernel_rfl) Q5.out) rfl ⟨rfl,HE.out⟩
def StV (g:Nat)(w:World)(v:Value)(w':World):Prop:=∃ gs,v=.slice (some ⟨gs,0,none⟩) 12 12/\Bx w' gs (wU g).toArray 152/\w.heap.size<=gs/\Below w.heap.size w w'
theorem KO (g:Nat)(w:World):Calls Tryz.prog 82 #[Z7 g 0] w fun e w'=>∃ v,e=.returned v/\StV g w v w':=Jv g w
theorem rG (b off n c k:Nat)(hk:k<n)(V:World)(ρ:Operand->Value)(o:Oper){x y:Operand}(ho:o.op=.indexAddr 148 x y)(hx:ρ x=.slice (some ⟨b,off,none⟩) n c)(hy:ρ y=Z9 k):(execOp ρ o).run Tryz.prog V=.ok (.value (Z7 b (off+k*4))) V:=by
 have hs:(sizeOf (Tryz.prog.elem 148)).run Tryz.prog V=.ok 4 V:=by kernel_rfl
 have hlm:(k:Int)<(n:Int):=by omega
 unfold execOp;simp only[ho,hx,hy];go_simp
theorem yS {w:World}{gs g k:Nat}(h:Bx w gs (wU g).toArray k){i:Nat}(hi:i<12):(Instr.loadAt 152 (Z7 gs (0+i*4))).run Tryz.prog w=.ok (.agg (Iy g i)) w:=by
 obtain⟨b,off,e,-,hr⟩:=XR (f:=aN g) (s:=4) (fun _=>rfl) (by omega) 0 (L:=List.range 12) (Cs.block h) (i:=i) (by rw[List.length_range]; exact hi);cases e;rw[show(List.range 12).getD i 0=i by simp[List.getD_eq_getElem?_getD,hi]] at hr;exact run_loadAt_mid w _ _ 152 (aN g i) _ hr Tryz.underlying152 rfl (by kernel_rfl)
theorem yR {c:List Int}(hc:PY c){i:Nat}(hi:i<12):(decide (XM.getD i 0<=c.getD i 0) && decide (c.getD i 0<=rF.getD i 0))=true↔Ic c i:=by
 rw[Bool.and_eq_true,decide_eq_true_eq,decide_eq_true_eq];unfold Ic;obtain⟨-,h6,h90,h91,hn⟩:=hc;match i,hi with
 | 0,_=>exact⟨fun h=>.inr h,fun h=>h.elim (fun e=>absurd e (by decide)) id⟩
 | 1,_=>exact⟨fun h=>.inr h,fun h=>h.elim (fun e=>absurd e (by decide)) id⟩
 | 2,_=>exact⟨fun h=>.inr h,fun h=>h.elim (fun e=>absurd e (by decide)) id⟩
 | 3,_=>exact⟨fun h=>.inr h,fun h=>h.elim (fun e=>absurd e (by decide)) id⟩
 | 4,_=>exact⟨fun h=>.inr h,fun h=>h.elim (fun e=>absurd e (by decide)) id⟩
 | 5,_=>exact⟨fun h=>.inr h,fun h=>h.elim (fun e=>absurd e (by decide)) id⟩
 | 6,_=>exact⟨fun h=>.inr h,fun h=>h.elim (fun e=>absurd e (by decide)) id⟩
 | 7,_=>exact⟨fun h=>.inr h,fun h=>h.elim (fun e=>absurd e (by decide)) id⟩
 | 8,_=>exact⟨fun h=>.inr h,fun h=>h.elim (fun e=>absurd e (by decide)) id⟩
 | 9,_=>exact⟨fun _=>.inl rfl,fun _=>⟨h90,by show c.getD 9 0<=18446744073709551615; omega⟩⟩
 | 10,_=>exact⟨fun h=>.inr h,fun h=>h.elim (fun e=>absurd e (by decide)) id⟩
 | 11,_=>exact⟨fun h=>.inr h,fun h=>h.elim (fun e=>absurd e (by decide)) id⟩
theorem rE (g j:Nat):(Iy g j).all (·.oneCell')=true:=by simp[Iy,Value.oneCell']
theorem yQ {i:Nat}(hi:i<12):-9223372036854775808<=XM.getD i 0/\XM.getD i 0<9223372036854775808:=by
 have h:∀ i,i<12->-9223372036854775808<=XM.getD i 0/\XM.getD i 0<9223372036854775808:=by decide +kernel
 exact h i hi
theorem yP {i:Nat}(hi:i<12):0<=rF.getD i 0:=by
 have h:∀ i,i<12->0<=rF.getD i 0:=by decide +kernel
 exact h i hi
theorem GH {g:Nat}{i:Nat}(hi:i<12)(v:Int)(w:World):Calls Tryz.prog 83 #[.agg (Iy g i),.agg (Ju (decide (v<0)) (Vf v))] w fun e w'=>e=.returned (.bool (decide (XM.getD i 0<=v) && decide (v<=rF.getD i 0)))/\Below w.heap.size w w':=by
 rw[<- yO (yP hi)];exact Dj _ _ rfl rfl (yQ hi) _ _ w
theorem Jj {c:List Int}(hc:PY c)(w:World):Calls Tryz.prog 52 #[.agg (XK c)] w fun e w'=>e=.returned (Z9 (Ul c))/\Below w.heap.size w w':=by
 have hb0:Below w.heap.size w (w.alloc (.cells (XK c) 25)):=(Below.refl _ w).alloc (Nat.le_refl _) _;have hX0:Bx (w.alloc (.cells (XK c) 25)) w.heap.size (XK c) 25:=heap_alloc_last w _;obtain⟨W,hW⟩:=ZR (w.alloc (.cells (XK c) 25));rw[hW] at hb0 hX0;have HB0:=Z8 hb0;have HBAD:Hid (∀ i,i<12->¬ Ic c i->(1:Int)=Ul c):=Z8 fun i hi h=>(Jg hi h).symm;have KQ:Hid ((∀ i,i<12->Ic c i)->(if c.getD 10 0<c.getD 11 0 then (0:Int) else 1)=Ul c):=Z8 fun h=>(yN h).symm;have aK:Hid (∀ i,i<12->((decide (XM.getD i 0<=c.getD i 0) && decide (c.getD i 0<=rF.getD i 0))=true↔Ic c i)):=Z8 fun i hi=>yR hc hi;have HV:Hid (∀ i:Nat,i<12->∀ V g,Bx V g (XK c) 25->Calls Tryz.prog 84 #[.agg (Iy g i)] V fun e w'=>e=.returned (.agg (Ju (decide (c.getD i 0<0)) (Vf (c.getD i 0))))/\Below V.heap.size V w'):=Z8 fun i hi V g h=>yM hc i hi V h;have H10:Hid (∀ V g,Bx V g (XK c) 25->(Instr.loadAt 3 (Z7 g 10)).run Tryz.prog V=.ok (Z9 (c.getD 10 0)) V/\(Instr.loadAt 3 (Z7 g 11)).run Tryz.prog V=.ok (Z9 (c.getD 11 0)) V):=Z8 fun V g h=>⟨h.ZL 10,h.ZL 11⟩;obtain⟨z,hz⟩:=ZR (Ul c);rw[hz] at HBAD KQ ⊢;clear hz hb0 hc;go_enter Tryz.func52,Tryz.ntmps52;go_upto_region 1 with fail;obtain⟨g1,hg1⟩:=ZR w.heap.size;rw[hg1] at hX0;simp only[hg1];generalize XK c=CC at *
 clear hW hg1;refine wl<|Vx (StV g1 W) (KO g1 W) (fun vv W1 hq=>?_);obtain⟨gs1,rfl,jW,aJ,rD⟩:=hq;refine ZA (Z9 12) (Z9 0)<|wn ?_;simp only[pu];have O7:=Z8 (hX0.below hX0.lt rD);have Jk:=Z8 jW;have HB1:=Z8 (HB0.out.trans (rD.mono HB0.out.size));clear hX0 jW rD HB0 aJ;go_wp2_with fail;go_loopg [7] 12 (fun gg s7 wx=>∃ (i:Nat),s7=Z9 i/\i<=12/\gg+i=12/\Hid (∀ j,j<i->Ic c j)/\Hid (Below W1.heap.size W1 wx))
 case atStart=>exact⟨0,rfl,by omega,by omega,Z8 (fun j hj=>absurd hj (Nat.not_lt_zero j)),Z8 (Below.refl _ _)⟩
 case round=>
  obtain⟨i,rfl,hin,hg,HP,HR⟩:=hrel;have PN:Hid (gk+i=12):=Z8 hg;have hX:=O7.out.below O7.out.lt HR.out;have hS:=Jk.out.below Jk.out.lt HR.out;clear hg;by_cases hlt:i<12
  ·have hls:=yS hS hlt;obtain⟨V2,hst2,rC,hY2⟩:=YQ (c:=#[.string ByteArray.empty,.nilIface,Z9 0,ZY 0]) (c':=Iy g1 i) (ty:=152) wr rfl (rE g1 i) (by kernel_rfl);have hX2:=hX.below hX.lt rC;have CV:=fun V hV=>HV.out i hlt V g1 hV;have CL:=fun V=>GH (g:=g1) hlt (c.getD i 0) V;have Wy:Hid (∀ V k,Bx V k (Iy g1 i) 152->(Instr.loadAt 152 (Z7 k 0)).run Tryz.prog V=.ok (.agg (Iy g1 i)) V):=Z8 fun V k h=>run_loadAt_mid V k 0 152 (Iy g1 i).toList _ (ZV (cs:=(Iy g1 i).toList) h) Tryz.underlying152 rfl (by kernel_rfl);have gG:=Z8 (aK.out i hlt);have HST:Hid (Ic c i->∀ j,j<i+1->Ic c j):=Z8 fun h j hj=>if hh:j<i then HP.out j hh else by rw[show j=i by omega]; exact h
   have HB2:Hid (¬ Ic c i->(1:Int)=z):=Z8 fun h=>HBAD.out i hlt h;generalize (decide (XM.getD i 0<=c.getD i 0) && decide (c.getD i 0<=rF.getD i 0))=q at *
   generalize decide (c.getD i 0<0)=b at *
   generalize Vf (c.getD i 0)=s at *
   generalize Iy g1 i=SG at *
   go_upto_region 2 with fail;refine wl<|YF (Zv rfl (i) (12) dT)<|wn ?_;simp only[pu];go_upto_region 3 with fail;refine wl<|YT (Z7 gs1 (0+i*4)) (rG gs1 0 12 12 i hlt _ _ _ rfl (by kernel_rfl) (by kernel_rfl))<|Zq rfl ⟨gs1,0+i*4,none⟩ (.agg SG) (hls) ?_;refine YP rfl (some 4) rfl (Z7 wr.heap.size 0) (wr.alloc (.cells #[.string ByteArray.empty,.nilIface,Z9 0,ZY 0] 152)) (by kernel_rfl) ?_;refine WC rfl (hst2)<|wn ?_;obtain⟨g4,hg4⟩:=ZR wr.heap.size;rw[hg4] at hY2;simp only[hg4];have HR2:=Z8 (HR.out.trans (rC.mono HR.out.size));clear hls hst2 hS hg4 rC hX;cases q
   ·go_upto_region 4 with fail;refine ZU (C:=fun U=>Below V2.heap.size V2 U) (by kernel_rfl) (by kernel_rfl) ((Below.refl _ V2).drew) ?_;refine Zj rfl ⟨g4,0,none⟩ (.agg SG) (fun U hU=>Wy.out U _ (hY2.below hY2.lt hU))<|Zj rfl ⟨g4,0,none⟩ (.agg SG) (fun U hU=>Wy.out U _ (hY2.below hY2.lt hU)) ?_;refine Zz (by kernel_rfl) (some 13) rfl 84 #[.agg SG] (.agg #[.bool b,ZY s]) (fun U hU=>by kernel_rfl) (fun U hU=>(CV U (hX2.below hX2.lt hU)).mono fun e w2 z=>⟨z.1,hU.trans (z.2.mono hU.size)⟩) ?_;refine Zz (by kernel_rfl) (some 14) rfl 83 #[.agg SG,.agg #[.bool b,ZY s]] ZW (fun U hU=>by kernel_rfl) (fun U hU=>(CL U).mono fun e w2 z=>⟨z.1,hU.trans (z.2.mono hU.size)⟩) ?_;refine gy ZT ?_;simp only[pu];apply wpQuiet_nil;intro V hV;have HR3:=Z8 (HR2.out.trans (hV.mono HR2.out.size));clear CV CL hX2 hY2 hV;have hno:¬ Ic c i:=fun h=>Bool.noConfusion (gG.out.2 h);obtain rfl:=HB2.out hno;clear hno;have HE:=Z8 (HB1.out.trans (HR3.out.mono HB1.out.size));clear HV HBAD KQ H10 aK gG HST HB2 HP;go_upto_region 5 with fail;refine wl<|ZN (Z9 1)<|wn ?_;simp only[pu];go_wp2_with fail;go_ret;exact⟨rfl,HE.out⟩
   ·go_upto_region 4 with fail;refine ZU (C:=fun U=>Below V2.heap.size V2 U) (by kernel_rfl) (by kernel_rfl) ((Below.refl _ V2).drew) ?_;refine Zj rfl ⟨g4,0,none⟩ (.agg SG) (fun U hU=>Wy.out U _ (hY2.below hY2.lt hU))<|Zj rfl ⟨g4,0,none⟩ (.agg SG) (fun U hU=>Wy.out U _ (hY2.below hY2.lt hU)) ?_;refine Zz (by kernel_rfl) (some 13) rfl 84 #[.agg SG] (.agg #[.bool b,ZY s]) (fun U hU=>by kernel_rfl) (fun U hU=>(CV U (hX2.below hX2.lt hU)).mono fun e w2 z=>⟨z.1,hU.trans (z.2.mono hU.size)⟩) ?_;refine Zz (by kernel_rfl) (some 14) rfl 83 #[.agg SG,.agg #[.bool b,ZY s]] ZT (fun U hU=>by kernel_rfl) (fun U hU=>(CL U).mono fun e w2 z=>⟨z.1,hU.trans (z.2.mono hU.size)⟩) ?_;refine gy ZW ?_;simp only[pu];apply wpQuiet_nil;intro V hV;have HR3:=Z8 (HR2.out.trans (hV.mono HR2.out.size));clear CV CL hX2 hY2 hV;have HP2:=Z8 (HST.out (gG.out.1 rfl));clear HST HB2 HP gG;go_upto_region 6 with fail;refine wl<|YT (Z9 (i+1:Nat)) (add_one rfl i (by omega) (by kernel_rfl) _)<|ZN (Z9 (i+1:Nat))<|wn ?_;simp only[pu];go_wp2_with fail;go_roundg (12-(i+1))
    case measure=>have:=PN.out; omega
    case rel=>exact⟨i+1,rfl,by omega,by omega,HP2,HR3⟩
  ·obtain rfl:i=12:=(by omega);have hf:=KQ.out HP.out;obtain⟨hl1,hl2⟩:=H10.out _ _ hX;have HE:=Z8 (HB1.out.trans (HR.out.mono HB1.out.size));generalize c.getD 10 0=a at *
   generalize c.getD 11 0=b at *
   clear HP HBAD KQ H10 HV hX aK hS;go_upto_region 2 with fail;refine wl<|YF (Zv rfl ((12:Nat)) (12) dF)<|wn ?_;simp only[pu];by_cases hab:a<b
   ·rw[if_pos hab] at hf;obtain rfl:=hf;go_upto_region 7 with fail;refine wl<|ZN (Z7 g1 10)<|Zq rfl ⟨g1,10,none⟩ (Z9 a) (hl1)<|ZN (Z7 g1 11)<|Zq rfl ⟨g1,11,none⟩ (Z9 b) (hl2)<|YF (Qq rfl a b dF) <|
     wpList_nil ?_
    simp only[pu];clear hl1 hl2;go_upto_region 9 with fail;refine wl<|ZN (Z9 0)<|wn ?_;simp only[pu];go_wp2_with fail;go_ret;exact⟨rfl,HE.out⟩
   ·rw[if_neg hab] at hf;obtain rfl:=hf;go_upto_region 7 with fail;refine wl<|ZN (Z7 g1 10)<|Zq rfl ⟨g1,10,none⟩ (Z9 a) (hl1)<|ZN (Z7 g1 11)<|Zq rfl ⟨g1,11,none⟩ (Z9 b) (hl2)<|YF (Qq rfl a b dT) <|
     wpList_nil ?_
    simp only[pu];clear hl1 hl2;go_upto_region 8 with fail;refine wl<|ZN (Z9 1)<|wn ?_;simp only[pu];go_wp2_with fail;go_ret;exact⟨rfl,HE.out⟩
end Go.Proofs.YtnelmomagdcmnaaGreat.Cg
namespace Go.Proofs.YtnelmomagdcmnaaGreat.Cg
attribute [local irreducible] wpList wpQuiet
open Go.RowKit
end Go.Proofs.YtnelmomagdcmnaaGreat.Cg
