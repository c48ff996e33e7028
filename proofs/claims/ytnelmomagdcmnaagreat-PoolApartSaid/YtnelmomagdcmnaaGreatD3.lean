/-
  Texts joined.
-/
import Derived.Test.YtnelmomagdcmnaaGreatD2
set_option maxRecDepth 100000
set_option maxHeartbeats 8000000
set_option linter.unusedSimpArgs false
set_option linter.unusedVariables false
namespace Go.Proofs.YtnelmomagdcmnaaGreat.Sd
open Go.RowKit
abbrev Ky:=ByteArray×Int
def kl (a b:Ky):Bool:=Cm a.1 b.1 || (decide (a.1=b.1) && decide (a.2<b.2))
def kx (x:Rw):Ky:=(x.1,x.2.1)
theorem XL {a b:Ky}:kl a b=true↔Cm a.1 b.1=true∨(a.1=b.1/\a.2<b.2):=by
 unfold kl;simp only[Bool.or_eq_true,Bool.and_eq_true,decide_eq_true_eq]
theorem Fa (a:Ky):kl a a=false:=by
 cases h:kl a a with
 | false=>rfl
 | true=>
  rcases XL.1 h with h | h
  ·rw[Rj] at h; cases h
  ·omega
theorem xO {a b c:Ky}(h:kl a b=true)(g:kl b c=true):kl a c=true:=by
 rcases XL.1 h with h1 | ⟨h1,h2⟩ <;> rcases XL.1 g with g1 | ⟨g1,g2⟩
 ·exact XL.2 (.inl (uM h1 g1))
 ·exact XL.2 (.inl (by rw[<- g1]; exact h1))
 ·exact XL.2 (.inl (by rw[h1]; exact g1))
 ·exact XL.2 (.inr ⟨h1.trans g1,by omega⟩)
theorem xM {a b:Ky}(h:kl a b=true):a≠b:=fun e=>by rw[e,Fa] at h; cases h
theorem nC {a b:Ky}(h:kl a b=true):kl b a=false:=by
 cases g:kl b a with
 | false=>rfl
 | true=>have:=xO h g; rw[Fa] at this; cases this
theorem uK {a b:Ky}(h:kl a b=false)(hn:a≠b):kl b a=true:=by
 have h1:Cm a.1 b.1=false:=by
  cases q:Cm a.1 b.1 with
  | false=>rfl
  | true=>rw[XL.2 (.inl q)] at h; cases h
 by_cases he:a.1=b.1
 ·refine XL.2 (.inr ⟨he.symm,?_⟩);have h2:¬ a.2<b.2:=fun q=>by rw[XL.2 (.inr ⟨he,q⟩)] at h; cases h
  have h3:a.2≠b.2:=fun q=>hn (Prod.ext he q);omega
 ·exact XL.2 (.inl (Au h1 he))
def FI (l:List Rw):Prop:=l.Pairwise fun x y=>kl (kx x) (kx y)=true
def XP (l:List Rw)(k:Ky):Bool:=l.any fun x=>decide (kx x=k)
def NH (k:Ky):List Rw->Nat->Nat->Nat
 | [],_,p=>p
 | x::r,i,p=>NH k r (i+1) (if kl (kx x) k then i+1 else p)
def Va (l:List Rw)(k:Ky)(id:Int):List Rw:=if XP l k then l else l.take (NH k l 0 0)++[(k.1,k.2,id)]++l.drop (NH k l 0 0)
def oD (k:Ky):List Rw->List Rw
 | []=>[]
 | x::r=>if kx x=k then r else x::oD k r
def Zy (l:List Rw)(n:ByteArray):List Eo:=(l.filter fun x=>decide (x.1=n)).map fun x=>x.2
theorem Xa:∀ {l:List Rw},FI l->∀ k:Ky,∃ A B,(l=A++B∨∃ x,kx x=k/\l=A++x::B)/\(∀ x∈A,kl (kx x) k=true)/\(∀ x∈B,kl k (kx x)=true)
 | [],_,k=>⟨[],[],.inl rfl,(fun x h=>by simp at h),(fun x h=>by simp at h)⟩
 | x::r,h,k=>by
  have hp:=List.pairwise_cons.1 h;cases hx:kl (kx x) k with
  | true=>
   obtain⟨A,B,h1,h2,h3⟩:=Xa hp.2 k;refine⟨x::A,B,?_,fun y hy=>?_,h3⟩
   ·rcases h1 with h1 | ⟨z,hz,h1⟩
    ·exact .inl (by rw[h1]; rfl)
    ·exact .inr ⟨z,hz,by rw[h1]; rfl⟩
   ·rcases List.mem_cons.1 hy with rfl | hy
    ·exact hx
    ·exact h2 y hy
  | false=>
   by_cases he:kx x=k
   ·exact⟨[],r,.inr ⟨x,he,rfl⟩,(fun y h=>by simp at h),fun y hy=>by rw[<- he]; exact hp.1 y hy⟩
   ·have hk:=uK hx he;exact⟨[],x::r,.inl rfl,(fun y h=>by simp at h),fun y hy=>by
     rcases List.mem_cons.1 hy with rfl | hy
     ·exact hk
     ·exact xO hk (hp.1 y hy)⟩
section
variable {A B : List Rw} {k : Ky} {x : Rw}
theorem UR (A B:List Rw)(k:Ky):XP (A++B) k=(XP A k || XP B k):=List.any_append
theorem Qz (h:∀ x∈A,kl (kx x) k=true):XP A k=false:=by
 unfold XP;rw[List.any_eq_false];exact fun x hx=>by simpa using xM (h x hx)
theorem Qy (h:∀ x∈B,kl k (kx x)=true):XP B k=false:=by
 unfold XP;rw[List.any_eq_false];exact fun x hx=>by simpa using Ne.symm (xM (h x hx))
theorem TG:∀ (A B:List Rw) (i p:Nat),(∀ x∈A,kl (kx x) k=true)->NH k (A++B) i p=NH k B (i+A.length) (if A=[] then p else i+A.length)
 | [],B,i,p,_=>by simp
 | x::r,B,i,p,h=>by
  rw[List.cons_append,NH,if_pos (h x (by simp)),TG r B (i+1) (i+1) (fun y hy=>h y (by simp[hy]))];rw[if_neg (List.cons_ne_nil _ _),List.length_cons];by_cases hr:r=[]
  ·subst hr; simp
  ·rw[if_neg hr,show i+1+r.length=i+(r.length+1) by omega]
theorem U7:∀ (B:List Rw) (i p:Nat),(∀ x∈B,kl k (kx x)=true)->NH k B i p=p
 | [],i,p,_=>rfl
 | x::r,i,p,h=>by
  rw[NH,if_neg (by rw[nC (h x (by simp))]; exact Bool.false_ne_true),U7 r (i+1) p (fun y hy=>h y (by simp[hy]))]
theorem JV (hA:∀ x∈A,kl (kx x) k=true)(hB:∀ x∈B,kl k (kx x)=true):NH k (A++B) 0 0=A.length:=by
 rw[TG A B 0 0 hA,U7 _ _ _ hB,Nat.zero_add];by_cases h:A=[]
 ·subst h; rfl
 ·rw[if_neg h]
theorem QM (hA:∀ x∈A,kl (kx x) k=true)(hB:∀ x∈B,kl k (kx x)=true)(id:Int):Va (A++B) k id=A++(k.1,k.2,id)::B:=by
 unfold Va;rw[UR,Qz hA,Qy hB,JV hA hB,Bool.or_self,if_neg Bool.false_ne_true,List.take_left,List.drop_left,List.append_assoc];rfl
theorem TF (A B:List Rw)(n:ByteArray):Zy (A++B) n=Zy A n++Zy B n:=by
 unfold Zy;rw[List.filter_append,List.map_append]
theorem LP (x:Rw)(B:List Rw)(n:ByteArray):Zy (x::B) n=if x.1=n then x.2::Zy B n else Zy B n:=by
 unfold Zy;by_cases h:x.1=n
 ·rw[List.filter_cons_of_pos (by simpa using h),if_pos h]; rfl
 ·rw[List.filter_cons_of_neg (by simpa using h),if_neg h]
theorem TB {l:List Rw}{n:ByteArray}{e:Eo}:e∈Zy l n↔(n,e)∈l:=by
 unfold Zy;simp only[List.mem_map,List.mem_filter,decide_eq_true_eq];constructor
 ·rintro⟨x,⟨h1,h2⟩,h3⟩;rw[<- h2,<- h3]; exact h1
 ·exact fun h=>⟨(n,e),⟨h,rfl⟩,rfl⟩
theorem E8 {n:ByteArray}(h:∀ x∈A,kl (kx x) k=true)(hn:k.1=n):∀ e∈Zy A n,e.1<k.2:=fun e he=>by
 rcases XL.1 (h _ (TB.1 he)) with h1 | h1
 ·rw[show(kx (n,e)).1=n from rfl,hn,Rj] at h1; cases h1
 ·exact h1.2
theorem E5 {n:ByteArray}(h:∀ x∈B,kl k (kx x)=true)(hn:k.1=n):∀ e∈Zy B n,k.2<e.1:=fun e he=>by
 rcases XL.1 (h _ (TB.1 he)) with h1 | h1
 ·rw[show(kx (n,e)).1=n from rfl,hn,Rj] at h1; cases h1
 ·exact h1.2
end
def Vt (E:List Eo):Prop:=E.Pairwise fun x y=>x.1<y.1
theorem TN {l:List Rw}(h:FI l)(n:ByteArray):Vt (Zy l n):=by
 unfold Vt Zy;rw[List.pairwise_map];refine(h.filter _).imp_of_mem fun {x y} hx hy hk=>?_;have h1:x.1=n:=by simpa using(List.mem_filter.1 hx).2
 have h2:y.1=n:=by simpa using(List.mem_filter.1 hy).2
 rcases XL.1 hk with h3 | h3
 ·rw[show(kx x).1=n from h1,show(kx y).1=n from h2,Rj] at h3; cases h3
 ·exact h3.2
def Zw (E:List Eo)(q:Int):Nat:=E.countP fun e=>decide (e.1<q)
def Xk (E:List Eo)(q:Int):Bool:=E.any fun e=>decide (e.1=q)
theorem Qx {EA EB:List Eo}{q:Int}(hA:∀ e∈EA,e.1<q)(hB:∀ e∈EB,q<=e.1):Zw (EA++EB) q=EA.length:=by
 unfold Zw;rw[List.countP_append,List.countP_eq_length.2 (fun e he=>by simpa using hA e he),List.countP_eq_zero.2 (fun e he=>by have:=hB e he; simp; omega)];rfl
theorem cnt_le (E:List Eo)(q:Int):Zw E q<=E.length:=List.countP_le_length
theorem NT {l:List Rw}(k:Ky):Xk (Zy l k.1) k.2=XP l k:=by
 unfold Xk XP;rw[Bool.eq_iff_iff];simp only[List.any_eq_true,decide_eq_true_eq];constructor
 ·rintro⟨e,he,h⟩;exact⟨_,TB.1 he,Prod.ext rfl h⟩
 ·rintro⟨x,hx,h⟩;refine⟨x.2,TB.2 ?_,congrArg Prod.snd h⟩;rw[<- show x.1=k.1 from congrArg Prod.fst h]; exact hx
structure EZ (l l2:List Rw)(k:Ky)(id:Int):Prop where
 Hw:FI l2
 len:l2.length=l.length+1
 own:Zy l2 k.1=(Zy l k.1).take (Zw (Zy l k.1) k.2)++(k.2,id)::(Zy l k.1).drop (Zw (Zy l k.1) k.2)
 oth:∀ n,n≠k.1->Zy l2 n=Zy l n
 mem:∀ x∈l2,x=(k.1,k.2,id)∨x∈l
theorem UQ {l:List Rw}(h:FI l){k:Ky}(hn:XP l k=false)(id:Int):EZ l (Va l k id) k id:=by
 obtain⟨A,B,h1,hA,hB⟩:=Xa h k;rcases h1 with rfl | ⟨x,hx,rfl⟩
 ·have hp:=List.pairwise_append.1 h;rw[QM hA hB];have hlA:=E8 (n:=k.1) hA rfl;have hlB:=E5 (n:=k.1) hB rfl;have hc:Zw (Zy (A++B) k.1) k.2=(Zy A k.1).length:=by rw[TF]; exact Qx hlA fun e he=>Int.le_of_lt (hlB e he)
  refine⟨?_,by simp only[List.length_append,List.length_cons]; omega,?_,fun n hn=>?_,fun x hx=>?_⟩
  ·refine List.pairwise_append.2 ⟨hp.1,List.pairwise_cons.2 ⟨hB,hp.2.1⟩,fun a ha b hb=>?_⟩;rcases List.mem_cons.1 hb with rfl | hb
   ·exact hA a ha
   ·exact hp.2.2 a ha b hb
  ·rw[hc,TF,TF,LP,if_pos rfl,List.take_left,List.drop_left]
  ·rw[TF,TF,LP,if_neg (Ne.symm hn)]
  ·rcases List.mem_append.1 hx with h | h
   ·exact .inr (List.mem_append.2 (.inl h))
   ·rcases List.mem_cons.1 h with rfl | h
    ·exact .inl rfl
    ·exact .inr (List.mem_append.2 (.inr h))
 ·rw[UR,show XP (x::B) k=true by unfold XP; rw[List.any_cons,decide_eq_true hx]; rfl,Bool.or_true] at hn;cases hn
theorem Qw {l:List Rw}{k:Ky}(hn:XP l k=true)(id:Int):Va l k id=l:=by unfold Va; rw[if_pos hn]
structure oG (l l2:List Rw)(k:Ky):Prop where
 Hw:FI l2
 len:l2.length+1=l.length
 lt:Zw (Zy l k.1) k.2<(Zy l k.1).length
 own:Zy l2 k.1=(Zy l k.1).take (Zw (Zy l k.1) k.2)++(Zy l k.1).drop (Zw (Zy l k.1) k.2+1)
 oth:∀ n,n≠k.1->Zy l2 n=Zy l n
 mem:∀ x∈l2,x∈l
def VF:List Eo->Int->Nat
 | [],_=>0
 | e::r,q=>if e.1=q then VF r (q+1)+1 else 0
theorem NU:∀ (E:List Eo) (q:Int),VF E q<=E.length
 | [],q=>Nat.le_refl 0
 | e::r,q=>by
  have:=NU r (q+1);rw[VF]
  split
  ·rw[List.length_cons]; omega
  ·omega
def RI (E:List Eo)(q:Int):List Int:=((E.drop (Zw E q)).take (VF (E.drop (Zw E q)) q)).map fun e=>e.2
def W64 (x:Int):Prop:=0<=x/\x<=18446744073709551615
def RwW (l:List Rw):Prop:=∀ x∈l,W64 x.2.1
theorem QI:∀ {E:List Eo} {q:Int},Vt E->(∀ e∈E.take (Zw E q),e.1<q)/\∀ e∈E.drop (Zw E q),q<=e.1
 | [],q,_=>⟨fun e h=>by simp at h,fun e h=>by simp at h⟩
 | e::r,q,h=>by
  have hc:=List.pairwise_cons.1 h;by_cases h1:e.1<q
  ·have h2:=QI (q:=q) hc.2;rw[show Zw (e::r) q=Zw r q+1 by unfold Zw; rw[List.countP_cons_of_pos (by simpa using h1)],List.take_succ_cons,List.drop_succ_cons];exact⟨fun y hy=>by
    rcases List.mem_cons.1 hy with rfl | hy
    ·exact h1
    ·exact h2.1 y hy,h2.2⟩
  ·have h2:∀ y∈e::r,q<=y.1:=fun y hy=>by
    rcases List.mem_cons.1 hy with rfl | hy
    ·omega
    ·have:=hc.1 y hy; omega
   rw[show Zw (e::r) q=0 by unfold Zw; exact List.countP_eq_zero.2 fun y hy=>by have:=h2 y hy; simp; omega];exact⟨fun y hy=>by simp at hy,h2⟩
section
variable {V0 V V2 : World} {k : Rw} {L1 L2 L3 : List Rw} {b0 b1 b2 b3 bk : Bool} {x0 x1 x2 x3 xk v : Value}
end
section
variable {M : List Rw} {k : Ky} {i : Nat}
end
def PZ (w:World)(L:List Int)(e:Ending)(w':World):Prop:=∃ v,e=.returned v/\Zd w' w.heap.size v L/\Below w.heap.size w w'
def Xi (E:List Eo):List Int:=E.map fun e=>e.2
theorem SE (w:World)(B e s:Nat):w.ownsRow B e s (.slice none 0 0) 0 []:=⟨by simp,.inl ⟨rfl,rfl⟩⟩
theorem xP {ρ:Operand->Value}{o:Oper}{x y:Operand}(ho:o.op=.binOp .add 23 x y 23)(a b:Int)(hx:ρ x=ZY a)(hy:ρ y=ZY b)(w:World):(execOp ρ o).run Tryz.prog w=.ok (.value (ZY (IntKind.u64.wrap (a+b)))) w:=by
 unfold execOp;simp only[ho,hx,hy];go_simp
theorem Rk (M:List Rw)(n:ByteArray):(Zy M n).length<=M.length:=by
 unfold Zy;rw[List.length_map];exact List.length_filter_le _ _
end Go.Proofs.YtnelmomagdcmnaaGreat.Sd
namespace Go.Proofs.YtnelmomagdcmnaaGreat.Ex
open Go.RowKit
def ZP (B:Nat)(S:Nat->Prop)(w w':World):Prop:=Below B w w'/\∀ k,k<w.heap.size->¬ S k->w'.heap[k]?=w.heap[k]?
theorem ZP.of_below {B:Nat}{S:Nat->Prop}{w w':World}(h:Below w.heap.size w w')(hB:B<=w.heap.size):ZP B S w w':=⟨h.mono hB,fun k hk _=>h.block k hk⟩
theorem Bx.VQ {w w':World}{k t B:Nat}{S:Nat->Prop}{cs:Array Value}(h:Bx w k cs t)(hb:ZP B S w w')(hn:¬ S k):Bx w' k cs t:=(hb.2 k h.lt hn).trans h
theorem Cs.VQ {w w':World}{B:Nat}{S:Nat->Prop}{a:Option Addr}{cs:List Value}(h:Cs w a cs)(hb:ZP B S w w')(hn:∀ x,a=some x->¬ S x.block):Cs w' a cs:=fun j v hj=>by
 obtain⟨b,off,e,hlt,hc⟩:=h j v hj;refine⟨b,off,e,Nat.lt_of_lt_of_le hlt hb.1.size,?_⟩;rw[<- hc];unfold World.cell?;rw[hb.2 b hlt (hn _ e)]
theorem ZP.refl (B:Nat)(S:Nat->Prop)(w:World):ZP B S w w:=⟨Below.refl _ _,fun _ _ _=>rfl⟩
theorem ZP.trans {B:Nat}{S S2:Nat->Prop}{a b c:World}(h:ZP B S a b)(k:ZP B S2 b c)(hs:∀ x,S2 x->S x∨a.heap.size<=x):ZP B S a c:=
 ⟨h.1.trans k.1,fun i hi hn=>(k.2 i (by have:=h.1.size; omega) (fun h2=>(hs i h2).elim hn (by omega))).trans (h.2 i hi hn)⟩
theorem ZP.trans' {B:Nat}{S:Nat->Prop}{a b c:World}(h:ZP B S a b)(k:ZP B S b c):ZP B S a c:=h.trans k fun _=>.inl
theorem ZP.setCell {B:Nat}{S:Nat->Prop}(w:World)(b o:Nat)(v:Value)(hB:B<=b)(hS:S b):ZP B S w (w.setCell ⟨b,o,none⟩ v):=
 ⟨(Below.refl B w).setCell hB v,fun k _ hn=>heap_setCell_other w _ k v (fun e=>hn (by rw[e]; exact hS))⟩
theorem XD {w:World}{B e s n c b:Nat}{xs:List Value}(h:w.ownsRow B e s (.slice (some ⟨b,0,none⟩) n c) n xs)(j:Nat)(v:Value)(hj:j<xs.length):(w.setCell ⟨b,j,none⟩ v).ownsRow B e s (.slice (some ⟨b,0,none⟩) n c) n (xs.set j v):=by
 have hlen:=h.1;rcases h.2 with⟨e0,-⟩ | ⟨g,cap,cur,e0,hb,hg,hn,hm,hc,ht⟩
 ·cases e0
 ·simp only[Value.slice.injEq,Option.some.injEq,Addr.mk.injEq,and_true,true_and] at e0;obtain⟨rfl,rfl⟩:=e0;refine⟨by simpa using hlen,.inr ⟨b,c,cur.setIfInBounds j v,rfl,hb,Joins.block_setCell hg v,hn,hm,by simpa using hc,?_⟩⟩;rw[Array.toList_setIfInBounds,List.take_set,ht]
theorem YJ {w:World}{B e s n c b:Nat}{xs:List Value}(h:w.ownsRow B e s (.slice (some ⟨b,0,none⟩) n c) n xs):∃ cur,Bx w b cur e/\n*s<=cur.size/\B<=b/\cur.toList.take (n*s)=xs:=by
 rcases h.2 with⟨e0,-⟩ | ⟨g,cap,cur,e0,hb,hg,hn,hm,hc,ht⟩
 ·cases e0
 ·simp only[Value.slice.injEq,Option.some.injEq,Addr.mk.injEq,and_true,true_and] at e0;obtain⟨rfl,rfl⟩:=e0;exact⟨cur,hg,by rw[hc]; exact Nat.mul_le_mul_right _ hn,hb,ht⟩
theorem ZP.sets {B b:Nat}{S:Nat->Prop}(hB:B<=b)(hS:S b):∀ (vs:List Value) (o:Nat) (w:World),ZP B S w (w.setCells b o vs)
 | [],o,w=>ZP.refl _ _ _
 | v::r,o,w=>(ZP.setCell w b o v hB hS).trans' (ZP.sets hB hS r (o+1) _)
theorem YI {B e s n c b:Nat}:∀ (vs:List Value) (o:Nat) (w:World) (xs:List Value),w.ownsRow B e s (.slice (some ⟨b,0,none⟩) n c) n xs->o+vs.length<=xs.length->(w.setCells b o vs).ownsRow B e s (.slice (some ⟨b,0,none⟩) n c) n (xs.take o++vs++xs.drop (o+vs.length))
 | [],o,w,xs,h,_=>by simpa [World.setCells] using h
 | v::r,o,w,xs,h,hl=>by
  rw[List.length_cons] at hl;have h1:=YI r (o+1) _ _ (XD h o v (by omega)) (by rw[List.length_set]; omega);rw[World.setCells];have e:(xs.set o v).take (o+1)++r++(xs.set o v).drop (o+1+r.length)=xs.take o++v::r++xs.drop (o+(v::r).length):=by
   rw[List.drop_set_of_lt (by omega),List.take_set,List.length_cons,show o+(r.length+1)=o+1+r.length by omega];have ho:o<xs.length:=(by omega);rw[List.take_add_one,List.getElem?_eq_getElem ho,Option.toList_some,List.set_append_right _ _ (by rw[List.length_take]; omega),List.length_take,Nat.min_eq_left (by omega),Nat.sub_self,List.set_cons_zero];simp
  rw[e] at h1;exact h1
section
variable {α : Type} (f : α -> List Value) {s : Nat}
theorem WR (hf:∀ x,(f x).length=s):∀ L:List α,(L.flatMap f).length=L.length*s
 | []=>by simp
 | x::r=>by
  rw[List.flatMap_cons,List.length_append,hf x,WR hf r,List.length_cons,Nat.add_mul]; omega
theorem WQ (hf:∀ x,(f x).length=s)(z:α):∀ (L:List α) (i j:Nat),i<L.length->j<s->(L.flatMap f)[i*s+j]?=(f (L.getD i z))[j]?
 | [],i,j,h,_=>by simp at h
 | x::r,0,j,_,hj=>by
  rw[List.flatMap_cons,Nat.zero_mul,Nat.zero_add,List.getElem?_append_left (by rw[hf x]; exact hj)]; rfl
 | x::r,i+1,j,h,hj=>by
  rw[List.flatMap_cons,List.getElem?_append_right (by rw[hf x,Nat.add_mul]; omega),hf x,show(i+1)*s+j-s=i*s+j by rw[Nat.add_mul]; omega,WQ hf z r i j (by simpa using h) hj]; rfl
theorem Ws (hf:∀ x,(f x).length=s):∀ (L:List α) (k:Nat),(L.flatMap f).take (k*s)=(L.take k).flatMap f
 | [],k=>by simp
 | x::r,0=>by simp
 | x::r,k+1=>by
  rw[List.flatMap_cons,List.take_succ_cons,List.flatMap_cons,Nat.add_mul,Nat.one_mul,Nat.add_comm,<- hf x,List.take_append,List.take_of_length_le (by omega),hf x,Nat.add_sub_cancel_left,Ws hf r k]
theorem Tz (hf:∀ x,(f x).length=s):∀ (L:List α) (k:Nat),(L.flatMap f).drop (k*s)=(L.drop k).flatMap f
 | [],k=>by simp
 | x::r,0=>by simp
 | x::r,k+1=>by
  rw[List.flatMap_cons,List.drop_succ_cons,Nat.add_mul,Nat.one_mul,Nat.add_comm,<- hf x,List.drop_append,List.drop_of_length_le (by omega),hf x,Nat.add_sub_cancel_left,Tz hf r k,List.nil_append]
theorem XR {w:World}{a:Option Addr}(hf:∀ x,(f x).length=s)(hs:0<s)(z:α){L:List α}(h:Cs w a (L.flatMap f)){i:Nat}(hi:i<L.length):∃ b off,a=some ⟨b,off,none⟩/\b<w.heap.size/\w.rangeAt b (off+i*s) (f (L.getD i z)):=by
 have hz:=hf (L.getD i z);have h0:=WQ f hf z L i 0 hi hs;rw[List.getElem?_eq_getElem (show 0<(f (L.getD i z)).length by omega)] at h0;obtain⟨b,off,rfl,hb,-⟩:=h _ _ h0;refine⟨b,off,rfl,hb,fun j v hj=>?_⟩;have hjs:j<s:=by have:=(List.getElem?_eq_some_iff.1 hj).1; omega
 obtain⟨b2,o2,e2,-,c2⟩:=h _ _ ((WQ f hf z L i j hi hjs).trans hj);simp only[Option.some.injEq,Addr.mk.injEq,and_true] at e2;obtain⟨rfl,rfl⟩:=e2;rw[Nat.add_assoc];exact c2
theorem SC (h1:∀ x,∀ u∈f x,u.oneCell'=true)(L:List α):∀ u∈L.flatMap f,u.oneCell'=true:=fun u hu=>by
 obtain⟨x,-,hx⟩:=List.mem_flatMap.1 hu;exact h1 x u hx
end
theorem X5 {B b:Nat}(hB:B<=b):∀ (vs:List Value) (o:Nat) (w:World),Below B w (w.setCells b o vs)
 | [],o,w=>Below.refl _ _
 | v::r,o,w=>((Below.refl B w).setCell hB v).trans (X5 hB r (o+1) _)
theorem Xt {b:Nat}:∀ (vs:List Value) (o:Nat) (w:World),But b w (w.setCells b o vs)
 | [],o,w=>But.refl _ _
 | v::r,o,w=>(But.setCell w o v).trans (Xt r (o+1) _)
theorem ZV {w:World}{g t:Nat}{cs:List Value}(h:Bx w g cs.toArray t):w.rangeAt g 0 cs:=fun j v hv=>by
 rw[cell_of_row w g _ _ _ (0,0) h];simpa using hv
section
variable {ρ : Operand -> Value} {o : Oper} {x y : Operand}
theorem xJ (ho:o.op=.binOp .leq 3 x y 3)(a b:Int){t:Bool}(ht:decide (a<=b)=t)(hx:ρ x=Z9 a)(hy:ρ y=Z9 b)(w:World):(execOp ρ o).run Tryz.prog w=.ok (.value (.bool t)) w:=by
 rw[<- ht];unfold execOp;simp only[ho,hx,hy];go_simp
theorem Zv (ho:o.op=.binOp .lss 3 x y 3)(a b:Int){t:Bool}(ht:decide (a<b)=t)(hx:ρ x=Z9 a)(hy:ρ y=Z9 b)(w:World):(execOp ρ o).run Tryz.prog w=.ok (.value (.bool t)) w:=by
 rw[<- ht];unfold execOp;simp only[ho,hx,hy];go_simp
theorem Qs (ho:o.op=.binOp .neq 3 x y 3)(a b:Int){t:Bool}(ht:decide (a≠b)=t)(hx:ρ x=Z9 a)(hy:ρ y=Z9 b)(w:World):(execOp ρ o).run Tryz.prog w=.ok (.value (.bool t)) w:=by
 have e:(a != b)=t:=by rw[<- ht]; by_cases h:a=b <;> simp[h]
 unfold execOp;simp only[ho,hx,hy];go_simp
theorem Wq (ho:o.op=.binOp .add 3 x y 3)(a b:Int)(h:-1000000000000<=a+b/\a+b<=1000000000000)(hx:ρ x=Z9 a)(hy:ρ y=Z9 b)(w:World):(execOp ρ o).run Tryz.prog w=.ok (.value (Z9 (a+b))) w:=by
 have hw:IntKind.i64.wrap (a+b)=a+b:=by rw[IntKind.wrap_i64]; omega
 unfold execOp;simp only[ho,hx,hy];go_simp
theorem TQ (ho:o.op=.binOp .sub 3 x y 3)(a b:Int)(h:-1000000000000<=a-b/\a-b<=1000000000000)(hx:ρ x=Z9 a)(hy:ρ y=Z9 b)(w:World):(execOp ρ o).run Tryz.prog w=.ok (.value (Z9 (a-b))) w:=by
 have hw:IntKind.i64.wrap (a-b)=a-b:=by rw[IntKind.wrap_i64]; omega
 unfold execOp;simp only[ho,hx,hy];go_simp
end
theorem VI {ρ:Operand->Value}{o:Oper}{x y:Operand}(ho:o.op=.binOp .gtr 3 x y 3)(a b:Int){t:Bool}(ht:decide (b<a)=t)(hx:ρ x=Z9 a)(hy:ρ y=Z9 b)(w:World):(execOp ρ o).run Tryz.prog w=.ok (.value (.bool t)) w:=by
 rw[<- ht];unfold execOp;simp only[ho,hx,hy];go_simp
theorem YA {ρ:Operand->Value}{o:Oper}{x y:Operand}(ho:o.op=.binOp .eql 3 x y 3)(a b:Int){t:Bool}(ht:decide (a=b)=t)(hx:ρ x=Z9 a)(hy:ρ y=Z9 b)(w:World):(execOp ρ o).run Tryz.prog w=.ok (.value (.bool t)) w:=by
 have e:(a == b)=t:=ht;unfold execOp;simp only[ho,hx,hy];go_simp
theorem Xm {w:World}{g t i:Nat}{cs:Array Value}(cs':Array Value){v:Value}{ty:TypeId}(h:Bx w g cs t)(hi:i<cs.size)(hc:cs.setIfInBounds i v=cs')(h1:v.oneCell'=true)(hs:(Tryz.prog.info? ty).map (·.size)=some 1):∃ V2,(Instr.storeAt ty (Z7 g i) v).run Tryz.prog w=.ok () V2/\Bx V2 g cs' t/\But g w V2:=
 ⟨_,Zh h hi h1 hs,by rw[<- hc]; exact h.Hu v,But.setCell w i v⟩
theorem st_all {w:World}{g t:Nat}{cs cs':Array Value}{ty:TypeId}(h:Bx w g cs t)(hz:cs.size=cs'.size)(h1:cs'.all (·.oneCell')=true)(hs:(Tryz.prog.info? ty).map (·.size)=some cs'.size):∃ V2,(Instr.storeAt ty (Z7 g 0) (.agg cs')).run Tryz.prog w=.ok () V2/\Bx V2 g cs' t/\But g w V2:=
 ⟨_,XE h hz h1 hs,h.set,But.setRow w cs'⟩
theorem Zu {w w':World}{b o:Nat}{cs:List Value}(h:w.rangeAt b o cs)(hb:Below w.heap.size w w'):w'.rangeAt b o cs:=fun j v hv=>by
 have:=h j v hv;exact(hb.cell (p:=⟨b,o+j,none⟩) (World.block_lt_of_cell? w _ this)).trans this
theorem YQ {c c':Array Value}{ty:TypeId}(w:World)(hz:c.size=c'.size)(h1:c'.all (·.oneCell')=true)(hs:(Tryz.prog.info? ty).map (·.size)=some c'.size):∃ V,(Instr.storeAt ty (Z7 w.heap.size 0) (.agg c')).run Tryz.prog (w.alloc (.cells c ty))=.ok () V/\Below w.heap.size w V/\Bx V w.heap.size c' ty:=by
 obtain⟨V,hst,hX,hbt⟩:=st_all (cs':=c') (ty:=ty) (heap_alloc_last w (.cells c ty):Bx _ _ c ty) hz h1 hs;exact⟨V,hst,((Below.refl _ w).alloc (Nat.le_refl _) _).trans hbt.1,hX⟩
theorem SB {w w':World}{B e s n n2 c:Nat}{a:Option Addr}{xs:List Value}(h:w.ownsRow B e s (.slice a n c) n2 xs)(hs:∀ x,a=some x->w'.heap[x.block]?=w.heap[x.block]?):w'.ownsRow B e s (.slice a n c) n2 xs:=by
 refine⟨h.1,?_⟩;rcases h.2 with h0 | ⟨g,cap,cur,e0,hb,hg,r⟩
 ·exact .inl h0
 ·refine .inr ⟨g,cap,cur,e0,hb,?_,r⟩;simp only[Value.slice.injEq,true_and] at e0;rw[<- hg];exact hs _ e0.1
theorem Qv {w:World}{B e s n n2 c:Nat}{a:Option Addr}{xs:List Value}(h:w.ownsRow B e s (.slice a n c) n2 xs):Cs w a xs/\n2<=c:=by
 obtain⟨a2,c2,e2,h1,h2⟩:=Zi h;simp only[Value.slice.injEq] at e2;obtain⟨rfl,-,rfl⟩:=e2;exact⟨h1,h2⟩
section
variable {P : Program} {t e s bytes : Nat} {z : Value}
theorem VP (hu:P.underlying t=some (.slice e))(hinfo:(P.info? e).map (fun i=>(i.zero,i.size,i.bytes))=some (some z,s,bytes))(hzs:z.cells.size=s)(hs:0<s)(hby:bytes<=1000)
  {w:World} {B n m:Nat} {v:Value} {xs:List Value} (hO:w.ownsRow B e s v n xs) (pa:Option Addr) (cp:Nat) (ys:List Value) (hP:Cs w pa ys) (hl:ys.length=m*s) (h1:∀ u∈ys,u.oneCell'=true) (hB:B<=w.heap.size) (hn:n<=100000) (hm:m<=100000) :
  ∃ v' w',(Builtin.append_ #[t,t] t #[v,.slice pa m cp]).run P w=.ok v' w'/\w'.ownsRow B e s v' (n+m) (xs++ys)/\Below B w w'/\w.grownBy w' v.ownBlock/\(v'.ownBlock=v.ownBlock∨v'.ownBlock=some w.heap.size):=by
 obtain⟨i0,hi,hz0,hz1,hz2⟩:=info_parts hinfo;by_cases hy:ys=[]
 ·subst hy;obtain rfl:m=0:=by
   rcases Nat.eq_zero_or_pos m with h | h
   ·exact h
   ·have:=Nat.mul_pos h hs;rw[<- hl] at this;simp at this
  cases pa with
  | none=>
   refine⟨v,w,?_,by simpa using hO,Below.refl _ _,World.grownBy.refl w _,.inl rfl⟩;rcases hO.2 with⟨rfl,h0⟩ | ⟨g,cap,cur,rfl,_,_,hnc,_⟩
   ·simp[Builtin.append_,run_underlying hu,sizeOf,typeInfo,hi,Builtin.lenOf,Builtin.firstCells]
   ·simp[Builtin.append_,run_underlying hu,sizeOf,typeInfo,hi,Builtin.lenOf,Builtin.firstCells,hnc,storeCells]
  | some x=>
   obtain⟨v',w',hr,h2,h3,-,h4⟩:=run_append_own_at (P:=P) w B t t e i0 z s bytes hu hi hz0 hz1 hz2 hzs hs v n xs hO x 0 cp [] (by simp) (fun j u h=>by simp at h) (by simp) (by unfold maxLen; omega) (by have:=Nat.mul_le_mul (show n+0<=100000 by omega) hby; omega) hB;exact⟨v',w',hr,h2,(Below.refl _ w).grown h3 hB (fun j hj=>(hO.lt j hj).1),h3,h4⟩
 ·obtain⟨y,hy0⟩:∃ y,ys[0]?=some y:=by
   cases ys with
   | nil=>exact absurd rfl hy
   | cons y r=>exact⟨y,rfl⟩
  obtain⟨b,off,rfl,-⟩:=hP 0 y hy0;have hcells:∀ j u,ys[j]?=some u->w.cell? ((⟨b,off,none⟩:Addr).add j)=some u:=fun j u hu=>by
   obtain⟨b2,off2,e2,-,hc⟩:=hP j u hu;simp only[Option.some.injEq,Addr.mk.injEq,and_true] at e2;obtain⟨rfl,rfl⟩:=e2;rw[Addr.add_mid];exact hc
  obtain⟨v',w',hr,h2,h3,-,h4⟩:=run_append_own_at (P:=P) w B t t e i0 z s bytes hu hi hz0 hz1 hz2 hzs hs v n xs hO ⟨b,off,none⟩ m cp ys hl hcells h1 (by unfold maxLen; omega) (by have:=Nat.mul_le_mul (show n+m<=200000 by omega) hby; omega) hB;exact⟨v',w',hr,h2,(Below.refl _ w).grown h3 hB (fun j hj=>(hO.lt j hj).1),h3,h4⟩
end
section
variable {ρ : Operand -> Value} {o : Oper} {x y : Operand}
end
section
variable {ρ : Operand -> Value} {o : Oper} {x y : Operand}
theorem X0 (ho:o.op=.binOp .eql 3 x y 3)(a b:Nat){t:Bool}(ht:decide (a=b)=t)(hx:ρ x=Z9 a)(hy:ρ y=Z9 b)(w:World):(execOp ρ o).run Tryz.prog w=.ok (.value (.bool t)) w:=
  YA ho a b (by rw[<- ht]; exact decide_eq_decide.2 (by omega)) hx hy w
end
abbrev Wt:=Int×Int×Int
abbrev Eo:=Int×Int
def YN (x:Eo):List Value:=[Z9 x.1,Z9 x.2]
abbrev ZQ (x:Eo):Array Value:=#[Z9 x.1,Z9 x.2]
def encs (L:List Eo):List Value:=L.flatMap YN
theorem Vs (x:Eo):(YN x).length=2:=rfl
theorem Vr (x:Eo):∀ u∈YN x,u.oneCell'=true:=List.all_eq_true.1 (show(YN x).all (·.oneCell')=true by kernel_rfl)
theorem Y3 (x:Eo):(ZQ x).all (·.oneCell')=true:=by kernel_rfl
theorem Y0 (L:List Eo):(encs L).length=L.length*2:=WR YN Vs L
theorem WO (L:List Eo):∀ u∈encs L,u.oneCell'=true:=SC YN Vr L
theorem WM (A B:List Eo):encs (A++B)=encs A++encs B:=List.flatMap_append
theorem W9 (L:List Eo)(k:Nat):(encs L).take (k*2)=encs (L.take k):=Ws YN Vs L k
theorem WZ (L:List Eo)(k:Nat):(encs L).drop (k*2)=encs (L.drop k):=Tz YN Vs L k
abbrev Wn:Eo:=(0,0)
theorem Vq:(Tryz.prog.info? 174).map (fun i=>(i.zero,i.size,i.bytes))=some (some (.agg (ZQ Wn)),2,16):=by kernel_rfl
theorem EY {w:World}{a:Option Addr}{L:List Eo}(h:Cs w a (encs L)){i:Nat}(hi:i<L.length):∃ b off,a=some ⟨b,off,none⟩/\b<w.heap.size/\w.rangeAt b (off+i*2) (YN (L.getD i Wn)):=XR YN Vs (by omega) Wn h hi
theorem ZC {w:World}{b o:Nat}{x:Eo}(h:w.rangeAt b o (YN x)):(Instr.loadAt 174 (Z7 b o)).run Tryz.prog w=.ok (.agg (ZQ x)) w:=run_loadAt_mid w b o 174 (YN x) _ h Tryz.underlying174 rfl (by kernel_rfl)
theorem U5 {w:World}{g k:Nat}{x:Eo}(h:Bx w g (ZQ x) k):(Instr.loadAt 174 (Z7 g 0)).run Tryz.prog w=.ok (.agg (ZQ x)) w:=ZC (ZV (cs:=YN x) h)
theorem Yn (b off n c k:Nat)(hk:k<n)(V:World)(ρ:Operand->Value)(o:Oper){x y:Operand}(ho:o.op=.indexAddr 135 x y)(hx:ρ x=.slice (some ⟨b,off,none⟩) n c)(hy:ρ y=Z9 k):(execOp ρ o).run Tryz.prog V=.ok (.value (Z7 b (off+k*2))) V:=by
  have hs:(sizeOf (Tryz.prog.elem 135)).run Tryz.prog V=.ok 2 V:=by kernel_rfl
  have hlm:(k:Int)<(n:Int):=by omega
  unfold execOp;simp only[ho,hx,hy];go_simp
theorem Qu (x:Eo)(V:World):(Instr.buildSlice 135 1 #[(0,.agg (ZQ x))]).run Tryz.prog V=.ok (.slice (some ⟨V.heap.size,0,none⟩) 1 1) (V.alloc (.cells (ZQ x) 174)):=by
  obtain⟨i0,hi,hz0,hz1,hz2⟩:=info_parts Vq;refine run_buildSlice V 135 174 1 _ (ZQ x) i0 _ Tryz.underlying135 hi hz0 (by rw[hz1]; omega) (by rw[hz1]; omega) ?_;rw[hz1];kernel_rfl
theorem VB (a:Option Addr)(n c k:Nat)(w:World)(h:k<=c):(Instr.slice 135 (.slice a n c) none (some (Z9 (k:Int))) none).run Tryz.prog w=.ok (.slice a k c) w:=Fe (s:=2) (by kernel_rfl) (fun w=>by kernel_rfl) a n c k w h
theorem ZH (a:Option Addr)(n c k:Nat)(w:World)(h:k<=n):(Instr.slice 135 (.slice a n c) (some (Z9 (k:Int))) none none).run Tryz.prog w=.ok (.slice (Yc 2 a c k) (n-k) (c-k)) w:=LX (s:=2) (by kernel_rfl) (fun w=>by kernel_rfl) a n c k w h
def ZE (w:World)(B:Nat)(v:Value)(L:List Eo):Prop:=w.ownsRow B 174 2 v L.length (encs L)
theorem ZE.below {w w':World}{B:Nat}{v:Value}{L:List Eo}(h:ZE w B v L)(hb:Below w.heap.size w w'):ZE w' B v L:=own_below h hb
theorem ZE.cs {w:World}{B:Nat}{v:Value}{L:List Eo}(h:ZE w B v L):∃ a c,v=.slice a L.length c/\Cs w a (encs L)/\L.length<=c:=Zi h
theorem ZE.ne {w:World}{B:Nat}{x:Value}{L:List Eo}(h:ZE w B x L):x.ownBlock≠some w.heap.size:=fun e=>Nat.lt_irrefl _ (h.lt _ e).2
theorem JU {w:World}{B:Nat}{v:Value}{A:List Eo}(h:ZE w B v A)(hB:B<=w.heap.size)(pa:Option Addr)(n cp:Nat)(M:List Eo)(hM:Cs w pa (encs M))(hn:M.length=n)(hl:A.length<=100000)(hm:n<=100000) :
    ∃ v' w',(Builtin.append_ #[135,135] 135 #[v,.slice pa n cp]).run Tryz.prog w=.ok v' w'/\ZE w' B v' (A++M)/\Below B w w'/\w.grownBy w' v.ownBlock/\(v'.ownBlock=v.ownBlock∨v'.ownBlock=some w.heap.size):=by
  subst hn;obtain⟨v',w',h1,h2,h3⟩:=VP (P:=Tryz.prog) (t:=135) (m:=M.length) Tryz.underlying135 Vq (by kernel_rfl) (by omega) (by omega) h pa cp (encs M) hM (Y0 M) (WO M) hB hl hm;refine⟨v',w',h1,?_,h3⟩;unfold ZE;rw[WM,List.length_append];exact h2
def Zd (w:World)(B:Nat)(v:Value)(L:List Int):Prop:=w.ownsRow B 3 1 v L.length (ZM L)
theorem Zd.below {w w':World}{B:Nat}{v:Value}{L:List Int}(h:Zd w B v L)(hb:Below w.heap.size w w'):Zd w' B v L:=own_below h hb
theorem Zd.cs {w:World}{B:Nat}{v:Value}{L:List Int}(h:Zd w B v L):∃ a c,v=.slice a L.length c/\Cs w a (ZM L)/\L.length<=c:=Zi h
theorem Zd.ne {w:World}{B:Nat}{x:Value}{L:List Int}(h:Zd w B x L):x.ownBlock≠some w.heap.size:=fun e=>Nat.lt_irrefl _ (h.lt _ e).2
theorem TY {w:World}{B:Nat}{v:Value}{A:List Int}(h:Zd w B v A)(hB:B<=w.heap.size)(pa:Option Addr)(n cp:Nat)(M:List Int)(hM:Cs w pa (ZM M))(hn:M.length=n)(hl:A.length<=100000)(hm:n<=100000) :
    ∃ v' w',(Builtin.append_ #[22,22] 22 #[v,.slice pa n cp]).run Tryz.prog w=.ok v' w'/\Zd w' B v' (A++M)/\Below B w w'/\w.grownBy w' v.ownBlock/\(v'.ownBlock=v.ownBlock∨v'.ownBlock=some w.heap.size):=by
  subst hn;obtain⟨v',w',h1,h2,h3⟩:=VP (P:=Tryz.prog) (t:=22) (m:=M.length) Tryz.underlying22 Ut (by kernel_rfl) (by omega) (by omega) h pa cp (ZM M) hM (by rw[XH,Nat.mul_one]) (WS M) hB hl hm;refine⟨v',w',h1,?_,h3⟩;unfold Zd;rw[WT,List.length_append];exact h2
theorem Yf {w:World}{B e s n:Nat}{v:Value}{xs:List Value}(h:w.ownsRow B e s v n xs):(v=.slice none 0 0/\n=0)∨∃ g c,v=.slice (some ⟨g,0,none⟩) n c/\B<=g/\g<w.heap.size/\n<=c:=by
  rcases h.2 with⟨h1,h2⟩ | ⟨g,c,cur,h1,h2,h3,h4,-⟩
  · exact .inl ⟨h1,h2⟩
  · exact .inr ⟨g,c,h1,h2,(Array.getElem?_eq_some_iff.1 h3).1,h4⟩
def JR (l:List Wt):Prop:=l.Pairwise fun x y=>x.1<y.1
def XJ (l:List Wt)(k:Int):Bool:=l.any fun x=>decide (x.1=k)
def NG (k:Int):List Wt->Nat->Nat->Nat
 | [],_,p=>p
 | x::r,i,p=>NG k r (i+1) (if x.1<k then i+1 else p)
def SL (l:List Wt)(z:Wt):List Wt:=if XJ l z.1 then l else l.take (NG z.1 l 0 0)++[z]++l.drop (NG z.1 l 0 0)
def U6 (l:List Wt)(k:Int):Option (Int×Int):=(l.find? fun x=>decide (x.1=k)).map fun x=>x.2
def late (now than lim:Int):Bool:=decide (0<lim/\than<now/\lim<now-than)
def Fv (bl sp h t:Int)(x:Wt):Bool:=late h x.2.1 bl || late t x.2.2 sp
def Ua (l:List Wt)(bl sp h t:Int):List Int:=(l.filter (Fv bl sp h t)).map fun x=>x.1
theorem Xa:∀ {l:List Wt},JR l->∀ k:Int,∃ A B,(l=A++B∨∃ x,x.1=k/\l=A++x::B)/\(∀ x∈A,x.1<k)/\(∀ x∈B,k<x.1)
 | [],_,k=>⟨[],[],.inl rfl,(fun x h=>by simp at h),(fun x h=>by simp at h)⟩
 | x::r,h,k=>by
  have hp:=List.pairwise_cons.1 h;by_cases hx:x.1<k
  ·obtain⟨A,B,h1,h2,h3⟩:=Xa hp.2 k;refine⟨x::A,B,?_,fun y hy=>?_,h3⟩
   ·rcases h1 with h1 | ⟨z,hz,h1⟩
    ·exact .inl (by rw[h1]; rfl)
    ·exact .inr ⟨z,hz,by rw[h1]; rfl⟩
   ·rcases List.mem_cons.1 hy with rfl | hy
    ·exact hx
    ·exact h2 y hy
  ·by_cases he:x.1=k
   ·exact⟨[],r,.inr ⟨x,he,rfl⟩,(fun y h=>by simp at h),fun y hy=>by rw[<- he]; exact hp.1 y hy⟩
   ·exact⟨[],x::r,.inl rfl,(fun y h=>by simp at h),fun y hy=>by
     rcases List.mem_cons.1 hy with rfl | hy
     ·omega
     ·have:=hp.1 y hy; omega⟩
section
variable {A B : List Wt} {k : Int} {x : Wt}
theorem UR (A B:List Wt)(k:Int):XJ (A++B) k=(XJ A k || XJ B k):=List.any_append
theorem Qz (h:∀ x∈A,x.1<k):XJ A k=false:=by
 unfold XJ;rw[List.any_eq_false];exact fun x hx=>by have:=h x hx; simp; omega
theorem Qy (h:∀ x∈B,k<x.1):XJ B k=false:=by
 unfold XJ;rw[List.any_eq_false];exact fun x hx=>by have:=h x hx; simp; omega
theorem Ro {l:List Wt}{k:Int}:XJ l k=true↔∃ x∈l,x.1=k:=by
 unfold XJ;rw[List.any_eq_true];simp only[decide_eq_true_eq]
theorem TG:∀ (A B:List Wt) (i p:Nat),(∀ x∈A,x.1<k)->NG k (A++B) i p=NG k B (i+A.length) (if A=[] then p else i+A.length)
 | [],B,i,p,_=>by simp
 | x::r,B,i,p,h=>by
  rw[List.cons_append,NG,if_pos (h x (by simp)),TG r B (i+1) (i+1) (fun y hy=>h y (by simp[hy]))];rw[if_neg (List.cons_ne_nil _ _),List.length_cons];by_cases hr:r=[]
  ·subst hr; simp
  ·rw[if_neg hr,show i+1+r.length=i+(r.length+1) by omega]
theorem U7:∀ (B:List Wt) (i p:Nat),(∀ x∈B,k<x.1)->NG k B i p=p
 | [],i,p,_=>rfl
 | x::r,i,p,h=>by
  rw[NG,if_neg (by have:=h x (by simp); omega),U7 r (i+1) p (fun y hy=>h y (by simp[hy]))]
theorem JV (hA:∀ x∈A,x.1<k)(hB:∀ x∈B,k<x.1):NG k (A++B) 0 0=A.length:=by
 rw[TG A B 0 0 hA,U7 _ _ _ hB,Nat.zero_add];by_cases h:A=[]
 ·subst h; rfl
 ·rw[if_neg h]
theorem QM {z:Wt}(hA:∀ x∈A,x.1<z.1)(hB:∀ x∈B,z.1<x.1):SL (A++B) z=A++z::B:=by
 unfold SL;rw[UR,Qz hA,Qy hB,JV hA hB,Bool.or_self,if_neg Bool.false_ne_true,List.take_left,List.drop_left,List.append_assoc];rfl
theorem OW {l:List Wt}{j:Int}(h:∀ x∈l,x.1≠j):(l.find? fun x=>decide (x.1=j))=none:=by
 rw[List.find?_eq_none];exact fun x hx=>by simpa using h x hx
theorem Ar {z:Wt}(hA:∀ x∈A,x.1<z.1)(j:Int):U6 (A++z::B) j=if j=z.1 then some z.2 else U6 (A++B) j:=by
 unfold U6;rw[List.find?_append,List.find?_append];by_cases h:j=z.1
 ·rw[if_pos h,OW (fun x hx=>by have:=hA x hx; omega),List.find?_cons_of_pos (by simpa using h.symm)];rfl
 ·rw[if_neg h,List.find?_cons_of_neg (by simpa using fun e=>h e.symm)]
theorem J3 {l:List Wt}{j:Int}(h:XJ l j=false):U6 l j=none:=by
 unfold U6;rw[OW fun x hx e=>?_]
 ·rfl
 ·rw[Ro.2 ⟨x,hx,e⟩] at h; cases h
theorem Aq {l:List Wt}{j:Int}:(U6 l j).isSome=XJ l j:=by
 cases h:XJ l j with
 | false=>rw[J3 h]; rfl
 | true=>
  obtain⟨x,hx,e⟩:=Ro.1 h;unfold U6;cases hf:(l.find? fun x=>decide (x.1=j)) with
  | some y=>rfl
  | none=>
   rw[List.find?_eq_none] at hf;exact absurd e (by simpa using hf x hx)
end
structure EZ (l l2:List Wt)(z:Wt):Prop where
 Hw:JR l2
 len:l2.length=l.length+1
 qy:l2.Perm (z::l)
 get:∀ k,U6 l2 k=if k=z.1 then some z.2 else U6 l k
theorem UQ {l:List Wt}(h:JR l){z:Wt}(hn:XJ l z.1=false):EZ l (SL l z) z:=by
 obtain⟨A,B,h1,hA,hB⟩:=Xa h z.1;rcases h1 with rfl | ⟨x,hx,rfl⟩
 ·have hp:=List.pairwise_append.1 h;rw[QM hA hB];refine⟨?_,by simp only[List.length_append,List.length_cons]; omega,List.perm_middle,Ar hA⟩;refine List.pairwise_append.2 ⟨hp.1,List.pairwise_cons.2 ⟨hB,hp.2.1⟩,fun a ha b hb=>?_⟩;rcases List.mem_cons.1 hb with rfl | hb
  ·exact hA a ha
  ·exact hp.2.2 a ha b hb
 ·rw[UR,show XJ (x::B) z.1=true by unfold XJ; rw[List.any_cons,decide_eq_true hx]; rfl,Bool.or_true] at hn;cases hn
theorem Qw {l:List Wt}{z:Wt}(hn:XJ l z.1=true):SL l z=l:=by unfold SL; rw[if_pos hn]
structure oG (l l2:List Wt)(k:Int):Prop where
 Hw:JR l2
 len:l2.length+1=l.length
 qy:∃ x,x.1=k/\l.Perm (x::l2)/\U6 l k=some x.2
 get:∀ j,U6 l2 j=if j=k then none else U6 l j
def Uo (a b:Eo):Bool:=decide (a.1<b.1) || (decide (a.1=b.1) && decide (a.2<b.2))
theorem UL {a b:Eo}:Uo a b=true↔a.1<b.1∨(a.1=b.1/\a.2<b.2):=by
 unfold Uo;simp only[Bool.or_eq_true,Bool.and_eq_true,decide_eq_true_eq]
theorem EW {a b:Eo}:Uo a b=false↔¬ (a.1<b.1∨(a.1=b.1/\a.2<b.2)):=by
 rw[<- UL,Bool.not_eq_true]
def Vt (E:List Eo):Prop:=E.Pairwise fun x y=>Uo x y=true
def Zw (E:List Eo)(q:Eo):Nat:=E.countP fun e=>Uo e q
theorem I4:∀ {E:List Eo},Vt E->∀ q:Eo,∃ A B,E=A++B/\(∀ x∈A,Uo x q=true)/\(∀ x∈B,Uo x q=false)
 | [],_,q=>⟨[],[],rfl,(fun x h=>by simp at h),(fun x h=>by simp at h)⟩
 | x::r,h,q=>by
  have hp:=List.pairwise_cons.1 h;cases hx:Uo x q with
  | true=>
   obtain⟨A,B,h1,h2,h3⟩:=I4 hp.2 q;refine⟨x::A,B,by rw[h1]; rfl,fun y hy=>?_,h3⟩;rcases List.mem_cons.1 hy with rfl | hy
   ·exact hx
   ·exact h2 y hy
  | false=>
   refine⟨[],x::r,rfl,(fun y h=>by simp at h),fun y hy=>?_⟩;rcases List.mem_cons.1 hy with rfl | hy
   ·exact hx
   ·have h1:=UL.1 (hp.1 y hy);rw[EW] at hx ⊢;omega
theorem Qx {A B:List Eo}{q:Eo}(hA:∀ e∈A,Uo e q=true)(hB:∀ e∈B,Uo e q=false):Zw (A++B) q=A.length:=by
 unfold Zw;rw[List.countP_append,List.countP_eq_length.2 (fun e he=>hA e he),List.countP_eq_zero.2 (fun e he=>by rw[hB e he]; exact Bool.false_ne_true)];rfl
theorem cnt_le (E:List Eo)(q:Eo):Zw E q<=E.length:=List.countP_le_length
theorem Ap {a b:Eo}(h:Uo a b=false)(hn:a≠b):Uo b a=true:=by
 rw[EW] at h;rw[UL];have:¬ (a.1=b.1/\a.2=b.2):=fun e=>hn (Prod.ext e.1 e.2);omega
theorem EU {a b c:Eo}(h:Uo a b=true)(g:Uo b c=true):Uo a c=true:=by
 rw[UL] at h g ⊢;omega
theorem mZ {E:List Eo}(h:Vt E){q:Eo}(hq:q ∉ E):Vt (E.take (Zw E q)++q::E.drop (Zw E q))/\(E.take (Zw E q)++q::E.drop (Zw E q)).Perm (q::E):=by
 obtain⟨A,B,rfl,hA,hB⟩:=I4 h q;have hp:=List.pairwise_append.1 h;rw[Qx hA hB,List.take_left,List.drop_left];have hB2:∀ x∈B,Uo q x=true:=fun x hx=>Ap (hB x hx) fun e=>hq (by rw[<- e]; exact List.mem_append.2 (.inr hx));refine⟨List.pairwise_append.2 ⟨hp.1,List.pairwise_cons.2 ⟨hB2,hp.2.1⟩,fun a ha b hb=>?_⟩,List.perm_middle⟩;rcases List.mem_cons.1 hb with rfl | hb
 ·exact hA a ha
 ·exact hp.2.2 a ha b hb
def OV (E:List Eo)(m:List Wt)(p:Wt->Int):Prop:=Vt E/\E.Perm (m.map fun x=>(p x,x.1))
theorem OV.nil (p:Wt->Int):OV [] [] p:=⟨List.Pairwise.nil,List.Perm.refl _⟩
theorem OV.len {E:List Eo}{m:List Wt}{p:Wt->Int}(h:OV E m p):E.length=m.length:=by rw[h.2.length_eq,List.length_map]
theorem OV.mem {E:List Eo}{m:List Wt}{p:Wt->Int}(h:OV E m p){e:Eo}:e∈E↔∃ x∈m,(p x,x.1)=e:=by rw[h.2.mem_iff,List.mem_map]
theorem OV.add {E:List Eo}{m m2:List Wt}{p:Wt->Int}(h:OV E m p){z:Wt}(hn:XJ m z.1=false)(ha:EZ m m2 z):OV (E.take (Zw E (p z,z.1))++(p z,z.1)::E.drop (Zw E (p z,z.1))) m2 p:=by
 have hq:(p z,z.1) ∉ E:=fun hm=>by
  obtain⟨x,hx,e⟩:=h.mem.1 hm;rw[Ro.2 ⟨x,hx,congrArg Prod.snd e⟩] at hn;cases hn
 obtain⟨h1,h2⟩:=mZ h.1 hq;exact⟨h1,h2.trans ((h.2.cons _).trans (ha.qy.map fun x=>(p x,x.1)).symm)⟩
def WL (since now lim:Int):Bool:=decide (since<now/\lim<now-since)
def VO (E:List Eo)(lim now:Int):List Int:=if lim<=0 then [] else (E.takeWhile fun e=>WL e.1 now lim).map fun e=>e.2
theorem RY {p:Eo->Bool}:∀ {E:List Eo},E.Pairwise (fun x y=>p y=true->p x=true)->E.takeWhile p=E.filter p
 | [],_=>rfl
 | x::r,h=>by
  have hp:=List.pairwise_cons.1 h;cases hx:p x with
  | true=>rw[List.takeWhile_cons_of_pos hx,List.filter_cons_of_pos hx,RY hp.2]
  | false=>
   rw[List.takeWhile_cons_of_neg (by rw[hx]; exact Bool.false_ne_true),List.filter_cons_of_neg (by rw[hx]; exact Bool.false_ne_true),List.filter_eq_nil_iff.2];exact fun y hy h1=>by rw[hp.1 y hy h1] at hx; cases hx
theorem LM {E:List Eo}{m:List Wt}{p:Wt->Int}(h:OV E m p){lim now k:Int}:k∈VO E lim now↔∃ x∈m,late now (p x) lim=true/\x.1=k:=by
 have hw:E.takeWhile (fun e=>WL e.1 now lim)=E.filter fun e=>WL e.1 now lim:=RY (h.1.imp fun {a b} hab hb=>by
  have h1:=UL.1 hab;have h2:=of_decide_eq_true hb;exact decide_eq_true (by omega))
 unfold VO;rw[hw];by_cases hl:lim<=0
 ·rw[if_pos hl];refine⟨fun h1=>by simp at h1,?_⟩;rintro⟨x,-,h1,-⟩;have:=of_decide_eq_true h1;omega
 ·rw[if_neg hl,List.mem_map];constructor
  ·rintro⟨e,he,rfl⟩;obtain⟨h1,h2⟩:=List.mem_filter.1 he;obtain⟨x,hx,rfl⟩:=h.mem.1 h1;have:=of_decide_eq_true h2;exact⟨x,hx,decide_eq_true ⟨by omega,this⟩,rfl⟩
  ·rintro⟨x,hx,h1,rfl⟩;have:=of_decide_eq_true h1;exact⟨(p x,x.1),List.mem_filter.2 ⟨h.mem.2 ⟨x,hx,rfl⟩,decide_eq_true ⟨this.2.1,this.2.2⟩⟩,rfl⟩
theorem LK (E:List Eo)(lim now:Int):(VO E lim now).length<=E.length:=by
 unfold VO
 split
 ·exact Nat.zero_le _
 ·rw[List.length_map]; exact(List.takeWhile_prefix _).length_le
theorem ES {m:List Wt}{bl sp h t k:Int}:k∈Ua m bl sp h t↔∃ x∈m,(late h x.2.1 bl=true∨late t x.2.2 sp=true)/\x.1=k:=by
 unfold Ua;rw[List.mem_map];constructor
 ·rintro⟨x,hx,rfl⟩;obtain⟨h1,h2⟩:=List.mem_filter.1 hx;exact⟨x,h1,by unfold Fv at h2; rwa [Bool.or_eq_true] at h2,rfl⟩
 ·rintro⟨x,hx,h1,rfl⟩;exact⟨x,List.mem_filter.2 ⟨hx,by unfold Fv; rwa [Bool.or_eq_true]⟩,rfl⟩
theorem ER {m:List Wt}(hm:JR m)(bl sp h t:Int):(Ua m bl sp h t).Pairwise (· < ·):=by
 unfold Ua;rw[List.pairwise_map];exact hm.filter _
theorem F8 (m:List Wt)(bl sp h t:Int):(Ua m bl sp h t).length<=m.length:=by
 unfold Ua;rw[List.length_map];exact List.length_filter_le _ _
theorem LJ:∀ {A B:List Int},A.Pairwise (· < ·)->B.Pairwise (· < ·)->(∀ k,k∈A↔k∈B)->A=B
 | [],[],_,_,_=>rfl
 | [],y::r,_,_,h=>by have:=(h y).2 (by simp); simp at this
 | x::q,[],_,_,h=>by have:=(h x).1 (by simp); simp at this
 | x::q,y::r,hA,hB,h=>by
  have pA:=List.pairwise_cons.1 hA;have pB:=List.pairwise_cons.1 hB;have e:x=y:=by
   rcases List.mem_cons.1 ((h x).1 (by simp)) with h1 | h1
   ·exact h1
   ·rcases List.mem_cons.1 ((h y).2 (by simp)) with h2 | h2
    ·exact h2.symm
    ·have:=pB.1 x h1; have:=pA.1 y h2; omega
  subst e;rw[LJ pA.2 pB.2 fun k=>?_];constructor
  ·intro hk;rcases List.mem_cons.1 ((h k).1 (by simp[hk])) with h1 | h1
   ·have:=pA.1 k hk; omega
   ·exact h1
  ·intro hk;rcases List.mem_cons.1 ((h k).2 (by simp[hk])) with h1 | h1
   ·have:=pB.1 k hk; omega
   ·exact h1
theorem EP {EH ET:List Eo}{m:List Wt}(hH:OV EH m fun x=>x.2.1)(hT:OV ET m fun x=>x.2.2)(hm:JR m){bl sp h t:Int}{R:List Int}(hR:R.Pairwise (· < ·))(hmem:∀ k,k∈R↔k∈VO EH bl h++VO ET sp t):R=Ua m bl sp h t:=
 LJ hR (ER hm bl sp h t) fun k=>by
  rw[hmem,List.mem_append,LM hH,LM hT,ES];constructor
  ·rintro (⟨x,h1,h2,h3⟩ | ⟨x,h1,h2,h3⟩)
   ·exact⟨x,h1,.inl h2,h3⟩
   ·exact⟨x,h1,.inr h2,h3⟩
  ·rintro⟨x,h1,h2 | h2,h3⟩
   ·exact .inl ⟨x,h1,h2,h3⟩
   ·exact .inr ⟨x,h1,h2,h3⟩
end Go.Proofs.YtnelmomagdcmnaaGreat.Ex
