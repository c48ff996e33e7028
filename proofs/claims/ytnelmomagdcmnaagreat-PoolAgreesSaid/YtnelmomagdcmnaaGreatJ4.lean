/-
  Texts joined.
-/
import Derived.Test.YtnelmomagdcmnaaGreatJ3
import Derived.Test.YtnelmomagdcmnaaGreatJ2
import Derived.StillTail
set_option maxRecDepth 100000
set_option maxHeartbeats 8000000
set_option linter.unusedSimpArgs false
set_option linter.unusedVariables false
namespace Go.Proofs.YtnelmomagdcmnaaGreat.Ex
open Go.RowKit
def E5 (l:List Wt):Prop:=l.Pairwise fun x y=>x.1<y.1
def XB (l:List Wt)(k:Int):Bool:=l.any fun x=>decide (x.1=k)
def H6 (k:Int):List Wt->Nat->Nat->Nat
 | [],_,p=>p
 | x::r,i,p=>H6 k r (i+1) (if x.1<k then i+1 else p)
def NY (l:List Wt)(z:Wt):List Wt:=if XB l z.1 then l else l.take (H6 z.1 l 0 0)++[z]++l.drop (H6 z.1 l 0 0)
def Tz (k:Int):List Wt->List Wt
 | []=>[]
 | x::r=>if x.1=k then r else x::Tz k r
def RG (l:List Wt)(k:Int):Option (Int×Int):=(l.find? fun x=>decide (x.1=k)).map fun x=>x.2
def late (now than lim:Int):Bool:=decide (0<lim/\than<now/\lim<now-than)
def uY (bl sp h t:Int)(x:Wt):Bool:=late h x.2.1 bl || late t x.2.2 sp
def OV (l:List Wt)(bl sp h t:Int):List Int:=(l.filter (uY bl sp h t)).map fun x=>x.1
theorem WC:∀ {l:List Wt},E5 l->∀ k:Int,∃ A B,(l=A++B∨∃ x,x.1=k/\l=A++x::B)/\(∀ x∈A,x.1<k)/\(∀ x∈B,k<x.1)
 | [],_,k=>⟨[],[],.inl rfl,(fun x h=>by simp at h),(fun x h=>by simp at h)⟩
 | x::r,h,k=>by
  have hp:=List.pairwise_cons.1 h;by_cases hx:x.1<k
  ·obtain⟨A,B,h1,h2,h3⟩:=WC hp.2 k;refine⟨x::A,B,?_,fun y hy=>?_,h3⟩
   ·rcases h1 with h1 | ⟨z,hz,h1⟩
    ·exact .inl (by rw[h1]; rfl)
    ·exact .inr ⟨z,hz,by rw[h1]; rfl⟩
   ·rcases List.mem_cons.1 hy with rfl | hy
    ·exact hx
    ·exact h2 y hy
  ·by_cases he:x.1=k
   ·exact⟨[],r,.inr ⟨x,he,rfl⟩,(fun y h=>by simp at h),fun y hy=>by rw[<- he]; exact hp.1 y hy⟩
   ·exact⟨[],x::r,.inl rfl,(fun y h=>by simp at h),fun y hy=>by
     rcases List.mem_cons.1 hy with rfl | hy
     ·omega
     ·have:=hp.1 y hy; omega⟩
section
variable {A B : List Wt} {k : Int} {x : Wt}
theorem UR (A B:List Wt)(k:Int):XB (A++B) k=(XB A k || XB B k):=List.any_append
theorem Tj (h:∀ x∈A,x.1<k):XB A k=false:=by
 unfold XB;rw[List.any_eq_false];exact fun x hx=>by have:=h x hx; simp; omega
theorem Ti (h:∀ x∈B,k<x.1):XB B k=false:=by
 unfold XB;rw[List.any_eq_false];exact fun x hx=>by have:=h x hx; simp; omega
theorem OL {l:List Wt}{k:Int}:XB l k=true↔∃ x∈l,x.1=k:=by
 unfold XB;rw[List.any_eq_true];simp only[decide_eq_true_eq]
theorem Oy:∀ (A B:List Wt) (i p:Nat),(∀ x∈A,x.1<k)->H6 k (A++B) i p=H6 k B (i+A.length) (if A=[] then p else i+A.length)
 | [],B,i,p,_=>by simp
 | x::r,B,i,p,h=>by
  rw[List.cons_append,H6,if_pos (h x (by simp)),Oy r B (i+1) (i+1) (fun y hy=>h y (by simp[hy]))];rw[if_neg (List.cons_ne_nil _ _),List.length_cons];by_cases hr:r=[]
  ·subst hr; simp
  ·rw[if_neg hr,show i+1+r.length=i+(r.length+1) by omega]
theorem Q8:∀ (B:List Wt) (i p:Nat),(∀ x∈B,k<x.1)->H6 k B i p=p
 | [],i,p,_=>rfl
 | x::r,i,p,h=>by
  rw[H6,if_neg (by have:=h x (by simp); omega),Q8 r (i+1) p (fun y hy=>h y (by simp[hy]))]
theorem CY (hA:∀ x∈A,x.1<k)(hB:∀ x∈B,k<x.1):H6 k (A++B) 0 0=A.length:=by
 rw[Oy A B 0 0 hA,Q8 _ _ _ hB,Nat.zero_add];by_cases h:A=[]
 ·subst h; rfl
 ·rw[if_neg h]
theorem Lr {z:Wt}(hA:∀ x∈A,x.1<z.1)(hB:∀ x∈B,z.1<x.1):NY (A++B) z=A++z::B:=by
 unfold NY;rw[UR,Tj hA,Ti hB,CY hA hB,Bool.or_self,if_neg Bool.false_ne_true,List.take_left,List.drop_left,List.append_assoc];rfl
theorem Qz:∀ (A B:List Wt),(∀ x∈A,x.1<k)->Tz k (A++B)=A++Tz k B
 | [],B,_=>rfl
 | x::r,B,h=>by
  rw[List.cons_append,Tz,if_neg (by have:=h x (by simp); omega),Qz r B (fun y hy=>h y (by simp[hy]))];rfl
theorem Q7:∀ (B:List Wt),XB B k=false->Tz k B=B
 | [],_=>rfl
 | x::r,h=>by
  unfold XB at h;rw[List.any_cons,Bool.or_eq_false_iff] at h;rw[Tz,if_neg (by simpa using h.1),Q7 r h.2]
theorem Jl {l:List Wt}{j:Int}(h:∀ x∈l,x.1≠j):(l.find? fun x=>decide (x.1=j))=none:=by
 rw[List.find?_eq_none];exact fun x hx=>by simpa using h x hx
theorem Ap {z:Wt}(hA:∀ x∈A,x.1<z.1)(j:Int):RG (A++z::B) j=if j=z.1 then some z.2 else RG (A++B) j:=by
 unfold RG;rw[List.find?_append,List.find?_append];by_cases h:j=z.1
 ·rw[if_pos h,Jl (fun x hx=>by have:=hA x hx; omega),List.find?_cons_of_pos (by simpa using h.symm)];rfl
 ·rw[if_neg h,List.find?_cons_of_neg (by simpa using fun e=>h e.symm)]
theorem Ie {l:List Wt}{j:Int}(h:XB l j=false):RG l j=none:=by
 unfold RG;rw[Jl fun x hx e=>?_]
 ·rfl
 ·rw[OL.2 ⟨x,hx,e⟩] at h; cases h
theorem kU {l:List Wt}{j:Int}:(RG l j).isSome=XB l j:=by
 cases h:XB l j with
 | false=>rw[Ie h]; rfl
 | true=>
  obtain⟨x,hx,e⟩:=OL.1 h;unfold RG;cases hf:(l.find? fun x=>decide (x.1=j)) with
  | some y=>rfl
  | none=>
   rw[List.find?_eq_none] at hf;exact absurd e (by simpa using hf x hx)
end
structure uI (l l2:List Wt)(z:Wt):Prop where
 FB:E5 l2
 len:l2.length=l.length+1
 aC:l2.Perm (z::l)
 get:∀ k,RG l2 k=if k=z.1 then some z.2 else RG l k
theorem QB {l:List Wt}(h:E5 l){z:Wt}(hn:XB l z.1=false):uI l (NY l z) z:=by
 obtain⟨A,B,h1,hA,hB⟩:=WC h z.1;rcases h1 with rfl | ⟨x,hx,rfl⟩
 ·have hp:=List.pairwise_append.1 h;rw[Lr hA hB];refine⟨?_,by simp only[List.length_append,List.length_cons]; omega,List.perm_middle,Ap hA⟩;refine List.pairwise_append.2 ⟨hp.1,List.pairwise_cons.2 ⟨hB,hp.2.1⟩,fun a ha b hb=>?_⟩;rcases List.mem_cons.1 hb with rfl | hb
  ·exact hA a ha
  ·exact hp.2.2 a ha b hb
 ·rw[UR,show XB (x::B) z.1=true by unfold XB; rw[List.any_cons,decide_eq_true hx]; rfl,Bool.or_true] at hn;cases hn
theorem KJ {l:List Wt}{z:Wt}(hn:XB l z.1=true):NY l z=l:=by unfold NY; rw[if_pos hn]
structure Dw (l l2:List Wt)(k:Int):Prop where
 FB:E5 l2
 len:l2.length+1=l.length
 aC:∃ x,x.1=k/\l.Perm (x::l2)/\RG l k=some x.2
 get:∀ j,RG l2 j=if j=k then none else RG l j
theorem WQ {l:List Wt}(h:E5 l){k:Int}(hn:XB l k=true):Dw l (Tz k l) k:=by
 obtain⟨A,B,h1,hA,hB⟩:=WC h k;rcases h1 with rfl | ⟨x,hx,rfl⟩
 ·rw[UR,Tj hA,Ti hB] at hn; cases hn
 ·have hp:=List.pairwise_append.1 h;have hr:Tz k (A++x::B)=A++B:=by rw[Qz A _ hA,Tz,if_pos hx]
  rw[hr];subst hx;have hg:=Ap (B:=B) hA;refine⟨?_,by simp only[List.length_append,List.length_cons]; omega,⟨x,rfl,List.perm_middle,by rw[hg,if_pos rfl]⟩,fun j=>?_⟩
  ·exact List.pairwise_append.2 ⟨hp.1,(List.pairwise_cons.1 hp.2.1).2,fun a ha b hb=>hp.2.2 a ha b (by simp[hb])⟩
  ·by_cases hj:j=x.1
   ·rw[if_pos hj,hj];exact Ie (by rw[UR,Tj hA,Ti hB]; rfl)
   ·rw[if_neg hj,hg,if_neg hj]
theorem PL {l:List Wt}{k:Int}(hn:XB l k=false):Tz k l=l:=Q7 l hn
def Qh (a b:Eo):Bool:=decide (a.1<b.1) || (decide (a.1=b.1) && decide (a.2<b.2))
theorem Qs {a b:Eo}:Qh a b=true↔a.1<b.1∨(a.1=b.1/\a.2<b.2):=by
 unfold Qh;simp only[Bool.or_eq_true,Bool.and_eq_true,decide_eq_true_eq]
theorem CQ {a b:Eo}:Qh a b=false↔¬ (a.1<b.1∨(a.1=b.1/\a.2<b.2)):=by
 rw[<- Qs,Bool.not_eq_true]
def UQ (E:List Eo):Prop:=E.Pairwise fun x y=>Qh x y=true
def Zw (E:List Eo)(q:Eo):Nat:=E.countP fun e=>Qh e q
theorem Hz:∀ {E:List Eo},UQ E->∀ q:Eo,∃ A B,E=A++B/\(∀ x∈A,Qh x q=true)/\(∀ x∈B,Qh x q=false)
 | [],_,q=>⟨[],[],rfl,(fun x h=>by simp at h),(fun x h=>by simp at h)⟩
 | x::r,h,q=>by
  have hp:=List.pairwise_cons.1 h;cases hx:Qh x q with
  | true=>
   obtain⟨A,B,h1,h2,h3⟩:=Hz hp.2 q;refine⟨x::A,B,by rw[h1]; rfl,fun y hy=>?_,h3⟩;rcases List.mem_cons.1 hy with rfl | hy
   ·exact hx
   ·exact h2 y hy
  | false=>
   refine⟨[],x::r,rfl,(fun y h=>by simp at h),fun y hy=>?_⟩;rcases List.mem_cons.1 hy with rfl | hy
   ·exact hx
   ·have h1:=Qs.1 (hp.1 y hy);rw[CQ] at hx ⊢;omega
theorem PE {A B:List Eo}{q:Eo}(hA:∀ e∈A,Qh e q=true)(hB:∀ e∈B,Qh e q=false):Zw (A++B) q=A.length:=by
 unfold Zw;rw[List.countP_append,List.countP_eq_length.2 (fun e he=>hA e he),List.countP_eq_zero.2 (fun e he=>by rw[hB e he]; exact Bool.false_ne_true)];rfl
theorem cnt_le (E:List Eo)(q:Eo):Zw E q<=E.length:=List.countP_le_length
theorem kT {a b:Eo}(h:Qh a b=false)(hn:a≠b):Qh b a=true:=by
 rw[CQ] at h;rw[Qs];have:¬ (a.1=b.1/\a.2=b.2):=fun e=>hn (Prod.ext e.1 e.2);omega
theorem kS (a:Eo):Qh a a=false:=by rw[CQ]; omega
theorem uG {a b c:Eo}(h:Qh a b=true)(g:Qh b c=true):Qh a c=true:=by
 rw[Qs] at h g ⊢;omega
theorem am4 {E:List Eo}(h:UQ E){q:Eo}(hq:q ∉ E):UQ (E.take (Zw E q)++q::E.drop (Zw E q))/\(E.take (Zw E q)++q::E.drop (Zw E q)).Perm (q::E):=by
 obtain⟨A,B,rfl,hA,hB⟩:=Hz h q;have hp:=List.pairwise_append.1 h;rw[PE hA hB,List.take_left,List.drop_left];have hB2:∀ x∈B,Qh q x=true:=fun x hx=>kT (hB x hx) fun e=>hq (by rw[<- e]; exact List.mem_append.2 (.inr hx));refine⟨List.pairwise_append.2 ⟨hp.1,List.pairwise_cons.2 ⟨hB2,hp.2.1⟩,fun a ha b hb=>?_⟩,List.perm_middle⟩;rcases List.mem_cons.1 hb with rfl | hb
 ·exact hA a ha
 ·exact hp.2.2 a ha b hb
theorem am5 {E:List Eo}(h:UQ E){q:Eo}(hq:q∈E):Zw E q<E.length/\UQ (E.take (Zw E q)++E.drop (Zw E q+1))/\E.Perm (q::(E.take (Zw E q)++E.drop (Zw E q+1))):=by
 obtain⟨A,B,rfl,hA,hB⟩:=Hz h q;have hp:=List.pairwise_append.1 h;have hqB:q∈B:=(List.mem_append.1 hq).elim (fun h1=>by have:=hA q h1; rw[kS] at this; cases this) id;obtain⟨B2,rfl⟩:∃ B2,B=q::B2:=by
  cases B with
  | nil=>simp at hqB
  | cons y r=>
   have hc:=List.pairwise_cons.1 hp.2.1;rcases List.mem_cons.1 hqB with rfl | h1
   ·exact⟨r,rfl⟩
   ·have h2:=hc.1 q h1;rw[hB y (by simp)] at h2;cases h2
 rw[PE hA hB,List.take_left,List.drop_append,List.drop_of_length_le (by omega),Nat.add_sub_cancel_left];refine⟨by simp,?_,?_⟩
 ·exact List.pairwise_append.2 ⟨hp.1,(List.pairwise_cons.1 hp.2.1).2,fun a ha b hb=>hp.2.2 a ha b (by simp at hb; simp[hb])⟩
 ·exact List.perm_middle
def KD (E:List Eo)(m:List Wt)(p:Wt->Int):Prop:=UQ E/\E.Perm (m.map fun x=>(p x,x.1))
theorem KD.nil (p:Wt->Int):KD [] [] p:=⟨List.Pairwise.nil,List.Perm.refl _⟩
theorem KD.len {E:List Eo}{m:List Wt}{p:Wt->Int}(h:KD E m p):E.length=m.length:=by rw[h.2.length_eq,List.length_map]
theorem KD.mem {E:List Eo}{m:List Wt}{p:Wt->Int}(h:KD E m p){e:Eo}:e∈E↔∃ x∈m,(p x,x.1)=e:=by rw[h.2.mem_iff,List.mem_map]
theorem KD.add {E:List Eo}{m m2:List Wt}{p:Wt->Int}(h:KD E m p){z:Wt}(hn:XB m z.1=false)(ha:uI m m2 z):KD (E.take (Zw E (p z,z.1))++(p z,z.1)::E.drop (Zw E (p z,z.1))) m2 p:=by
 have hq:(p z,z.1) ∉ E:=fun hm=>by
  obtain⟨x,hx,e⟩:=h.mem.1 hm;rw[OL.2 ⟨x,hx,congrArg Prod.snd e⟩] at hn;cases hn
 obtain⟨h1,h2⟩:=am4 h.1 hq;exact⟨h1,h2.trans ((h.2.cons _).trans (ha.aC.map fun x=>(p x,x.1)).symm)⟩
theorem KD.rem {E:List Eo}{m m2:List Wt}{p:Wt->Int}(h:KD E m p){k:Int}{x:Wt}(hx:x.1=k)(hm:m.Perm (x::m2)):Zw E (p x,k)<E.length/\KD (E.take (Zw E (p x,k))++E.drop (Zw E (p x,k)+1)) m2 p:=by
 subst hx;have hq:(p x,x.1)∈E:=h.mem.2 ⟨x,hm.mem_iff.2 (by simp),rfl⟩;obtain⟨h0,h1,h2⟩:=am5 h.1 hq;exact⟨h0,h1,List.Perm.cons_inv (h2.symm.trans (h.2.trans (hm.map fun x=>(p x,x.1))))⟩
def UD (since now lim:Int):Bool:=decide (since<now/\lim<now-since)
def TP (E:List Eo)(lim now:Int):List Int:=if lim<=0 then [] else (E.takeWhile fun e=>UD e.1 now lim).map fun e=>e.2
theorem Nu {p:Eo->Bool}:∀ {E:List Eo},E.Pairwise (fun x y=>p y=true->p x=true)->E.takeWhile p=E.filter p
 | [],_=>rfl
 | x::r,h=>by
  have hp:=List.pairwise_cons.1 h;cases hx:p x with
  | true=>rw[List.takeWhile_cons_of_pos hx,List.filter_cons_of_pos hx,Nu hp.2]
  | false=>
   rw[List.takeWhile_cons_of_neg (by rw[hx]; exact Bool.false_ne_true),List.filter_cons_of_neg (by rw[hx]; exact Bool.false_ne_true),List.filter_eq_nil_iff.2];exact fun y hy h1=>by rw[hp.1 y hy h1] at hx; cases hx
theorem EZ {E:List Eo}{m:List Wt}{p:Wt->Int}(h:KD E m p){lim now k:Int}:k∈TP E lim now↔∃ x∈m,late now (p x) lim=true/\x.1=k:=by
 have hw:E.takeWhile (fun e=>UD e.1 now lim)=E.filter fun e=>UD e.1 now lim:=Nu (h.1.imp fun {a b} hab hb=>by
  have h1:=Qs.1 hab;have h2:=of_decide_eq_true hb;exact decide_eq_true (by omega))
 unfold TP;rw[hw];by_cases hl:lim<=0
 ·rw[if_pos hl];refine⟨fun h1=>by simp at h1,?_⟩;rintro⟨x,-,h1,-⟩;have:=of_decide_eq_true h1;omega
 ·rw[if_neg hl,List.mem_map];constructor
  ·rintro⟨e,he,rfl⟩;obtain⟨h1,h2⟩:=List.mem_filter.1 he;obtain⟨x,hx,rfl⟩:=h.mem.1 h1;have:=of_decide_eq_true h2;exact⟨x,hx,decide_eq_true ⟨by omega,this⟩,rfl⟩
  ·rintro⟨x,hx,h1,rfl⟩;have:=of_decide_eq_true h1;exact⟨(p x,x.1),List.mem_filter.2 ⟨h.mem.2 ⟨x,hx,rfl⟩,decide_eq_true ⟨this.2.1,this.2.2⟩⟩,rfl⟩
theorem EY (E:List Eo)(lim now:Int):(TP E lim now).length<=E.length:=by
 unfold TP
 split
 ·exact Nat.zero_le _
 ·rw[List.length_map]; exact(List.takeWhile_prefix _).length_le
theorem uF {m:List Wt}{bl sp h t k:Int}:k∈OV m bl sp h t↔∃ x∈m,(late h x.2.1 bl=true∨late t x.2.2 sp=true)/\x.1=k:=by
 unfold OV;rw[List.mem_map];constructor
 ·rintro⟨x,hx,rfl⟩;obtain⟨h1,h2⟩:=List.mem_filter.1 hx;exact⟨x,h1,by unfold uY at h2; rwa [Bool.or_eq_true] at h2,rfl⟩
 ·rintro⟨x,hx,h1,rfl⟩;exact⟨x,List.mem_filter.2 ⟨hx,by unfold uY; rwa [Bool.or_eq_true]⟩,rfl⟩
theorem uD {m:List Wt}(hm:E5 m)(bl sp h t:Int):(OV m bl sp h t).Pairwise (· < ·):=by
 unfold OV;rw[List.pairwise_map];exact hm.filter _
theorem vY (m:List Wt)(bl sp h t:Int):(OV m bl sp h t).length<=m.length:=by
 unfold OV;rw[List.length_map];exact List.length_filter_le _ _
theorem EW:∀ {A B:List Int},A.Pairwise (· < ·)->B.Pairwise (· < ·)->(∀ k,k∈A↔k∈B)->A=B
 | [],[],_,_,_=>rfl
 | [],y::r,_,_,h=>by have:=(h y).2 (by simp); simp at this
 | x::q,[],_,_,h=>by have:=(h x).1 (by simp); simp at this
 | x::q,y::r,hA,hB,h=>by
  have pA:=List.pairwise_cons.1 hA;have pB:=List.pairwise_cons.1 hB;have e:x=y:=by
   rcases List.mem_cons.1 ((h x).1 (by simp)) with h1 | h1
   ·exact h1
   ·rcases List.mem_cons.1 ((h y).2 (by simp)) with h2 | h2
    ·exact h2.symm
    ·have:=pB.1 x h1; have:=pA.1 y h2; omega
  subst e;rw[EW pA.2 pB.2 fun k=>?_];constructor
  ·intro hk;rcases List.mem_cons.1 ((h k).1 (by simp[hk])) with h1 | h1
   ·have:=pA.1 k hk; omega
   ·exact h1
  ·intro hk;rcases List.mem_cons.1 ((h k).2 (by simp[hk])) with h1 | h1
   ·have:=pB.1 k hk; omega
   ·exact h1
theorem uz {EH ET:List Eo}{m:List Wt}(hH:KD EH m fun x=>x.2.1)(hT:KD ET m fun x=>x.2.2)(hm:E5 m){bl sp h t:Int}{R:List Int}(hR:R.Pairwise (· < ·))(hmem:∀ k,k∈R↔k∈TP EH bl h++TP ET sp t):R=OV m bl sp h t:=
 EW hR (uD hm bl sp h t) fun k=>by
  rw[hmem,List.mem_append,EZ hH,EZ hT,uF];constructor
  ·rintro (⟨x,h1,h2,h3⟩ | ⟨x,h1,h2,h3⟩)
   ·exact⟨x,h1,.inl h2,h3⟩
   ·exact⟨x,h1,.inr h2,h3⟩
  ·rintro⟨x,h1,h2 | h2,h3⟩
   ·exact .inl ⟨x,h1,h2,h3⟩
   ·exact .inr ⟨x,h1,h2,h3⟩
end Go.Proofs.YtnelmomagdcmnaaGreat.Ex
namespace Go.Proofs.YtnelmomagdcmnaaGreat
structure El where
  n:Int
  h:Int×Int
  e:En
def eL (L:List El):List En:=L.map El.e
def itO (x:El):Hp.It:=(x.n,x.e.pri,x.e.od)
def fE (x:El):Sd.Rw:=(x.e.snd,x.e.sq,x.n)
def Qb (x:El):Ex.Wt:=(x.n,x.e.ht,x.e.tm)
theorem Rn (L:List El):(eL L).length=L.length:=List.length_map ..
theorem Rt (A B:List El):eL (A++B)=eL A++eL B:=List.map_append
def TI (k:Nat->Int)(L:List El):Option El:=L.find? fun x=>keq x.e.k k
def IU (n:Int)(L:List El):Option El:=L.find? fun x=>decide (x.n=n)
section store
variable {m : Sm} {u : Nat} {e : En} {p q : Int × Int}
theorem Iu (h:Wm m u)(hc:Yq m.P<m.mo)(e:En):WV (UY m e).P=WV m.P+e.raw.length:=by
  rcases WG m with h0 | ⟨h0,⟨F,i,hF⟩ | hF⟩
  · omega
  · rw[(Vo e h0 hF).1];have hi:=h.fr i (by rw[hF]; simp);have hs:=OM m.P i ⟨true,(m.P.getD i X5).us+1,e⟩ hi.1;rw[hi.2] at hs;simpa [pb] using hs
  · rw[(WR e h0 hF).1];show WV (m.P++_)=_;rw[Ir]; simp[WV]
theorem Iq (hv:X9 m q=true):WV (TU m q).P+(Rj m q).raw.length=WV m.P:=by
  obtain⟨i,hi,hil,hf,hu⟩:=Wj hv;rw[WQ hv hi,SH hv hi];have hs:=OM m.P i ⟨false,(m.P.getD i X5).us,Zp⟩ hil;rw[hf] at hs;simpa [pb] using hs
theorem Dl {i:Nat}(hi:q.1=i)(hl:i<m.P.length)(hf:(m.P.getD i X5).full=true)(hu:((m.P.getD i X5).us:Int)-1=q.2):X9 m q=true:=by
  unfold X9;rw[hi,Int.toNat_natCast,hf,hu,decide_eq_true (by omega),decide_eq_true (by omega)];simp
theorem FH (h:Wm m u)(e:En)(hv:X9 m q=true):X9 (UY m e) q=true/\Rj (UY m e) q=Rj m q:=by
  obtain⟨i,hi,hil,hf,hu⟩:=Wj hv;have key:∀ m2:Sm,i<m2.P.length->m2.P.getD i X5=m.P.getD i X5->X9 m2 q=true/\Rj m2 q=Rj m q:=fun m2 h1 h2=>by
    have h3:X9 m2 q=true:=Dl hi h1 (by rw[h2]; exact hf) (by rw[h2]; exact hu);exact⟨h3,by rw[SH h3 hi,SH hv hi,h2]⟩
  rcases WG m with h0 | ⟨h0,⟨F,j,hF⟩ | hF⟩
  · rw[(Rh e h0).1]; exact⟨hv,rfl⟩
  · rw[(Vo e h0 hF).1];have hj:=h.fr j (by rw[hF]; simp);have hij:j≠i:=fun e2=>(by rw[e2,hf] at hj; exact absurd hj.2 (by decide));exact key _ (by show i<(m.P.set _ _).length; rw[List.length_set]; exact hil) (Xn _ _ _ _ _ hij)
  · rw[(WR e h0 hF).1];exact key _ (by show i<(m.P++_).length; rw[List.length_append]; omega) (WE _ _ _ _ hil)
theorem FD (h:Wm m u)(hc:Yq m.P<m.mo)(e:En):X9 (UY m e) (XA m)=true/\Rj (UY m e) (XA m)=e:=by
  have key:∀ (m2:Sm) (q:Int×Int) (i:Nat),q.1=i->i<m2.P.length->(m2.P.getD i X5).full=true->((m2.P.getD i X5).us:Int)-1=q.2->(m2.P.getD i X5).e=e->X9 m2 q=true/\Rj m2 q=e:=fun m2 q i h1 h2 h3 h4 h5=>by
    have h6:=Dl h1 h2 h3 h4;exact⟨h6,by rw[SH h6 h1]; exact h5⟩
  rcases WG m with h0 | ⟨h0,⟨F,j,hF⟩ | hF⟩
  · omega
  · obtain⟨e1,e2,-⟩:=Vo e h0 hF;have hj:=h.fr j (by rw[hF]; simp);rw[e1,e2];have hg:=YK m.P j ⟨true,(m.P.getD j X5).us+1,e⟩ X5 hj.1;refine key _ _ j rfl (by show j<(m.P.set _ _).length; rw[List.length_set]; exact hj.1) ?_ ?_ ?_
    · show((m.P.set j _).getD j X5).full=true; rw[hg]
    · show(((m.P.set j _).getD j X5).us:Int)-1=_; rw[hg]; show(((m.P.getD j X5).us+1:Nat):Int)-1=_; omega
    · show((m.P.set j _).getD j X5).e=e; rw[hg]
  · obtain⟨e1,e2,-⟩:=WR e h0 hF;rw[e1,e2];have hg:=Xt m.P ⟨true,1,e⟩ X5;refine key _ _ m.P.length rfl (by show _<(m.P++_).length; simp) ?_ ?_ ?_
    · show((m.P++_).getD m.P.length X5).full=true; rw[hg]
    · show(((m.P++_).getD m.P.length X5).us:Int)-1=_; rw[hg]; rfl
    · show((m.P++_).getD m.P.length X5).e=e; rw[hg]
theorem aA (h:Wm m u)(hc:Yq m.P<m.mo)(hv:X9 m q=true):q≠XA m:=fun e2=>by
  obtain⟨i,hi,hil,hf,hu⟩:=Wj hv;rcases WG m with h0 | ⟨h0,⟨F,j,hF⟩ | hF⟩
  · omega
  · have h2:=(Vo Zp h0 hF).2.1;have hj:=h.fr j (by rw[hF]; simp);rw[e2,h2] at hi;have hi:(j:Int)=(i:Int):=hi;have hij:j=i:=(by omega);rw[hij,hf] at hj;exact absurd hj.2 (by decide)
  · have h2:=(WR Zp h0 hF).2.1;rw[e2,h2] at hi;have hi:(m.P.length:Int)=(i:Int):=hi;omega
theorem FC (hp:X9 m p=true)(hq:X9 m q=true)(hne:p≠q):X9 (TU m p) q=true/\Rj (TU m p) q=Rj m q:=by
  obtain⟨i,hi,hil,hf,hu⟩:=Wj hp;obtain⟨j,hj,hjl,hg,hv⟩:=Wj hq;have hij:i≠j:=fun e2=>hne (Prod.ext (by rw[hi,hj,e2]) (by rw[<- hu,<- hv,e2]));have h1:X9 (TU m p) q=true:=by
    rw[WQ hp hi];exact Dl hj (by show j<(m.P.set _ _).length; rw[List.length_set]; exact hjl) (by show((m.P.set _ _).getD j X5).full=true; rw[Xn _ _ _ _ _ hij]; exact hg) (by show(((m.P.set _ _).getD j X5).us:Int)-1=_; rw[Xn _ _ _ _ _ hij]; exact hv)
  refine⟨h1,?_⟩;rw[SH h1 hj,SH hq hj,WQ hp hi];show((m.P.set _ _).getD j X5).e=_;rw[Xn _ _ _ _ _ hij]
end store
structure og (m:Sm)(L:List El):Prop where
  v:∀ x∈L,X9 m x.h=true/\Rj m x.h=x.e
  nd:L.Pairwise fun a b=>a.h≠b.h
  ct:Yq m.P=L.length
  sz:WV m.P=Yl (eL L)
theorem og.new (n:Int):og (newS n) []:=⟨(fun x hx=>nomatch hx),.nil,rfl,rfl⟩
theorem og.add {m:Sm}{u:Nat}{L:List El}(h:og m L)(hw:Wm m u)(hc:Yq m.P<m.mo)(n:Int)(e:En):og (UY m e) (L++[⟨n,XA m,e⟩]):=by
  refine⟨fun x hx=>?_,List.pairwise_append.2 ⟨h.nd,List.pairwise_singleton _ _,fun a ha b hb=>?_⟩,?_,?_⟩
  · rcases List.mem_append.1 hx with hx | hx
    · obtain⟨h1,h2⟩:=h.v x hx;obtain⟨h3,h4⟩:=FH hw e h1;exact⟨h3,h4.trans h2⟩
    · rw[List.mem_singleton.1 hx]; exact FD hw hc e
  · rw[List.mem_singleton.1 hb]; exact aA hw hc (h.v a ha).1
  · have h1:=(Ip hw e).1;have h2:OQ m=true:=decide_eq_true hc;rw[h2,if_pos rfl,h.ct] at h1;rw[h1,List.length_append,List.length_singleton]
  · rw[Iu hw hc,h.sz,Rt,SE]; simp[eL,Yl]
theorem og.rem {m:Sm}{A B:List El}{x:El}(h:og m (A++x::B)):og (TU m x.h) (A++B):=by
  have hx:=h.v x (by simp);have hp:=List.pairwise_append.1 h.nd;have hq:=List.pairwise_cons.1 hp.2.1;refine⟨fun y hy=>?_,List.pairwise_append.2 ⟨hp.1,hq.2,fun a ha b hb=>hp.2.2 a ha b (by simp[hb])⟩,?_,?_⟩
  · have hy2:y∈A++x::B:=by
      rcases List.mem_append.1 hy with h1 | h1 <;> simp[h1]
    have hne:x.h≠y.h:=by
      rcases List.mem_append.1 hy with h1 | h1
      · exact fun e=>hp.2.2 y h1 x (by simp) e.symm
      · exact hq.1 y h1
    obtain⟨h1,h2⟩:=h.v y hy2;obtain⟨h3,h4⟩:=FC hx.1 h1 hne;exact⟨h3,h4.trans h2⟩
  · have h1:=(Io m x.h).1;rw[hx.1,if_pos rfl,h.ct] at h1;simp only[List.length_append,List.length_cons] at h1 ⊢;omega
  · have h1:=Iq hx.1;rw[hx.2,h.sz,Rt,SE] at h1;rw[Rt,SE];simp only[eL,List.map_cons,Yl] at h1 ⊢;omega
structure LZ (e:En):Prop where
  b:II e
  sq:0<=e.sq/\e.sq<=18446744073709551615
  ht:I64 e.ht
  tm:I64 e.tm
  nm:e.snd.size<=1000000
structure PI (c:List Int)(u:Nat)(m:Sm)(M:List Hp.It)(R:List Sd.Rw)(L:List El):Prop where
  num:L.Pairwise fun a b=>a.n<b.n
  lo:∀ x∈L,0<=x.n/\x.n<u
  wp:Wp (c.getD 0 0) (c.getD 1 0) (eL L)
  g:∀ x∈L,LZ x.e
  wm:Wm m u
  mo:(m.mo:Int)=c.getD 0 0
  st:og m L
  hw:Hp.Wh M
  hp:M.Perm (L.map itO)
  rs:Sd.DX R
  rp:R.Perm (L.map fE)
theorem yM {R:List Sd.Rw}(h:Sd.DX R){k:Sd.Ky}(hn:Sd.XG R k=false)(id:Int):(Sd.Rk R k id).Perm ((k.1,k.2,id)::R):=by
  obtain⟨A,B,h1,hA,hB⟩:=Sd.WC h k;rcases h1 with rfl | ⟨x,hx,rfl⟩
  · rw[Sd.Lr hA hB]; exact List.perm_middle
  · rw[Sd.UR] at hn;have:Sd.XG (x::B) k=true:=(by unfold Sd.XG; simp[hx]);rw[this] at hn;simp at hn
theorem Jq:∀ {R:List Sd.Rw} {x:Sd.Rw},x∈R->(∀ y∈R,Sd.kx y=Sd.kx x->y=x)->R.Perm (x::Sd.U0 (Sd.kx x) R)
  | [],x,h,_=>by cases h
  | y::r,x,h,hu=>by
    unfold Sd.U0;by_cases hy:Sd.kx y=Sd.kx x
    · rw[if_pos hy,hu y (by simp) hy]
    · rw[if_neg hy];have hx:x∈r:=by
        rcases List.mem_cons.1 h with e | e
        · exact absurd (by rw[e]) hy
        · exact e
      exact((Jq hx fun z hz=>hu z (by simp[hz])).cons y).trans (List.Perm.swap ..)
section
variable {c : List Int} {u : Nat} {m : Sm} {M : List Hp.It} {R : List Sd.Rw} {L : List El}
theorem PI.cnt (h:PI c u m M R L):Yq m.P=L.length:=h.st.ct
theorem PI.siz (h:PI c u m M R L):WV m.P=Yl (eL L):=h.st.sz
theorem PI.len (h:PI c u m M R L):L.length<=512:=by
  have:=h.wm.len;have:=h.wm.mo;have:=h.st.ct;omega
theorem PI.hlen (h:PI c u m M R L):M.length=L.length:=by rw[h.hp.length_eq,List.length_map]
theorem PI.rlen (h:PI c u m M R L):R.length=L.length:=by rw[h.rp.length_eq,List.length_map]
theorem vF (h:L.Pairwise fun a b=>a.n<b.n):∀ {x y:El},x∈L->y∈L->x.n=y.n->x=y:=by
  induction L with
  | nil=>intro x y hx; cases hx
  | cons z r ih=>
    intro x y hx hy e;have h2:=List.pairwise_cons.1 h;rcases List.mem_cons.1 hx with e1 | hx
    · rcases List.mem_cons.1 hy with e2 | hy
      · exact e1.trans e2.symm
      · have:=h2.1 y hy; rw[e1] at e; omega
    · rcases List.mem_cons.1 hy with e2 | hy
      · have:=h2.1 x hx; rw[e2] at e; omega
      · exact ih h2.2 hx hy e
theorem IQ (h:L.Pairwise fun a b=>a.n<b.n){x:El}(hx:x∈L):IU x.n L=some x:=by
  unfold IU;cases hf:L.find? fun y=>decide (y.n=x.n) with
  | none=>exact absurd (decide_eq_true rfl) (List.find?_eq_none.1 hf x hx)
  | some y=>rw[vF h (List.mem_of_find?_eq_some hf) hx (by simpa using List.find?_some hf)]
theorem TG {k:Nat->Int}{x:El}(h:TI k L=some x):x∈L/\keq x.e.k k=true:=⟨List.mem_of_find?_eq_some h,by simpa using List.find?_some h⟩
theorem yL {k:Nat->Int}(h:TI k L=none):∀ x∈L,keq x.e.k k=false:=fun x hx=>by simpa using List.find?_eq_none.1 h x hx
theorem mD (hw:(eL L).Pairwise fun a b=>keq a.k b.k=false){k:Nat->Int}{x:El}(hx:x∈L)(hk:keq x.e.k k=true):TI k L=some x:=by
  unfold TI;induction L with
  | nil=>cases hx
  | cons z r ih=>
    have h2:=List.pairwise_cons.1 (show(z.e::eL r).Pairwise _ from hw);rw[List.find?_cons];rcases List.mem_cons.1 hx with rfl | hx
    · rw[hk]
    · have h3:=h2.1 x.e (List.mem_map.2 ⟨x,hx,rfl⟩);have h4:keq z.e.k k=false:=by
        cases q:keq z.e.k k with
        | false=>rfl
        | true=>rw[N7 q (Ro hk)] at h3; cases h3
      rw[h4];exact ih h2.2 hx
theorem QF {k:Nat->Int}:(TI k L).isSome=decide (Vs k (eL L)<(eL L).length):=by
  cases h:TI k L with
  | none=>
    have:=yL h;exact(decide_eq_false (Lm.2 fun e he=>by obtain⟨x,hx,rfl⟩:=List.mem_map.1 he; exact this x hx)).symm
  | some x=>
    obtain⟨h1,h2⟩:=TG h;exact(decide_eq_true (vC.2 ⟨x.e,List.mem_map.2 ⟨x,h1,rfl⟩,h2⟩)).symm
theorem LX (hw:(eL L).Pairwise fun a b=>keq a.k b.k=false){k:Nat->Int}{x:El}(h:TI k L=some x):∃ A B,L=A++x::B/\Vs k (eL L)=A.length/\∀ y∈A++B,keq y.e.k x.e.k=false:=by
  obtain⟨hx,hk⟩:=TG h;obtain⟨A,B,rfl⟩:=List.append_of_mem hx;have hp:=List.pairwise_append.1 (show(eL A++x.e::eL B).Pairwise _ from by simpa [eL] using hw);have hq:=List.pairwise_cons.1 hp.2.1;have h1:∀ y∈A,keq y.e.k x.e.k=false:=fun y hy=>hp.2.2 y.e (List.mem_map.2 ⟨y,hy,rfl⟩) x.e (by simp);have h2:∀ y∈B,keq y.e.k x.e.k=false:=fun y hy=>by rw[Ls]; exact hq.1 y.e (List.mem_map.2 ⟨y,hy,rfl⟩)
  refine⟨A,B,rfl,?_,fun y hy=>(List.mem_append.1 hy).elim (h1 y) (h2 y)⟩;have e:(eL (A++x::B)).getD A.length Zp=x.e:=by simp[eL,List.getD_eq_getElem?_getD]
  refine Dk (by simp[eL]) (by rw[e]; exact hk) fun j hj=>?_;have e2:(eL (A++x::B)).getD j Zp=(A[j]).e:=by simp[eL,List.getD_eq_getElem?_getD,List.getElem?_append_left hj,List.getElem?_append_left (show j<(A.map El.e).length by simpa using hj),hj]
  rw[e2];have h3:=h1 (A[j]) (List.getElem_mem hj);cases q:keq (A[j]).e.k k with
  | false=>rfl
  | true=>rw[N7 q (Ro hk)] at h3; cases h3
theorem PI.Dj (h:PI c u m M R L){k:Int}(hk:∀ x∈L,x.n≠k):Hp.Xh k M=false/\Ex.XB (L.map Qb) k=false:=by
  constructor
  · refine Hp.UH.2 fun y hy=>?_;obtain⟨x,hx,rfl⟩:=List.mem_map.1 (h.hp.mem_iff.1 hy);exact hk x hx
  · cases q:Ex.XB (L.map Qb) k with
    | false=>rfl
    | true=>
      obtain⟨y,hy,e⟩:=Ex.OL.1 q;obtain⟨x,hx,rfl⟩:=List.mem_map.1 hy;exact absurd e (hk x hx)
theorem PI.Il (h:PI c u m M R L)(s:ByteArray)(q:Int):Sd.XG R (s,q)=(eL L).any (Lu s q):=by
  have:∀ b:Bool,(Sd.XG R (s,q)=true↔b=true)->Sd.XG R (s,q)=b:=fun b hb=>Bool.eq_iff_iff.2 hb;refine this _ ?_;unfold Sd.XG;rw[List.any_eq_true,List.any_eq_true];constructor
  · rintro⟨y,hy,e⟩;obtain⟨x,hx,rfl⟩:=List.mem_map.1 (h.rp.mem_iff.1 hy);have e:=of_decide_eq_true e;exact⟨x.e,List.mem_map.2 ⟨x,hx,rfl⟩,OJ.2 ⟨congrArg Prod.fst e,congrArg Prod.snd e⟩⟩
  · rintro⟨e,he,hs⟩;obtain⟨x,hx,rfl⟩:=List.mem_map.1 he;obtain⟨h1,h2⟩:=OJ.1 hs;exact⟨fE x,h.rp.mem_iff.2 (List.mem_map.2 ⟨x,hx,rfl⟩),decide_eq_true (Prod.ext h1 h2)⟩
theorem PI.new (c:List Int)(hmo:((newS (c.getD 0 0)).mo:Int)=c.getD 0 0)(h1:0<=c.getD 1 0)(u:Nat):PI c u (newS (c.getD 0 0)) [] [] []:=
  ⟨.nil,(fun x hx=>nomatch hx),Wp.nil (by omega) h1,(fun x hx=>nomatch hx),Wm.new _ _,hmo,og.new _,Hp.Wh.nil,.refl _,.nil,.refl _⟩
theorem PI.ins (h:PI c u m M R L){e:En}(he:LZ e)(h0:YC (c.getD 0 0) (c.getD 1 0) (eL L) e=0):Yq m.P<m.mo/\OQ m=true /\
    Hp.Xh (u:Int) M=false/\Sd.XG R (e.snd,e.sq)=false/\Ex.XB (L.map Qb) (u:Int)=false/\(∀ x∈L,keq x.e.k e.k=false)/\(∀ x∈L,x.n≠(u:Int)) /\
    Ex.NY (L.map Qb) ((u:Int),e.ht,e.tm)=(L++[(⟨u,XA m,e⟩:El)]).map Qb /\
    PI c (u+1) (UY m e) (Hp.Vq M ((u:Int),e.pri,e.od)).1 (Sd.Rk R (e.snd,e.sq) (u:Int)) (L++[⟨u,XA m,e⟩]):=by
  obtain⟨h1,h2,h3,h4⟩:=Di.1 h0;have hc:Yq m.P<m.mo:=by have:=h.mo; have:=h.cnt; rw[Rn] at h3; omega
  have hn:∀ x∈L,x.n≠(u:Int):=fun x hx=>by have:=(h.lo x hx).2; omega
  obtain⟨hm,hw⟩:=h.Dj hn;have hr:Sd.XG R (e.snd,e.sq)=false:=by
    rw[h.Il];cases q:(eL L).any (Lu e.snd e.sq) with
    | false=>rfl
    | true=>
      obtain⟨x,hx,q⟩:=List.any_eq_true.1 q;rw[h2 x hx] at q; cases q
  have hwp:Wp (c.getD 0 0) (c.getD 1 0) (eL (L++[⟨u,XA m,e⟩])):=by
    have:=h.wp.ins e;rw[QG h0] at this;rw[Rt]; exact this
  refine⟨hc,decide_eq_true hc,hm,hr,hw,fun x hx=>h1 x.e (List.mem_map.2 ⟨x,hx,rfl⟩),hn,?_,?_⟩
  · have h5:=Ex.Lr (A:=L.map Qb) (B:=[]) (z:=((u:Int),e.ht,e.tm)) (fun x hx=>by
      obtain⟨y,hy,rfl⟩:=List.mem_map.1 hx;exact(h.lo y hy).2) (fun x hx=>nomatch hx)
    rw[List.append_nil] at h5;rw[h5,List.map_append]; rfl
  · refine⟨List.pairwise_append.2 ⟨h.num,List.pairwise_singleton _ _,fun a ha b hb=>?_⟩,fun x hx=>?_,hwp,fun x hx=>?_,h.wm.add he.b,?_,h.st.add h.wm hc _ e,h.hw.ins _,?_,(Sd.QB h.rs hr _).FB,?_⟩
    · rw[List.mem_singleton.1 hb]; exact(h.lo a ha).2
    · rcases List.mem_append.1 hx with hx | hx
      · have:=h.lo x hx; omega
      · rw[List.mem_singleton.1 hx]; show(0:Int)<=(u:Int)/\(u:Int)<((u+1:Nat):Int); omega
    · rcases List.mem_append.1 hx with hx | hx
      · exact h.g x hx
      · rw[List.mem_singleton.1 hx]; exact he
    · rw[(Ip h.wm e).2]; exact h.mo
    · rw[List.map_append];exact(Hp.Ll hm).trans ((h.hp.cons _).trans (List.perm_append_comm (l₁:=[itO (⟨u,XA m,e⟩:El)])))
    · rw[List.map_append];exact(yM h.rs hr _).trans ((h.rp.cons _).trans (List.perm_append_comm (l₁:=[fE (⟨u,XA m,e⟩:El)])))
theorem vw {A B:List El}{x:El}(h:(A++x::B).Pairwise fun a b=>a.n<b.n):Ex.Tz x.n ((A++x::B).map Qb)=(A++B).map Qb:=by
  have hp:=List.pairwise_append.1 h;rw[List.map_append,Ex.Qz (k:=x.n) (A.map Qb) ((x::B).map Qb) (fun y hy=>by
    obtain⟨z,hz,rfl⟩:=List.mem_map.1 hy;exact hp.2.2 z hz x (by simp)),List.map_cons,Ex.Tz]
  rw[if_pos (show(Qb x).1=x.n from rfl),List.map_append]
theorem PI.rem {A B:List El}{x:El}(h:PI c u m M R (A++x::B)):X9 m x.h=true/\Rj m x.h=x.e/\Hp.Xh x.n M=true/\Sd.XG R (x.e.snd,x.e.sq)=true/\Ex.XB ((A++x::B).map Qb) x.n=true /\
    Ex.Tz x.n ((A++x::B).map Qb)=(A++B).map Qb/\PI c u (TU m x.h) (Hp.U4 M x.n).1 (Sd.U0 (x.e.snd,x.e.sq) R) (A++B):=by
  have hx:x∈A++x::B:=by simp
  have hsub:(A++B).Sublist (A++x::B):=List.Sublist.append (List.Sublist.refl _) (List.sublist_cons_self ..);have hv:=h.st.v x hx;have hid:Hp.Xh x.n M=true:=Hp.VK.2 ⟨itO x,h.hp.mem_iff.2 (List.mem_map.2 ⟨x,hx,rfl⟩),rfl⟩;have hr:Sd.XG R (x.e.snd,x.e.sq)=true:=by
    rw[h.Il];exact List.any_eq_true.2 ⟨x.e,List.mem_map.2 ⟨x,hx,rfl⟩,OJ.2 ⟨rfl,rfl⟩⟩
  have hmid:∀ {α:Type} (f:El->α),((A++x::B).map f).Perm (f x::(A++B).map f):=fun f=>by
    rw[List.map_append,List.map_cons,List.map_append]; exact List.perm_middle
  have hrm:=Jq (R:=R) (x:=fE x) (h.rp.mem_iff.2 (List.mem_map.2 ⟨x,hx,rfl⟩)) (fun y hy e=>by
    by_cases hq:y=fE x
    · exact hq
    · exfalso;have hs:=h.rs;have hrx:fE x∈R:=h.rp.mem_iff.2 (List.mem_map.2 ⟨x,hx,rfl⟩);have:∀ {l:List Sd.Rw},Sd.DX l->∀ {a b:Sd.Rw},a∈l->b∈l->a≠b->Sd.kx a≠Sd.kx b:=fun {l}=>by
        induction l with
        | nil=>intro _ a b ha; cases ha
        | cons z r ih=>
          intro hs a b ha hb hab;have h2:=List.pairwise_cons.1 hs;rcases List.mem_cons.1 ha with e1 | ha <;> rcases List.mem_cons.1 hb with e2 | hb
          · exact absurd (e1.trans e2.symm) hab
          · rw[e1]; exact Sd.Fz (h2.1 b hb)
          · rw[e2]; exact(Sd.Fz (h2.1 a ha)).symm
          · exact ih h2.2 ha hb hab
      exact this hs hy hrx hq e)
  refine⟨hv.1,hv.2,hid,hr,Ex.OL.2 ⟨Qb x,List.mem_map.2 ⟨x,hx,rfl⟩,rfl⟩,vw h.num,?_⟩;refine⟨h.num.sublist hsub,fun y hy=>h.lo y (hsub.subset hy),h.wp.sub (hsub.map _),fun y hy=>h.g y (hsub.subset hy),h.wm.rem _,?_,h.st.rem,h.hw.tak _,?_,(Sd.WQ h.rs hr).FB,?_⟩
  · rw[(Io m x.h).2]; exact h.mo
  · exact(Hp.Lj ((hmid itO).symm.trans h.hp.symm) rfl h.hw.ids).symm
  · exact(hrm.symm.trans (h.rp.trans (hmid fE))).cons_inv
def Xw (L:List El)(n:Int):En:=((IU n L).map El.e).getD Zp
theorem Ul (h:L.Pairwise fun a b=>a.n<b.n){x:El}(hx:x∈L):Xw L x.n=x.e:=by unfold Xw; rw[IQ h hx]; rfl
theorem vX (h:L.Pairwise fun a b=>a.n<b.n):(L.map El.n).map (Xw L)=eL L:=by
  rw[List.map_map];exact List.map_congr_left fun x hx=>Ul h hx
theorem PI.sorted (h:PI c u m M R L):(M.map fun y=>y.1).map (Xw L)=sortL (eL L)/\∀ y∈M,∃ x∈L,x.n=y.1:=by
  refine⟨?_,fun y hy=>?_⟩
  · have h0:(L.map fun x=>(x.e,x.n.toNat)).Pairwise fun a b=>a.2<b.2:=by
      rw[List.pairwise_map];exact(List.Pairwise.and_mem.1 h.num).imp fun {a b} ⟨ha,hb,hab⟩=>by have:=h.lo a ha; have:=h.lo b hb; show a.n.toNat<b.n.toNat; omega
    obtain⟨S,hS,hS1,hS3⟩:=vk h0;rw[List.map_map] at hS1;have hS1:S.map (·.1)=sortL (eL L):=hS1;have hSm:∀ p∈S,∃ x∈L,(x.e,x.n.toNat)=p:=fun p hp=>List.mem_map.1 (hS.mem_iff.1 hp);have hM:M=S.map fun p=>((p.2:Int),p.1.pri,p.1.od):=by
      refine Hp.uZ (h.hp.trans ?_) h.hw.FB ?_
      · refine List.Perm.trans ?_ (hS.map _).symm;rw[List.map_map];refine .of_eq (List.map_congr_left fun x hx=>?_);have:=h.lo x hx;show(x.n,x.e.pri,x.e.od)=((x.n.toNat:Int),x.e.pri,x.e.od);rw[Int.toNat_of_nonneg this.1]
      · rw[List.pairwise_map];refine hS3.imp fun {a b} hab=>?_;rw[Hp.PN];unfold R3 at hab;show b.1.pri<a.1.pri∨(a.1.pri=b.1.pri/\(a.1.od<b.1.od∨(a.1.od=b.1.od/\(a.2:Int)<(b.2:Int))));omega
    rw[<- hS1,hM,List.map_map,List.map_map];refine List.map_congr_left fun p hp=>?_;obtain⟨x,hx,rfl⟩:=hSm p hp;show Xw L ((x.n.toNat:Int))=x.e;rw[Int.toNat_of_nonneg (h.lo x hx).1];exact Ul h.num hx
  · obtain⟨x,hx,rfl⟩:=List.mem_map.1 (h.hp.mem_iff.1 hy);exact⟨x,hx,rfl⟩
theorem PI.sender (h:PI c u m M R L)(s:ByteArray):(Sd.U5 (Sd.Zi R s)).map (Xw L)=Vt s (eL L)/\∀ n∈Sd.U5 (Sd.Zi R s),∃ x∈L,x.n=n:=by
  have hmem:∀ r∈R,∃ x∈L,fE x=r:=fun r hr=>List.mem_map.1 (h.rp.mem_iff.1 hr);refine⟨?_,fun n hn=>?_⟩
  · have e1:(Sd.U5 (Sd.Zi R s)).map (Xw L)=(R.filter fun x=>decide (x.1=s)).map fun r=>Xw L r.2.2:=by
      unfold Sd.U5 Sd.Zi;rw[List.map_map,List.map_map]; rfl
    rw[e1];refine List.Perm.eq_of_pairwise (le:=fun a b:En=>a.sq<b.sq) (fun a b _ _ h1 h2=>by omega) ?_ (lN h.wp s) ?_
    · rw[List.pairwise_map];have h2:(R.filter fun x=>decide (x.1=s)).Pairwise fun x y=>x.2.1<y.2.1:=by
        have:=Sd.SC h.rs s;unfold Sd.UQ Sd.Zi at this;rw[List.pairwise_map] at this;exact this
      refine(List.Pairwise.and_mem.1 h2).imp fun {a b} ⟨ha,hb,hab⟩=>?_;obtain⟨x,hx,rfl⟩:=hmem a ((List.mem_filter.1 ha).1);obtain⟨y,hy,rfl⟩:=hmem b ((List.mem_filter.1 hb).1);show(Xw L x.n).sq<(Xw L y.n).sq;rw[Ul h.num hx,Ul h.num hy]; exact hab
    · refine List.Perm.trans ?_ (Lh s (eL L)).symm;refine((h.rp.filter _).map _).trans ?_;rw[List.filter_map,List.map_map,show eL L=L.map El.e from rfl,List.filter_map];refine .of_eq ?_;refine List.map_congr_left fun x hx=>?_;exact Ul h.num ((List.mem_filter.1 hx).1)
  · obtain⟨p,hp,rfl⟩:=List.mem_map.1 (show n∈(Sd.Zi R s).map _ from hn);obtain⟨r,hr,rfl⟩:=List.mem_map.1 (show p∈(R.filter fun x=>decide (x.1=s)).map _ from hp);obtain⟨x,hx,rfl⟩:=hmem r ((List.mem_filter.1 hr).1);exact⟨x,hx,rfl⟩
theorem lM {E:List Sd.Eo}(hs:Sd.UQ E)(q:Int):(0<(Sd.Nj E q).length)↔Sd.Vm E q=true:=by
  obtain⟨h1,h2⟩:=Sd.Le (q:=q) hs;have h3:(Sd.Nj E q).length=Sd.Tq (E.drop (Sd.Zw E q)) q:=by
    unfold Sd.Nj;rw[List.length_map,List.length_take];have:=Sd.Ik (E.drop (Sd.Zw E q)) q;omega
  rw[h3];have h4:Sd.Vm E q=Sd.Vm (E.drop (Sd.Zw E q)) q:=by
    have e:E=E.take (Sd.Zw E q)++E.drop (Sd.Zw E q):=(List.take_append_drop ..).symm;have h5:Sd.Vm (E.take (Sd.Zw E q)) q=false:=by
      cases hh:Sd.Vm (E.take (Sd.Zw E q)) q with
      | false=>rfl
      | true=>
        obtain⟨x,hx,e⟩:=List.any_eq_true.1 hh;have:=h1 x hx;have:=of_decide_eq_true e;omega
    conv=>lhs; rw[e]
    show List.any _ _=_;rw[List.any_append];show(Sd.Vm _ q || Sd.Vm _ q)=_;rw[h5,Bool.false_or]
  rw[h4];have h6:Sd.UQ (E.drop (Sd.Zw E q)):=List.Pairwise.sublist (List.drop_sublist ..) hs;generalize E.drop (Sd.Zw E q)=D at *
  cases D with
  | nil=>simp[Sd.Tq,Sd.Vm]
  | cons x r=>
    unfold Sd.Tq;by_cases hx:x.1=q
    · simp[hx,Sd.Vm]
    · rw[if_neg hx];constructor
      · intro h; omega
      · intro h;obtain⟨y,hy,e⟩:=List.any_eq_true.1 h;have e:=of_decide_eq_true e;have h7:=h2 x (by simp);rcases List.mem_cons.1 hy with rfl | hy
        · exact absurd e hx
        · have:=(List.pairwise_cons.1 h6).1 y hy;omega
theorem PI.run (h:PI c u m M R L)(s:ByteArray)(q:Int):decide (0<(Sd.Nj (Sd.Zi R s) q).length)=(eL L).any (Lu s q):=by
  rw[<- h.Il s q,<- Sd.OI (l:=R) (s,q)];have:=lM (Sd.SC h.rs s) q;cases hh:Sd.Vm (Sd.Zi R s) q with
  | true=>exact decide_eq_true (this.2 hh)
  | false=>exact decide_eq_false fun h0=>by rw[this.1 h0] at hh; cases hh
theorem PI.gone (h:PI c u m M R L)(bl sp ht tm:Int):(Ex.OV (L.map Qb) bl sp ht tm).map (fun n=>(Xw L n).k)=Yj (fun e=>Ex.uY bl sp ht tm (0,e.ht,e.tm)) (eL L)/\∀ n∈Ex.OV (L.map Qb) bl sp ht tm,∃ x∈L,x.n=n:=by
  have e1:Ex.OV (L.map Qb) bl sp ht tm=(L.filter fun x=>Ex.uY bl sp ht tm (Qb x)).map El.n:=by
    unfold Ex.OV;rw[List.filter_map,List.map_map]; rfl
  rw[e1];refine⟨?_,fun n hn=>?_⟩
  · unfold Yj;rw[List.map_map,show eL L=L.map El.e from rfl,List.filter_map,List.map_map];refine List.map_congr_left fun x hx=>?_;show(Xw L x.n).k=x.e.k;rw[Ul h.num ((List.mem_filter.1 hx).1)]
  · obtain⟨x,hx,rfl⟩:=List.mem_map.1 hn;exact⟨x,(List.mem_filter.1 hx).1,rfl⟩
end
abbrev xo (a b:Int):Int:=bits .xor .u32 a b
abbrev an (a b:Int):Int:=bits .and .u32 a b
abbrev oo (a b:Int):Int:=bits .or .u32 a b
def plS (a b:Int):Int:=(a+b) % 4294967296
def no (a:Int):Int:=bits .xor .u32 IntKind.u32.max a
def Oo (x:Int)(n:Nat):Int:=oo (x / 2 ^ n) (x*2 ^ (32-n) % 4294967296)
def ks:List Int:=[1116352408,1899447441,3049323471,3921009573,961987163,1508970993,2453635748,2870763221,3624381080,310598401,607225278,1426881987,1925078388,2162078206,2614888103,3248222580,3835390401,4022224774,264347078,604807628,770255983,1249150122,1555081692,1996064986,2554220882,2821834349,2952996808,3210313671,3336571891,3584528711,113926993,338241895,666307205,773529912,1294757372,1396182291,1695183700,1986661051,2177026350,2456956037,2730485921,2820302411,3259730800,3345764771,3516065817,3600352804,4094571909,275423344,430227734,506948616,659060556,883997877,958139571,1322822218,1537002063,1747873779,1955562222,2024104815,2227730452,2361852424,2428436474,2756734187,3204031479,3329325298]
def EM (a b c d:Int):Int:=oo (oo (oo (a*16777216 % 4294967296) (b*65536 % 4294967296)) (c*256 % 4294967296)) d
def word (b:List Int)(t:Nat):Int:=EM (b.getD (4*t) 0) (b.getD (4*t+1) 0) (b.getD (4*t+2) 0) (b.getD (4*t+3) 0)
def words (b:List Int):Nat->List Int
  | 0=>[]
  | t+1=>words b t++[word b t]
def follow (W:List Int)(t:Nat):Int:=
  let x:=W.getD (t-15) 0
  let y:=W.getD (t-2) 0
  (xo (xo (Oo y 17) (Oo y 19)) (y / 1024)+W.getD (t-7) 0+xo (xo (Oo x 7) (Oo x 18)) (x / 8)+W.getD (t-16) 0) % 4294967296
def more (W:List Int):Nat->List Int
  | 0=>W
  | n+1=>more W n++[follow (more W n) (16+n)]
def jQ (a b c d e f g h k w:Int):List Int:=
  let x:=(h+xo (xo (Oo e 6) (Oo e 11)) (Oo e 25)+xo (an e f) (an (no e) g)+k+w)
  let y:=(xo (xo (Oo a 2) (Oo a 13)) (Oo a 22)+xo (xo (an a b) (an a c)) (an b c))
  [(x+y) % 4294967296,a,b,c,(d+x) % 4294967296,e,f,g]
def rnd (s:List Int)(k w:Int):List Int:=jQ (s.getD 0 0) (s.getD 1 0) (s.getD 2 0) (s.getD 3 0) (s.getD 4 0) (s.getD 5 0) (s.getD 6 0) (s.getD 7 0) k w
def Kt (W h:List Int):Nat->List Int
  | 0=>h
  | t+1=>rnd (Kt W h t) (ks.getD t 0) (W.getD t 0)
def sums (h s:List Int):Nat->List Int
  | 0=>h
  | i+1=>(sums h s i).set i (plS (h.getD i 0) (s.getD i 0))
def blk (h b:List Int):List Int:=sums h (Kt (more (words b 16) 48) h 64) 8
def eF:List Int:=[1779033703,3144134277,1013904242,2773480762,1359893119,2600822924,528734635,1541459225]
def states (m:List Int):Nat->List Int
  | 0=>eF
  | n+1=>blk (states m n) ((m.drop (64*n)).take 64)
def zeros (n:Nat):Nat:=(119-n % 64) % 64
def Yn (bs:Int):List Int:=[bs / 2 ^ 56 % 256,bs / 2 ^ 48 % 256,bs / 2 ^ 40 % 256,bs / 2 ^ 32 % 256,bs / 2 ^ 24 % 256,bs / 2 ^ 16 % 256,bs / 2 ^ 8 % 256,bs / 2 ^ 0 % 256]
def padded (L:List Int):List Int:=L++[128]++List.replicate (zeros L.length) 0++Yn ((L.length:Int)*8 % 18446744073709551616)
def MH (h:List Int)(i:Nat):Int:=h.getD (i / 4) 0 / 2 ^ (24-i % 4*8) % 256
def outs (h:List Int):Nat->List Int
  | 0=>[]
  | i+1=>outs h i++[MH h i]
def Hu (L:List Int):List Int:=outs (states (padded L) ((padded L).length / 64)) 32
theorem Qn (b:List Int)(t:Nat):(words b t).length=t:=by
  induction t with
  | zero=>rfl
  | succ t ih=>simp[words,ih]
theorem EL (W:List Int)(n:Nat):(more W n).length=W.length+n:=by
  induction n with
  | zero=>rfl
  | succ n ih=>simp[more,ih]; omega
theorem EK (W h:List Int)(hh:h.length=8)(t:Nat):(Kt W h t).length=8:=by
  cases t <;> simp[Kt,rnd,jQ,hh]
theorem EJ (h s:List Int)(hh:h.length=8)(i:Nat):(sums h s i).length=8:=by
  induction i with
  | zero=>exact hh
  | succ i ih=>simp[sums,ih]
theorem Ae (h b:List Int)(hh:h.length=8):(blk h b).length=8:=EJ _ _ hh _
theorem Ku (m:List Int)(n:Nat):(states m n).length=8:=by
  induction n with
  | zero=>rfl
  | succ n ih=>exact Ae _ _ ih
theorem Ot (h:List Int)(n:Nat):(outs h n).length=n:=by
  induction n with
  | zero=>rfl
  | succ n ih=>simp[outs,ih]
theorem ac0:ks.length=64:=rfl
end Go.Proofs.YtnelmomagdcmnaaGreat
namespace Go.Proofs.YtnelmomagdcmnaaGreat
open Go.RowKit
theorem rW (x:Int)(n:Nat)(w:World)(hn:1<=n)(h31:n<=31) :
    Calls Tryz.prog 120 #[.int .u32 x,Z9 n] w fun e w'=>e=.returned (.int .u32 (Oo x n))/\w'=w.drew:=by
  go_enter Tryz.func120,Tryz.ntmps120;have e1:Op.shift .shr .u32 x .i64 (n:Int)=(pure (.int .u32 (x / 2 ^ n)):Sem Value):=by
    rw[shift_shr .u32 .i64 x n (by omega) (by simp[IntKind.bits]; omega)]; simp
  have e2:IntKind.i64.wrap (32-(n:Int))=((32-n:Nat):Int):=by rw[IntKind.wrap_i64]; omega
  have e3:Op.shift .shl .u32 x .i64 ((32-n:Nat):Int)=(pure (.int .u32 (IntKind.u32.wrap (x*2 ^ (32-n)))):Sem Value):=by
    rw[shift_shl .u32 .i64 x _ (by omega) (by simp[IntKind.bits]; omega)]; simp
  go_wp2_with fail
  go_region
  go_wp2;go_ret;exact⟨rfl,rfl⟩
abbrev Zn (L:List Int):Array Value:=(L.map (Value.int .u32)).toArray
theorem JC (w:World) :
    Calls Tryz.prog 121 #[] w fun e w'=>e=.returned (.agg (Zn ks))/\w'=w.alloc (.cells (Zn ks) 204):=by
  go_enter Tryz.func121,Tryz.ntmps121;apply wp_seq_k;intro K hK;apply wp_region_lit;refine Zj rfl (some 0) rfl (Z7 w.heap.size 0) (w.alloc (.cells (List.replicate 64 (.int .u32 0)).toArray 204)) (by kernel_rfl) ?_;apply wpList_nil;apply hK;apply wp_seq_k;intro K2 hK2;apply wp_region_lit;refine Zj rfl (some 1) rfl (.agg (Zn ks)) (w.alloc (.cells (List.replicate 64 (.int .u32 0)).toArray 204)) (by kernel_rfl) ?_;apply Xb (w:=w) (ty:=204) (x:=.tmp 0) (y:=.tmp 1) (c:=(List.replicate 64 (.int .u32 0)).toArray) (c':=Zn ks)
  case hgd=>rfl
  case ho=>rfl
  case hx=>rfl
  case hy=>rfl
  case hi=>kernel_rfl
  case hz=>kernel_rfl
  case h1=>kernel_rfl
  apply wpList_nil;apply hK2;apply wp_ret;have hrow:=heap_alloc_last w (.cells (Zn ks) 204);refine bodyPost_ret (v:=.agg (Zn ks)) ?_ rfl ⟨rfl,rfl⟩
  · refine results_cell_row (fn:=Tryz.f121) (p:=0) (ty:=204) rfl _ _ w.heap.size 204 (Zn ks) (0,0) (.array 64 175) ?_ hrow ?_ ?_ ?_
    · rfl
    · kernel_rfl
    · rfl
    · kernel_rfl
end Go.Proofs.YtnelmomagdcmnaaGreat
namespace Go.Proofs.YtnelmomagdcmnaaGreat
variable {P : Program} {ops : Array Oper} {md : Region.Mode} {C : World -> Prop}
def EI (P:Program)(md:Region.Mode)(ops:Array Oper)(C:World->Prop)(n:Nat)(L:Array Bool->Act->Prop):Nat->Array Bool->Act->Prop
 | 0,listed,a=>L listed a
 | f+1,listed,a=>Region.ready md ops listed≠[]/\∀ i∈Region.ready md ops listed,i<n/\qOp P ops C i (EI P md ops C n L f (listed.setIfInBounds i true)) a
theorem QO {n g:Nat}{L:Array Bool->Act->Prop}{Q':Exit->Act->World->Prop}(hL:∀ listed a w,C w->L listed a->wpAny P md ops Q' g listed a w) :
  ∀ (f:Nat) (listed:Array Bool) (a:Act) (w:World),C w->EI P md ops C n L f listed a->wpAny P md ops Q' (f+g) listed a w:=by
 intro f;induction f with
 | zero=>intro listed a w hw h; rw[Nat.zero_add]; exact hL _ _ _ hw h
 | succ f ih=>
  intro listed a w hw h;rw[show f+1+g=(f+g)+1 by omega];exact⟨fun h0=>absurd h0 h.1,fun i hi=>wpOp_of_qOp hw (fun a' w' hw' h'=>ih _ a' w' hw' h') (h.2 i hi).2⟩
theorem EG {n i:Nat}{oi:Oper}{v:Value}{L:Array Bool->Act->Prop}(hi:ops[i]?=some oi)(hsel:∀ (j:Nat) (o:Oper) cs b,ops[j]?=some o->o.op≠.select cs b)
  (hs:Region.sinkB md ops n=true) (hc:Region.chainB md ops n=true) (hn:n<ops.size) (hin:i<n)
  (hdone:∀ listed a,L listed a->∀ j∈Region.ready md ops listed,n<=j) :
  ∀ (f:Nat) (listed:Array Bool) (a:Act),HeadInv md ops n listed ->
   (∀ j oj,ops[j]?=some oj->j≠i->listed.getD j true=false->(∀ e∈oj.after,Region.binds md e=true->e.on≠i)->oi.apart ops oj=true) ->
   i∈Region.ready md ops listed->YieldsIn P ops C oi v a ->
   EI P md ops C n L f (listed.setIfInBounds i true) (a.put oi.dst v)->EI P md ops C n L (f+1) listed a:=by
 intro f;induction f with
 | zero=>
  intro listed a inv _ hr hy H;have hlt:∀ j∈Region.ready md ops listed,j<n:=fun j hj=>Nat.lt_of_not_le fun h=>tail_waits hs hc hn inv _ i rfl hin (mem_ready.1 hr).1 j h hj;refine⟨List.ne_nil_of_mem hr,fun j hj=>⟨hlt j hj,?_⟩⟩;by_cases hji:j=i
  ·subst hji; exact hy.qOp hi H
  ·have:=hdone _ _ H j (ready_mono hj hji);have:=hlt j hj;omega
 | succ f ih=>
  intro listed a inv hfree hr hy H;have hun:=(mem_ready.1 hr).1;have hlt:∀ j∈Region.ready md ops listed,j<n:=fun j hj=>Nat.lt_of_not_le fun h=>tail_waits hs hc hn inv _ i rfl hin hun j h hj;refine⟨List.ne_nil_of_mem hr,fun j hj=>⟨hlt j hj,?_⟩⟩;by_cases hji:j=i
  ·subst hji; exact hy.qOp hi H
  ·obtain⟨hjun,oj,hoj,hall⟩:=mem_ready.1 hj;have hnot:∀ e∈oj.after,Region.binds md e=true->e.on≠i:=fun e he hb heq=>by
    have h1:=hall e he hb;rw[heq,getD_both hun] at h1;cases h1
   have h2:=qOp_put hoj (hfree j oj hoj hji hjun hnot) (fun cs b=>hsel i oi cs b hi) (fun cs b=>hsel j oj cs b hoj) hy (H.2 j (ready_mono hj hji)).2;refine qOp_mono (fun a' h3=>ih (listed.setIfInBounds j true) a' (inv.set hj (hlt j hj)) (fun k ok hk hki hu hno=>?_) (ready_mono hr (Ne.symm hji)) h3.1 ?_) h2
   ·refine hfree k ok hk hki ?_ hno;by_cases hjk:j=k
    ·subst hjk; exact hjun
    ·rw[getD_set_ne true hjk] at hu; exact hu
   ·rw[Array.setIfInBounds_comm _ _ hji];exact h3.2
theorem Jg {n g:Nat}{Lq:Act->Prop}(hsel:Region.noSelect ops=true)(hs:Region.sinkB md ops n=true)(hc:Region.chainB md ops n=true)(hn:n<ops.size) :
  ∀ (l:List Oper) (k:Nat) (listed:Array Bool) (a:Act),(∀ j,j<l.length->l[j]?=ops[k+j]?)->k+l.length=n->HeadInv md ops n listed ->
  Region.lexHead md ops g l.length k listed=true->wpQuiet P ops C Lq l a ->
  EI P md ops C n (fun listed' a'=>Region.seqB md ops g n listed'=true/\Lq a') l.length listed a:=by
 intro l;induction l with
 | nil=>
  intro k listed a _ hk _ hB h;obtain rfl:k=n:=by simpa using hk
  exact⟨by simpa [Region.lexHead] using hB,h⟩
 | cons o l ih=>
  intro k listed a hl hk inv hB h;have h0:ops[k]?=some o:=by simpa using(hl 0 (by simp)).symm
  simp only[List.length_cons] at hk;simp only[List.length_cons,Region.lexHead,Bool.and_eq_true] at hB;obtain⟨⟨hr,hf⟩,hB'⟩:=hB;have hr':k∈Region.ready md ops listed:=by simpa using hr
  have hst:qOp P ops C k (wpQuiet P ops C Lq l) a:=by unfold qOp; simp only[h0]; exact h
  obtain⟨v,hy,hK⟩:=yieldsIn_of_qOp h0 hst;exact EG h0 (Region.noSelect_spec hsel) hs hc hn (by omega) (fun listed' a' hL=>seqB_ready hL.1) l.length listed a inv (Region.free_spec h0 hf) hr' hy
   (ih (k+1) _ _ (fun j hj=>by have:=hl (j+1) (by simp; omega); simpa [Nat.add_assoc,Nat.add_comm 1 j] using this) (by omega) (inv.set hr' (by omega)) hB' hK)
theorem QT {id:Nat}{Q:Exit->Act->World->Prop}{a:Act}{w:World}{l:List Oper}(n:Nat)(hm:P.follows .mixedOrders=true)(hB:Region.lexTailB .any l.toArray n=true)
  (h:wpQuiet P l.toArray (fun w'=>∃ m,w'=w.drewN m) (fun a'=>∀ w',(∃ m,w'=w.drewN m)->wpList P l.toArray Q (l.drop n) a' w') (l.take n) a):(Code.region id l.toArray true).wp P Q a w:=by
 simp only[Region.lexTailB,Bool.and_eq_true,decide_eq_true_eq] at hB;obtain⟨⟨⟨⟨hsel,hn⟩,hs⟩,hc⟩,hlex⟩:=hB;have hn':n<l.length:=by simpa using hn
 have htl:(l.take n).length=n:=by simp; omega
 have hdl:(l.drop n).length=l.toArray.size-n:=by simp
 have inv0:HeadInv .any l.toArray n (Array.replicate l.toArray.size false):=
  ⟨by simp,fun j oj _ hl=>(by rw[getD_replicate_false] at hl; cases hl),fun t _ ht=>getD_in (by simpa using ht) (getD_replicate_false _ _)⟩
 have H:=Jg (md:=.any) (g:=l.toArray.size-n) hsel hs hc hn (l.take n) 0 _ a (fun j hj=>by
  have hj':j<n:=by rw[htl] at hj; exact hj
  simp[hj']) (by simpa using htl) inv0 (by rw[htl]; exact hlex) h
 refine wp_region_any hm ?_;have:=QO (Q':=Q) (g:=l.toArray.size-n) (fun listed a' w' hw' hL=>by
  have:=wpAny_of_seq (md:=.any) (Q':=Q) (l.drop n) n listed a' w' (fun j=>by simp[List.getElem?_drop]) (by rw[hdl]; exact hL.1) (hL.2 w' hw');rwa [hdl] at this) _ _ _ { w with drawn:=w.drawn+1 } ⟨1,rfl⟩ H
 rw[htl,show n+(l.toArray.size-n)=l.toArray.size by omega] at this;exact this
end Go.Proofs.YtnelmomagdcmnaaGreat
