/-
  Texts joined.
-/
import Derived.Test.YtnhlpahoomcgnaaGreatJ12
set_option maxRecDepth 100000
set_option maxHeartbeats 8000000
set_option linter.unusedSimpArgs false
set_option linter.unusedVariables false
namespace Go.Proofs.YtnhlpahoomcgnaaGreat.Lg
open Go.RowKit
def Zb (A:List Ac):List Int:=A.map (·.2.1)
def Xw (A:List Ac)(c:Int):Bool:=LG (c::Zb A)
def Jw (A:List Ac)(c:Int):Int:=LD (c::Zb A)
def xB (A:List Ac)(c:Int):Int:=if Xw A c=true then 0 else 6
def Y0 (A:List Ac)(s:ByteArray):Nat:=A.findIdx (fun x=>decide (x.1=s))
def Yf (A:List Ac)(s:ByteArray):Nat:=A.findIdx (fun x=>!Ug x.1 s)
def Yw (A:List Ac)(a:Ac):List Ac:=if Y0 A a.1<A.length then A.set (Y0 A a.1) a else A.take (Yf A a.1)++a::A.drop (Yf A a.1)
def Wn (A:List Ac)(i:Nat):Int:=
 if isName (nums (aca A i).1)=false then 10
 else if 0<i/\(aca A (i-1)).1=(aca A i).1 then 8
 else if 0<i/\Ug (aca A i).1 (aca A (i-1)).1=true then 1
 else 0
def uJ (f:Nat->Int):Nat->Int
 | 0=>0
 | n+1=>if uJ f n≠0 then uJ f n else f n
theorem Ia {f:Nat->Int}:∀ {n:Nat},(∀ j,j<n->f j=0)->uJ f n=0
 | 0,_=>rfl
 | n+1,h=>by
  unfold uJ;rw[Ia (n:=n) (fun j hj=>h j (by omega)),if_neg (by simp)];exact h n (by omega)
theorem yY {f:Nat->Int}:∀ {n:Nat},uJ f n=0->∀ j,j<n->f j=0
 | 0,_,j,hj=>by omega
 | n+1,h,j,hj=>by
  unfold uJ at h;by_cases h1:uJ f n=0
  ·rw[h1,if_neg (by simp)] at h;rcases Nat.lt_or_ge j n with h2 | h2
   ·exact yY h1 j h2
   ·have:j=n:=(by omega);subst this; exact h
  ·rw[if_pos h1] at h;exact absurd h h1
theorem y8 {f:Nat->Int}{i:Nat}:∀ {n:Nat},i<n->(∀ j,j<i->f j=0)->f i≠0->uJ f n=f i
 | 0,hi,_,_=>by omega
 | n+1,hi,h,he=>by
  unfold uJ;rcases Nat.lt_or_ge i n with h1 | h1
  ·have e:=y8 h1 h he;rw[e,if_pos he]
  ·have:i=n:=(by omega);subst this;rw[Ia h,if_neg (by simp)]
def YD (A:List Ac)(c:Int):Int:=if 256<A.length then 3 else if uJ (Wn A) A.length≠0 then uJ (Wn A) A.length else xB A c
def Nq (A:List Ac):Prop:=∀ i j,i<j->j<A.length->Ug (aca A i).1 (aca A j).1=true
def Jh (A:List Ac):Prop:=∀ i,i<A.length->isName (nums (aca A i).1)=true
theorem Vq {A:List Ac}{c:Int}(h:YD A c=0):A.length<=256/\Nq A/\Jh A/\Xw A c=true:=by
 unfold YD at h;by_cases h1:256<A.length
 ·rw[if_pos h1] at h; cases h
 rw[if_neg h1] at h;by_cases h2:uJ (Wn A) A.length=0
 ·rw[h2,if_neg (by simp)] at h;have h3:=yY h2;have hn:Jh A:=fun i hi=>by
   have:=h3 i hi;unfold Wn at this;by_cases h4:isName (nums (aca A i).1)=true
   ·exact h4
   ·rw[if_pos (by simpa using h4)] at this; cases this
  have hs:∀ i,i+1<A.length->Ug (aca A i).1 (aca A (i+1)).1=true:=fun i hi=>by
   have:=h3 (i+1) hi;unfold Wn at this;rw[if_neg (by rw[hn (i+1) hi]; simp),show i+1-1=i by omega] at this;by_cases h4:(aca A i).1=(aca A (i+1)).1
   ·rw[if_pos ⟨by omega,h4⟩] at this; cases this
   rw[if_neg (fun q=>h4 q.2)] at this;by_cases h5:Ug (aca A (i+1)).1 (aca A i).1=true
   ·rw[if_pos ⟨by omega,h5⟩] at this; cases this
   exact Hz (by simpa using h5) (fun e=>h4 e.symm)
  refine⟨by omega,fun i j hij hj=>?_,hn,?_⟩
  ·obtain⟨d,rfl⟩:∃ d,j=i+1+d:=⟨j-i-1,by omega⟩;clear hij;induction d with
   | zero=>exact hs i hj
   | succ d ih=>exact Oc (ih (by omega)) (hs (i+1+d) hj)
  ·unfold xB at h;by_cases h5:Xw A c=true
   ·exact h5
   ·rw[if_neg h5] at h; cases h
 ·rw[if_pos h2] at h;exact absurd h h2
theorem Hy {A:List Ac}{c:Int}(h1:A.length<=256)(h2:Nq A)(h3:Jh A)(h4:Xw A c=true):YD A c=0:=by
 unfold YD;rw[if_neg (by omega),Ia,if_neg (by simp)]
 ·unfold xB; rw[if_pos h4]
 intro j hj;unfold Wn;rw[if_neg (by rw[h3 j hj]; simp)];by_cases h0:0<j
 ·have:=h2 (j-1) j (by omega) hj;rw[if_neg (fun q=>ae6 this q.2),if_neg (fun q=>by rw[rP this] at q; cases q.2)]
 ·rw[if_neg (fun q=>h0 q.1),if_neg (fun q=>h0 q.1)]
theorem X3 {A:List Ac}{i:Nat}(h:i<A.length):aca A i=A[i]:=getD_lt A i _ h
theorem sJ {A:List Ac}{s:ByteArray}{i:Nat}(h:i<A.length)(hb:∀ j,j<i->(aca A j).1≠s)(hi:(aca A i).1=s):Y0 A s=i:=by
 unfold Y0;rw[List.findIdx_eq h];refine⟨by rw[<- X3 h]; exact decide_eq_true hi,fun j hj=>?_⟩;rw[<- X3 (by omega)];exact decide_eq_false (hb j hj)
theorem sG {A:List Ac}{s:ByteArray}(hb:∀ j,j<A.length->(aca A j).1≠s):Y0 A s=A.length:=by
 unfold Y0;rw[List.findIdx_eq_length];intro x hx;obtain⟨j,hj,rfl⟩:=List.mem_iff_getElem.1 hx;rw[<- X3 hj];exact decide_eq_false (hb j hj)
theorem Uu {A:List Ac}{s:ByteArray}(h:Y0 A s<A.length):(aca A (Y0 A s)).1=s/\∀ j,j<Y0 A s->(aca A j).1≠s:=by
 refine⟨?_,fun j hj=>?_⟩
 ·have:=List.findIdx_getElem (w:=h);rw[X3 h];exact of_decide_eq_true this
 ·have:=List.not_of_lt_findIdx hj;rw[X3 (by omega)];simpa using this
theorem rO (A:List Ac)(s:ByteArray):Y0 A s<=A.length:=List.findIdx_le_length
theorem O7 {A:List Ac}{s:ByteArray}(h:¬ Y0 A s<A.length):∀ j,j<A.length->(aca A j).1≠s:=fun j hj e=>by
 have h1:=rO A s;have h2:Y0 A s=A.length:=by omega
 unfold Y0 at h2;rw[List.findIdx_eq_length] at h2;have:=h2 (aca A j) (UK hj);exact of_decide_eq_false this e
theorem BN {A:List Ac}{s:ByteArray}{i:Nat}(h:i<=A.length)(hb:∀ j,j<i->Ug (aca A j).1 s=true)(hi:i<A.length->Ug (aca A i).1 s=false):Yf A s=i:=by
 unfold Yf;rcases Nat.lt_or_ge i A.length with h1 | h1
 ·rw[List.findIdx_eq h1];refine⟨by rw[<- X3 h1,hi h1]; rfl,fun j hj=>?_⟩;rw[<- X3 (by omega),hb j hj];rfl
 ·have:i=A.length:=by omega
  subst this;rw[List.findIdx_eq_length];intro x hx;obtain⟨j,hj,rfl⟩:=List.mem_iff_getElem.1 hx;rw[<- X3 hj,hb j hj];rfl
theorem Sv (A:List Ac)(s:ByteArray):Yf A s<=A.length:=List.findIdx_le_length
theorem rM {A:List Ac}{s:ByteArray}{j:Nat}(hj:j<Yf A s):Ug (aca A j).1 s=true:=by
 have h1:=Sv A s;have:=List.not_of_lt_findIdx hj;rw[X3 (by omega)];simpa using this
theorem ae7 {A:List Ac}{s:ByteArray}(h:Yf A s<A.length):Ug (aca A (Yf A s)).1 s=false:=by
 have this:(!Ug (A[Yf A s]'h).1 s)=true:=List.findIdx_getElem (w:=h);rw[X3 h]
 revert this
 cases Ug (A[Yf A s]'h).1 s <;> simp
theorem zy {A:List Ac}{s:ByteArray}(h:Nq A)(hf:Y0 A s<A.length):Yf A s=Y0 A s:=by
 obtain⟨h1,h2⟩:=Uu hf;refine BN (rO A s) (fun j hj=>?_) (fun _=>?_)
 ·have:=h j _ hj hf;rwa [h1] at this
 ·rw[h1,MI]
theorem jA {A:List Ac}{s:ByteArray}(h:Nq A):(decide (Y0 A s<A.length))=(decide (Yf A s<A.length/\(aca A (Yf A s)).1=s)):=by
 rw[decide_eq_decide];constructor
 ·intro hf;rw[zy h hf];exact⟨hf,(Uu hf).1⟩
 ·rintro⟨h1,h2⟩;refine Decidable.byContradiction fun hn=>O7 hn _ h1 h2
theorem Wv {A:List Ac}{a:Ac}(h:Y0 A a.1<A.length):Yw A a=A.set (Y0 A a.1) a:=if_pos h
theorem UM {A:List Ac}{a:Ac}(h:¬ Y0 A a.1<A.length):Yw A a=A.take (Yf A a.1)++a::A.drop (Yf A a.1):=if_neg h
theorem WR (A:List Ac)(a:Ac):(Yw A a).length=if Y0 A a.1<A.length then A.length else A.length+1:=by
 by_cases h:Y0 A a.1<A.length
 ·rw[Wv h,if_pos h,List.length_set]
 ·have:=Sv A a.1;rw[UM h,if_neg h,List.length_append,List.length_cons,List.length_take,List.length_drop];omega
theorem Hw {A:List Ac}{i j:Nat}{a:Ac}(h:i<A.length):aca (A.set i a) j=if j=i then a else aca A j:=by
 unfold aca;rw[List.getD_eq_getElem?_getD,List.getElem?_set,List.getD_eq_getElem?_getD];by_cases e:j=i
 ·subst e; rw[if_pos rfl,if_pos h,if_pos rfl]; rfl
 ·rw[if_neg (fun q=>e q.symm),if_neg e]
theorem Hu {A:List Ac}{i j:Nat}{a:Ac}(h:i<=A.length):aca (A.take i++a::A.drop i) j=if j<i then aca A j else if j=i then a else aca A (j-1):=by
 unfold aca;have ht:(A.take i).length=i:=by rw[List.length_take]; omega
 simp only[List.getD_eq_getElem?_getD];by_cases h1:j<i
 ·rw[if_pos h1,List.getElem?_append_left (by omega),List.getElem?_take,if_pos h1]
 rw[if_neg h1,List.getElem?_append_right (by omega),ht];by_cases h2:j=i
 ·subst h2; rw[if_pos rfl,Nat.sub_self]; rfl
 ·rw[if_neg h2];obtain⟨d,rfl⟩:∃ d,j=i+1+d:=⟨j-i-1,by omega⟩;rw[show i+1+d-i=d+1 by omega,List.getElem?_cons_succ,List.getElem?_drop,show i+1+d-1=i+d by omega]
theorem QK {A:List Ac}{a:Ac}(h:Nq A):Nq (Yw A a):=by
 have hl:=WR A a;by_cases hf:Y0 A a.1<A.length
 ·rw[if_pos hf] at hl;intro i j hij hj;rw[Wv hf,Hw hf,Hw hf];obtain⟨h1,-⟩:=Uu hf;by_cases e1:i=Y0 A a.1
  ·subst e1;rw[if_pos rfl,if_neg (by omega),<- h1];exact h _ _ hij (by omega)
  ·rw[if_neg e1];by_cases e2:j=Y0 A a.1
   ·subst e2;rw[if_pos rfl,<- h1];exact h _ _ hij (by omega)
   ·rw[if_neg e2];exact h _ _ hij (by omega)
 ·rw[if_neg hf] at hl;have hle:=Sv A a.1;have hge:∀ k,Yf A a.1<=k->k<A.length->Ug a.1 (aca A k).1=true:=fun k h1 h2=>by
   have hn:=O7 hf;have h3:=ae7 (A:=A) (s:=a.1) (by omega);have h4:=Hz h3 (hn _ (by omega));rcases Nat.lt_or_ge (Yf A a.1) k with h5 | h5
   ·exact Oc h4 (h _ _ h5 h2)
   ·have:k=Yf A a.1:=(by omega);rw[this]; exact h4
  intro i j hij hj;rw[UM hf,Hu hle,Hu hle];by_cases e1:j<Yf A a.1
  ·rw[if_pos (by omega),if_pos e1];exact h _ _ hij (by omega)
  rw[if_neg e1];by_cases e2:j=Yf A a.1
  ·rw[if_pos e2,if_pos (by omega)];exact rM (by omega)
  rw[if_neg e2];by_cases e3:i<Yf A a.1
  ·rw[if_pos e3];exact Oc (rM e3) (hge _ (by omega) (by omega))
  rw[if_neg e3];by_cases e4:i=Yf A a.1
  ·rw[if_pos e4];exact hge _ (by omega) (by omega)
  ·rw[if_neg e4];exact h _ _ (by omega) (by omega)
theorem QJ {A:List Ac}{a:Ac}(h:Jh A)(ha:isName (nums a.1)=true):Jh (Yw A a):=by
 have hl:=WR A a;intro i hi;by_cases hf:Y0 A a.1<A.length
 ·rw[if_pos hf] at hl;rw[Wv hf,Hw hf];by_cases e:i=Y0 A a.1
  ·rw[if_pos e]; exact ha
  ·rw[if_neg e]; exact h i (by omega)
 ·rw[if_neg hf] at hl;rw[UM hf,Hu (Sv A a.1)];by_cases e:i<Yf A a.1
  ·rw[if_pos e]; exact h i (by have:=Sv A a.1; omega)
  rw[if_neg e];by_cases e2:i=Yf A a.1
  ·rw[if_pos e2]; exact ha
  ·rw[if_neg e2]; exact h _ (by omega)
def XP (B:List Ac):List Ac->List Ac×Int
 | []=>(B,0)
 | a::r=>if isName (nums a.1)=false then ([],10) else if Y0 B a.1<B.length then ([],8) else XP (Yw B a) r
def WC (A:List Ac):List Ac×Int:=
 if 256<A.length then ([],3) else if (XP [] A).2≠0 then ([],(XP [] A).2) else if Xw (XP [] A).1 0=true then ((XP [] A).1,0) else ([],6)
def Ph (A:List Ac)(c:Int)(a:Ac):List Ac×Int×Int:=
 if YD A c≠0 then ([],0,YD A c) else if isName (nums a.1)=false then ([],0,10) else if 256<(Yw A a).length then ([],0,3) else if Xw (Yw A a) c=true then (Yw A a,c,0) else ([],0,6)
def Zm (A:List Ac)(s:ByteArray):Ac×Bool:=if Y0 A s<A.length then (aca A (Y0 A s),true) else (WA,false)
theorem rJ:∀ (A B:List Ac),Nq B->Jh B->(XP B A).2=0->Nq (XP B A).1/\Jh (XP B A).1/\(XP B A).1.length=B.length+A.length
 | [],B,h1,h2,h3=>⟨h1,h2,rfl⟩
 | a::r,B,h1,h2,h3=>by
  unfold XP at h3 ⊢;by_cases e1:isName (nums a.1)=false
  ·rw[if_pos e1] at h3; cases h3
  rw[if_neg e1] at h3 ⊢;by_cases e2:Y0 B a.1<B.length
  ·rw[if_pos e2] at h3; cases h3
  rw[if_neg e2] at h3 ⊢;obtain⟨q1,q2,q3⟩:=rJ r (Yw B a) (QK h1) (QJ h2 (by simpa using e1)) h3;refine⟨q1,q2,?_⟩;rw[q3,WR,if_neg e2,List.length_cons];omega
theorem Ie:Nq []:=fun i j h1 h2=>by simp at h2
theorem Ic:Jh []:=fun i h=>by simp at h
theorem yX {A:List Ac}(h:(WC A).2=0):YD (WC A).1 0=0/\(WC A).1.length=A.length:=by
 unfold WC at h ⊢;by_cases e1:256<A.length
 ·rw[if_pos e1] at h; cases h
 rw[if_neg e1] at h ⊢;by_cases e2:(XP [] A).2=0
 ·rw[e2,if_neg (by simp)] at h ⊢;by_cases e3:Xw (XP [] A).1 0=true
  ·rw[if_pos e3];obtain⟨q1,q2,q3⟩:=rJ A [] Ie Ic e2;have q4:(XP [] A).1.length=A.length:=(by simpa using q3);exact⟨Hy (by rw[q4]; omega) q1 q2 e3,q4⟩
  ·rw[if_neg e3] at h; cases h
 ·rw[if_pos e2] at h;exact absurd h e2
theorem yV {A:List Ac}{c:Int}{a:Ac}(h:(Ph A c a).2.2=0):Ph A c a=(Yw A a,c,0)/\YD A c=0/\isName (nums a.1)=true/\YD (Yw A a) c=0:=by
 unfold Ph at h ⊢;by_cases e1:YD A c=0
 ·rw[e1,if_neg (by simp)] at h ⊢;by_cases e2:isName (nums a.1)=false
  ·rw[if_pos e2] at h; cases h
  rw[if_neg e2] at h ⊢;by_cases e3:256<(Yw A a).length
  ·rw[if_pos e3] at h; cases h
  rw[if_neg e3] at h ⊢;by_cases e4:Xw (Yw A a) c=true
  ·rw[if_pos e4];obtain⟨-,q2,q3,-⟩:=Vq e1;exact⟨rfl,rfl,by simpa using e2,Hy (by omega) (QK q2) (QJ q3 (by simpa using e2)) e4⟩
  ·rw[if_neg e4] at h; cases h
 ·rw[if_pos e1] at h;exact absurd h e1
theorem sU {A:List Ac}{a:Ac}(h:A.length<=256):(256<(Yw A a).length)↔(¬ Y0 A a.1<A.length/\A.length=256):=by
 rw[WR];by_cases hf:Y0 A a.1<A.length
 ·rw[if_pos hf];exact⟨fun q=>by omega,fun q=>absurd hf q.1⟩
 ·rw[if_neg hf];exact⟨fun q=>⟨hf,by omega⟩,fun q=>by omega⟩
def Vj (A:List Ac):Prop:=∀ i,i<A.length->W64 (aca A i).2.1/\W64 (aca A i).2.2
theorem SB {A:List Ac}(h:Vj A):∀ x,x∈A->W64 x.2.1/\W64 x.2.2:=fun x hx=>by
 obtain⟨j,hj,rfl⟩:=List.mem_iff_getElem.1 hx;rw[<- X3 hj];exact h j hj
theorem LJ {A:List Ac}(h:∀ x,x∈A->W64 x.2.1/\W64 x.2.2):Vj A:=fun i hi=>h _ (UK hi)
theorem UL:Vj []:=fun i h=>by simp at h
theorem put_mem {A:List Ac}{a x:Ac}(h:x∈Yw A a):x=a∨x∈A:=by
 unfold Yw at h
 split at h
 ·rcases List.mem_or_eq_of_mem_set h with h1 | h1
  ·exact .inr h1
  ·exact .inl h1
 ·rcases List.mem_append.1 h with h1 | h1
  ·exact .inr (List.mem_of_mem_take h1)
  ·rcases List.mem_cons.1 h1 with h2 | h2
   ·exact .inl h2
   ·exact .inr (List.mem_of_mem_drop h2)
theorem Jj {A:List Ac}{a:Ac}(h:Vj A)(ha:W64 a.2.1/\W64 a.2.2):Vj (Yw A a):=LJ fun x hx=>(put_mem hx).elim (fun e=>e ▸ ha) (SB h x)
theorem zq:∀ (A B:List Ac),Vj B->(∀ x,x∈A->W64 x.2.1/\W64 x.2.2)->Vj (XP B A).1
 | [],B,h1,h2=>h1
 | a::r,B,h1,h2=>by
  unfold XP
  split
  ·exact UL
  split
  ·exact UL
  exact zq r (Yw B a) (Jj h1 (h2 a (List.mem_cons_self ..))) (fun x hx=>h2 x (List.mem_cons_of_mem _ hx))
theorem rH {A:List Ac}(h:Vj A):Vj (WC A).1:=by
 unfold WC
 split
 ·exact UL
 split
 ·exact UL
 split
 ·exact zq A [] UL (SB h)
 ·exact UL
end Go.Proofs.YtnhlpahoomcgnaaGreat.Lg
namespace Go.Proofs.YtnhlpahoomcgnaaGreat.Lg
attribute [local irreducible] wpList wpQuiet
open Go.RowKit
theorem VX (V:World)(x:Ac):∃ V2,(Instr.storeAt 60 (Z5 V.heap.size 0) (.agg (Zq x))).run Tryz.prog (V.alloc (.cells (Zq WA) 60))=.ok () V2/\Below V.heap.size V V2/\Bx V2 V.heap.size (Zq x) 60:=
 have hb:Bx (V.alloc (.cells (Zq WA) 60)) V.heap.size (Zq WA) 60:=heap_alloc_last V _
 ⟨_,(XI hb).1,ZQ ((Below.refl _ V).alloc (Nat.le_refl _) _) (Nat.le_refl _) _,(XI hb).2⟩
abbrev ZU (a:Option Addr)(n k:Nat)(c:Int):Array Value:=#[.slice a n k,Z4 c]
theorem ZC {w:World}{g:Nat}{a a':Option Addr}{n n' k k':Nat}{c c':Int}(h:Bx w g (ZU a n k c) 29):(Instr.storeAt 29 (Z5 g 0) (.agg (ZU a' n' k' c'))).run Tryz.prog w=.ok () (w.setRow g (ZU a' n' k' c'))/\Bx (w.setRow g (ZU a' n' k' c')) g (ZU a' n' k' c') 29:=
 ⟨Ya h rfl (by simp[Value.oneCell']) (by kernel_rfl),h.set⟩
theorem UU (V:World)(a:Option Addr)(n k:Nat)(c:Int):∃ V2,(Instr.storeAt 29 (Z5 V.heap.size 0) (.agg (ZU a n k c))).run Tryz.prog (V.alloc (.cells (ZU none 0 0 0) 29))=.ok () V2/\Below V.heap.size V V2/\Bx V2 V.heap.size (ZU a n k c) 29:=
 have hb:Bx (V.alloc (.cells (ZU none 0 0 0) 29)) V.heap.size (ZU none 0 0 0) 29:=heap_alloc_last V _
 ⟨_,(ZC hb).1,ZQ ((Below.refl _ V).alloc (Nat.le_refl _) _) (Nat.le_refl _) _,(ZC hb).2⟩
theorem ZN {w:World}{g:Nat}{a:Option Addr}{n k:Nat}{c:Int}(h:Bx w g (ZU a n k c) 29):(Instr.loadAt 29 (Z5 g 0)).run Tryz.prog w=.ok (.agg (ZU a n k c)) w:=
 run_loadAt_mid w g 0 29 [.slice a n k,Z4 c] _ (fun j v hv=>by
  rw[cell_of_row w g _ _ _ (0,0) h];simpa using hv) Tryz.underlying29 rfl (by kernel_rfl)
theorem rU:∀ (x y:List UInt8),(Lib.compareBytes x y<0↔x<y)/\(Lib.compareBytes x y=0↔x=y)
 | [],[]=>by simp[Lib.compareBytes]
 | [],_::_=>by simp[Lib.compareBytes]
 | _::_,[]=>by simp[Lib.compareBytes]
 | a::x,b::y=>by
  obtain⟨h1,h2⟩:=rU x y;unfold Lib.compareBytes;by_cases e1:a<b
  ·rw[if_pos e1];have:a≠b:=fun e=>(by subst e; exact absurd e1 (UInt8.lt_irrefl _));simp[List.cons_lt_cons_iff,e1,this]
  rw[if_neg e1];by_cases e2:b<a
  ·rw[if_pos e2];have h3:a≠b:=fun e=>(by subst e; exact absurd e2 (UInt8.lt_irrefl _));simp[List.cons_lt_cons_iff,e1,h3]
  ·rw[if_neg e2];have h3:a=b:=UInt8.le_antisymm (UInt8.not_lt.1 e2) (UInt8.not_lt.1 e1);subst h3;simp[List.cons_lt_cons_iff,e1,h1,h2]
def H9 (a b:ByteArray):Int:=Lib.compareBytes a.data.toList b.data.toList
theorem jD (a b:ByteArray):decide (H9 a b<0)=Ug a b:=decide_eq_decide.2 (rU _ _).1
theorem jC (a b:ByteArray):decide (H9 a b=0)=decide (a=b):=decide_eq_decide.2 ((rU _ _).2.trans ⟨fun h=>ByteArray.ext (Array.toList_inj.1 h),fun h=>by rw[h]⟩)
theorem ae4 (a b:ByteArray)(w:World):Calls Tryz.prog 111 #[.string a,.string b] w fun e w'=>e=.returned (Z8 (H9 a b))/\w=w':=by
 go_enter Tryz.func111,Tryz.ntmps111;go_wp2;rw[run_callFunc_extern Tryz.func125 (by kernel_rfl) (by kernel_rfl) (by kernel_rfl) (e:=Extern.BytealgCompare.compare) (by kernel_rfl),Lib.run_compareString];simp only[Result.andThen];rw[Oper.upon_value];go_wp2;go_ret;exact⟨rfl,rfl⟩
theorem as7 (a b:ByteArray)(w:World):Calls Tryz.prog 91 #[.string a,.string b] w fun e w'=>e=.returned (Z8 (H9 a b))/\w=w':=by
 have CB:=ae4 a b w;generalize H9 a b=q at *
 go_enter Tryz.func91,Tryz.ntmps91;go_upto_region 1 with fail;refine wl<|ZA (.string a) (.string b)<|YS (Z8 q) (fun w'=>w=w') (CB) (fun V9 Xo=>?_);subst Xo;refine ZV (Z8 q)<|wn ?_;simp only[pu];clear CB;go_wp2_with fail;go_ret;exact⟨rfl,rfl⟩
theorem E8 (x:Ac)(s:ByteArray)(w:World):Calls Tryz.prog 90 #[.agg (Zq x),.string s] w fun e w'=>e=.returned (Z8 (H9 x.1 s))/\Below w.heap.size w w':=by
 have hb0:Below w.heap.size w (w.alloc (.cells (Zq x) 60)):=(Below.refl _ w).alloc (Nat.le_refl _) _;have hX:Bx (w.alloc (.cells (Zq x) 60)) w.heap.size (Zq x) 60:=heap_alloc_last w _;have CB:=as7 x.1 s (w.alloc (.cells (Zq x) 60));obtain⟨q,hq⟩:=ZR (H9 x.1 s);rw[hq] at CB ⊢;clear hq;go_enter Tryz.func90,Tryz.ntmps90;go_upto_region 1 with fail;change Code.wp _ _ _ _ (w.alloc (.cells (Zq x) 60));generalize w.alloc (.cells (Zq x) 60)=W at *
 have HB:=Z9 hb0;clear hb0;refine wl<|ZV (Z5 w.heap.size 0)<|ZL rfl ⟨w.heap.size,0,none⟩ (.string x.1) (hX.ZP 0)<|ZV (.string s)<|YS (Z8 q) (fun w'=>W=w') (CB) (fun V9 Xo=>?_);subst Xo;refine ZV (Z8 q)<|wn ?_;simp only[pu];clear CB hX;go_wp2_with fail;go_ret;exact⟨rfl,HB.out⟩
theorem Vm {ρ:Operand->Value}{o:Oper}{x:Operand}(ho:o.op=.convert 3 149 x)(a:Nat)(h:a<=9223372036854775807)(hx:ρ x=Z8 a)(w:World):(execOp ρ o).run Tryz.prog w=.ok (.value (Z4 a)) w:=by
 have e:IntKind.u64.wrap (a:Int)=a:=by rw[IntKind.wrap_u64]; omega
 unfold execOp;simp only[ho,hx];go_simp
theorem jB {ρ:Operand->Value}{o:Oper}{x:Operand}(ho:o.op=.convert 149 3 x)(a:Nat)(h:a<=9223372036854775807)(hx:ρ x=Z4 a)(w:World):(execOp ρ o).run Tryz.prog w=.ok (.value (Z8 a)) w:=by
 have e:IntKind.i64.wrap (a:Int)=a:=by rw[IntKind.wrap_i64]; omega
 unfold execOp;simp only[ho,hx];go_simp
theorem ae5 {ρ:Operand->Value}{o:Oper}{x y:Operand}(ho:o.op=.binOp .shr 149 x y 149)(a:Nat)(h:a<=9223372036854775807)(hx:ρ x=Z4 a)(hy:ρ y=Z4 1)(w:World):(execOp ρ o).run Tryz.prog w=.ok (.value (Z4 (a / 2:Nat))) w:=by
 unfold execOp;simp only[ho,hx,hy];go_simp
theorem aH3 (a:Option Addr)(k:Nat)(A:List Ac)(s:ByteArray)(w:World)(hR:Cs w a (acc A))(hs:Nq A)(hn:A.length<=1000000) :
  Calls Tryz.prog 89 #[.slice a A.length k,.string s,.func (.func 90) #[] #[]] w fun e w'=>e=.returned (.tuple #[Z8 (Yf A s),.bool (decide (Y0 A s<A.length))])/\Below w.heap.size w w':=by
 have HA:=Z9 hR;have rQ:=Z9 (fun i=>jD (aca A i).1 s);have HEQ:=Z9 (fun i=>jC (aca A i).1 s);have HS:=Z9 hs;obtain⟨n,hnn⟩:=ZR A.length;have HN:=Z9 hnn;have U5:Hid (n<=1000000):=Z9 (by omega);obtain⟨lL,hlL⟩:=ZR (Yf A s);obtain⟨fF,xg⟩:=ZR (decide (Y0 A s<n));have Jc:Hid (∀ i,i<=n->(∀ t,t<i->Ug (aca A t).1 s=true)->(∀ t,i<=t->t<n->Ug (aca A t).1 s=false)->i=lL/\fF=decide (i<n/\(aca A i).1=s)):=Z9 fun i h1 h2 h3=>by
  have e:=BN (A:=A) (s:=s) (i:=i) (by omega) h2 (fun h=>h3 i (Nat.le_refl _) (by omega));refine⟨by rw[<- hlL,e],?_⟩;rw[<- xg,<- hnn,jA hs,e]
 rw[hnn,hlL,xg];clear hlL xg hR hs hn hnn;go_enter Tryz.func89,Tryz.ntmps89;go_upto_region 1 with fail;refine wl<|Yr (.slice a n k) (Z8 n) (Z8 n)<|wn ?_;simp only[pu];go_upto_region 2 with fail;refine wl<|Yr (Z8 n) (Z8 0) (Z8 n)<|wn ?_;simp only[pu];go_wp2_with fail;go_loopg [9,10] n (fun gg s9 s10 wx=>∃ i j:Nat,s9=Z8 i/\s10=Z8 j/\i<=j/\j<=n/\Hid ((∀ t,t<i->Ug (aca A t).1 s=true)/\(∀ t,j<=t->t<n->Ug (aca A t).1 s=false))/\Hid (Below w.heap.size w wx)/\j-i=gg)
 case atStart=>exact⟨0,n,rfl,rfl,by omega,by omega,Z9 ⟨fun t h=>by omega,fun t h h2=>by omega⟩,Z9 (Below.refl _ _),by omega⟩
 case round=>
  obtain⟨i,j,rfl,rfl,hij,hjn,HO,HB,hg⟩:=hrel;have zo:=U5.out;by_cases hlt:i<j
  ·go_upto_region 3 with fail;refine wl<|ZA (Z8 i) (Z8 j)<|ZJ (Zv rfl (i) (j) dT)<|wn ?_;simp only[pu];go_upto_region 4 with fail;refine wl<|ZA (Z8 i) (Z8 j)<|Yy (Z8 (i+j:Nat)) (ZF rfl i j (by omega))<|YG (Z4 (i+j:Nat)) (Vm rfl (i+j) (by omega) (by kernel_rfl) _) <|
    Yy (Z4 ((i+j) / 2:Nat)) (ae5 rfl (i+j) (by omega))<|YG (Z8 ((i+j) / 2:Nat)) (jB rfl ((i+j) / 2) (by omega) (by kernel_rfl) _)<|ZV (Z8 ((i+j) / 2:Nat))<|wn ?_
   simp only[pu];obtain⟨h,hh⟩:=ZR ((i+j) / 2);have HH:Hid (i<=h/\h<j):=Z9 (by omega);have hhn:h<n:=(by have:=HH.out; omega);rw[hh];clear hh;obtain⟨b,off,rfl,-,hrx⟩:=Yv (HA.out.below HB.out) (k:=h) (by rw[HN.out]; exact hhn);have YO:=Z9 (XM hrx);have hl1:=rQ.out h;generalize hy:aca A h=y at *
   have CP:=E8 y s wr;obtain⟨q,hq⟩:=ZR (H9 y.1 s);rw[hq] at CP hl1;have HY:=Z9 hy;have HG:=Z9 hg;clear hrx hq hy hg;go_upto_region 5 with fail;by_cases hqq:q<0
   ·rw[decide_eq_true hqq] at hl1;refine wl<|Yr (.func (.func 90) #[] #[]) (.slice (some ⟨b,off,none⟩) n k) (Z8 h)<|YG (Z5 b (off+h*3)) (YC b off n k h hhn _ _ _ rfl (by kernel_rfl) (by kernel_rfl))<|ZL rfl ⟨b,off+h*3,none⟩ (.agg (Zq y)) (YO.out) <|
     ZV (.string s)<|YS (Z8 q) (fun w'=>Below wr.heap.size wr w') (CP) (fun V9 Xo=>?_)
    have Zl:=Z9 (HB.out.trans (Xo.mono HB.out.size));refine ZJ (Zv rfl (q) (0) (decide_eq_true (hqq)))<|wn ?_;simp only[pu];clear Xo HB YO CP hqq;have Fe:Hid ((∀ t,t<h+1->Ug (aca A t).1 s=true)/\(∀ t,j<=t->t<n->Ug (aca A t).1 s=false)):=Z9 ⟨fun t ht=>(by rcases Nat.lt_or_ge t h with h7 | h7; exact Oc (HS.out t h h7 (by rw[HN.out]; exact hhn)) (by rw[HY.out]; exact hl1.symm); have e7:t=h:=(by omega); rw[e7,HY.out]; exact hl1.symm),HO.out.2⟩;go_upto_region 6 with fail;refine wl<|ZV (Z8 h)<|Yy (Z8 (h+1:Nat)) (ZF rfl h 1 (by omega))<|ZV (Z8 (h+1:Nat))<|wn ?_;simp only[pu];clear HO hl1;go_wp2_with fail;go_roundg (j-(h+1))
    case measure=>have:=HG.out; have:=HH.out; omega
    case rel=>exact⟨h+1,j,rfl,rfl,by have:=HH.out; omega,hjn,Fe,Zl,rfl⟩
   ·rw[decide_eq_false hqq] at hl1;refine wl<|Yr (.func (.func 90) #[] #[]) (.slice (some ⟨b,off,none⟩) n k) (Z8 h)<|YG (Z5 b (off+h*3)) (YC b off n k h hhn _ _ _ rfl (by kernel_rfl) (by kernel_rfl))<|ZL rfl ⟨b,off+h*3,none⟩ (.agg (Zq y)) (YO.out) <|
     ZV (.string s)<|YS (Z8 q) (fun w'=>Below wr.heap.size wr w') (CP) (fun V9 Xo=>?_)
    have Zl:=Z9 (HB.out.trans (Xo.mono HB.out.size));refine ZJ (Zv rfl (q) (0) (decide_eq_false (hqq)))<|wn ?_;simp only[pu];clear Xo HB YO CP hqq;have Fe:Hid ((∀ t,t<i->Ug (aca A t).1 s=true)/\(∀ t,h<=t->t<n->Ug (aca A t).1 s=false)):=Z9 ⟨HO.out.1,fun t ht htn=>(by have h0:Ug (aca A h).1 s=false:=(by rw[HY.out]; exact hl1.symm); rcases Nat.lt_or_ge h t with h7 | h7; have h8:=HS.out h t h7 (by rw[HN.out]; exact htn); by_cases h9:Ug (aca A t).1 s=true; rw[Oc h8 h9] at h0; cases h0; simpa using h9; have e7:t=h:=(by omega); rw[e7]; exact h0)⟩;go_upto_region 7 with fail;refine wl<|ZA (Z8 h) (Z8 h)<|wn ?_;simp only[pu];clear HO hl1;go_wp2_with fail;go_roundg (h-i)
    case measure=>have:=HG.out; have:=HH.out; omega
    case rel=>exact⟨i,h,rfl,rfl,by have:=HH.out; omega,by have:=HH.out; omega,Fe,Zl,rfl⟩
  ·obtain rfl:i=j:=(by omega);obtain⟨hil,hff⟩:=Jc.out i hjn HO.out.1 HO.out.2;subst hil;clear HO Jc hg hij;by_cases hin:i<n
   ·obtain⟨b,off,rfl,-,hrx⟩:=Yv (HA.out.below HB.out) (k:=i) (by rw[HN.out]; exact hin);have YO:=Z9 (XM hrx);have hl1:=HEQ.out i;have jy:fF=decide ((aca A i).1=s):=(by rw[hff,decide_eq_decide]; exact⟨fun h=>h.2,fun h=>⟨hin,h⟩⟩);clear hff;generalize aca A i=y at *
    rw[<- hl1] at jy;have CP:=E8 y s wr;obtain⟨q,hq⟩:=ZR (H9 y.1 s);rw[hq] at CP jy;have HFF:=Z9 jy.symm;clear hrx hq hl1 jy;go_upto_region 3 with fail;refine wl<|ZA (Z8 i) (Z8 i)<|ZJ (Zv rfl (i) (i) dF)<|wn ?_;simp only[pu];go_upto_region 8 with fail;refine wl<|Yr (Z8 i) (Z8 i) (Z8 n)<|ZJ (Zv rfl (i) (n) dT)<|WL ZW (.func (.func 90) #[] #[]) (.slice (some ⟨b,off,none⟩) n k) (Z8 i) <|
     YG (Z5 b (off+i*3)) (YC b off n k i hin _ _ _ rfl (by kernel_rfl) (by kernel_rfl))<|ZL rfl ⟨b,off+i*3,none⟩ (.agg (Zq y)) (YO.out)<|ZV (.string s)<|YS (Z8 q) (fun w'=>Below wr.heap.size wr w') (CP) (fun V9 Xo=>?_)
    have Zl:=Z9 (HB.out.trans (Xo.mono HB.out.size));refine Yy (.bool fF) (ZB rfl q 0 HFF.out)<|Yr (.bool fF) (Z8 i) (.bool fF)<|wn ?_;simp only[pu];clear Xo HB YO CP HFF;go_wp2_with fail;go_ret2;exact⟨rfl,Zl.out⟩
   ·rw[decide_eq_false (fun h=>hin h.1)] at hff;subst hff;go_upto_region 3 with fail;refine wl<|ZA (Z8 i) (Z8 i)<|ZJ (Zv rfl (i) (i) dF)<|wn ?_;simp only[pu];go_upto_region 8 with fail;refine wl<|Yr (Z8 i) (Z8 i) (Z8 n)<|ZJ (Zv rfl (i) (n) dF)<|YW ZY undef undef undef undef undef<|YW undef undef undef ZY (Z8 i) ZY <|
     wpList_nil ?_
    simp only[pu];go_wp2_with fail;go_ret2;exact⟨rfl,HB.out⟩
theorem zA (a:Option Addr)(k:Nat)(A:List Ac)(s:ByteArray)(w:World)(hR:Cs w a (acc A))(hs:Nq A)(hn:A.length<=1000000) :
  Calls Tryz.prog 61 #[.slice a A.length k,.string s] w fun e w'=>e=.returned (.tuple #[Z8 (Yf A s),.bool (decide (Y0 A s<A.length))])/\Below w.heap.size w w':=by
 have CB:=aH3 a k A s w hR hs hn;obtain⟨lL,hlL⟩:=ZR (Yf A s);obtain⟨fF,xg⟩:=ZR (decide (Y0 A s<A.length));rw[hlL,xg] at CB ⊢;generalize A.length=n at *
 clear hlL xg hR hs hn;go_enter Tryz.func61,Tryz.ntmps61;go_upto_region 1 with fail;refine wl<|ZA (.slice a n k) (.string s)<|YS (.tuple #[Z8 lL,.bool fF]) (fun w'=>Below w.heap.size w w') (CB) (fun V9 Xo=>?_);have Zl:=Z9 Xo;refine WL (Z8 lL) (.bool fF) (Z8 lL) (.bool fF)<|wn ?_;simp only[pu];clear Xo CB;go_wp2_with fail;go_ret2;exact⟨rfl,Zl.out⟩
def P7 (A:List Ac)(s:ByteArray):Int:=if Y0 A s<A.length then Y0 A s else -1
theorem O8 (a:Option Addr)(k:Nat)(A:List Ac)(s:ByteArray)(w:World)(hR:Cs w a (acc A))(hn:A.length<=4398046511104) :
  Calls Tryz.prog 87 #[.slice a A.length k,.string s] w fun e w'=>e=.returned (Z8 (P7 A s))/\Below w.heap.size w w':=by
 have HA:=Z9 hR;obtain⟨n,hnn⟩:=ZR A.length;have HN:=Z9 hnn;have U5:Hid (n<=4398046511104):=Z9 (by omega);have HF1:Hid (∀ i,i<n->(∀ t,t<i->(aca A t).1≠s)->(aca A i).1=s->P7 A s=i):=Z9 fun i h1 h2 h3=>by
  have e:=sJ (A:=A) (by omega) h2 h3;unfold P7;rw[e,if_pos (by omega)]
 have HF2:Hid ((∀ t,t<n->(aca A t).1≠s)->P7 A s=-1):=Z9 fun h=>by
  have e:=sG (A:=A) (s:=s) (fun j hj=>h j (by omega));unfold P7;rw[e,if_neg (by omega)]
 rw[hnn];generalize P7 A s=r at *
 clear hR hn hnn;go_enter Tryz.func87,Tryz.ntmps87;go_upto_region 1 with fail;refine wl<|Yr (.slice a n k) (Z8 n) (Z8 0)<|wn ?_;simp only[pu];go_wp2_with fail;go_loopg [9] n (fun gg s9 wx=>∃ j:Nat,s9=Z8 j/\j<=n/\Hid (∀ t,t<j->(aca A t).1≠s)/\Hid (Below w.heap.size w wx)/\n-j=gg)
 case atStart=>exact⟨0,rfl,by omega,Z9 (fun t h=>by omega),Z9 (Below.refl _ _),by omega⟩
 case round=>
  obtain⟨j,rfl,hj,HO,HB,hg⟩:=hrel;have zo:=U5.out;by_cases hlt:j<n
  ·obtain⟨b,off,rfl,-,hrx⟩:=Yv (HA.out.below HB.out) (k:=j) (by rw[HN.out]; exact hlt);have YO:=Z9 (XM hrx);have hf1:=HF1.out j hlt HO.out;generalize hy:aca A j=y at *
   have HY:=Z9 hy;have HG:=Z9 hg;obtain⟨V2,hst,hb2,hbx⟩:=VX wr y;have HB2:=Z9 (HB.out.trans (hb2.mono HB.out.size));clear hrx hy hg hb2;go_upto_region 2 with fail;refine wl<|ZJ (Zv rfl (j) (n) dT)<|wn ?_;simp only[pu];go_upto_region 3 with fail;refine wl<|ZV (Z8 j)<|YG (Z5 b (off+j*3)) (YC b off n k j hlt _ _ _ rfl (by kernel_rfl) (by kernel_rfl))<|ZL rfl ⟨b,off+j*3,none⟩ (.agg (Zq y)) (YO.out) ?_;refine Zy rfl (some 6) rfl (Z5 wr.heap.size 0) (wr.alloc (.cells (Zq WA) 60)) (by kernel_rfl) ?_;refine ZV (Z8 j)<|Zu rfl (hst)<|wn ?_;simp only[pu];obtain⟨g4,hg4⟩:=ZR wr.heap.size;rw[hg4] at hbx ⊢;clear hst hg4 YO;by_cases uN:y.1=s
   ·go_upto_region 4 with fail;refine wl<|ZV (Z5 g4 0)<|ZL rfl ⟨g4,0,none⟩ (.string y.1) (hbx.ZP 0)<|ZV (.string s)<|Yy ZW (TW rfl y.1 s (by rw[Jv]; exact decide_eq_true uN))<|wn ?_;simp only[pu];clear hbx;have HR:=Z9 (hf1 uN);clear hf1 HO HB;go_upto_region 5 with fail;refine wl<|ZA (Z8 j) (Z8 j)<|wn ?_;simp only[pu];go_wp2_with fail;go_ret;exact⟨by rw[HR.out]; rfl,HB2.out⟩
   ·go_upto_region 4 with fail;refine wl<|ZV (Z5 g4 0)<|ZL rfl ⟨g4,0,none⟩ (.string y.1) (hbx.ZP 0)<|ZV (.string s)<|Yy ZY (TW rfl y.1 s (by rw[Jv]; exact decide_eq_false uN))<|wn ?_;simp only[pu];clear hbx;have Fe:Hid (∀ t,t<j+1->(aca A t).1≠s):=Z9 fun t ht=>(by rcases Nat.lt_or_ge t j with h7 | h7; exact HO.out t h7; have e7:t=j:=(by omega); rw[e7,HY.out]; exact uN);clear hf1 HO HB uN;go_upto_region 6 with fail;refine wl<|Yy (Z8 (j+1:Nat)) (ZF rfl j 1 (by omega))<|ZV (Z8 (j+1:Nat))<|wn ?_;simp only[pu];go_wp2_with fail;go_roundg (n-(j+1))
    case measure=>have:=HG.out; omega
    case rel=>exact⟨j+1,rfl,hlt,Fe,HB2,rfl⟩
  ·obtain rfl:n=j:=(by omega);obtain rfl:=HF2.out HO.out;clear HO HF1 HF2 hg;go_upto_region 2 with fail;refine wl<|ZJ (Zv rfl (n) (n) dF)<|wn ?_;simp only[pu];go_upto_region 7 with fail;refine wl<|ZV (Z8 (-1))<|wn ?_;simp only[pu];go_wp2_with fail;go_ret;exact⟨rfl,HB.out⟩
theorem ZO {fn:Func}{tmps:Array Value}{w:World}{p q g ty:Nat}{v u:Value}(hr:fn.results=#[.cell p ty,.tmp q])(h2:tmps.getD p undef=Z5 g 0)(hl:(Instr.loadAt ty (Z5 g 0)).run Tryz.prog w=.ok v w)(h3:tmps.getD q undef=u):(results fn tmps).run Tryz.prog w=.ok (.tuple #[v,u]) w:=by
 unfold results;rw[hr];have h2':tmps[p]?.getD undef=Z5 g 0:=by simpa using h2
 have h3':tmps[q]?.getD undef=u:=by simpa using h3
 have hl':=hl;simp only[Instr.loadAt,Instr.sureAddr,Sem.run_bind,Sem.run_pure,Result.andThen_ok] at hl';simp[h2',h3',asAddr,hl',Result.andThen]
def Oe (w:World)(B:Nat)(v:Value)(L:List Int):Prop:=w.ownsRow B 27 1 v L.length (UR L)
theorem QI (x:Int)(V:World):(Instr.buildSlice 113 1 #[(0,Z4 x)]).run Tryz.prog V=.ok (.slice (some ⟨V.heap.size,0,none⟩) 1 1) (V.alloc (.cells #[Z4 x] 27)):=by
 obtain⟨i0,hi,hz0,hz1,hz2⟩:=info_parts yZ;refine run_buildSlice V 113 27 1 _ #[Z4 x] i0 _ Tryz.underlying113 hi hz0 (by rw[hz1]; omega) (by rw[hz1]; omega) ?_;rw[hz1];kernel_rfl
theorem rZ (x:Int)(V:World):Oe (V.alloc (.cells #[Z4 x] 27)) V.heap.size (.slice (some ⟨V.heap.size,0,none⟩) 1 1) [x]:=
 ⟨by simp[UR],.inr ⟨V.heap.size,1,#[Z4 x],rfl,Nat.le_refl _,heap_alloc_last V _,Nat.le_refl _,by simp[maxLen],by simp,by simp[UR]⟩⟩
theorem BL {w:World}{B:Nat}{v:Value}{L:List Int}(h:Oe w B v L)(hB:B<=w.heap.size)(x:Int)(hl:L.length<=4398046511200) :
  ∃ v2 V2,(Builtin.append_ #[113,113] 113 #[v,.slice (some ⟨w.heap.size,0,none⟩) 1 1]).run Tryz.prog (w.alloc (.cells #[Z4 x] 27))=.ok v2 V2/\Oe V2 B v2 (L++[x])/\Below B w V2:=by
 have hb:Below w.heap.size w (w.alloc (.cells #[Z4 x] 27)):=(Below.refl _ w).alloc (Nat.le_refl _) _;have hO:=own_below h hb;have hc:Cs (w.alloc (.cells #[Z4 x] 27)) (some ⟨w.heap.size,0,none⟩) [Z4 x]:=Cs.block (t:=27) (fr:=(0,0)) (heap_alloc_last w _);obtain⟨v2,V2,hr,hO2,hb2,-,-⟩:=VF (P:=Tryz.prog) (t:=113) (m:=1) Tryz.underlying113 yZ (by kernel_rfl) (by omega) hO (some ⟨w.heap.size,0,none⟩) 1 [Z4 x] hc rfl (fun u hu=>by
  simp only[List.mem_cons,List.not_mem_nil,or_false] at hu;subst hu;rfl) (by simp; omega) (by omega) (by omega)
 refine⟨v2,V2,hr,?_,(hb.mono hB).trans hb2⟩;unfold Oe;rw[List.length_append,show UR (L++[x])=UR L++[Z4 x] by simp[UR]];exact hO2
theorem Lh (A:List Ac):(Zb A).length=A.length:=by simp[Zb]
theorem Je {A:List Ac}{j:Nat}(h:j<A.length):Zb (A.take (j+1))=Zb (A.take j)++[(aca A j).2.1]:=by
 unfold Zb;rw[List.take_succ_eq_append_getElem h,List.map_append,X3 h];rfl
theorem xu {A:List Ac}{j:Nat}(c:Int)(h:j<A.length):tot (c::Zb (A.take (j+1)))=tot (c::Zb (A.take j))+(aca A j).2.1:=by
 rw[Je h,<- List.cons_append,Xl,X6 (aca A j).2.1];simp[tot]
theorem rY {A:List Ac}{c:Int}(hc:W64 c)(hw:Vj A):∀ k,k<(c::Zb A).length->W64 ((c::Zb A).getD k 0):=fun k hk=>by
 cases k with
 | zero=>exact hc
 | succ k=>
  have hk2:k<A.length:=by simp[Zb] at hk; exact hk
  rw[List.getD_cons_succ];unfold Zb;rw[jG A k hk2];exact(hw k hk2).1
theorem jF {A:List Ac}{c:Int}(hc:W64 c)(hw:Vj A)(j:Nat):tot (c::Zb (A.take j))<=tot (c::Zb A):=by
 have:=TY (c::Zb A) (rY hc hw) (j+1);rwa [List.take_succ_cons,show(Zb A).take j=Zb (A.take j) from(List.map_take ..).symm] at this
theorem jE {A:List Ac}{c:Int}(hc:W64 c)(hw:Vj A)(j:Nat):0<=tot (c::Zb (A.take j)):=WB _ fun x hx=>by
 rcases List.mem_cons.1 hx with h | h
 ·rw[h]; exact hc.1
 ·obtain⟨y,hy,rfl⟩:=List.mem_map.1 h;exact(SB hw y (List.mem_of_mem_take hy)).1.1
theorem rX (A:List Ac)(c:Int):tot (c::Zb (A.take A.length))=tot (c::Zb A):=by rw[List.take_length]
theorem jH (a:Option Addr)(k:Nat)(A:List Ac)(c:Int)(w:World)(hR:Cs w a (acc A))(hn:A.length<=4398046511104)(hc:W64 c)(hw:Vj A) :
  Calls Tryz.prog 92 #[.agg (ZU a A.length k c)] w fun e w'=>e=.returned (.tuple #[Z4 (Jw A c),.bool (Xw A c)])/\Below w.heap.size w w':=by
 have hb0:Below w.heap.size w (w.alloc (.cells (ZU a A.length k c) 29)):=(Below.refl _ w).alloc (Nat.le_refl _) _;have hX0:Bx (w.alloc (.cells (ZU a A.length k c) 29)) w.heap.size (ZU a A.length k c) 29:=heap_alloc_last w _;have HA:=Z9 (hR.below hb0);have HW:=Z9 hw;have HC:=Z9 hc;have aT:=Z9 (fun(al:Option Addr) (cl:Nat) (V:World) (h:Cs V al (UR (c::Zb A)))=>Jd al cl (c::Zb A) V (by rw[List.length_cons,Lh]; omega) (fun q hq=>by
  obtain⟨b,off,e,-,h1⟩:=h q (Z4 ((c::Zb A).getD q 0)) (by
   unfold UR;rw[List.getElem?_map,List.getElem?_eq_getElem hq,List.getD_eq_getElem?_getD,List.getElem?_eq_getElem hq];rfl)
  exact⟨b,off,e,h1⟩) (rY hc hw))
 have xq:Hid ((c::Zb A).length=A.length+1):=Z9 (by rw[List.length_cons,Lh]);obtain⟨n,hnn⟩:=ZR A.length;have HN:=Z9 hnn;have U5:Hid (n<=4398046511104):=Z9 (by omega);rw[hnn] at hb0 hX0 HA ⊢;clear hR hn hnn hw hc;have Dc:Hid (LD (c::Zb A)=Jw A c/\LG (c::Zb A)=Xw A c):=Z9 ⟨rfl,rfl⟩;generalize Jw A c=tv at *
 generalize Xw A c=tb at *
 go_enter Tryz.func92,Tryz.ntmps92;go_upto_region 1 with fail;change Code.wp _ _ _ _ (w.alloc (.cells (ZU a n k c) 29));generalize w.alloc (.cells (ZU a n k c) 29)=W at *
 obtain⟨g0,hg0⟩:=ZR w.heap.size;have HB0:=Z9 hb0;rw[hg0] at hX0;simp only[hg0];have HX:=Z9 hX0;clear hb0 hg0 hX0;have hbu:=QI c W;have hou:=rZ c W;refine wl<|ZV (Z5 g0 1)<|ZL rfl ⟨g0,1,none⟩ (Z4 c) (HX.out.ZP 1) ?_;refine Zr (by kernel_rfl) (some 9) rfl 113 1 #[(0,.tmp 8)] rfl #[(0,Z4 c)] (by kernel_rfl) (.slice (some ⟨W.heap.size,0,none⟩) 1 1) _ hbu ?_;refine ZV (.slice (some ⟨W.heap.size,0,none⟩) 1 1)<|wn ?_;simp only[pu];have hb1:Below W.heap.size W (W.alloc (.cells #[Z4 c] 27)):=(Below.refl _ W).alloc (Nat.le_refl _) _;clear hbu;obtain⟨v1,hv1⟩:=ZR (Value.slice (some ⟨W.heap.size,0,none⟩) 1 1);rw[hv1] at hou ⊢;generalize W.alloc (.cells #[Z4 c] 27)=W1 at *
 have HR1:Hid (Oe W1 W.heap.size v1 (c::Zb (A.take 0))):=Z9 hou;have HB1:=Z9 hb1;have WW:=Z9 (HX.out.below HX.out.lt hb1);clear hv1 hou hb1;go_upto_region 2 with fail;refine wl<|ZV (Z5 g0 0)<|ZL rfl ⟨g0,0,none⟩ (.slice a n k) (WW.out.ZP 0)<|ZA (Z8 n) (Z8 0)<|wn ?_;simp only[pu];go_wp2_with fail;go_loopg [4,13] n (fun gg s4 s13 wx=>∃ (j:Nat) (v4:Value),s4=v4/\s13=Z8 j/\j<=n/\Hid (Oe wx W.heap.size v4 (c::Zb (A.take j)))/\Hid (Below W.heap.size W wx)/\n-j=gg)
 case atStart=>exact⟨0,v1,rfl,rfl,by omega,HR1,HB1,by omega⟩
 case round=>
  obtain⟨j,v4,rfl,rfl,hj,rW,HB,hg⟩:=hrel;have zo:=U5.out;by_cases hlt:j<n
  ·obtain⟨b,off,rfl,-,hrx⟩:=Yv (HA.out.below HB.out) (k:=j) (by rw[HN.out]; exact hlt);have YO:=Z9 (XM hrx);have uK:=Z9 (Je (A:=A) (j:=j) (by rw[HN.out]; exact hlt));generalize aca A j=y at *
   have HG:=Z9 hg;obtain⟨V2,hst,hb2,hbx⟩:=VX wr y;obtain⟨v3,V3,hap,hr3,hb3⟩:=BL (own_below rW.out hb2) (by have:=HB.out.size; have:=hb2.size; omega) y.2.1 (by rw[List.length_cons,Lh,List.length_take]; omega);have HR3:Hid (Oe V3 W.heap.size v3 (c::Zb (A.take (j+1)))):=Z9 (by rw[uK.out,<- List.cons_append]; exact hr3);have HB3:=Z9 ((HB.out.trans (hb2.mono HB.out.size)).trans hb3);have hbu:=QI y.2.1 V2;clear hrx hg hb2 hr3 hb3 uK;go_upto_region 3 with fail;refine wl<|ZJ (Zv rfl (j) (n) dT)<|wn ?_;simp only[pu];go_upto_region 4 with fail;refine wl<|YG (Z5 b (off+j*3)) (YC b off n k j hlt _ _ _ rfl (by kernel_rfl) (by kernel_rfl))<|ZL rfl ⟨b,off+j*3,none⟩ (.agg (Zq y)) (YO.out) ?_;refine Zy rfl (some 6) rfl (Z5 wr.heap.size 0) (wr.alloc (.cells (Zq WA) 60)) (by kernel_rfl) ?_;refine Zu rfl (hst)<|wn ?_;obtain⟨g4,hg4⟩:=ZR wr.heap.size;rw[hg4] at hbx ⊢;obtain⟨g5,hg5⟩:=ZR V2.heap.size;rw[hg5] at hap hbu;clear hst hg4 hg5 YO;go_upto_region 5 with fail;refine wl<|ZA (u4) (Z5 g4 1)<|ZL rfl ⟨g4,1,none⟩ (Z4 y.2.1) (hbx.ZP 1) ?_;refine Zr (by kernel_rfl) (some 20) rfl 113 1 #[(0,.tmp 19)] rfl #[(0,Z4 y.2.1)] (by kernel_rfl) (.slice (some ⟨g5,0,none⟩) 1 1) _ hbu ?_;refine Zh rfl (some 21) rfl 113 rfl (.tmp 17) (.tmp 20) 113 rfl (u4) (.slice (some ⟨g5,0,none⟩) 1 1) (v3) V3 (by kernel_rfl) (by kernel_rfl) hap ?_;refine ZV (v3)<|wn ?_;simp only[pu];clear hap hbu hbx;go_upto_region 6 with fail;refine wl<|Yy (Z8 (j+1:Nat)) (ZF rfl j 1 (by omega))<|ZV (Z8 (j+1:Nat))<|wn ?_;simp only[pu];go_wp2_with fail;go_roundg (n-(j+1))
   case measure=>have:=HG.out; omega
   case rel=>exact⟨j+1,v3,rfl,rfl,hlt,HR3,HB3,rfl⟩
  ·obtain rfl:n=j:=(by omega);obtain⟨al,cl,rfl,hcs,-⟩:=Yq rW.out;rw[<- HN.out,List.take_length] at hcs;have hlen:(c::Zb (A.take n)).length=(c::Zb A).length:=(by rw[<- HN.out,List.take_length]);rw[hlen];have CS:=aT.out al cl wr hcs;rw[Dc.out.1,Dc.out.2] at CS;generalize (c::Zb A).length=m at *
   have Zl:=Z9 (HB0.out.trans (HB.out.mono HB0.out.size));clear hg rW aT Dc hcs HB hlen xq;go_upto_region 3 with fail;refine wl<|ZJ (Zv rfl (n) (n) dF)<|wn ?_;simp only[pu];go_upto_region 7 with fail;refine wl<|ZV (.slice al m cl)<|YS (.tuple #[Z4 tv,.bool tb]) (fun w'=>wr=w') (CS) (fun V9 Xo=>?_);subst Xo;refine WL (Z4 tv) (.bool tb) (Z4 tv) (.bool tb)<|wn ?_;simp only[pu];clear CS;go_wp2_with fail;go_ret2;exact⟨rfl,Zl.out⟩
theorem Jg (a:Option Addr)(k:Nat)(A:List Ac)(c:Int)(w:World)(hR:Cs w a (acc A))(hn:A.length<=4398046511104)(hc:W64 c)(hw:Vj A) :
  Calls Tryz.prog 77 #[.agg (ZU a A.length k c)] w fun e w'=>e=.returned (.tuple #[Z4 (Jw A c),.bool (Xw A c)])/\Below w.heap.size w w':=by
 have hb0:Below w.heap.size w (w.alloc (.cells (ZU a A.length k c) 29)):=(Below.refl _ w).alloc (Nat.le_refl _) _;have hX0:Bx (w.alloc (.cells (ZU a A.length k c) 29)) w.heap.size (ZU a A.length k c) 29:=heap_alloc_last w _;have HA:=Z9 (hR.below hb0);have HW:=Z9 hw;have HC:=Z9 hc;have HT0:Hid (∀ j,0<=tot (c::Zb (A.take j))/\tot (c::Zb (A.take j))<=tot (c::Zb A)):=Z9 fun j=>⟨jE hc hw j,jF hc hw j⟩;have HTS:Hid (∀ j,j<A.length->tot (c::Zb (A.take (j+1)))=tot (c::Zb (A.take j))+(aca A j).2.1):=Z9 fun j h=>xu c h;have HTA:Hid (tot (c::Zb (A.take A.length))=tot (c::Zb A)):=Z9 (rX A c);have HT1:Hid (tot (c::Zb (A.take 0))=c):=Z9 (by rw[List.take_zero,X6]; simp[Zb,tot]);have Dc:Hid ((tot (c::Zb A)<18446744073709551616->Jw A c=tot (c::Zb A)/\Xw A c=true)/\(¬ tot (c::Zb A)<18446744073709551616->Jw A c=0/\Xw A c=false)):=Z9 ⟨fun h=>⟨if_pos h,decide_eq_true h⟩,fun h=>⟨if_neg h,decide_eq_false h⟩⟩;obtain⟨n,hnn⟩:=ZR A.length;have HN:=Z9 hnn;have U5:Hid (n<=4398046511104):=Z9 (by omega);rw[hnn] at hb0 hX0 HA ⊢;clear hR hn hnn hw hc;rw[show A.length=n from HN.out] at HTS HTA;generalize Jw A c=tv at *
 generalize Xw A c=tb at *
 obtain⟨tt,htt⟩:∃ tt:Nat->Int,tt=fun j=>tot (c::Zb (A.take j)):=⟨_,rfl⟩;have htj:∀ j,tot (c::Zb (A.take j))=tt j:=fun j=>by rw[htt]
 simp only[htj] at HT0 HTS HTA HT1;generalize tot (c::Zb A)=tz at *
 clear htt htj;go_enter Tryz.func77,Tryz.ntmps77;go_upto_region 1 with fail;change Code.wp _ _ _ _ (w.alloc (.cells (ZU a n k c) 29));generalize w.alloc (.cells (ZU a n k c) 29)=W at *
 obtain⟨g0,hg0⟩:=ZR w.heap.size;have HB0:=Z9 hb0;rw[hg0] at hX0;simp only[hg0];have HX:=Z9 hX0;clear hb0 hg0 hX0;refine wl<|ZV (Z5 g0 1)<|ZL rfl ⟨g0,1,none⟩ (Z4 c) (HX.out.ZP 1)<|ZV (Z4 c)<|wn ?_;simp only[pu];go_upto_region 2 with fail;refine wl<|ZV (Z5 g0 0)<|ZL rfl ⟨g0,0,none⟩ (.slice a n k) (HX.out.ZP 0)<|ZA (Z8 n) (Z8 0)<|wn ?_;simp only[pu];go_wp2_with fail;go_loopg [4,14] n (fun gg s4 s14 wx=>∃ j:Nat,s4=Z4 (tt j)/\s14=Z8 j/\j<=n/\Hid (tt j<18446744073709551616)/\Hid (Below W.heap.size W wx)/\n-j=gg)
 case atStart=>exact⟨0,by rw[HT1.out],rfl,by omega,Z9 (by rw[HT1.out]; have:=HC.out.2; omega),Z9 (Below.refl _ _),by omega⟩
 case round=>
  obtain⟨j,rfl,rfl,hj,Df,HB,hg⟩:=hrel;have zo:=U5.out;by_cases hlt:j<n
  ·obtain⟨b,off,rfl,-,hrx⟩:=Yv (HA.out.below HB.out) (k:=j) (by rw[HN.out]; exact hlt);have YO:=Z9 (XM hrx);have hts:=HTS.out j hlt;have hyw:=(HW.out j (by rw[HN.out]; exact hlt)).1;generalize aca A j=y at *
   have HG:=Z9 hg;obtain⟨V2,hst,hb2,hbx⟩:=VX wr y;have HB2:=Z9 (HB.out.trans (hb2.mono HB.out.size));have CA:=zB (tt j) y.2.1 V2 ⟨(HT0.out j).1,by have:=Df.out; omega⟩ hyw;clear hrx hg hb2 hyw;go_upto_region 3 with fail;refine wl<|ZJ (Zv rfl (j) (n) dT)<|wn ?_;simp only[pu];go_upto_region 4 with fail;refine wl<|YG (Z5 b (off+j*3)) (YC b off n k j hlt _ _ _ rfl (by kernel_rfl) (by kernel_rfl))<|ZL rfl ⟨b,off+j*3,none⟩ (.agg (Zq y)) (YO.out) ?_;refine Zy rfl (some 6) rfl (Z5 wr.heap.size 0) (wr.alloc (.cells (Zq WA) 60)) (by kernel_rfl) ?_;refine Zu rfl (hst)<|wn ?_;obtain⟨g4,hg4⟩:=ZR wr.heap.size;rw[hg4] at hbx ⊢;clear hst hg4 YO;by_cases hov:tt j+y.2.1<18446744073709551616
   ·rw[show Ns (tt j) y.2.1=tt (j+1) by rw[hts]; exact if_pos hov,show Nr (tt j) y.2.1=true from decide_eq_true hov] at CA;go_upto_region 5 with fail;refine wl<|ZA (Z4 (tt j)) (Z5 g4 1)<|ZL rfl ⟨g4,1,none⟩ (Z4 y.2.1) (hbx.ZP 1)<|YS (.tuple #[Z4 (tt (j+1)),ZW]) (fun w'=>V2=w') (CA) (fun V9 Xo=>?_);subst Xo;refine SG (.tuple #[Z4 (tt (j+1)),ZW]) (Z4 (tt (j+1))) ZW (Z4 (tt (j+1))) ZW<|wn ?_;simp only[pu];clear hbx CA;go_upto_region 6 with fail;refine wl<|ZA ZW ZY<|wn ?_;simp only[pu];have aH2:Hid (tt (j+1)<18446744073709551616):=Z9 (by rw[hts]; exact hov);clear hts hov;go_upto_region 8 with fail;refine wl<|ZA (Z4 (tt (j+1))) (Z4 (tt (j+1)))<|wn ?_;simp only[pu];go_upto_region 9 with fail;refine wl<|Yy (Z8 (j+1:Nat)) (ZF rfl j 1 (by omega))<|ZV (Z8 (j+1:Nat))<|wn ?_;simp only[pu];go_wp2_with fail;go_roundg (n-(j+1))
    case measure=>have:=HG.out; omega
    case rel=>exact⟨j+1,rfl,rfl,hlt,aH2,HB2,rfl⟩
   ·rw[show Ns (tt j) y.2.1=0 from if_neg hov,show Nr (tt j) y.2.1=false from decide_eq_false hov] at CA;go_upto_region 5 with fail;refine wl<|ZA (Z4 (tt j)) (Z5 g4 1)<|ZL rfl ⟨g4,1,none⟩ (Z4 y.2.1) (hbx.ZP 1)<|YS (.tuple #[Z4 0,ZY]) (fun w'=>V2=w') (CA) (fun V9 Xo=>?_);subst Xo;refine SG (.tuple #[Z4 0,ZY]) (Z4 0) ZY (Z4 0) ZY<|wn ?_;simp only[pu];clear hbx CA;go_upto_region 6 with fail;refine wl<|ZA ZY ZW<|wn ?_;simp only[pu];have hz:=Dc.out.2 (by have h8:=(HT0.out (j+1)).2; rw[hts] at h8; omega);obtain⟨rfl,rfl⟩:=hz;have Zl:=Z9 (HB0.out.trans (HB2.out.mono HB0.out.size));clear hts hov Dc;go_upto_region 7 with fail;refine wl<|ZA (Z4 0) ZY<|wn ?_;simp only[pu];go_wp2_with fail;go_ret2;exact⟨rfl,Zl.out⟩
  ·obtain rfl:n=j:=(by omega);have htn:=HTA.out;have hz:=Dc.out.1 (by rw[<- htn]; exact Df.out);obtain⟨rfl,rfl⟩:=hz;subst htn;have Zl:=Z9 (HB0.out.trans (HB.out.mono HB0.out.size));clear hg Dc HB;go_upto_region 3 with fail;refine wl<|ZJ (Zv rfl (n) (n) dF)<|wn ?_;simp only[pu];go_upto_region 10 with fail;refine wl<|Yr (Z4 (tt n)) (Z4 (tt n)) ZW<|wn ?_;simp only[pu];go_wp2_with fail;go_ret2;exact⟨rfl,Zl.out⟩
end Go.Proofs.YtnhlpahoomcgnaaGreat.Lg
