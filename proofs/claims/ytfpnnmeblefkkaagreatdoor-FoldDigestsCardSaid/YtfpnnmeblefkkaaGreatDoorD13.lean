/-
  Texts joined.
-/
import Derived.Test.YtfpnnmeblefkkaaGreatDoorD12
set_option maxRecDepth 100000
set_option maxHeartbeats 8000000
set_option linter.unusedSimpArgs false
set_option linter.unusedVariables false
namespace Go.Proofs.YtfpnnmeblefkkaaGreatDoor.Lg
open Go.RowKit
def Ze (A:List Ac):List Int:=A.map (·.2.1)
def Xp (A:List Ac)(c:Int):Bool:=KQ (c::Ze A)
def Jj (A:List Ac)(c:Int):Int:=KP (c::Ze A)
def vP (A:List Ac)(c:Int):Int:=if Xp A c=true then 0 else 6
def YS (A:List Ac)(s:ByteArray):Nat:=A.findIdx (fun x=>decide (x.1=s))
def Yi (A:List Ac)(s:ByteArray):Nat:=A.findIdx (fun x=>!Ur x.1 s)
def Yt (A:List Ac)(a:Ac):List Ac:=if YS A a.1<A.length then A.set (YS A a.1) a else A.take (Yi A a.1)++a::A.drop (Yi A a.1)
def Wx (A:List Ac)(i:Nat):Int:=
 if isName (nums (aca A i).1)=false then 10
 else if 0<i/\(aca A (i-1)).1=(aca A i).1 then 8
 else if 0<i/\Ur (aca A i).1 (aca A (i-1)).1=true then 1
 else 0
def rJ (f:Nat->Int):Nat->Int
 | 0=>0
 | n+1=>if rJ f n≠0 then rJ f n else f n
theorem GX {f:Nat->Int}:∀ {n:Nat},(∀ j,j<n->f j=0)->rJ f n=0
 | 0,_=>rfl
 | n+1,h=>by
  unfold rJ;rw[GX (n:=n) (fun j hj=>h j (by omega)),if_neg (by simp)];exact h n (by omega)
theorem xY {f:Nat->Int}:∀ {n:Nat},rJ f n=0->∀ j,j<n->f j=0
 | 0,_,j,hj=>by omega
 | n+1,h,j,hj=>by
  unfold rJ at h;by_cases h1:rJ f n=0
  ·rw[h1,if_neg (by simp)] at h;rcases Nat.lt_or_ge j n with h2 | h2
   ·exact xY h1 j h2
   ·have:j=n:=(by omega);subst this; exact h
  ·rw[if_pos h1] at h;exact absurd h h1
theorem yh {f:Nat->Int}{i:Nat}:∀ {n:Nat},i<n->(∀ j,j<i->f j=0)->f i≠0->rJ f n=f i
 | 0,hi,_,_=>by omega
 | n+1,hi,h,he=>by
  unfold rJ;rcases Nat.lt_or_ge i n with h1 | h1
  ·have e:=yh h1 h he;rw[e,if_pos he]
  ·have:i=n:=(by omega);subst this;rw[GX h,if_neg (by simp)]
def YE (A:List Ac)(c:Int):Int:=if 256<A.length then 3 else if rJ (Wx A) A.length≠0 then rJ (Wx A) A.length else vP A c
def Jk (A:List Ac):Prop:=∀ i j,i<j->j<A.length->Ur (aca A i).1 (aca A j).1=true
def Bg (A:List Ac):Prop:=∀ i,i<A.length->isName (nums (aca A i).1)=true
theorem VE {A:List Ac}{c:Int}(h:YE A c=0):A.length<=256/\Jk A/\Bg A/\Xp A c=true:=by
 unfold YE at h;by_cases h1:256<A.length
 ·rw[if_pos h1] at h; cases h
 rw[if_neg h1] at h;by_cases h2:rJ (Wx A) A.length=0
 ·rw[h2,if_neg (by simp)] at h;have h3:=xY h2;have hn:Bg A:=fun i hi=>by
   have:=h3 i hi;unfold Wx at this;by_cases h4:isName (nums (aca A i).1)=true
   ·exact h4
   ·rw[if_pos (by simpa using h4)] at this; cases this
  have hs:∀ i,i+1<A.length->Ur (aca A i).1 (aca A (i+1)).1=true:=fun i hi=>by
   have:=h3 (i+1) hi;unfold Wx at this;rw[if_neg (by rw[hn (i+1) hi]; simp),show i+1-1=i by omega] at this;by_cases h4:(aca A i).1=(aca A (i+1)).1
   ·rw[if_pos ⟨by omega,h4⟩] at this; cases this
   rw[if_neg (fun q=>h4 q.2)] at this;by_cases h5:Ur (aca A (i+1)).1 (aca A i).1=true
   ·rw[if_pos ⟨by omega,h5⟩] at this; cases this
   exact GU (by simpa using h5) (fun e=>h4 e.symm)
  refine⟨by omega,fun i j hij hj=>?_,hn,?_⟩
  ·obtain⟨d,rfl⟩:∃ d,j=i+1+d:=⟨j-i-1,by omega⟩;clear hij;induction d with
   | zero=>exact hs i hj
   | succ d ih=>exact Nw (ih (by omega)) (hs (i+1+d) hj)
  ·unfold vP at h;by_cases h5:Xp A c=true
   ·exact h5
   ·rw[if_neg h5] at h; cases h
 ·rw[if_pos h2] at h;exact absurd h h2
theorem GR {A:List Ac}{c:Int}(h1:A.length<=256)(h2:Jk A)(h3:Bg A)(h4:Xp A c=true):YE A c=0:=by
 unfold YE;rw[if_neg (by omega),GX,if_neg (by simp)]
 ·unfold vP; rw[if_pos h4]
 intro j hj;unfold Wx;rw[if_neg (by rw[h3 j hj]; simp)];by_cases h0:0<j
 ·have:=h2 (j-1) j (by omega) hj;rw[if_neg (fun q=>ah0 this q.2),if_neg (fun q=>by rw[pV this] at q; cases q.2)]
 ·rw[if_neg (fun q=>h0 q.1),if_neg (fun q=>h0 q.1)]
theorem XF {A:List Ac}{i:Nat}(h:i<A.length):aca A i=A[i]:=getD_lt A i _ h
theorem qw {A:List Ac}{s:ByteArray}{i:Nat}(h:i<A.length)(hb:∀ j,j<i->(aca A j).1≠s)(hi:(aca A i).1=s):YS A s=i:=by
 unfold YS;rw[List.findIdx_eq h];refine⟨by rw[<- XF h]; exact decide_eq_true hi,fun j hj=>?_⟩;rw[<- XF (by omega)];exact decide_eq_false (hb j hj)
theorem qo {A:List Ac}{s:ByteArray}(hb:∀ j,j<A.length->(aca A j).1≠s):YS A s=A.length:=by
 unfold YS;rw[List.findIdx_eq_length];intro x hx;obtain⟨j,hj,rfl⟩:=List.mem_iff_getElem.1 hx;rw[<- XF hj];exact decide_eq_false (hb j hj)
theorem Pj {A:List Ac}{s:ByteArray}(h:YS A s<A.length):(aca A (YS A s)).1=s/\∀ j,j<YS A s->(aca A j).1≠s:=by
 refine⟨?_,fun j hj=>?_⟩
 ·have:=List.findIdx_getElem (w:=h);rw[XF h];exact of_decide_eq_true this
 ·have:=List.not_of_lt_findIdx hj;rw[XF (by omega)];simpa using this
theorem pU (A:List Ac)(s:ByteArray):YS A s<=A.length:=List.findIdx_le_length
theorem G5 {A:List Ac}{s:ByteArray}(h:¬ YS A s<A.length):∀ j,j<A.length->(aca A j).1≠s:=fun j hj e=>by
 have h1:=pU A s;have h2:YS A s=A.length:=by omega
 unfold YS at h2;rw[List.findIdx_eq_length] at h2;have:=h2 (aca A j) (RJ hj);exact of_decide_eq_false this e
theorem Ak {A:List Ac}{s:ByteArray}{i:Nat}(h:i<=A.length)(hb:∀ j,j<i->Ur (aca A j).1 s=true)(hi:i<A.length->Ur (aca A i).1 s=false):Yi A s=i:=by
 unfold Yi;rcases Nat.lt_or_ge i A.length with h1 | h1
 ·rw[List.findIdx_eq h1];refine⟨by rw[<- XF h1,hi h1]; rfl,fun j hj=>?_⟩;rw[<- XF (by omega),hb j hj];rfl
 ·have:i=A.length:=by omega
  subst this;rw[List.findIdx_eq_length];intro x hx;obtain⟨j,hj,rfl⟩:=List.mem_iff_getElem.1 hx;rw[<- XF hj,hb j hj];rfl
theorem QV (A:List Ac)(s:ByteArray):Yi A s<=A.length:=List.findIdx_le_length
theorem pR {A:List Ac}{s:ByteArray}{j:Nat}(hj:j<Yi A s):Ur (aca A j).1 s=true:=by
 have h1:=QV A s;have:=List.not_of_lt_findIdx hj;rw[XF (by omega)];simpa using this
theorem ah1 {A:List Ac}{s:ByteArray}(h:Yi A s<A.length):Ur (aca A (Yi A s)).1 s=false:=by
 have this:(!Ur (A[Yi A s]'h).1 s)=true:=List.findIdx_getElem (w:=h);rw[XF h]
 revert this
 cases Ur (A[Yi A s]'h).1 s <;> simp
theorem yE {A:List Ac}{s:ByteArray}(h:Jk A)(hf:YS A s<A.length):Yi A s=YS A s:=by
 obtain⟨h1,h2⟩:=Pj hf;refine Ak (pU A s) (fun j hj=>?_) (fun _=>?_)
 ·have:=h j _ hj hf;rwa [h1] at this
 ·rw[h1,Lu]
theorem gJ {A:List Ac}{s:ByteArray}(h:Jk A):(decide (YS A s<A.length))=(decide (Yi A s<A.length/\(aca A (Yi A s)).1=s)):=by
 rw[decide_eq_decide];constructor
 ·intro hf;rw[yE h hf];exact⟨hf,(Pj hf).1⟩
 ·rintro⟨h1,h2⟩;refine Decidable.byContradiction fun hn=>G5 hn _ h1 h2
theorem UN {A:List Ac}{a:Ac}(h:YS A a.1<A.length):Yt A a=A.set (YS A a.1) a:=if_pos h
theorem Qp {A:List Ac}{a:Ac}(h:¬ YS A a.1<A.length):Yt A a=A.take (Yi A a.1)++a::A.drop (Yi A a.1):=if_neg h
theorem Wv (A:List Ac)(a:Ac):(Yt A a).length=if YS A a.1<A.length then A.length else A.length+1:=by
 by_cases h:YS A a.1<A.length
 ·rw[UN h,if_pos h,List.length_set]
 ·have:=QV A a.1;rw[Qp h,if_neg h,List.length_append,List.length_cons,List.length_take,List.length_drop];omega
theorem GN {A:List Ac}{i j:Nat}{a:Ac}(h:i<A.length):aca (A.set i a) j=if j=i then a else aca A j:=by
 unfold aca;rw[List.getD_eq_getElem?_getD,List.getElem?_set,List.getD_eq_getElem?_getD];by_cases e:j=i
 ·subst e; rw[if_pos rfl,if_pos h,if_pos rfl]; rfl
 ·rw[if_neg (fun q=>e q.symm),if_neg e]
theorem GL {A:List Ac}{i j:Nat}{a:Ac}(h:i<=A.length):aca (A.take i++a::A.drop i) j=if j<i then aca A j else if j=i then a else aca A (j-1):=by
 unfold aca;have ht:(A.take i).length=i:=by rw[List.length_take]; omega
 simp only[List.getD_eq_getElem?_getD];by_cases h1:j<i
 ·rw[if_pos h1,List.getElem?_append_left (by omega),List.getElem?_take,if_pos h1]
 rw[if_neg h1,List.getElem?_append_right (by omega),ht];by_cases h2:j=i
 ·subst h2; rw[if_pos rfl,Nat.sub_self]; rfl
 ·rw[if_neg h2];obtain⟨d,rfl⟩:∃ d,j=i+1+d:=⟨j-i-1,by omega⟩;rw[show i+1+d-i=d+1 by omega,List.getElem?_cons_succ,List.getElem?_drop,show i+1+d-1=i+d by omega]
theorem OC {A:List Ac}{a:Ac}(h:Jk A):Jk (Yt A a):=by
 have hl:=Wv A a;by_cases hf:YS A a.1<A.length
 ·rw[if_pos hf] at hl;intro i j hij hj;rw[UN hf,GN hf,GN hf];obtain⟨h1,-⟩:=Pj hf;by_cases e1:i=YS A a.1
  ·subst e1;rw[if_pos rfl,if_neg (by omega),<- h1];exact h _ _ hij (by omega)
  ·rw[if_neg e1];by_cases e2:j=YS A a.1
   ·subst e2;rw[if_pos rfl,<- h1];exact h _ _ hij (by omega)
   ·rw[if_neg e2];exact h _ _ hij (by omega)
 ·rw[if_neg hf] at hl;have hle:=QV A a.1;have hge:∀ k,Yi A a.1<=k->k<A.length->Ur a.1 (aca A k).1=true:=fun k h1 h2=>by
   have hn:=G5 hf;have h3:=ah1 (A:=A) (s:=a.1) (by omega);have h4:=GU h3 (hn _ (by omega));rcases Nat.lt_or_ge (Yi A a.1) k with h5 | h5
   ·exact Nw h4 (h _ _ h5 h2)
   ·have:k=Yi A a.1:=(by omega);rw[this]; exact h4
  intro i j hij hj;rw[Qp hf,GL hle,GL hle];by_cases e1:j<Yi A a.1
  ·rw[if_pos (by omega),if_pos e1];exact h _ _ hij (by omega)
  rw[if_neg e1];by_cases e2:j=Yi A a.1
  ·rw[if_pos e2,if_pos (by omega)];exact pR (by omega)
  rw[if_neg e2];by_cases e3:i<Yi A a.1
  ·rw[if_pos e3];exact Nw (pR e3) (hge _ (by omega) (by omega))
  rw[if_neg e3];by_cases e4:i=Yi A a.1
  ·rw[if_pos e4];exact hge _ (by omega) (by omega)
  ·rw[if_neg e4];exact h _ _ (by omega) (by omega)
theorem OB {A:List Ac}{a:Ac}(h:Bg A)(ha:isName (nums a.1)=true):Bg (Yt A a):=by
 have hl:=Wv A a;intro i hi;by_cases hf:YS A a.1<A.length
 ·rw[if_pos hf] at hl;rw[UN hf,GN hf];by_cases e:i=YS A a.1
  ·rw[if_pos e]; exact ha
  ·rw[if_neg e]; exact h i (by omega)
 ·rw[if_neg hf] at hl;rw[Qp hf,GL (QV A a.1)];by_cases e:i<Yi A a.1
  ·rw[if_pos e]; exact h i (by have:=QV A a.1; omega)
  rw[if_neg e];by_cases e2:i=Yi A a.1
  ·rw[if_pos e2]; exact ha
  ·rw[if_neg e2]; exact h _ (by omega)
def WJ (B:List Ac):List Ac->List Ac×Int
 | []=>(B,0)
 | a::r=>if isName (nums a.1)=false then ([],10) else if YS B a.1<B.length then ([],8) else WJ (Yt B a) r
def Q7 (A:List Ac):List Ac×Int:=
 if 256<A.length then ([],3) else if (WJ [] A).2≠0 then ([],(WJ [] A).2) else if Xp (WJ [] A).1 0=true then ((WJ [] A).1,0) else ([],6)
def OH (A:List Ac)(c:Int)(a:Ac):List Ac×Int×Int:=
 if YE A c≠0 then ([],0,YE A c) else if isName (nums a.1)=false then ([],0,10) else if 256<(Yt A a).length then ([],0,3) else if Xp (Yt A a) c=true then (Yt A a,c,0) else ([],0,6)
def Zi (A:List Ac)(s:ByteArray):Ac×Bool:=if YS A s<A.length then (aca A (YS A s),true) else (WE,false)
theorem pO:∀ (A B:List Ac),Jk B->Bg B->(WJ B A).2=0->Jk (WJ B A).1/\Bg (WJ B A).1/\(WJ B A).1.length=B.length+A.length
 | [],B,h1,h2,h3=>⟨h1,h2,rfl⟩
 | a::r,B,h1,h2,h3=>by
  unfold WJ at h3 ⊢;by_cases e1:isName (nums a.1)=false
  ·rw[if_pos e1] at h3; cases h3
  rw[if_neg e1] at h3 ⊢;by_cases e2:YS B a.1<B.length
  ·rw[if_pos e2] at h3; cases h3
  rw[if_neg e2] at h3 ⊢;obtain⟨q1,q2,q3⟩:=pO r (Yt B a) (OC h1) (OB h2 (by simpa using e1)) h3;refine⟨q1,q2,?_⟩;rw[q3,Wv,if_neg e2,List.length_cons];omega
theorem yD:Jk []:=fun i j h1 h2=>by simp at h2
theorem yC:Bg []:=fun i h=>by simp at h
theorem gG {A:List Ac}(h:(Q7 A).2=0):YE (Q7 A).1 0=0/\(Q7 A).1.length=A.length:=by
 unfold Q7 at h ⊢;by_cases e1:256<A.length
 ·rw[if_pos e1] at h; cases h
 rw[if_neg e1] at h ⊢;by_cases e2:(WJ [] A).2=0
 ·rw[e2,if_neg (by simp)] at h ⊢;by_cases e3:Xp (WJ [] A).1 0=true
  ·rw[if_pos e3];obtain⟨q1,q2,q3⟩:=pO A [] yD yC e2;have q4:(WJ [] A).1.length=A.length:=(by simpa using q3);exact⟨GR (by rw[q4]; omega) q1 q2 e3,q4⟩
  ·rw[if_neg e3] at h; cases h
 ·rw[if_pos e2] at h;exact absurd h e2
theorem xX {A:List Ac}{c:Int}{a:Ac}(h:(OH A c a).2.2=0):OH A c a=(Yt A a,c,0)/\YE A c=0/\isName (nums a.1)=true/\YE (Yt A a) c=0:=by
 unfold OH at h ⊢;by_cases e1:YE A c=0
 ·rw[e1,if_neg (by simp)] at h ⊢;by_cases e2:isName (nums a.1)=false
  ·rw[if_pos e2] at h; cases h
  rw[if_neg e2] at h ⊢;by_cases e3:256<(Yt A a).length
  ·rw[if_pos e3] at h; cases h
  rw[if_neg e3] at h ⊢;by_cases e4:Xp (Yt A a) c=true
  ·rw[if_pos e4];obtain⟨-,q2,q3,-⟩:=VE e1;exact⟨rfl,rfl,by simpa using e2,GR (by omega) (OC q2) (OB q3 (by simpa using e2)) e4⟩
  ·rw[if_neg e4] at h; cases h
 ·rw[if_pos e1] at h;exact absurd h e1
theorem qF {A:List Ac}{a:Ac}(h:A.length<=256):(256<(Yt A a).length)↔(¬ YS A a.1<A.length/\A.length=256):=by
 rw[Wv];by_cases hf:YS A a.1<A.length
 ·rw[if_pos hf];exact⟨fun q=>by omega,fun q=>absurd hf q.1⟩
 ·rw[if_neg hf];exact⟨fun q=>⟨hf,by omega⟩,fun q=>by omega⟩
def Tz (A:List Ac):Prop:=∀ i,i<A.length->W64 (aca A i).2.1/\W64 (aca A i).2.2
theorem Qo {A:List Ac}(h:Tz A):∀ x,x∈A->W64 x.2.1/\W64 x.2.2:=fun x hx=>by
 obtain⟨j,hj,rfl⟩:=List.mem_iff_getElem.1 hx;rw[<- XF hj];exact h j hj
theorem Hl {A:List Ac}(h:∀ x,x∈A->W64 x.2.1/\W64 x.2.2):Tz A:=fun i hi=>h _ (RJ hi)
theorem Ug:Tz []:=fun i h=>by simp at h
theorem put_mem {A:List Ac}{a x:Ac}(h:x∈Yt A a):x=a∨x∈A:=by
 unfold Yt at h
 split at h
 ·rcases List.mem_or_eq_of_mem_set h with h1 | h1
  ·exact .inr h1
  ·exact .inl h1
 ·rcases List.mem_append.1 h with h1 | h1
  ·exact .inr (List.mem_of_mem_take h1)
  ·rcases List.mem_cons.1 h1 with h2 | h2
   ·exact .inl h2
   ·exact .inr (List.mem_of_mem_drop h2)
theorem EK {A:List Ac}{a:Ac}(h:Tz A)(ha:W64 a.2.1/\W64 a.2.2):Tz (Yt A a):=Hl fun x hx=>(put_mem hx).elim (fun e=>e ▸ ha) (Qo h x)
theorem qx:∀ (A B:List Ac),Tz B->(∀ x,x∈A->W64 x.2.1/\W64 x.2.2)->Tz (WJ B A).1
 | [],B,h1,h2=>h1
 | a::r,B,h1,h2=>by
  unfold WJ
  split
  ·exact Ug
  split
  ·exact Ug
  exact qx r (Yt B a) (EK h1 (h2 a (List.mem_cons_self ..))) (fun x hx=>h2 x (List.mem_cons_of_mem _ hx))
theorem ah2 {A:List Ac}(h:Tz A):Tz (Q7 A).1:=by
 unfold Q7
 split
 ·exact Ug
 split
 ·exact Ug
 split
 ·exact qx A [] Ug (Qo h)
 ·exact Ug
end Go.Proofs.YtfpnnmeblefkkaaGreatDoor.Lg
namespace Go.Proofs.YtfpnnmeblefkkaaGreatDoor.Lg
attribute [local irreducible] wpList wpQuiet
open Go.RowKit
theorem VN (V:World)(x:Ac):∃ V2,(Instr.storeAt 56 (Z5 V.heap.size 0) (.agg (Zq x))).run Tryz.prog (V.alloc (.cells (Zq WE) 56))=.ok () V2/\Below V.heap.size V V2/\Bx V2 V.heap.size (Zq x) 56:=
 have hb:Bx (V.alloc (.cells (Zq WE) 56)) V.heap.size (Zq WE) 56:=heap_alloc_last V _
 ⟨_,(XP hb).1,ZU ((Below.refl _ V).alloc (Nat.le_refl _) _) (Nat.le_refl _) _,(XP hb).2⟩
abbrev ZT (a:Option Addr)(n k:Nat)(c:Int):Array Value:=#[.slice a n k,Z7 c]
theorem ZC {w:World}{g:Nat}{a a':Option Addr}{n n' k k':Nat}{c c':Int}(h:Bx w g (ZT a n k c) 30):(Instr.storeAt 30 (Z5 g 0) (.agg (ZT a' n' k' c'))).run Tryz.prog w=.ok () (w.setRow g (ZT a' n' k' c'))/\Bx (w.setRow g (ZT a' n' k' c')) g (ZT a' n' k' c') 30:=
 ⟨Yj h rfl (by simp[Value.oneCell']) (by kernel_rfl),h.set⟩
theorem Vk (V:World)(a:Option Addr)(n k:Nat)(c:Int):∃ V2,(Instr.storeAt 30 (Z5 V.heap.size 0) (.agg (ZT a n k c))).run Tryz.prog (V.alloc (.cells (ZT none 0 0 0) 30))=.ok () V2/\Below V.heap.size V V2/\Bx V2 V.heap.size (ZT a n k c) 30:=
 have hb:Bx (V.alloc (.cells (ZT none 0 0 0) 30)) V.heap.size (ZT none 0 0 0) 30:=heap_alloc_last V _
 ⟨_,(ZC hb).1,ZU ((Below.refl _ V).alloc (Nat.le_refl _) _) (Nat.le_refl _) _,(ZC hb).2⟩
theorem ZO {w:World}{g:Nat}{a:Option Addr}{n k:Nat}{c:Int}(h:Bx w g (ZT a n k c) 30):(Instr.loadAt 30 (Z5 g 0)).run Tryz.prog w=.ok (.agg (ZT a n k c)) w:=
 run_loadAt_mid w g 0 30 [.slice a n k,Z7 c] _ (fun j v hv=>by
  rw[cell_of_row w g _ _ _ (0,0) h];simpa using hv) Tryz.underlying30 rfl (by kernel_rfl)
theorem pX:∀ (x y:List UInt8),(Lib.compareBytes x y<0↔x<y)/\(Lib.compareBytes x y=0↔x=y)
 | [],[]=>by simp[Lib.compareBytes]
 | [],_::_=>by simp[Lib.compareBytes]
 | _::_,[]=>by simp[Lib.compareBytes]
 | a::x,b::y=>by
  obtain⟨h1,h2⟩:=pX x y;unfold Lib.compareBytes;by_cases e1:a<b
  ·rw[if_pos e1];have:a≠b:=fun e=>(by subst e; exact absurd e1 (UInt8.lt_irrefl _));simp[List.cons_lt_cons_iff,e1,this]
  rw[if_neg e1];by_cases e2:b<a
  ·rw[if_pos e2];have h3:a≠b:=fun e=>(by subst e; exact absurd e2 (UInt8.lt_irrefl _));simp[List.cons_lt_cons_iff,e1,h3]
  ·rw[if_neg e2];have h3:a=b:=UInt8.le_antisymm (UInt8.not_lt.1 e2) (UInt8.not_lt.1 e1);subst h3;simp[List.cons_lt_cons_iff,e1,h1,h2]
def GV (a b:ByteArray):Int:=Lib.compareBytes a.data.toList b.data.toList
theorem gU (a b:ByteArray):decide (GV a b<0)=Ur a b:=decide_eq_decide.2 (pX _ _).1
theorem gQ (a b:ByteArray):decide (GV a b=0)=decide (a=b):=decide_eq_decide.2 ((pX _ _).2.trans ⟨fun h=>ByteArray.ext (Array.toList_inj.1 h),fun h=>by rw[h]⟩)
theorem ag8 (a b:ByteArray)(w:World):Calls Tryz.prog 157 #[.string a,.string b] w fun e w'=>e=.returned (Z8 (GV a b))/\w=w':=by
 go_enter Tryz.func157,Tryz.ntmps157;go_wp2;rw[run_callFunc_extern Tryz.func158 (by kernel_rfl) (by kernel_rfl) (by kernel_rfl) (e:=Extern.BytealgCompare.compare) (by kernel_rfl),Lib.run_compareString];simp only[Result.andThen];rw[Oper.upon_value];go_wp2;go_ret;exact⟨rfl,rfl⟩
theorem av7 (a b:ByteArray)(w:World):Calls Tryz.prog 150 #[.string a,.string b] w fun e w'=>e=.returned (Z8 (GV a b))/\w=w':=by
 have CB:=ag8 a b w;generalize GV a b=q at *
 go_enter Tryz.func150,Tryz.ntmps150;go_upto_region 1 with fail;refine wl<|ZB (.string a) (.string b)<|YM (Z8 q) (fun w'=>w=w') (CB) (fun V9 VK=>?_);subst VK;refine ZV (Z8 q)<|wn ?_;simp only[pu];clear CB;go_wp2_with fail;go_ret;exact⟨rfl,rfl⟩
theorem Ew (x:Ac)(s:ByteArray)(w:World):Calls Tryz.prog 149 #[.agg (Zq x),.string s] w fun e w'=>e=.returned (Z8 (GV x.1 s))/\Below w.heap.size w w':=by
 have hb0:Below w.heap.size w (w.alloc (.cells (Zq x) 56)):=(Below.refl _ w).alloc (Nat.le_refl _) _;have hX:Bx (w.alloc (.cells (Zq x) 56)) w.heap.size (Zq x) 56:=heap_alloc_last w _;have CB:=av7 x.1 s (w.alloc (.cells (Zq x) 56));obtain⟨q,hq⟩:=ZQ (GV x.1 s);rw[hq] at CB ⊢;clear hq;go_enter Tryz.func149,Tryz.ntmps149;go_upto_region 1 with fail;change Code.wp _ _ _ _ (w.alloc (.cells (Zq x) 56));generalize w.alloc (.cells (Zq x) 56)=W at *
 have HB:=Z9 hb0;clear hb0;refine wl<|ZV (Z5 w.heap.size 0)<|ZL rfl ⟨w.heap.size,0,none⟩ (.string x.1) (hX.ZR 0)<|ZV (.string s)<|YM (Z8 q) (fun w'=>W=w') (CB) (fun V9 VK=>?_);subst VK;refine ZV (Z8 q)<|wn ?_;simp only[pu];clear CB hX;go_wp2_with fail;go_ret;exact⟨rfl,HB.out⟩
theorem Vz {ρ:Operand->Value}{o:Oper}{x:Operand}(ho:o.op=.convert 3 140 x)(a:Nat)(h:a<=9223372036854775807)(hx:ρ x=Z8 a)(w:World):(execOp ρ o).run Tryz.prog w=.ok (.value (Z7 a)) w:=by
 have e:IntKind.u64.wrap (a:Int)=a:=by rw[IntKind.wrap_u64]; omega
 unfold execOp;simp only[ho,hx];go_simp
theorem gK {ρ:Operand->Value}{o:Oper}{x:Operand}(ho:o.op=.convert 140 3 x)(a:Nat)(h:a<=9223372036854775807)(hx:ρ x=Z7 a)(w:World):(execOp ρ o).run Tryz.prog w=.ok (.value (Z8 a)) w:=by
 have e:IntKind.i64.wrap (a:Int)=a:=by rw[IntKind.wrap_i64]; omega
 unfold execOp;simp only[ho,hx];go_simp
theorem ag9 {ρ:Operand->Value}{o:Oper}{x y:Operand}(ho:o.op=.binOp .shr 140 x y 140)(a:Nat)(h:a<=9223372036854775807)(hx:ρ x=Z7 a)(hy:ρ y=Z7 1)(w:World):(execOp ρ o).run Tryz.prog w=.ok (.value (Z7 (a / 2:Nat))) w:=by
 unfold execOp;simp only[ho,hx,hy];go_simp
theorem aK7 (a:Option Addr)(k:Nat)(A:List Ac)(s:ByteArray)(w:World)(hR:Cs w a (acc A))(hs:Jk A)(hn:A.length<=1000000) :
  Calls Tryz.prog 148 #[.slice a A.length k,.string s,.func (.func 149) #[] #[]] w fun e w'=>e=.returned (.tuple #[Z8 (Yi A s),.bool (decide (YS A s<A.length))])/\Below w.heap.size w w':=by
 have HA:=Z9 hR;have pW:=Z9 (fun i=>gU (aca A i).1 s);have HEQ:=Z9 (fun i=>gQ (aca A i).1 s);have HS:=Z9 hs;obtain⟨n,hnn⟩:=ZQ A.length;have HN:=Z9 hnn;have Ui:Hid (n<=1000000):=Z9 (by omega);obtain⟨lL,hlL⟩:=ZQ (Yi A s);obtain⟨fF,vM⟩:=ZQ (decide (YS A s<n));have EW:Hid (∀ i,i<=n->(∀ t,t<i->Ur (aca A t).1 s=true)->(∀ t,i<=t->t<n->Ur (aca A t).1 s=false)->i=lL/\fF=decide (i<n/\(aca A i).1=s)):=Z9 fun i h1 h2 h3=>by
  have e:=Ak (A:=A) (s:=s) (i:=i) (by omega) h2 (fun h=>h3 i (Nat.le_refl _) (by omega));refine⟨by rw[<- hlL,e],?_⟩;rw[<- vM,<- hnn,gJ hs,e]
 rw[hnn,hlL,vM];clear hlL vM hR hs hn hnn;go_enter Tryz.func148,Tryz.ntmps148;go_upto_region 1 with fail;refine wl<|Yr (.slice a n k) (Z8 n) (Z8 n)<|wn ?_;simp only[pu];go_upto_region 2 with fail;refine wl<|Yr (Z8 n) (Z8 0) (Z8 n)<|wn ?_;simp only[pu];go_wp2_with fail;go_loopg [9,10] n (fun gg s9 s10 wx=>∃ i j:Nat,s9=Z8 i/\s10=Z8 j/\i<=j/\j<=n/\Hid ((∀ t,t<i->Ur (aca A t).1 s=true)/\(∀ t,j<=t->t<n->Ur (aca A t).1 s=false))/\Hid (Below w.heap.size w wx)/\j-i=gg)
 case atStart=>exact⟨0,n,rfl,rfl,by omega,by omega,Z9 ⟨fun t h=>by omega,fun t h h2=>by omega⟩,Z9 (Below.refl _ _),by omega⟩
 case round=>
  obtain⟨i,j,rfl,rfl,hij,hjn,HO,HB,hg⟩:=hrel;have yB:=Ui.out;by_cases hlt:i<j
  ·go_upto_region 3 with fail;refine wl<|ZB (Z8 i) (Z8 j)<|ZM (Zr rfl (i) (j) dT)<|wn ?_;simp only[pu];go_upto_region 4 with fail;refine wl<|ZB (Z8 i) (Z8 j)<|Yn (Z8 (i+j:Nat)) (Zz rfl i j (by omega))<|YI (Z7 (i+j:Nat)) (Vz rfl (i+j) (by omega) (by kernel_rfl) _) <|
    Yn (Z7 ((i+j) / 2:Nat)) (ag9 rfl (i+j) (by omega))<|YI (Z8 ((i+j) / 2:Nat)) (gK rfl ((i+j) / 2) (by omega) (by kernel_rfl) _)<|ZV (Z8 ((i+j) / 2:Nat))<|wn ?_
   simp only[pu];obtain⟨h,hh⟩:=ZQ ((i+j) / 2);have HH:Hid (i<=h/\h<j):=Z9 (by omega);have hhn:h<n:=(by have:=HH.out; omega);rw[hh];clear hh;obtain⟨b,off,rfl,-,hrx⟩:=Yx (HA.out.below HB.out) (k:=h) (by rw[HN.out]; exact hhn);have YD:=Z9 (Xh hrx);have hl1:=pW.out h;generalize hy:aca A h=y at *
   have CP:=Ew y s wr;obtain⟨q,hq⟩:=ZQ (GV y.1 s);rw[hq] at CP hl1;have HY:=Z9 hy;have HG:=Z9 hg;clear hrx hq hy hg;go_upto_region 5 with fail;by_cases hqq:q<0
   ·rw[decide_eq_true hqq] at hl1;refine wl<|Yr (.func (.func 149) #[] #[]) (.slice (some ⟨b,off,none⟩) n k) (Z8 h)<|YI (Z5 b (off+h*3)) (YC b off n k h hhn _ _ _ rfl (by kernel_rfl) (by kernel_rfl))<|ZL rfl ⟨b,off+h*3,none⟩ (.agg (Zq y)) (YD.out) <|
     ZV (.string s)<|YM (Z8 q) (fun w'=>Below wr.heap.size wr w') (CP) (fun V9 VK=>?_)
    have Zg:=Z9 (HB.out.trans (VK.mono HB.out.size));refine ZM (Zr rfl (q) (0) (decide_eq_true (hqq)))<|wn ?_;simp only[pu];clear VK HB YD CP hqq;have EF:Hid ((∀ t,t<h+1->Ur (aca A t).1 s=true)/\(∀ t,j<=t->t<n->Ur (aca A t).1 s=false)):=Z9 ⟨fun t ht=>(by rcases Nat.lt_or_ge t h with h7 | h7; exact Nw (HS.out t h h7 (by rw[HN.out]; exact hhn)) (by rw[HY.out]; exact hl1.symm); have e7:t=h:=(by omega); rw[e7,HY.out]; exact hl1.symm),HO.out.2⟩;go_upto_region 6 with fail;refine wl<|ZV (Z8 h)<|Yn (Z8 (h+1:Nat)) (Zz rfl h 1 (by omega))<|ZV (Z8 (h+1:Nat))<|wn ?_;simp only[pu];clear HO hl1;go_wp2_with fail;go_roundg (j-(h+1))
    case measure=>have:=HG.out; have:=HH.out; omega
    case rel=>exact⟨h+1,j,rfl,rfl,by have:=HH.out; omega,hjn,EF,Zg,rfl⟩
   ·rw[decide_eq_false hqq] at hl1;refine wl<|Yr (.func (.func 149) #[] #[]) (.slice (some ⟨b,off,none⟩) n k) (Z8 h)<|YI (Z5 b (off+h*3)) (YC b off n k h hhn _ _ _ rfl (by kernel_rfl) (by kernel_rfl))<|ZL rfl ⟨b,off+h*3,none⟩ (.agg (Zq y)) (YD.out) <|
     ZV (.string s)<|YM (Z8 q) (fun w'=>Below wr.heap.size wr w') (CP) (fun V9 VK=>?_)
    have Zg:=Z9 (HB.out.trans (VK.mono HB.out.size));refine ZM (Zr rfl (q) (0) (decide_eq_false (hqq)))<|wn ?_;simp only[pu];clear VK HB YD CP hqq;have EF:Hid ((∀ t,t<i->Ur (aca A t).1 s=true)/\(∀ t,h<=t->t<n->Ur (aca A t).1 s=false)):=Z9 ⟨HO.out.1,fun t ht htn=>(by have h0:Ur (aca A h).1 s=false:=(by rw[HY.out]; exact hl1.symm); rcases Nat.lt_or_ge h t with h7 | h7; have h8:=HS.out h t h7 (by rw[HN.out]; exact htn); by_cases h9:Ur (aca A t).1 s=true; rw[Nw h8 h9] at h0; cases h0; simpa using h9; have e7:t=h:=(by omega); rw[e7]; exact h0)⟩;go_upto_region 7 with fail;refine wl<|ZB (Z8 h) (Z8 h)<|wn ?_;simp only[pu];clear HO hl1;go_wp2_with fail;go_roundg (h-i)
    case measure=>have:=HG.out; have:=HH.out; omega
    case rel=>exact⟨i,h,rfl,rfl,by have:=HH.out; omega,by have:=HH.out; omega,EF,Zg,rfl⟩
  ·obtain rfl:i=j:=(by omega);obtain⟨hil,hff⟩:=EW.out i hjn HO.out.1 HO.out.2;subst hil;clear HO EW hg hij;by_cases hin:i<n
   ·obtain⟨b,off,rfl,-,hrx⟩:=Yx (HA.out.below HB.out) (k:=i) (by rw[HN.out]; exact hin);have YD:=Z9 (Xh hrx);have hl1:=HEQ.out i;have gI:fF=decide ((aca A i).1=s):=(by rw[hff,decide_eq_decide]; exact⟨fun h=>h.2,fun h=>⟨hin,h⟩⟩);clear hff;generalize aca A i=y at *
    rw[<- hl1] at gI;have CP:=Ew y s wr;obtain⟨q,hq⟩:=ZQ (GV y.1 s);rw[hq] at CP gI;have HFF:=Z9 gI.symm;clear hrx hq hl1 gI;go_upto_region 3 with fail;refine wl<|ZB (Z8 i) (Z8 i)<|ZM (Zr rfl (i) (i) dF)<|wn ?_;simp only[pu];go_upto_region 8 with fail;refine wl<|Yr (Z8 i) (Z8 i) (Z8 n)<|ZM (Zr rfl (i) (n) dT)<|U8 ZW (.func (.func 149) #[] #[]) (.slice (some ⟨b,off,none⟩) n k) (Z8 i) <|
     YI (Z5 b (off+i*3)) (YC b off n k i hin _ _ _ rfl (by kernel_rfl) (by kernel_rfl))<|ZL rfl ⟨b,off+i*3,none⟩ (.agg (Zq y)) (YD.out)<|ZV (.string s)<|YM (Z8 q) (fun w'=>Below wr.heap.size wr w') (CP) (fun V9 VK=>?_)
    have Zg:=Z9 (HB.out.trans (VK.mono HB.out.size));refine Yn (.bool fF) (ZI rfl q 0 HFF.out)<|Yr (.bool fF) (Z8 i) (.bool fF)<|wn ?_;simp only[pu];clear VK HB YD CP HFF;go_wp2_with fail;go_ret2;exact⟨rfl,Zg.out⟩
   ·rw[decide_eq_false (fun h=>hin h.1)] at hff;subst hff;go_upto_region 3 with fail;refine wl<|ZB (Z8 i) (Z8 i)<|ZM (Zr rfl (i) (i) dF)<|wn ?_;simp only[pu];go_upto_region 8 with fail;refine wl<|Yr (Z8 i) (Z8 i) (Z8 n)<|ZM (Zr rfl (i) (n) dF)<|Y0 ZY undef undef undef undef undef<|Y0 undef undef undef ZY (Z8 i) ZY <|
     wpList_nil ?_
    simp only[pu];go_wp2_with fail;go_ret2;exact⟨rfl,HB.out⟩
theorem iH (a:Option Addr)(k:Nat)(A:List Ac)(s:ByteArray)(w:World)(hR:Cs w a (acc A))(hs:Jk A)(hn:A.length<=1000000) :
  Calls Tryz.prog 138 #[.slice a A.length k,.string s] w fun e w'=>e=.returned (.tuple #[Z8 (Yi A s),.bool (decide (YS A s<A.length))])/\Below w.heap.size w w':=by
 have CB:=aK7 a k A s w hR hs hn;obtain⟨lL,hlL⟩:=ZQ (Yi A s);obtain⟨fF,vM⟩:=ZQ (decide (YS A s<A.length));rw[hlL,vM] at CB ⊢;generalize A.length=n at *
 clear hlL vM hR hs hn;go_enter Tryz.func138,Tryz.ntmps138;go_upto_region 1 with fail;refine wl<|ZB (.slice a n k) (.string s)<|YM (.tuple #[Z8 lL,.bool fF]) (fun w'=>Below w.heap.size w w') (CB) (fun V9 VK=>?_);have Zg:=Z9 VK;refine U8 (Z8 lL) (.bool fF) (Z8 lL) (.bool fF)<|wn ?_;simp only[pu];clear VK CB;go_wp2_with fail;go_ret2;exact⟨rfl,Zg.out⟩
def Pg (A:List Ac)(s:ByteArray):Int:=if YS A s<A.length then YS A s else -1
theorem OD (a:Option Addr)(k:Nat)(A:List Ac)(s:ByteArray)(w:World)(hR:Cs w a (acc A))(hn:A.length<=4398046511104) :
  Calls Tryz.prog 83 #[.slice a A.length k,.string s] w fun e w'=>e=.returned (Z8 (Pg A s))/\Below w.heap.size w w':=by
 have HA:=Z9 hR;obtain⟨n,hnn⟩:=ZQ A.length;have HN:=Z9 hnn;have Ui:Hid (n<=4398046511104):=Z9 (by omega);have HF1:Hid (∀ i,i<n->(∀ t,t<i->(aca A t).1≠s)->(aca A i).1=s->Pg A s=i):=Z9 fun i h1 h2 h3=>by
  have e:=qw (A:=A) (by omega) h2 h3;unfold Pg;rw[e,if_pos (by omega)]
 have HF2:Hid ((∀ t,t<n->(aca A t).1≠s)->Pg A s=-1):=Z9 fun h=>by
  have e:=qo (A:=A) (s:=s) (fun j hj=>h j (by omega));unfold Pg;rw[e,if_neg (by omega)]
 rw[hnn];generalize Pg A s=r at *
 clear hR hn hnn;go_enter Tryz.func83,Tryz.ntmps83;go_upto_region 1 with fail;refine wl<|Yr (.slice a n k) (Z8 n) (Z8 0)<|wn ?_;simp only[pu];go_wp2_with fail;go_loopg [9] n (fun gg s9 wx=>∃ j:Nat,s9=Z8 j/\j<=n/\Hid (∀ t,t<j->(aca A t).1≠s)/\Hid (Below w.heap.size w wx)/\n-j=gg)
 case atStart=>exact⟨0,rfl,by omega,Z9 (fun t h=>by omega),Z9 (Below.refl _ _),by omega⟩
 case round=>
  obtain⟨j,rfl,hj,HO,HB,hg⟩:=hrel;have yB:=Ui.out;by_cases hlt:j<n
  ·obtain⟨b,off,rfl,-,hrx⟩:=Yx (HA.out.below HB.out) (k:=j) (by rw[HN.out]; exact hlt);have YD:=Z9 (Xh hrx);have hf1:=HF1.out j hlt HO.out;generalize hy:aca A j=y at *
   have HY:=Z9 hy;have HG:=Z9 hg;obtain⟨V2,hst,hb2,hbx⟩:=VN wr y;have HB2:=Z9 (HB.out.trans (hb2.mono HB.out.size));clear hrx hy hg hb2;go_upto_region 2 with fail;refine wl<|ZM (Zr rfl (j) (n) dT)<|wn ?_;simp only[pu];go_upto_region 3 with fail;refine wl<|ZV (Z8 j)<|YI (Z5 b (off+j*3)) (YC b off n k j hlt _ _ _ rfl (by kernel_rfl) (by kernel_rfl))<|ZL rfl ⟨b,off+j*3,none⟩ (.agg (Zq y)) (YD.out) ?_;refine Zy rfl (some 6) rfl (Z5 wr.heap.size 0) (wr.alloc (.cells (Zq WE) 56)) (by kernel_rfl) ?_;refine ZV (Z8 j)<|Zk rfl (hst)<|wn ?_;simp only[pu];obtain⟨g4,hg4⟩:=ZQ wr.heap.size;rw[hg4] at hbx ⊢;clear hst hg4 YD;by_cases rO:y.1=s
   ·go_upto_region 4 with fail;refine wl<|ZV (Z5 g4 0)<|ZL rfl ⟨g4,0,none⟩ (.string y.1) (hbx.ZR 0)<|ZV (.string s)<|Yn ZW (Uf rfl y.1 s (by rw[Ji]; exact decide_eq_true rO))<|wn ?_;simp only[pu];clear hbx;have HR:=Z9 (hf1 rO);clear hf1 HO HB;go_upto_region 5 with fail;refine wl<|ZB (Z8 j) (Z8 j)<|wn ?_;simp only[pu];go_wp2_with fail;go_ret;exact⟨by rw[HR.out]; rfl,HB2.out⟩
   ·go_upto_region 4 with fail;refine wl<|ZV (Z5 g4 0)<|ZL rfl ⟨g4,0,none⟩ (.string y.1) (hbx.ZR 0)<|ZV (.string s)<|Yn ZY (Uf rfl y.1 s (by rw[Ji]; exact decide_eq_false rO))<|wn ?_;simp only[pu];clear hbx;have EF:Hid (∀ t,t<j+1->(aca A t).1≠s):=Z9 fun t ht=>(by rcases Nat.lt_or_ge t j with h7 | h7; exact HO.out t h7; have e7:t=j:=(by omega); rw[e7,HY.out]; exact rO);clear hf1 HO HB rO;go_upto_region 6 with fail;refine wl<|Yn (Z8 (j+1:Nat)) (Zz rfl j 1 (by omega))<|ZV (Z8 (j+1:Nat))<|wn ?_;simp only[pu];go_wp2_with fail;go_roundg (n-(j+1))
    case measure=>have:=HG.out; omega
    case rel=>exact⟨j+1,rfl,hlt,EF,HB2,rfl⟩
  ·obtain rfl:n=j:=(by omega);obtain rfl:=HF2.out HO.out;clear HO HF1 HF2 hg;go_upto_region 2 with fail;refine wl<|ZM (Zr rfl (n) (n) dF)<|wn ?_;simp only[pu];go_upto_region 7 with fail;refine wl<|ZV (Z8 (-1))<|wn ?_;simp only[pu];go_wp2_with fail;go_ret;exact⟨rfl,HB.out⟩
theorem ZN {fn:Func}{tmps:Array Value}{w:World}{p q g ty:Nat}{v u:Value}(hr:fn.results=#[.cell p ty,.tmp q])(h2:tmps.getD p undef=Z5 g 0)(hl:(Instr.loadAt ty (Z5 g 0)).run Tryz.prog w=.ok v w)(h3:tmps.getD q undef=u):(results fn tmps).run Tryz.prog w=.ok (.tuple #[v,u]) w:=by
 unfold results;rw[hr];have h2':tmps[p]?.getD undef=Z5 g 0:=by simpa using h2
 have h3':tmps[q]?.getD undef=u:=by simpa using h3
 have hl':=hl;simp only[Instr.loadAt,Instr.sureAddr,Sem.run_bind,Sem.run_pure,Result.andThen_ok] at hl';simp[h2',h3',asAddr,hl',Result.andThen]
def Ny (w:World)(B:Nat)(v:Value)(L:List Int):Prop:=w.ownsRow B 24 1 v L.length (Vj L)
theorem Qn (x:Int)(V:World):(Instr.buildSlice 34 1 #[(0,Z7 x)]).run Tryz.prog V=.ok (.slice (some ⟨V.heap.size,0,none⟩) 1 1) (V.alloc (.cells #[Z7 x] 24)):=by
 obtain⟨i0,hi,hz0,hz1,hz2⟩:=info_parts xZ;refine run_buildSlice V 34 24 1 _ #[Z7 x] i0 _ Tryz.underlying34 hi hz0 (by rw[hz1]; omega) (by rw[hz1]; omega) ?_;rw[hz1];kernel_rfl
theorem qh (x:Int)(V:World):Ny (V.alloc (.cells #[Z7 x] 24)) V.heap.size (.slice (some ⟨V.heap.size,0,none⟩) 1 1) [x]:=
 ⟨by simp[Vj],.inr ⟨V.heap.size,1,#[Z7 x],rfl,Nat.le_refl _,heap_alloc_last V _,Nat.le_refl _,by simp[maxLen],by simp,by simp[Vj]⟩⟩
theorem Ai {w:World}{B:Nat}{v:Value}{L:List Int}(h:Ny w B v L)(hB:B<=w.heap.size)(x:Int)(hl:L.length<=4398046511200) :
  ∃ v2 V2,(Builtin.append_ #[34,34] 34 #[v,.slice (some ⟨w.heap.size,0,none⟩) 1 1]).run Tryz.prog (w.alloc (.cells #[Z7 x] 24))=.ok v2 V2/\Ny V2 B v2 (L++[x])/\Below B w V2:=by
 have hb:Below w.heap.size w (w.alloc (.cells #[Z7 x] 24)):=(Below.refl _ w).alloc (Nat.le_refl _) _;have hO:=own_below h hb;have hc:Cs (w.alloc (.cells #[Z7 x] 24)) (some ⟨w.heap.size,0,none⟩) [Z7 x]:=Cs.block (t:=24) (fr:=(0,0)) (heap_alloc_last w _);obtain⟨v2,V2,hr,hO2,hb2,-,-⟩:=RH (P:=Tryz.prog) (t:=34) (m:=1) Tryz.underlying34 xZ (by kernel_rfl) (by omega) hO (some ⟨w.heap.size,0,none⟩) 1 [Z7 x] hc rfl (fun u hu=>by
  simp only[List.mem_cons,List.not_mem_nil,or_false] at hu;subst hu;rfl) (by simp; omega) (by omega) (by omega)
 refine⟨v2,V2,hr,?_,(hb.mono hB).trans hb2⟩;unfold Ny;rw[List.length_append,show Vj (L++[x])=Vj L++[Z7 x] by simp[Vj]];exact hO2
theorem KG (A:List Ac):(Ze A).length=A.length:=by simp[Ze]
theorem IJ {A:List Ac}{j:Nat}(h:j<A.length):Ze (A.take (j+1))=Ze (A.take j)++[(aca A j).2.1]:=by
 unfold Ze;rw[List.take_succ_eq_append_getElem h,List.map_append,XF h];rfl
theorem vN {A:List Ac}{j:Nat}(c:Int)(h:j<A.length):tot (c::Ze (A.take (j+1)))=tot (c::Ze (A.take j))+(aca A j).2.1:=by
 rw[IJ h,<- List.cons_append,Xq,Ya (aca A j).2.1];simp[tot]
theorem qg {A:List Ac}{c:Int}(hc:W64 c)(hw:Tz A):∀ k,k<(c::Ze A).length->W64 ((c::Ze A).getD k 0):=fun k hk=>by
 cases k with
 | zero=>exact hc
 | succ k=>
  have hk2:k<A.length:=by simp[Ze] at hk; exact hk
  rw[List.getD_cons_succ];unfold Ze;rw[gX A k hk2];exact(hw k hk2).1
theorem gW {A:List Ac}{c:Int}(hc:W64 c)(hw:Tz A)(j:Nat):tot (c::Ze (A.take j))<=tot (c::Ze A):=by
 have:=Uj (c::Ze A) (qg hc hw) (j+1);rwa [List.take_succ_cons,show(Ze A).take j=Ze (A.take j) from(List.map_take ..).symm] at this
theorem gV {A:List Ac}{c:Int}(hc:W64 c)(hw:Tz A)(j:Nat):0<=tot (c::Ze (A.take j)):=WL _ fun x hx=>by
 rcases List.mem_cons.1 hx with h | h
 ·rw[h]; exact hc.1
 ·obtain⟨y,hy,rfl⟩:=List.mem_map.1 h;exact(Qo hw y (List.mem_of_mem_take hy)).1.1
theorem qc (A:List Ac)(c:Int):tot (c::Ze (A.take A.length))=tot (c::Ze A):=by rw[List.take_length]
theorem gY (a:Option Addr)(k:Nat)(A:List Ac)(c:Int)(w:World)(hR:Cs w a (acc A))(hn:A.length<=4398046511104)(hc:W64 c)(hw:Tz A) :
  Calls Tryz.prog 128 #[.agg (ZT a A.length k c)] w fun e w'=>e=.returned (.tuple #[Z7 (Jj A c),.bool (Xp A c)])/\Below w.heap.size w w':=by
 have hb0:Below w.heap.size w (w.alloc (.cells (ZT a A.length k c) 30)):=(Below.refl _ w).alloc (Nat.le_refl _) _;have hX0:Bx (w.alloc (.cells (ZT a A.length k c) 30)) w.heap.size (ZT a A.length k c) 30:=heap_alloc_last w _;have HA:=Z9 (hR.below hb0);have HW:=Z9 hw;have HC:=Z9 hc;have HSM:=Z9 (fun(al:Option Addr) (cl:Nat) (V:World) (h:Cs V al (Vj (c::Ze A)))=>II al cl (c::Ze A) V (by rw[List.length_cons,KG]; omega) (fun q hq=>by
  obtain⟨b,off,e,-,h1⟩:=h q (Z7 ((c::Ze A).getD q 0)) (by
   unfold Vj;rw[List.getElem?_map,List.getElem?_eq_getElem hq,List.getD_eq_getElem?_getD,List.getElem?_eq_getElem hq];rfl)
  exact⟨b,off,e,h1⟩) (qg hc hw))
 have Ah:Hid ((c::Ze A).length=A.length+1):=Z9 (by rw[List.length_cons,KG]);obtain⟨n,hnn⟩:=ZQ A.length;have HN:=Z9 hnn;have Ui:Hid (n<=4398046511104):=Z9 (by omega);rw[hnn] at hb0 hX0 HA ⊢;clear hR hn hnn hw hc;have A8:Hid (KP (c::Ze A)=Jj A c/\KQ (c::Ze A)=Xp A c):=Z9 ⟨rfl,rfl⟩;generalize Jj A c=tv at *
 generalize Xp A c=tb at *
 go_enter Tryz.func128,Tryz.ntmps128;go_upto_region 1 with fail;change Code.wp _ _ _ _ (w.alloc (.cells (ZT a n k c) 30));generalize w.alloc (.cells (ZT a n k c) 30)=W at *
 obtain⟨g0,hg0⟩:=ZQ w.heap.size;have HB0:=Z9 hb0;rw[hg0] at hX0;simp only[hg0];have HX:=Z9 hX0;clear hb0 hg0 hX0;have hbu:=Qn c W;have hou:=qh c W;refine wl<|ZV (Z5 g0 1)<|ZL rfl ⟨g0,1,none⟩ (Z7 c) (HX.out.ZR 1) ?_;refine Zv (by kernel_rfl) (some 9) rfl 34 1 #[(0,.tmp 8)] rfl #[(0,Z7 c)] (by kernel_rfl) (.slice (some ⟨W.heap.size,0,none⟩) 1 1) _ hbu ?_;refine ZV (.slice (some ⟨W.heap.size,0,none⟩) 1 1)<|wn ?_;simp only[pu];have hb1:Below W.heap.size W (W.alloc (.cells #[Z7 c] 24)):=(Below.refl _ W).alloc (Nat.le_refl _) _;clear hbu;obtain⟨v1,hv1⟩:=ZQ (Value.slice (some ⟨W.heap.size,0,none⟩) 1 1);rw[hv1] at hou ⊢;generalize W.alloc (.cells #[Z7 c] 24)=W1 at *
 have HR1:Hid (Ny W1 W.heap.size v1 (c::Ze (A.take 0))):=Z9 hou;have HB1:=Z9 hb1;have Wy:=Z9 (HX.out.below HX.out.lt hb1);clear hv1 hou hb1;go_upto_region 2 with fail;refine wl<|ZV (Z5 g0 0)<|ZL rfl ⟨g0,0,none⟩ (.slice a n k) (Wy.out.ZR 0)<|ZB (Z8 n) (Z8 0)<|wn ?_;simp only[pu];go_wp2_with fail;go_loopg [4,13] n (fun gg s4 s13 wx=>∃ (j:Nat) (v4:Value),s4=v4/\s13=Z8 j/\j<=n/\Hid (Ny wx W.heap.size v4 (c::Ze (A.take j)))/\Hid (Below W.heap.size W wx)/\n-j=gg)
 case atStart=>exact⟨0,v1,rfl,rfl,by omega,HR1,HB1,by omega⟩
 case round=>
  obtain⟨j,v4,rfl,rfl,hj,pY,HB,hg⟩:=hrel;have yB:=Ui.out;by_cases hlt:j<n
  ·obtain⟨b,off,rfl,-,hrx⟩:=Yx (HA.out.below HB.out) (k:=j) (by rw[HN.out]; exact hlt);have YD:=Z9 (Xh hrx);have Ey:=Z9 (IJ (A:=A) (j:=j) (by rw[HN.out]; exact hlt));generalize aca A j=y at *
   have HG:=Z9 hg;obtain⟨V2,hst,hb2,hbx⟩:=VN wr y;obtain⟨v3,V3,hap,hr3,hb3⟩:=Ai (own_below pY.out hb2) (by have:=HB.out.size; have:=hb2.size; omega) y.2.1 (by rw[List.length_cons,KG,List.length_take]; omega);have HR3:Hid (Ny V3 W.heap.size v3 (c::Ze (A.take (j+1)))):=Z9 (by rw[Ey.out,<- List.cons_append]; exact hr3);have HB3:=Z9 ((HB.out.trans (hb2.mono HB.out.size)).trans hb3);have hbu:=Qn y.2.1 V2;clear hrx hg hb2 hr3 hb3 Ey;go_upto_region 3 with fail;refine wl<|ZM (Zr rfl (j) (n) dT)<|wn ?_;simp only[pu];go_upto_region 4 with fail;refine wl<|YI (Z5 b (off+j*3)) (YC b off n k j hlt _ _ _ rfl (by kernel_rfl) (by kernel_rfl))<|ZL rfl ⟨b,off+j*3,none⟩ (.agg (Zq y)) (YD.out) ?_;refine Zy rfl (some 6) rfl (Z5 wr.heap.size 0) (wr.alloc (.cells (Zq WE) 56)) (by kernel_rfl) ?_;refine Zk rfl (hst)<|wn ?_;obtain⟨g4,hg4⟩:=ZQ wr.heap.size;rw[hg4] at hbx ⊢;obtain⟨g5,hg5⟩:=ZQ V2.heap.size;rw[hg5] at hap hbu;clear hst hg4 hg5 YD;go_upto_region 5 with fail;refine wl<|ZB (u4) (Z5 g4 1)<|ZL rfl ⟨g4,1,none⟩ (Z7 y.2.1) (hbx.ZR 1) ?_;refine Zv (by kernel_rfl) (some 20) rfl 34 1 #[(0,.tmp 19)] rfl #[(0,Z7 y.2.1)] (by kernel_rfl) (.slice (some ⟨g5,0,none⟩) 1 1) _ hbu ?_;refine Zh rfl (some 21) rfl 34 rfl (.tmp 17) (.tmp 20) 34 rfl (u4) (.slice (some ⟨g5,0,none⟩) 1 1) (v3) V3 (by kernel_rfl) (by kernel_rfl) hap ?_;refine ZV (v3)<|wn ?_;simp only[pu];clear hap hbu hbx;go_upto_region 6 with fail;refine wl<|Yn (Z8 (j+1:Nat)) (Zz rfl j 1 (by omega))<|ZV (Z8 (j+1:Nat))<|wn ?_;simp only[pu];go_wp2_with fail;go_roundg (n-(j+1))
   case measure=>have:=HG.out; omega
   case rel=>exact⟨j+1,v3,rfl,rfl,hlt,HR3,HB3,rfl⟩
  ·obtain rfl:n=j:=(by omega);obtain⟨al,cl,rfl,hcs,-⟩:=Yd pY.out;rw[<- HN.out,List.take_length] at hcs;have hlen:(c::Ze (A.take n)).length=(c::Ze A).length:=(by rw[<- HN.out,List.take_length]);rw[hlen];have CS:=HSM.out al cl wr hcs;rw[A8.out.1,A8.out.2] at CS;generalize (c::Ze A).length=m at *
   have Zg:=Z9 (HB0.out.trans (HB.out.mono HB0.out.size));clear hg pY HSM A8 hcs HB hlen Ah;go_upto_region 3 with fail;refine wl<|ZM (Zr rfl (n) (n) dF)<|wn ?_;simp only[pu];go_upto_region 7 with fail;refine wl<|ZV (.slice al m cl)<|YM (.tuple #[Z7 tv,.bool tb]) (fun w'=>wr=w') (CS) (fun V9 VK=>?_);subst VK;refine U8 (Z7 tv) (.bool tb) (Z7 tv) (.bool tb)<|wn ?_;simp only[pu];clear CS;go_wp2_with fail;go_ret2;exact⟨rfl,Zg.out⟩
theorem IQ (a:Option Addr)(k:Nat)(A:List Ac)(c:Int)(w:World)(hR:Cs w a (acc A))(hn:A.length<=4398046511104)(hc:W64 c)(hw:Tz A) :
  Calls Tryz.prog 73 #[.agg (ZT a A.length k c)] w fun e w'=>e=.returned (.tuple #[Z7 (Jj A c),.bool (Xp A c)])/\Below w.heap.size w w':=by
 have hb0:Below w.heap.size w (w.alloc (.cells (ZT a A.length k c) 30)):=(Below.refl _ w).alloc (Nat.le_refl _) _;have hX0:Bx (w.alloc (.cells (ZT a A.length k c) 30)) w.heap.size (ZT a A.length k c) 30:=heap_alloc_last w _;have HA:=Z9 (hR.below hb0);have HW:=Z9 hw;have HC:=Z9 hc;have HT0:Hid (∀ j,0<=tot (c::Ze (A.take j))/\tot (c::Ze (A.take j))<=tot (c::Ze A)):=Z9 fun j=>⟨gV hc hw j,gW hc hw j⟩;have HTS:Hid (∀ j,j<A.length->tot (c::Ze (A.take (j+1)))=tot (c::Ze (A.take j))+(aca A j).2.1):=Z9 fun j h=>vN c h;have HTA:Hid (tot (c::Ze (A.take A.length))=tot (c::Ze A)):=Z9 (qc A c);have HT1:Hid (tot (c::Ze (A.take 0))=c):=Z9 (by rw[List.take_zero,Ya]; simp[Ze,tot]);have A8:Hid ((tot (c::Ze A)<18446744073709551616->Jj A c=tot (c::Ze A)/\Xp A c=true)/\(¬ tot (c::Ze A)<18446744073709551616->Jj A c=0/\Xp A c=false)):=Z9 ⟨fun h=>⟨if_pos h,decide_eq_true h⟩,fun h=>⟨if_neg h,decide_eq_false h⟩⟩;obtain⟨n,hnn⟩:=ZQ A.length;have HN:=Z9 hnn;have Ui:Hid (n<=4398046511104):=Z9 (by omega);rw[hnn] at hb0 hX0 HA ⊢;clear hR hn hnn hw hc;rw[show A.length=n from HN.out] at HTS HTA;generalize Jj A c=tv at *
 generalize Xp A c=tb at *
 obtain⟨tt,htt⟩:∃ tt:Nat->Int,tt=fun j=>tot (c::Ze (A.take j)):=⟨_,rfl⟩;have htj:∀ j,tot (c::Ze (A.take j))=tt j:=fun j=>by rw[htt]
 simp only[htj] at HT0 HTS HTA HT1;generalize tot (c::Ze A)=tz at *
 clear htt htj;go_enter Tryz.func73,Tryz.ntmps73;go_upto_region 1 with fail;change Code.wp _ _ _ _ (w.alloc (.cells (ZT a n k c) 30));generalize w.alloc (.cells (ZT a n k c) 30)=W at *
 obtain⟨g0,hg0⟩:=ZQ w.heap.size;have HB0:=Z9 hb0;rw[hg0] at hX0;simp only[hg0];have HX:=Z9 hX0;clear hb0 hg0 hX0;refine wl<|ZV (Z5 g0 1)<|ZL rfl ⟨g0,1,none⟩ (Z7 c) (HX.out.ZR 1)<|ZV (Z7 c)<|wn ?_;simp only[pu];go_upto_region 2 with fail;refine wl<|ZV (Z5 g0 0)<|ZL rfl ⟨g0,0,none⟩ (.slice a n k) (HX.out.ZR 0)<|ZB (Z8 n) (Z8 0)<|wn ?_;simp only[pu];go_wp2_with fail;go_loopg [4,14] n (fun gg s4 s14 wx=>∃ j:Nat,s4=Z7 (tt j)/\s14=Z8 j/\j<=n/\Hid (tt j<18446744073709551616)/\Hid (Below W.heap.size W wx)/\n-j=gg)
 case atStart=>exact⟨0,by rw[HT1.out],rfl,by omega,Z9 (by rw[HT1.out]; have:=HC.out.2; omega),Z9 (Below.refl _ _),by omega⟩
 case round=>
  obtain⟨j,rfl,rfl,hj,Ba,HB,hg⟩:=hrel;have yB:=Ui.out;by_cases hlt:j<n
  ·obtain⟨b,off,rfl,-,hrx⟩:=Yx (HA.out.below HB.out) (k:=j) (by rw[HN.out]; exact hlt);have YD:=Z9 (Xh hrx);have hts:=HTS.out j hlt;have hyw:=(HW.out j (by rw[HN.out]; exact hlt)).1;generalize aca A j=y at *
   have HG:=Z9 hg;obtain⟨V2,hst,hb2,hbx⟩:=VN wr y;have HB2:=Z9 (HB.out.trans (hb2.mono HB.out.size));have CA:=yF (tt j) y.2.1 V2 ⟨(HT0.out j).1,by have:=Ba.out; omega⟩ hyw;clear hrx hg hb2 hyw;go_upto_region 3 with fail;refine wl<|ZM (Zr rfl (j) (n) dT)<|wn ?_;simp only[pu];go_upto_region 4 with fail;refine wl<|YI (Z5 b (off+j*3)) (YC b off n k j hlt _ _ _ rfl (by kernel_rfl) (by kernel_rfl))<|ZL rfl ⟨b,off+j*3,none⟩ (.agg (Zq y)) (YD.out) ?_;refine Zy rfl (some 6) rfl (Z5 wr.heap.size 0) (wr.alloc (.cells (Zq WE) 56)) (by kernel_rfl) ?_;refine Zk rfl (hst)<|wn ?_;obtain⟨g4,hg4⟩:=ZQ wr.heap.size;rw[hg4] at hbx ⊢;clear hst hg4 YD;by_cases hov:tt j+y.2.1<18446744073709551616
   ·rw[show MB (tt j) y.2.1=tt (j+1) by rw[hts]; exact if_pos hov,show Me (tt j) y.2.1=true from decide_eq_true hov] at CA;go_upto_region 5 with fail;refine wl<|ZB (Z7 (tt j)) (Z5 g4 1)<|ZL rfl ⟨g4,1,none⟩ (Z7 y.2.1) (hbx.ZR 1)<|YM (.tuple #[Z7 (tt (j+1)),ZW]) (fun w'=>V2=w') (CA) (fun V9 VK=>?_);subst VK;refine Rf (.tuple #[Z7 (tt (j+1)),ZW]) (Z7 (tt (j+1))) ZW (Z7 (tt (j+1))) ZW<|wn ?_;simp only[pu];clear hbx CA;go_upto_region 6 with fail;refine wl<|ZB ZW ZY<|wn ?_;simp only[pu];have aK6:Hid (tt (j+1)<18446744073709551616):=Z9 (by rw[hts]; exact hov);clear hts hov;go_upto_region 8 with fail;refine wl<|ZB (Z7 (tt (j+1))) (Z7 (tt (j+1)))<|wn ?_;simp only[pu];go_upto_region 9 with fail;refine wl<|Yn (Z8 (j+1:Nat)) (Zz rfl j 1 (by omega))<|ZV (Z8 (j+1:Nat))<|wn ?_;simp only[pu];go_wp2_with fail;go_roundg (n-(j+1))
    case measure=>have:=HG.out; omega
    case rel=>exact⟨j+1,rfl,rfl,hlt,aK6,HB2,rfl⟩
   ·rw[show MB (tt j) y.2.1=0 from if_neg hov,show Me (tt j) y.2.1=false from decide_eq_false hov] at CA;go_upto_region 5 with fail;refine wl<|ZB (Z7 (tt j)) (Z5 g4 1)<|ZL rfl ⟨g4,1,none⟩ (Z7 y.2.1) (hbx.ZR 1)<|YM (.tuple #[Z7 0,ZY]) (fun w'=>V2=w') (CA) (fun V9 VK=>?_);subst VK;refine Rf (.tuple #[Z7 0,ZY]) (Z7 0) ZY (Z7 0) ZY<|wn ?_;simp only[pu];clear hbx CA;go_upto_region 6 with fail;refine wl<|ZB ZY ZW<|wn ?_;simp only[pu];have hz:=A8.out.2 (by have h8:=(HT0.out (j+1)).2; rw[hts] at h8; omega);obtain⟨rfl,rfl⟩:=hz;have Zg:=Z9 (HB0.out.trans (HB2.out.mono HB0.out.size));clear hts hov A8;go_upto_region 7 with fail;refine wl<|ZB (Z7 0) ZY<|wn ?_;simp only[pu];go_wp2_with fail;go_ret2;exact⟨rfl,Zg.out⟩
  ·obtain rfl:n=j:=(by omega);have htn:=HTA.out;have hz:=A8.out.1 (by rw[<- htn]; exact Ba.out);obtain⟨rfl,rfl⟩:=hz;subst htn;have Zg:=Z9 (HB0.out.trans (HB.out.mono HB0.out.size));clear hg A8 HB;go_upto_region 3 with fail;refine wl<|ZM (Zr rfl (n) (n) dF)<|wn ?_;simp only[pu];go_upto_region 10 with fail;refine wl<|Yr (Z7 (tt n)) (Z7 (tt n)) ZW<|wn ?_;simp only[pu];go_wp2_with fail;go_ret2;exact⟨rfl,Zg.out⟩
end Go.Proofs.YtfpnnmeblefkkaaGreatDoor.Lg
