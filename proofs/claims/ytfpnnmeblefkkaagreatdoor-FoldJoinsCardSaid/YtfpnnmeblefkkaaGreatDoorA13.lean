/-
  Texts joined.
-/
import Derived.Test.YtfpnnmeblefkkaaGreatDoorA12
set_option maxRecDepth 100000
set_option maxHeartbeats 8000000
set_option linter.unusedSimpArgs false
set_option linter.unusedVariables false
namespace Go.Proofs.YtfpnnmeblefkkaaGreatDoor.Lg
open Go.RowKit
def Zg (A:List Ac):List Int:=A.map (·.2.1)
def Xu (A:List Ac)(c:Int):Bool:=Lc (c::Zg A)
def Jo (A:List Ac)(c:Int):Int:=La (c::Zg A)
def vV (A:List Ac)(c:Int):Int:=if Xu A c=true then 0 else 6
def YV (A:List Ac)(s:ByteArray):Nat:=A.findIdx (fun x=>decide (x.1=s))
def Yf (A:List Ac)(s:ByteArray):Nat:=A.findIdx (fun x=>!Un x.1 s)
def Yt (A:List Ac)(a:Ac):List Ac:=if YV A a.1<A.length then A.set (YV A a.1) a else A.take (Yf A a.1)++a::A.drop (Yf A a.1)
def WA (A:List Ac)(i:Nat):Int:=
 if isName (nums (aca A i).1)=false then 10
 else if 0<i/\(aca A (i-1)).1=(aca A i).1 then 8
 else if 0<i/\Un (aca A i).1 (aca A (i-1)).1=true then 1
 else 0
def rX (f:Nat->Int):Nat->Int
 | 0=>0
 | n+1=>if rX f n≠0 then rX f n else f n
theorem GX {f:Nat->Int}:∀ {n:Nat},(∀ j,j<n->f j=0)->rX f n=0
 | 0,_=>rfl
 | n+1,h=>by
  unfold rX;rw[GX (n:=n) (fun j hj=>h j (by omega)),if_neg (by simp)];exact h n (by omega)
theorem yc {f:Nat->Int}:∀ {n:Nat},rX f n=0->∀ j,j<n->f j=0
 | 0,_,j,hj=>by omega
 | n+1,h,j,hj=>by
  unfold rX at h;by_cases h1:rX f n=0
  ·rw[h1,if_neg (by simp)] at h;rcases Nat.lt_or_ge j n with h2 | h2
   ·exact yc h1 j h2
   ·have:j=n:=(by omega);subst this; exact h
  ·rw[if_pos h1] at h;exact absurd h h1
theorem yt {f:Nat->Int}{i:Nat}:∀ {n:Nat},i<n->(∀ j,j<i->f j=0)->f i≠0->rX f n=f i
 | 0,hi,_,_=>by omega
 | n+1,hi,h,he=>by
  unfold rX;rcases Nat.lt_or_ge i n with h1 | h1
  ·have e:=yt h1 h he;rw[e,if_pos he]
  ·have:i=n:=(by omega);subst this;rw[GX h,if_neg (by simp)]
def YE (A:List Ac)(c:Int):Int:=if 256<A.length then 3 else if rX (WA A) A.length≠0 then rX (WA A) A.length else vV A c
def Jq (A:List Ac):Prop:=∀ i j,i<j->j<A.length->Un (aca A i).1 (aca A j).1=true
def Bq (A:List Ac):Prop:=∀ i,i<A.length->isName (nums (aca A i).1)=true
theorem Vx {A:List Ac}{c:Int}(h:YE A c=0):A.length<=256/\Jq A/\Bq A/\Xu A c=true:=by
 unfold YE at h;by_cases h1:256<A.length
 ·rw[if_pos h1] at h; cases h
 rw[if_neg h1] at h;by_cases h2:rX (WA A) A.length=0
 ·rw[h2,if_neg (by simp)] at h;have h3:=yc h2;have hn:Bq A:=fun i hi=>by
   have:=h3 i hi;unfold WA at this;by_cases h4:isName (nums (aca A i).1)=true
   ·exact h4
   ·rw[if_pos (by simpa using h4)] at this; cases this
  have hs:∀ i,i+1<A.length->Un (aca A i).1 (aca A (i+1)).1=true:=fun i hi=>by
   have:=h3 (i+1) hi;unfold WA at this;rw[if_neg (by rw[hn (i+1) hi]; simp),show i+1-1=i by omega] at this;by_cases h4:(aca A i).1=(aca A (i+1)).1
   ·rw[if_pos ⟨by omega,h4⟩] at this; cases this
   rw[if_neg (fun q=>h4 q.2)] at this;by_cases h5:Un (aca A (i+1)).1 (aca A i).1=true
   ·rw[if_pos ⟨by omega,h5⟩] at this; cases this
   exact GU (by simpa using h5) (fun e=>h4 e.symm)
  refine⟨by omega,fun i j hij hj=>?_,hn,?_⟩
  ·obtain⟨d,rfl⟩:∃ d,j=i+1+d:=⟨j-i-1,by omega⟩;clear hij;induction d with
   | zero=>exact hs i hj
   | succ d ih=>exact NQ (ih (by omega)) (hs (i+1+d) hj)
  ·unfold vV at h;by_cases h5:Xu A c=true
   ·exact h5
   ·rw[if_neg h5] at h; cases h
 ·rw[if_pos h2] at h;exact absurd h h2
theorem GR {A:List Ac}{c:Int}(h1:A.length<=256)(h2:Jq A)(h3:Bq A)(h4:Xu A c=true):YE A c=0:=by
 unfold YE;rw[if_neg (by omega),GX,if_neg (by simp)]
 ·unfold vV; rw[if_pos h4]
 intro j hj;unfold WA;rw[if_neg (by rw[h3 j hj]; simp)];by_cases h0:0<j
 ·have:=h2 (j-1) j (by omega) hj;rw[if_neg (fun q=>ag9 this q.2),if_neg (fun q=>by rw[qg this] at q; cases q.2)]
 ·rw[if_neg (fun q=>h0 q.1),if_neg (fun q=>h0 q.1)]
theorem XL {A:List Ac}{i:Nat}(h:i<A.length):aca A i=A[i]:=getD_lt A i _ h
theorem qB {A:List Ac}{s:ByteArray}{i:Nat}(h:i<A.length)(hb:∀ j,j<i->(aca A j).1≠s)(hi:(aca A i).1=s):YV A s=i:=by
 unfold YV;rw[List.findIdx_eq h];refine⟨by rw[<- XL h]; exact decide_eq_true hi,fun j hj=>?_⟩;rw[<- XL (by omega)];exact decide_eq_false (hb j hj)
theorem qy {A:List Ac}{s:ByteArray}(hb:∀ j,j<A.length->(aca A j).1≠s):YV A s=A.length:=by
 unfold YV;rw[List.findIdx_eq_length];intro x hx;obtain⟨j,hj,rfl⟩:=List.mem_iff_getElem.1 hx;rw[<- XL hj];exact decide_eq_false (hb j hj)
theorem Px {A:List Ac}{s:ByteArray}(h:YV A s<A.length):(aca A (YV A s)).1=s/\∀ j,j<YV A s->(aca A j).1≠s:=by
 refine⟨?_,fun j hj=>?_⟩
 ·have:=List.findIdx_getElem (w:=h);rw[XL h];exact of_decide_eq_true this
 ·have:=List.not_of_lt_findIdx hj;rw[XL (by omega)];simpa using this
theorem qc (A:List Ac)(s:ByteArray):YV A s<=A.length:=List.findIdx_le_length
theorem G5 {A:List Ac}{s:ByteArray}(h:¬ YV A s<A.length):∀ j,j<A.length->(aca A j).1≠s:=fun j hj e=>by
 have h1:=qc A s;have h2:YV A s=A.length:=by omega
 unfold YV at h2;rw[List.findIdx_eq_length] at h2;have:=h2 (aca A j) (Sr hj);exact of_decide_eq_false this e
theorem AB {A:List Ac}{s:ByteArray}{i:Nat}(h:i<=A.length)(hb:∀ j,j<i->Un (aca A j).1 s=true)(hi:i<A.length->Un (aca A i).1 s=false):Yf A s=i:=by
 unfold Yf;rcases Nat.lt_or_ge i A.length with h1 | h1
 ·rw[List.findIdx_eq h1];refine⟨by rw[<- XL h1,hi h1]; rfl,fun j hj=>?_⟩;rw[<- XL (by omega),hb j hj];rfl
 ·have:i=A.length:=by omega
  subst this;rw[List.findIdx_eq_length];intro x hx;obtain⟨j,hj,rfl⟩:=List.mem_iff_getElem.1 hx;rw[<- XL hj,hb j hj];rfl
theorem Rh (A:List Ac)(s:ByteArray):Yf A s<=A.length:=List.findIdx_le_length
theorem pY {A:List Ac}{s:ByteArray}{j:Nat}(hj:j<Yf A s):Un (aca A j).1 s=true:=by
 have h1:=Rh A s;have:=List.not_of_lt_findIdx hj;rw[XL (by omega)];simpa using this
theorem ah0 {A:List Ac}{s:ByteArray}(h:Yf A s<A.length):Un (aca A (Yf A s)).1 s=false:=by
 have this:(!Un (A[Yf A s]'h).1 s)=true:=List.findIdx_getElem (w:=h);rw[XL h]
 revert this
 cases Un (A[Yf A s]'h).1 s <;> simp
theorem yF {A:List Ac}{s:ByteArray}(h:Jq A)(hf:YV A s<A.length):Yf A s=YV A s:=by
 obtain⟨h1,h2⟩:=Px hf;refine AB (qc A s) (fun j hj=>?_) (fun _=>?_)
 ·have:=h j _ hj hf;rwa [h1] at this
 ·rw[h1,L6]
theorem iG {A:List Ac}{s:ByteArray}(h:Jq A):(decide (YV A s<A.length))=(decide (Yf A s<A.length/\(aca A (Yf A s)).1=s)):=by
 rw[decide_eq_decide];constructor
 ·intro hf;rw[yF h hf];exact⟨hf,(Px hf).1⟩
 ·rintro⟨h1,h2⟩;refine Decidable.byContradiction fun hn=>G5 hn _ h1 h2
theorem UR {A:List Ac}{a:Ac}(h:YV A a.1<A.length):Yt A a=A.set (YV A a.1) a:=if_pos h
theorem Qz {A:List Ac}{a:Ac}(h:¬ YV A a.1<A.length):Yt A a=A.take (Yf A a.1)++a::A.drop (Yf A a.1):=if_neg h
theorem Wv (A:List Ac)(a:Ac):(Yt A a).length=if YV A a.1<A.length then A.length else A.length+1:=by
 by_cases h:YV A a.1<A.length
 ·rw[UR h,if_pos h,List.length_set]
 ·have:=Rh A a.1;rw[Qz h,if_neg h,List.length_append,List.length_cons,List.length_take,List.length_drop];omega
theorem GN {A:List Ac}{i j:Nat}{a:Ac}(h:i<A.length):aca (A.set i a) j=if j=i then a else aca A j:=by
 unfold aca;rw[List.getD_eq_getElem?_getD,List.getElem?_set,List.getD_eq_getElem?_getD];by_cases e:j=i
 ·subst e; rw[if_pos rfl,if_pos h,if_pos rfl]; rfl
 ·rw[if_neg (fun q=>e q.symm),if_neg e]
theorem GL {A:List Ac}{i j:Nat}{a:Ac}(h:i<=A.length):aca (A.take i++a::A.drop i) j=if j<i then aca A j else if j=i then a else aca A (j-1):=by
 unfold aca;have ht:(A.take i).length=i:=by rw[List.length_take]; omega
 simp only[List.getD_eq_getElem?_getD];by_cases h1:j<i
 ·rw[if_pos h1,List.getElem?_append_left (by omega),List.getElem?_take,if_pos h1]
 rw[if_neg h1,List.getElem?_append_right (by omega),ht];by_cases h2:j=i
 ·subst h2; rw[if_pos rfl,Nat.sub_self]; rfl
 ·rw[if_neg h2];obtain⟨d,rfl⟩:∃ d,j=i+1+d:=⟨j-i-1,by omega⟩;rw[show i+1+d-i=d+1 by omega,List.getElem?_cons_succ,List.getElem?_drop,show i+1+d-1=i+d by omega]
theorem OL {A:List Ac}{a:Ac}(h:Jq A):Jq (Yt A a):=by
 have hl:=Wv A a;by_cases hf:YV A a.1<A.length
 ·rw[if_pos hf] at hl;intro i j hij hj;rw[UR hf,GN hf,GN hf];obtain⟨h1,-⟩:=Px hf;by_cases e1:i=YV A a.1
  ·subst e1;rw[if_pos rfl,if_neg (by omega),<- h1];exact h _ _ hij (by omega)
  ·rw[if_neg e1];by_cases e2:j=YV A a.1
   ·subst e2;rw[if_pos rfl,<- h1];exact h _ _ hij (by omega)
   ·rw[if_neg e2];exact h _ _ hij (by omega)
 ·rw[if_neg hf] at hl;have hle:=Rh A a.1;have hge:∀ k,Yf A a.1<=k->k<A.length->Un a.1 (aca A k).1=true:=fun k h1 h2=>by
   have hn:=G5 hf;have h3:=ah0 (A:=A) (s:=a.1) (by omega);have h4:=GU h3 (hn _ (by omega));rcases Nat.lt_or_ge (Yf A a.1) k with h5 | h5
   ·exact NQ h4 (h _ _ h5 h2)
   ·have:k=Yf A a.1:=(by omega);rw[this]; exact h4
  intro i j hij hj;rw[Qz hf,GL hle,GL hle];by_cases e1:j<Yf A a.1
  ·rw[if_pos (by omega),if_pos e1];exact h _ _ hij (by omega)
  rw[if_neg e1];by_cases e2:j=Yf A a.1
  ·rw[if_pos e2,if_pos (by omega)];exact pY (by omega)
  rw[if_neg e2];by_cases e3:i<Yf A a.1
  ·rw[if_pos e3];exact NQ (pY e3) (hge _ (by omega) (by omega))
  rw[if_neg e3];by_cases e4:i=Yf A a.1
  ·rw[if_pos e4];exact hge _ (by omega) (by omega)
  ·rw[if_neg e4];exact h _ _ (by omega) (by omega)
theorem OJ {A:List Ac}{a:Ac}(h:Bq A)(ha:isName (nums a.1)=true):Bq (Yt A a):=by
 have hl:=Wv A a;intro i hi;by_cases hf:YV A a.1<A.length
 ·rw[if_pos hf] at hl;rw[UR hf,GN hf];by_cases e:i=YV A a.1
  ·rw[if_pos e]; exact ha
  ·rw[if_neg e]; exact h i (by omega)
 ·rw[if_neg hf] at hl;rw[Qz hf,GL (Rh A a.1)];by_cases e:i<Yf A a.1
  ·rw[if_pos e]; exact h i (by have:=Rh A a.1; omega)
  rw[if_neg e];by_cases e2:i=Yf A a.1
  ·rw[if_pos e2]; exact ha
  ·rw[if_neg e2]; exact h _ (by omega)
def WS (B:List Ac):List Ac->List Ac×Int
 | []=>(B,0)
 | a::r=>if isName (nums a.1)=false then ([],10) else if YV B a.1<B.length then ([],8) else WS (Yt B a) r
def Rx (A:List Ac):List Ac×Int:=
 if 256<A.length then ([],3) else if (WS [] A).2≠0 then ([],(WS [] A).2) else if Xu (WS [] A).1 0=true then ((WS [] A).1,0) else ([],6)
def OT (A:List Ac)(c:Int)(a:Ac):List Ac×Int×Int:=
 if YE A c≠0 then ([],0,YE A c) else if isName (nums a.1)=false then ([],0,10) else if 256<(Yt A a).length then ([],0,3) else if Xu (Yt A a) c=true then (Yt A a,c,0) else ([],0,6)
def Zl (A:List Ac)(s:ByteArray):Ac×Bool:=if YV A s<A.length then (aca A (YV A s),true) else (WJ,false)
theorem pX:∀ (A B:List Ac),Jq B->Bq B->(WS B A).2=0->Jq (WS B A).1/\Bq (WS B A).1/\(WS B A).1.length=B.length+A.length
 | [],B,h1,h2,h3=>⟨h1,h2,rfl⟩
 | a::r,B,h1,h2,h3=>by
  unfold WS at h3 ⊢;by_cases e1:isName (nums a.1)=false
  ·rw[if_pos e1] at h3; cases h3
  rw[if_neg e1] at h3 ⊢;by_cases e2:YV B a.1<B.length
  ·rw[if_pos e2] at h3; cases h3
  rw[if_neg e2] at h3 ⊢;obtain⟨q1,q2,q3⟩:=pX r (Yt B a) (OL h1) (OJ h2 (by simpa using e1)) h3;refine⟨q1,q2,?_⟩;rw[q3,Wv,if_neg e2,List.length_cons];omega
theorem yE:Jq []:=fun i j h1 h2=>by simp at h2
theorem yD:Bq []:=fun i h=>by simp at h
theorem iE {A:List Ac}(h:(Rx A).2=0):YE (Rx A).1 0=0/\(Rx A).1.length=A.length:=by
 unfold Rx at h ⊢;by_cases e1:256<A.length
 ·rw[if_pos e1] at h; cases h
 rw[if_neg e1] at h ⊢;by_cases e2:(WS [] A).2=0
 ·rw[e2,if_neg (by simp)] at h ⊢;by_cases e3:Xu (WS [] A).1 0=true
  ·rw[if_pos e3];obtain⟨q1,q2,q3⟩:=pX A [] yE yD e2;have q4:(WS [] A).1.length=A.length:=(by simpa using q3);exact⟨GR (by rw[q4]; omega) q1 q2 e3,q4⟩
  ·rw[if_neg e3] at h; cases h
 ·rw[if_pos e2] at h;exact absurd h e2
theorem xZ {A:List Ac}{c:Int}{a:Ac}(h:(OT A c a).2.2=0):OT A c a=(Yt A a,c,0)/\YE A c=0/\isName (nums a.1)=true/\YE (Yt A a) c=0:=by
 unfold OT at h ⊢;by_cases e1:YE A c=0
 ·rw[e1,if_neg (by simp)] at h ⊢;by_cases e2:isName (nums a.1)=false
  ·rw[if_pos e2] at h; cases h
  rw[if_neg e2] at h ⊢;by_cases e3:256<(Yt A a).length
  ·rw[if_pos e3] at h; cases h
  rw[if_neg e3] at h ⊢;by_cases e4:Xu (Yt A a) c=true
  ·rw[if_pos e4];obtain⟨-,q2,q3,-⟩:=Vx e1;exact⟨rfl,rfl,by simpa using e2,GR (by omega) (OL q2) (OJ q3 (by simpa using e2)) e4⟩
  ·rw[if_neg e4] at h; cases h
 ·rw[if_pos e1] at h;exact absurd h e1
theorem qK {A:List Ac}{a:Ac}(h:A.length<=256):(256<(Yt A a).length)↔(¬ YV A a.1<A.length/\A.length=256):=by
 rw[Wv];by_cases hf:YV A a.1<A.length
 ·rw[if_pos hf];exact⟨fun q=>by omega,fun q=>absurd hf q.1⟩
 ·rw[if_neg hf];exact⟨fun q=>⟨hf,by omega⟩,fun q=>by omega⟩
def TM (A:List Ac):Prop:=∀ i,i<A.length->W64 (aca A i).2.1/\W64 (aca A i).2.2
theorem Qy {A:List Ac}(h:TM A):∀ x,x∈A->W64 x.2.1/\W64 x.2.2:=fun x hx=>by
 obtain⟨j,hj,rfl⟩:=List.mem_iff_getElem.1 hx;rw[<- XL hj];exact h j hj
theorem Hl {A:List Ac}(h:∀ x,x∈A->W64 x.2.1/\W64 x.2.2):TM A:=fun i hi=>h _ (Sr hi)
theorem Ue:TM []:=fun i h=>by simp at h
theorem put_mem {A:List Ac}{a x:Ac}(h:x∈Yt A a):x=a∨x∈A:=by
 unfold Yt at h
 split at h
 ·rcases List.mem_or_eq_of_mem_set h with h1 | h1
  ·exact .inr h1
  ·exact .inl h1
 ·rcases List.mem_append.1 h with h1 | h1
  ·exact .inr (List.mem_of_mem_take h1)
  ·rcases List.mem_cons.1 h1 with h2 | h2
   ·exact .inl h2
   ·exact .inr (List.mem_of_mem_drop h2)
theorem EI {A:List Ac}{a:Ac}(h:TM A)(ha:W64 a.2.1/\W64 a.2.2):TM (Yt A a):=Hl fun x hx=>(put_mem hx).elim (fun e=>e ▸ ha) (Qy h x)
theorem qC:∀ (A B:List Ac),TM B->(∀ x,x∈A->W64 x.2.1/\W64 x.2.2)->TM (WS B A).1
 | [],B,h1,h2=>h1
 | a::r,B,h1,h2=>by
  unfold WS
  split
  ·exact Ue
  split
  ·exact Ue
  exact qC r (Yt B a) (EI h1 (h2 a (List.mem_cons_self ..))) (fun x hx=>h2 x (List.mem_cons_of_mem _ hx))
theorem ah1 {A:List Ac}(h:TM A):TM (Rx A).1:=by
 unfold Rx
 split
 ·exact Ue
 split
 ·exact Ue
 split
 ·exact qC A [] Ue (Qy h)
 ·exact Ue
end Go.Proofs.YtfpnnmeblefkkaaGreatDoor.Lg
namespace Go.Proofs.YtfpnnmeblefkkaaGreatDoor.Lg
attribute [local irreducible] wpList wpQuiet
open Go.RowKit
theorem VL (V:World)(x:Ac):∃ V2,(Instr.storeAt 56 (Z5 V.heap.size 0) (.agg (Zt x))).run Tryz.prog (V.alloc (.cells (Zt WJ) 56))=.ok () V2/\Below V.heap.size V V2/\Bx V2 V.heap.size (Zt x) 56:=
 have hb:Bx (V.alloc (.cells (Zt WJ) 56)) V.heap.size (Zt WJ) 56:=heap_alloc_last V _
 ⟨_,(XV hb).1,ZT ((Below.refl _ V).alloc (Nat.le_refl _) _) (Nat.le_refl _) _,(XV hb).2⟩
abbrev ZU (a:Option Addr)(n k:Nat)(c:Int):Array Value:=#[.slice a n k,Z7 c]
theorem ZF {w:World}{g:Nat}{a a':Option Addr}{n n' k k':Nat}{c c':Int}(h:Bx w g (ZU a n k c) 30):(Instr.storeAt 30 (Z5 g 0) (.agg (ZU a' n' k' c'))).run Tryz.prog w=.ok () (w.setRow g (ZU a' n' k' c'))/\Bx (w.setRow g (ZU a' n' k' c')) g (ZU a' n' k' c') 30:=
 ⟨Yg h rfl (by simp[Value.oneCell']) (by kernel_rfl),h.set⟩
theorem XM (V:World)(a:Option Addr)(n k:Nat)(c:Int):∃ V2,(Instr.storeAt 30 (Z5 V.heap.size 0) (.agg (ZU a n k c))).run Tryz.prog (V.alloc (.cells (ZU none 0 0 0) 30))=.ok () V2/\Below V.heap.size V V2/\Bx V2 V.heap.size (ZU a n k c) 30:=
 have hb:Bx (V.alloc (.cells (ZU none 0 0 0) 30)) V.heap.size (ZU none 0 0 0) 30:=heap_alloc_last V _
 ⟨_,(ZF hb).1,ZT ((Below.refl _ V).alloc (Nat.le_refl _) _) (Nat.le_refl _) _,(ZF hb).2⟩
theorem ZP {w:World}{g:Nat}{a:Option Addr}{n k:Nat}{c:Int}(h:Bx w g (ZU a n k c) 30):(Instr.loadAt 30 (Z5 g 0)).run Tryz.prog w=.ok (.agg (ZU a n k c)) w:=
 run_loadAt_mid w g 0 30 [.slice a n k,Z7 c] _ (fun j v hv=>by
  rw[cell_of_row w g _ _ _ (0,0) h];simpa using hv) Tryz.underlying30 rfl (by kernel_rfl)
theorem qh:∀ (x y:List UInt8),(Lib.compareBytes x y<0↔x<y)/\(Lib.compareBytes x y=0↔x=y)
 | [],[]=>by simp[Lib.compareBytes]
 | [],_::_=>by simp[Lib.compareBytes]
 | _::_,[]=>by simp[Lib.compareBytes]
 | a::x,b::y=>by
  obtain⟨h1,h2⟩:=qh x y;unfold Lib.compareBytes;by_cases e1:a<b
  ·rw[if_pos e1];have:a≠b:=fun e=>(by subst e; exact absurd e1 (UInt8.lt_irrefl _));simp[List.cons_lt_cons_iff,e1,this]
  rw[if_neg e1];by_cases e2:b<a
  ·rw[if_pos e2];have h3:a≠b:=fun e=>(by subst e; exact absurd e2 (UInt8.lt_irrefl _));simp[List.cons_lt_cons_iff,e1,h3]
  ·rw[if_neg e2];have h3:a=b:=UInt8.le_antisymm (UInt8.not_lt.1 e2) (UInt8.not_lt.1 e1);subst h3;simp[List.cons_lt_cons_iff,e1,h1,h2]
def GV (a b:ByteArray):Int:=Lib.compareBytes a.data.toList b.data.toList
theorem iJ (a b:ByteArray):decide (GV a b<0)=Un a b:=decide_eq_decide.2 (qh _ _).1
theorem iI (a b:ByteArray):decide (GV a b=0)=decide (a=b):=decide_eq_decide.2 ((qh _ _).2.trans ⟨fun h=>ByteArray.ext (Array.toList_inj.1 h),fun h=>by rw[h]⟩)
theorem ag7 (a b:ByteArray)(w:World):Calls Tryz.prog 157 #[.string a,.string b] w fun e w'=>e=.returned (Z8 (GV a b))/\w=w':=by
 go_enter Tryz.func157,Tryz.ntmps157;go_wp2;rw[run_callFunc_extern Tryz.func158 (by kernel_rfl) (by kernel_rfl) (by kernel_rfl) (e:=Extern.BytealgCompare.compare) (by kernel_rfl),Lib.run_compareString];simp only[Result.andThen];rw[Oper.upon_value];go_wp2;go_ret;exact⟨rfl,rfl⟩
theorem av6 (a b:ByteArray)(w:World):Calls Tryz.prog 150 #[.string a,.string b] w fun e w'=>e=.returned (Z8 (GV a b))/\w=w':=by
 have CB:=ag7 a b w;generalize GV a b=q at *
 go_enter Tryz.func150,Tryz.ntmps150;go_upto_region 1 with fail;refine wl<|ZG (.string a) (.string b)<|YW (Z8 q) (fun w'=>w=w') (CB) (fun V9 XC=>?_);subst XC;refine ZV (Z8 q)<|wn ?_;simp only[pu];clear CB;go_wp2_with fail;go_ret;exact⟨rfl,rfl⟩
theorem Eu (x:Ac)(s:ByteArray)(w:World):Calls Tryz.prog 149 #[.agg (Zt x),.string s] w fun e w'=>e=.returned (Z8 (GV x.1 s))/\Below w.heap.size w w':=by
 have hb0:Below w.heap.size w (w.alloc (.cells (Zt x) 56)):=(Below.refl _ w).alloc (Nat.le_refl _) _;have hX:Bx (w.alloc (.cells (Zt x) 56)) w.heap.size (Zt x) 56:=heap_alloc_last w _;have CB:=av6 x.1 s (w.alloc (.cells (Zt x) 56));obtain⟨q,hq⟩:=ZR (GV x.1 s);rw[hq] at CB ⊢;clear hq;go_enter Tryz.func149,Tryz.ntmps149;go_upto_region 1 with fail;change Code.wp _ _ _ _ (w.alloc (.cells (Zt x) 56));generalize w.alloc (.cells (Zt x) 56)=W at *
 have HB:=Z9 hb0;clear hb0;refine wl<|ZV (Z5 w.heap.size 0)<|ZK rfl ⟨w.heap.size,0,none⟩ (.string x.1) (hX.ZQ 0)<|ZV (.string s)<|YW (Z8 q) (fun w'=>W=w') (CB) (fun V9 XC=>?_);subst XC;refine ZV (Z8 q)<|wn ?_;simp only[pu];clear CB hX;go_wp2_with fail;go_ret;exact⟨rfl,HB.out⟩
theorem Vw {ρ:Operand->Value}{o:Oper}{x:Operand}(ho:o.op=.convert 3 140 x)(a:Nat)(h:a<=9223372036854775807)(hx:ρ x=Z8 a)(w:World):(execOp ρ o).run Tryz.prog w=.ok (.value (Z7 a)) w:=by
 have e:IntKind.u64.wrap (a:Int)=a:=by rw[IntKind.wrap_u64]; omega
 unfold execOp;simp only[ho,hx];go_simp
theorem iH {ρ:Operand->Value}{o:Oper}{x:Operand}(ho:o.op=.convert 140 3 x)(a:Nat)(h:a<=9223372036854775807)(hx:ρ x=Z7 a)(w:World):(execOp ρ o).run Tryz.prog w=.ok (.value (Z8 a)) w:=by
 have e:IntKind.i64.wrap (a:Int)=a:=by rw[IntKind.wrap_i64]; omega
 unfold execOp;simp only[ho,hx];go_simp
theorem ag8 {ρ:Operand->Value}{o:Oper}{x y:Operand}(ho:o.op=.binOp .shr 140 x y 140)(a:Nat)(h:a<=9223372036854775807)(hx:ρ x=Z7 a)(hy:ρ y=Z7 1)(w:World):(execOp ρ o).run Tryz.prog w=.ok (.value (Z7 (a / 2:Nat))) w:=by
 unfold execOp;simp only[ho,hx,hy];go_simp
theorem aL9 (a:Option Addr)(k:Nat)(A:List Ac)(s:ByteArray)(w:World)(hR:Cs w a (acc A))(hs:Jq A)(hn:A.length<=1000000) :
  Calls Tryz.prog 148 #[.slice a A.length k,.string s,.func (.func 149) #[] #[]] w fun e w'=>e=.returned (.tuple #[Z8 (Yf A s),.bool (decide (YV A s<A.length))])/\Below w.heap.size w w':=by
 have HA:=Z9 hR;have yg:=Z9 (fun i=>iJ (aca A i).1 s);have HEQ:=Z9 (fun i=>iI (aca A i).1 s);have HS:=Z9 hs;obtain⟨n,hnn⟩:=ZR A.length;have HN:=Z9 hnn;have Vh:Hid (n<=1000000):=Z9 (by omega);obtain⟨lL,hlL⟩:=ZR (Yf A s);obtain⟨fF,vO⟩:=ZR (decide (YV A s<n));have Jt:Hid (∀ i,i<=n->(∀ t,t<i->Un (aca A t).1 s=true)->(∀ t,i<=t->t<n->Un (aca A t).1 s=false)->i=lL/\fF=decide (i<n/\(aca A i).1=s)):=Z9 fun i h1 h2 h3=>by
  have e:=AB (A:=A) (s:=s) (i:=i) (by omega) h2 (fun h=>h3 i (Nat.le_refl _) (by omega));refine⟨by rw[<- hlL,e],?_⟩;rw[<- vO,<- hnn,iG hs,e]
 rw[hnn,hlL,vO];clear hlL vO hR hs hn hnn;go_enter Tryz.func148,Tryz.ntmps148;go_upto_region 1 with fail;refine wl<|YG (.slice a n k) (Z8 n) (Z8 n)<|wn ?_;simp only[pu];go_upto_region 2 with fail;refine wl<|YG (Z8 n) (Z8 0) (Z8 n)<|wn ?_;simp only[pu];go_wp2_with fail;go_loopg [9,10] n (fun gg s9 s10 wx=>∃ i j:Nat,s9=Z8 i/\s10=Z8 j/\i<=j/\j<=n/\Hid ((∀ t,t<i->Un (aca A t).1 s=true)/\(∀ t,j<=t->t<n->Un (aca A t).1 s=false))/\Hid (Below w.heap.size w wx)/\j-i=gg)
 case atStart=>exact⟨0,n,rfl,rfl,by omega,by omega,Z9 ⟨fun t h=>by omega,fun t h h2=>by omega⟩,Z9 (Below.refl _ _),by omega⟩
 case round=>
  obtain⟨i,j,rfl,rfl,hij,hjn,HO,HB,hg⟩:=hrel;have EU:=Vh.out;by_cases hlt:i<j
  ·go_upto_region 3 with fail;refine wl<|ZG (Z8 i) (Z8 j)<|ZN (Zy rfl (i) (j) dT)<|wn ?_;simp only[pu];go_upto_region 4 with fail;refine wl<|ZG (Z8 i) (Z8 j)<|YC (Z8 (i+j:Nat)) (ZH rfl i j (by omega))<|YN (Z7 (i+j:Nat)) (Vw rfl (i+j) (by omega) (by kernel_rfl) _) <|
    YC (Z7 ((i+j) / 2:Nat)) (ag8 rfl (i+j) (by omega))<|YN (Z8 ((i+j) / 2:Nat)) (iH rfl ((i+j) / 2) (by omega) (by kernel_rfl) _)<|ZV (Z8 ((i+j) / 2:Nat))<|wn ?_
   simp only[pu];obtain⟨h,hh⟩:=ZR ((i+j) / 2);have HH:Hid (i<=h/\h<j):=Z9 (by omega);have hhn:h<n:=(by have:=HH.out; omega);rw[hh];clear hh;obtain⟨b,off,rfl,-,hrx⟩:=YJ (HA.out.below HB.out) (k:=h) (by rw[HN.out]; exact hhn);have YL:=Z9 (XK hrx);have hl1:=yg.out h;generalize hy:aca A h=y at *
   have CP:=Eu y s wr;obtain⟨q,hq⟩:=ZR (GV y.1 s);rw[hq] at CP hl1;have HY:=Z9 hy;have HG:=Z9 hg;clear hrx hq hy hg;go_upto_region 5 with fail;by_cases hqq:q<0
   ·rw[decide_eq_true hqq] at hl1;refine wl<|YG (.func (.func 149) #[] #[]) (.slice (some ⟨b,off,none⟩) n k) (Z8 h)<|YN (Z5 b (off+h*3)) (YK b off n k h hhn _ _ _ rfl (by kernel_rfl) (by kernel_rfl))<|ZK rfl ⟨b,off+h*3,none⟩ (.agg (Zt y)) (YL.out) <|
     ZV (.string s)<|YW (Z8 q) (fun w'=>Below wr.heap.size wr w') (CP) (fun V9 XC=>?_)
    have Zp:=Z9 (HB.out.trans (XC.mono HB.out.size));refine ZN (Zy rfl (q) (0) (decide_eq_true (hqq)))<|wn ?_;simp only[pu];clear XC HB YL CP hqq;have Ez:Hid ((∀ t,t<h+1->Un (aca A t).1 s=true)/\(∀ t,j<=t->t<n->Un (aca A t).1 s=false)):=Z9 ⟨fun t ht=>(by rcases Nat.lt_or_ge t h with h7 | h7; exact NQ (HS.out t h h7 (by rw[HN.out]; exact hhn)) (by rw[HY.out]; exact hl1.symm); have e7:t=h:=(by omega); rw[e7,HY.out]; exact hl1.symm),HO.out.2⟩;go_upto_region 6 with fail;refine wl<|ZV (Z8 h)<|YC (Z8 (h+1:Nat)) (ZH rfl h 1 (by omega))<|ZV (Z8 (h+1:Nat))<|wn ?_;simp only[pu];clear HO hl1;go_wp2_with fail;go_roundg (j-(h+1))
    case measure=>have:=HG.out; have:=HH.out; omega
    case rel=>exact⟨h+1,j,rfl,rfl,by have:=HH.out; omega,hjn,Ez,Zp,rfl⟩
   ·rw[decide_eq_false hqq] at hl1;refine wl<|YG (.func (.func 149) #[] #[]) (.slice (some ⟨b,off,none⟩) n k) (Z8 h)<|YN (Z5 b (off+h*3)) (YK b off n k h hhn _ _ _ rfl (by kernel_rfl) (by kernel_rfl))<|ZK rfl ⟨b,off+h*3,none⟩ (.agg (Zt y)) (YL.out) <|
     ZV (.string s)<|YW (Z8 q) (fun w'=>Below wr.heap.size wr w') (CP) (fun V9 XC=>?_)
    have Zp:=Z9 (HB.out.trans (XC.mono HB.out.size));refine ZN (Zy rfl (q) (0) (decide_eq_false (hqq)))<|wn ?_;simp only[pu];clear XC HB YL CP hqq;have Ez:Hid ((∀ t,t<i->Un (aca A t).1 s=true)/\(∀ t,h<=t->t<n->Un (aca A t).1 s=false)):=Z9 ⟨HO.out.1,fun t ht htn=>(by have h0:Un (aca A h).1 s=false:=(by rw[HY.out]; exact hl1.symm); rcases Nat.lt_or_ge h t with h7 | h7; have h8:=HS.out h t h7 (by rw[HN.out]; exact htn); by_cases h9:Un (aca A t).1 s=true; rw[NQ h8 h9] at h0; cases h0; simpa using h9; have e7:t=h:=(by omega); rw[e7]; exact h0)⟩;go_upto_region 7 with fail;refine wl<|ZG (Z8 h) (Z8 h)<|wn ?_;simp only[pu];clear HO hl1;go_wp2_with fail;go_roundg (h-i)
    case measure=>have:=HG.out; have:=HH.out; omega
    case rel=>exact⟨i,h,rfl,rfl,by have:=HH.out; omega,by have:=HH.out; omega,Ez,Zp,rfl⟩
  ·obtain rfl:i=j:=(by omega);obtain⟨hil,hff⟩:=Jt.out i hjn HO.out.1 HO.out.2;subst hil;clear HO Jt hg hij;by_cases hin:i<n
   ·obtain⟨b,off,rfl,-,hrx⟩:=YJ (HA.out.below HB.out) (k:=i) (by rw[HN.out]; exact hin);have YL:=Z9 (XK hrx);have hl1:=HEQ.out i;have iF:fF=decide ((aca A i).1=s):=(by rw[hff,decide_eq_decide]; exact⟨fun h=>h.2,fun h=>⟨hin,h⟩⟩);clear hff;generalize aca A i=y at *
    rw[<- hl1] at iF;have CP:=Eu y s wr;obtain⟨q,hq⟩:=ZR (GV y.1 s);rw[hq] at CP iF;have HFF:=Z9 iF.symm;clear hrx hq hl1 iF;go_upto_region 3 with fail;refine wl<|ZG (Z8 i) (Z8 i)<|ZN (Zy rfl (i) (i) dF)<|wn ?_;simp only[pu];go_upto_region 8 with fail;refine wl<|YG (Z8 i) (Z8 i) (Z8 n)<|ZN (Zy rfl (i) (n) dT)<|WM ZW (.func (.func 149) #[] #[]) (.slice (some ⟨b,off,none⟩) n k) (Z8 i) <|
     YN (Z5 b (off+i*3)) (YK b off n k i hin _ _ _ rfl (by kernel_rfl) (by kernel_rfl))<|ZK rfl ⟨b,off+i*3,none⟩ (.agg (Zt y)) (YL.out)<|ZV (.string s)<|YW (Z8 q) (fun w'=>Below wr.heap.size wr w') (CP) (fun V9 XC=>?_)
    have Zp:=Z9 (HB.out.trans (XC.mono HB.out.size));refine YC (.bool fF) (ZI rfl q 0 HFF.out)<|YG (.bool fF) (Z8 i) (.bool fF)<|wn ?_;simp only[pu];clear XC HB YL CP HFF;go_wp2_with fail;go_ret2;exact⟨rfl,Zp.out⟩
   ·rw[decide_eq_false (fun h=>hin h.1)] at hff;subst hff;go_upto_region 3 with fail;refine wl<|ZG (Z8 i) (Z8 i)<|ZN (Zy rfl (i) (i) dF)<|wn ?_;simp only[pu];go_upto_region 8 with fail;refine wl<|YG (Z8 i) (Z8 i) (Z8 n)<|ZN (Zy rfl (i) (n) dF)<|Zc ZY undef undef undef undef undef<|Zc undef undef undef ZY (Z8 i) ZY <|
     wpList_nil ?_
    simp only[pu];go_wp2_with fail;go_ret2;exact⟨rfl,HB.out⟩
theorem je (a:Option Addr)(k:Nat)(A:List Ac)(s:ByteArray)(w:World)(hR:Cs w a (acc A))(hs:Jq A)(hn:A.length<=1000000) :
  Calls Tryz.prog 138 #[.slice a A.length k,.string s] w fun e w'=>e=.returned (.tuple #[Z8 (Yf A s),.bool (decide (YV A s<A.length))])/\Below w.heap.size w w':=by
 have CB:=aL9 a k A s w hR hs hn;obtain⟨lL,hlL⟩:=ZR (Yf A s);obtain⟨fF,vO⟩:=ZR (decide (YV A s<A.length));rw[hlL,vO] at CB ⊢;generalize A.length=n at *
 clear hlL vO hR hs hn;go_enter Tryz.func138,Tryz.ntmps138;go_upto_region 1 with fail;refine wl<|ZG (.slice a n k) (.string s)<|YW (.tuple #[Z8 lL,.bool fF]) (fun w'=>Below w.heap.size w w') (CB) (fun V9 XC=>?_);have Zp:=Z9 XC;refine WM (Z8 lL) (.bool fF) (Z8 lL) (.bool fF)<|wn ?_;simp only[pu];clear XC CB;go_wp2_with fail;go_ret2;exact⟨rfl,Zp.out⟩
def Pq (A:List Ac)(s:ByteArray):Int:=if YV A s<A.length then YV A s else -1
theorem OM (a:Option Addr)(k:Nat)(A:List Ac)(s:ByteArray)(w:World)(hR:Cs w a (acc A))(hn:A.length<=4398046511104) :
  Calls Tryz.prog 83 #[.slice a A.length k,.string s] w fun e w'=>e=.returned (Z8 (Pq A s))/\Below w.heap.size w w':=by
 have HA:=Z9 hR;obtain⟨n,hnn⟩:=ZR A.length;have HN:=Z9 hnn;have Vh:Hid (n<=4398046511104):=Z9 (by omega);have HF1:Hid (∀ i,i<n->(∀ t,t<i->(aca A t).1≠s)->(aca A i).1=s->Pq A s=i):=Z9 fun i h1 h2 h3=>by
  have e:=qB (A:=A) (by omega) h2 h3;unfold Pq;rw[e,if_pos (by omega)]
 have HF2:Hid ((∀ t,t<n->(aca A t).1≠s)->Pq A s=-1):=Z9 fun h=>by
  have e:=qy (A:=A) (s:=s) (fun j hj=>h j (by omega));unfold Pq;rw[e,if_neg (by omega)]
 rw[hnn];generalize Pq A s=r at *
 clear hR hn hnn;go_enter Tryz.func83,Tryz.ntmps83;go_upto_region 1 with fail;refine wl<|YG (.slice a n k) (Z8 n) (Z8 0)<|wn ?_;simp only[pu];go_wp2_with fail;go_loopg [9] n (fun gg s9 wx=>∃ j:Nat,s9=Z8 j/\j<=n/\Hid (∀ t,t<j->(aca A t).1≠s)/\Hid (Below w.heap.size w wx)/\n-j=gg)
 case atStart=>exact⟨0,rfl,by omega,Z9 (fun t h=>by omega),Z9 (Below.refl _ _),by omega⟩
 case round=>
  obtain⟨j,rfl,hj,HO,HB,hg⟩:=hrel;have EU:=Vh.out;by_cases hlt:j<n
  ·obtain⟨b,off,rfl,-,hrx⟩:=YJ (HA.out.below HB.out) (k:=j) (by rw[HN.out]; exact hlt);have YL:=Z9 (XK hrx);have hf1:=HF1.out j hlt HO.out;generalize hy:aca A j=y at *
   have HY:=Z9 hy;have HG:=Z9 hg;obtain⟨V2,hst,hb2,hbx⟩:=VL wr y;have HB2:=Z9 (HB.out.trans (hb2.mono HB.out.size));clear hrx hy hg hb2;go_upto_region 2 with fail;refine wl<|ZN (Zy rfl (j) (n) dT)<|wn ?_;simp only[pu];go_upto_region 3 with fail;refine wl<|ZV (Z8 j)<|YN (Z5 b (off+j*3)) (YK b off n k j hlt _ _ _ rfl (by kernel_rfl) (by kernel_rfl))<|ZK rfl ⟨b,off+j*3,none⟩ (.agg (Zt y)) (YL.out) ?_;refine Zz rfl (some 6) rfl (Z5 wr.heap.size 0) (wr.alloc (.cells (Zt WJ) 56)) (by kernel_rfl) ?_;refine ZV (Z8 j)<|Zr rfl (hst)<|wn ?_;simp only[pu];obtain⟨g4,hg4⟩:=ZR wr.heap.size;rw[hg4] at hbx ⊢;clear hst hg4 YL;by_cases rZ:y.1=s
   ·go_upto_region 4 with fail;refine wl<|ZV (Z5 g4 0)<|ZK rfl ⟨g4,0,none⟩ (.string y.1) (hbx.ZQ 0)<|ZV (.string s)<|YC ZW (Ud rfl y.1 s (by rw[Jm]; exact decide_eq_true rZ))<|wn ?_;simp only[pu];clear hbx;have HR:=Z9 (hf1 rZ);clear hf1 HO HB;go_upto_region 5 with fail;refine wl<|ZG (Z8 j) (Z8 j)<|wn ?_;simp only[pu];go_wp2_with fail;go_ret;exact⟨by rw[HR.out]; rfl,HB2.out⟩
   ·go_upto_region 4 with fail;refine wl<|ZV (Z5 g4 0)<|ZK rfl ⟨g4,0,none⟩ (.string y.1) (hbx.ZQ 0)<|ZV (.string s)<|YC ZY (Ud rfl y.1 s (by rw[Jm]; exact decide_eq_false rZ))<|wn ?_;simp only[pu];clear hbx;have Ez:Hid (∀ t,t<j+1->(aca A t).1≠s):=Z9 fun t ht=>(by rcases Nat.lt_or_ge t j with h7 | h7; exact HO.out t h7; have e7:t=j:=(by omega); rw[e7,HY.out]; exact rZ);clear hf1 HO HB rZ;go_upto_region 6 with fail;refine wl<|YC (Z8 (j+1:Nat)) (ZH rfl j 1 (by omega))<|ZV (Z8 (j+1:Nat))<|wn ?_;simp only[pu];go_wp2_with fail;go_roundg (n-(j+1))
    case measure=>have:=HG.out; omega
    case rel=>exact⟨j+1,rfl,hlt,Ez,HB2,rfl⟩
  ·obtain rfl:n=j:=(by omega);obtain rfl:=HF2.out HO.out;clear HO HF1 HF2 hg;go_upto_region 2 with fail;refine wl<|ZN (Zy rfl (n) (n) dF)<|wn ?_;simp only[pu];go_upto_region 7 with fail;refine wl<|ZV (Z8 (-1))<|wn ?_;simp only[pu];go_wp2_with fail;go_ret;exact⟨rfl,HB.out⟩
theorem ZO {fn:Func}{tmps:Array Value}{w:World}{p q g ty:Nat}{v u:Value}(hr:fn.results=#[.cell p ty,.tmp q])(h2:tmps.getD p undef=Z5 g 0)(hl:(Instr.loadAt ty (Z5 g 0)).run Tryz.prog w=.ok v w)(h3:tmps.getD q undef=u):(results fn tmps).run Tryz.prog w=.ok (.tuple #[v,u]) w:=by
 unfold results;rw[hr];have h2':tmps[p]?.getD undef=Z5 g 0:=by simpa using h2
 have h3':tmps[q]?.getD undef=u:=by simpa using h3
 have hl':=hl;simp only[Instr.loadAt,Instr.sureAddr,Sem.run_bind,Sem.run_pure,Result.andThen_ok] at hl';simp[h2',h3',asAddr,hl',Result.andThen]
def NR (w:World)(B:Nat)(v:Value)(L:List Int):Prop:=w.ownsRow B 24 1 v L.length (Ve L)
theorem Qv (x:Int)(V:World):(Instr.buildSlice 34 1 #[(0,Z7 x)]).run Tryz.prog V=.ok (.slice (some ⟨V.heap.size,0,none⟩) 1 1) (V.alloc (.cells #[Z7 x] 24)):=by
 obtain⟨i0,hi,hz0,hz1,hz2⟩:=info_parts Ew;refine run_buildSlice V 34 24 1 _ #[Z7 x] i0 _ Tryz.underlying34 hi hz0 (by rw[hz1]; omega) (by rw[hz1]; omega) ?_;rw[hz1];kernel_rfl
theorem qo (x:Int)(V:World):NR (V.alloc (.cells #[Z7 x] 24)) V.heap.size (.slice (some ⟨V.heap.size,0,none⟩) 1 1) [x]:=
 ⟨by simp[Ve],.inr ⟨V.heap.size,1,#[Z7 x],rfl,Nat.le_refl _,heap_alloc_last V _,Nat.le_refl _,by simp[maxLen],by simp,by simp[Ve]⟩⟩
theorem Az {w:World}{B:Nat}{v:Value}{L:List Int}(h:NR w B v L)(hB:B<=w.heap.size)(x:Int)(hl:L.length<=4398046511200) :
  ∃ v2 V2,(Builtin.append_ #[34,34] 34 #[v,.slice (some ⟨w.heap.size,0,none⟩) 1 1]).run Tryz.prog (w.alloc (.cells #[Z7 x] 24))=.ok v2 V2/\NR V2 B v2 (L++[x])/\Below B w V2:=by
 have hb:Below w.heap.size w (w.alloc (.cells #[Z7 x] 24)):=(Below.refl _ w).alloc (Nat.le_refl _) _;have hO:=own_below h hb;have hc:Cs (w.alloc (.cells #[Z7 x] 24)) (some ⟨w.heap.size,0,none⟩) [Z7 x]:=Cs.block (t:=24) (fr:=(0,0)) (heap_alloc_last w _);obtain⟨v2,V2,hr,hO2,hb2,-,-⟩:=UG (P:=Tryz.prog) (t:=34) (m:=1) Tryz.underlying34 Ew (by kernel_rfl) (by omega) hO (some ⟨w.heap.size,0,none⟩) 1 [Z7 x] hc rfl (fun u hu=>by
  simp only[List.mem_cons,List.not_mem_nil,or_false] at hu;subst hu;rfl) (by simp; omega) (by omega) (by omega)
 refine⟨v2,V2,hr,?_,(hb.mono hB).trans hb2⟩;unfold NR;rw[List.length_append,show Ve (L++[x])=Ve L++[Z7 x] by simp[Ve]];exact hO2
theorem KP (A:List Ac):(Zg A).length=A.length:=by simp[Zg]
theorem IQ {A:List Ac}{j:Nat}(h:j<A.length):Zg (A.take (j+1))=Zg (A.take j)++[(aca A j).2.1]:=by
 unfold Zg;rw[List.take_succ_eq_append_getElem h,List.map_append,XL h];rfl
theorem vS {A:List Ac}{j:Nat}(c:Int)(h:j<A.length):tot (c::Zg (A.take (j+1)))=tot (c::Zg (A.take j))+(aca A j).2.1:=by
 rw[IQ h,<- List.cons_append,Xv,Ya (aca A j).2.1];simp[tot]
theorem qm {A:List Ac}{c:Int}(hc:W64 c)(hw:TM A):∀ k,k<(c::Zg A).length->W64 ((c::Zg A).getD k 0):=fun k hk=>by
 cases k with
 | zero=>exact hc
 | succ k=>
  have hk2:k<A.length:=by simp[Zg] at hk; exact hk
  rw[List.getD_cons_succ];unfold Zg;rw[iM A k hk2];exact(hw k hk2).1
theorem iL {A:List Ac}{c:Int}(hc:W64 c)(hw:TM A)(j:Nat):tot (c::Zg (A.take j))<=tot (c::Zg A):=by
 have:=Ug (c::Zg A) (qm hc hw) (j+1);rwa [List.take_succ_cons,show(Zg A).take j=Zg (A.take j) from(List.map_take ..).symm] at this
theorem iK {A:List Ac}{c:Int}(hc:W64 c)(hw:TM A)(j:Nat):0<=tot (c::Zg (A.take j)):=WT _ fun x hx=>by
 rcases List.mem_cons.1 hx with h | h
 ·rw[h]; exact hc.1
 ·obtain⟨y,hy,rfl⟩:=List.mem_map.1 h;exact(Qy hw y (List.mem_of_mem_take hy)).1.1
theorem ql (A:List Ac)(c:Int):tot (c::Zg (A.take A.length))=tot (c::Zg A):=by rw[List.take_length]
theorem iO (a:Option Addr)(k:Nat)(A:List Ac)(c:Int)(w:World)(hR:Cs w a (acc A))(hn:A.length<=4398046511104)(hc:W64 c)(hw:TM A) :
  Calls Tryz.prog 128 #[.agg (ZU a A.length k c)] w fun e w'=>e=.returned (.tuple #[Z7 (Jo A c),.bool (Xu A c)])/\Below w.heap.size w w':=by
 have hb0:Below w.heap.size w (w.alloc (.cells (ZU a A.length k c) 30)):=(Below.refl _ w).alloc (Nat.le_refl _) _;have hX0:Bx (w.alloc (.cells (ZU a A.length k c) 30)) w.heap.size (ZU a A.length k c) 30:=heap_alloc_last w _;have HA:=Z9 (hR.below hb0);have HW:=Z9 hw;have HC:=Z9 hc;have HSM:=Z9 (fun(al:Option Addr) (cl:Nat) (V:World) (h:Cs V al (Ve (c::Zg A)))=>IL al cl (c::Zg A) V (by rw[List.length_cons,KP]; omega) (fun q hq=>by
  obtain⟨b,off,e,-,h1⟩:=h q (Z7 ((c::Zg A).getD q 0)) (by
   unfold Ve;rw[List.getElem?_map,List.getElem?_eq_getElem hq,List.getD_eq_getElem?_getD,List.getElem?_eq_getElem hq];rfl)
  exact⟨b,off,e,h1⟩) (qm hc hw))
 have Aw:Hid ((c::Zg A).length=A.length+1):=Z9 (by rw[List.length_cons,KP]);obtain⟨n,hnn⟩:=ZR A.length;have HN:=Z9 hnn;have Vh:Hid (n<=4398046511104):=Z9 (by omega);rw[hnn] at hb0 hX0 HA ⊢;clear hR hn hnn hw hc;have Bf:Hid (La (c::Zg A)=Jo A c/\Lc (c::Zg A)=Xu A c):=Z9 ⟨rfl,rfl⟩;generalize Jo A c=tv at *
 generalize Xu A c=tb at *
 go_enter Tryz.func128,Tryz.ntmps128;go_upto_region 1 with fail;change Code.wp _ _ _ _ (w.alloc (.cells (ZU a n k c) 30));generalize w.alloc (.cells (ZU a n k c) 30)=W at *
 obtain⟨g0,hg0⟩:=ZR w.heap.size;have HB0:=Z9 hb0;rw[hg0] at hX0;simp only[hg0];have HX:=Z9 hX0;clear hb0 hg0 hX0;have hbu:=Qv c W;have hou:=qo c W;refine wl<|ZV (Z5 g0 1)<|ZK rfl ⟨g0,1,none⟩ (Z7 c) (HX.out.ZQ 1) ?_;refine Zw (by kernel_rfl) (some 9) rfl 34 1 #[(0,.tmp 8)] rfl #[(0,Z7 c)] (by kernel_rfl) (.slice (some ⟨W.heap.size,0,none⟩) 1 1) _ hbu ?_;refine ZV (.slice (some ⟨W.heap.size,0,none⟩) 1 1)<|wn ?_;simp only[pu];have hb1:Below W.heap.size W (W.alloc (.cells #[Z7 c] 24)):=(Below.refl _ W).alloc (Nat.le_refl _) _;clear hbu;obtain⟨v1,hv1⟩:=ZR (Value.slice (some ⟨W.heap.size,0,none⟩) 1 1);rw[hv1] at hou ⊢;generalize W.alloc (.cells #[Z7 c] 24)=W1 at *
 have HR1:Hid (NR W1 W.heap.size v1 (c::Zg (A.take 0))):=Z9 hou;have HB1:=Z9 hb1;have WB:=Z9 (HX.out.below HX.out.lt hb1);clear hv1 hou hb1;go_upto_region 2 with fail;refine wl<|ZV (Z5 g0 0)<|ZK rfl ⟨g0,0,none⟩ (.slice a n k) (WB.out.ZQ 0)<|ZG (Z8 n) (Z8 0)<|wn ?_;simp only[pu];go_wp2_with fail;go_loopg [4,13] n (fun gg s4 s13 wx=>∃ (j:Nat) (v4:Value),s4=v4/\s13=Z8 j/\j<=n/\Hid (NR wx W.heap.size v4 (c::Zg (A.take j)))/\Hid (Below W.heap.size W wx)/\n-j=gg)
 case atStart=>exact⟨0,v1,rfl,rfl,by omega,HR1,HB1,by omega⟩
 case round=>
  obtain⟨j,v4,rfl,rfl,hj,qj,HB,hg⟩:=hrel;have EU:=Vh.out;by_cases hlt:j<n
  ·obtain⟨b,off,rfl,-,hrx⟩:=YJ (HA.out.below HB.out) (k:=j) (by rw[HN.out]; exact hlt);have YL:=Z9 (XK hrx);have vP:=Z9 (IQ (A:=A) (j:=j) (by rw[HN.out]; exact hlt));generalize aca A j=y at *
   have HG:=Z9 hg;obtain⟨V2,hst,hb2,hbx⟩:=VL wr y;obtain⟨v3,V3,hap,hr3,hb3⟩:=Az (own_below qj.out hb2) (by have:=HB.out.size; have:=hb2.size; omega) y.2.1 (by rw[List.length_cons,KP,List.length_take]; omega);have HR3:Hid (NR V3 W.heap.size v3 (c::Zg (A.take (j+1)))):=Z9 (by rw[vP.out,<- List.cons_append]; exact hr3);have HB3:=Z9 ((HB.out.trans (hb2.mono HB.out.size)).trans hb3);have hbu:=Qv y.2.1 V2;clear hrx hg hb2 hr3 hb3 vP;go_upto_region 3 with fail;refine wl<|ZN (Zy rfl (j) (n) dT)<|wn ?_;simp only[pu];go_upto_region 4 with fail;refine wl<|YN (Z5 b (off+j*3)) (YK b off n k j hlt _ _ _ rfl (by kernel_rfl) (by kernel_rfl))<|ZK rfl ⟨b,off+j*3,none⟩ (.agg (Zt y)) (YL.out) ?_;refine Zz rfl (some 6) rfl (Z5 wr.heap.size 0) (wr.alloc (.cells (Zt WJ) 56)) (by kernel_rfl) ?_;refine Zr rfl (hst)<|wn ?_;obtain⟨g4,hg4⟩:=ZR wr.heap.size;rw[hg4] at hbx ⊢;obtain⟨g5,hg5⟩:=ZR V2.heap.size;rw[hg5] at hap hbu;clear hst hg4 hg5 YL;go_upto_region 5 with fail;refine wl<|ZG (u4) (Z5 g4 1)<|ZK rfl ⟨g4,1,none⟩ (Z7 y.2.1) (hbx.ZQ 1) ?_;refine Zw (by kernel_rfl) (some 20) rfl 34 1 #[(0,.tmp 19)] rfl #[(0,Z7 y.2.1)] (by kernel_rfl) (.slice (some ⟨g5,0,none⟩) 1 1) _ hbu ?_;refine Zk rfl (some 21) rfl 34 rfl (.tmp 17) (.tmp 20) 34 rfl (u4) (.slice (some ⟨g5,0,none⟩) 1 1) (v3) V3 (by kernel_rfl) (by kernel_rfl) hap ?_;refine ZV (v3)<|wn ?_;simp only[pu];clear hap hbu hbx;go_upto_region 6 with fail;refine wl<|YC (Z8 (j+1:Nat)) (ZH rfl j 1 (by omega))<|ZV (Z8 (j+1:Nat))<|wn ?_;simp only[pu];go_wp2_with fail;go_roundg (n-(j+1))
   case measure=>have:=HG.out; omega
   case rel=>exact⟨j+1,v3,rfl,rfl,hlt,HR3,HB3,rfl⟩
  ·obtain rfl:n=j:=(by omega);obtain⟨al,cl,rfl,hcs,-⟩:=YH qj.out;rw[<- HN.out,List.take_length] at hcs;have hlen:(c::Zg (A.take n)).length=(c::Zg A).length:=(by rw[<- HN.out,List.take_length]);rw[hlen];have CS:=HSM.out al cl wr hcs;rw[Bf.out.1,Bf.out.2] at CS;generalize (c::Zg A).length=m at *
   have Zp:=Z9 (HB0.out.trans (HB.out.mono HB0.out.size));clear hg qj HSM Bf hcs HB hlen Aw;go_upto_region 3 with fail;refine wl<|ZN (Zy rfl (n) (n) dF)<|wn ?_;simp only[pu];go_upto_region 7 with fail;refine wl<|ZV (.slice al m cl)<|YW (.tuple #[Z7 tv,.bool tb]) (fun w'=>wr=w') (CS) (fun V9 XC=>?_);subst XC;refine WM (Z7 tv) (.bool tb) (Z7 tv) (.bool tb)<|wn ?_;simp only[pu];clear CS;go_wp2_with fail;go_ret2;exact⟨rfl,Zp.out⟩
theorem IV (a:Option Addr)(k:Nat)(A:List Ac)(c:Int)(w:World)(hR:Cs w a (acc A))(hn:A.length<=4398046511104)(hc:W64 c)(hw:TM A) :
  Calls Tryz.prog 73 #[.agg (ZU a A.length k c)] w fun e w'=>e=.returned (.tuple #[Z7 (Jo A c),.bool (Xu A c)])/\Below w.heap.size w w':=by
 have hb0:Below w.heap.size w (w.alloc (.cells (ZU a A.length k c) 30)):=(Below.refl _ w).alloc (Nat.le_refl _) _;have hX0:Bx (w.alloc (.cells (ZU a A.length k c) 30)) w.heap.size (ZU a A.length k c) 30:=heap_alloc_last w _;have HA:=Z9 (hR.below hb0);have HW:=Z9 hw;have HC:=Z9 hc;have HT0:Hid (∀ j,0<=tot (c::Zg (A.take j))/\tot (c::Zg (A.take j))<=tot (c::Zg A)):=Z9 fun j=>⟨iK hc hw j,iL hc hw j⟩;have HTS:Hid (∀ j,j<A.length->tot (c::Zg (A.take (j+1)))=tot (c::Zg (A.take j))+(aca A j).2.1):=Z9 fun j h=>vS c h;have HTA:Hid (tot (c::Zg (A.take A.length))=tot (c::Zg A)):=Z9 (ql A c);have HT1:Hid (tot (c::Zg (A.take 0))=c):=Z9 (by rw[List.take_zero,Ya]; simp[Zg,tot]);have Bf:Hid ((tot (c::Zg A)<18446744073709551616->Jo A c=tot (c::Zg A)/\Xu A c=true)/\(¬ tot (c::Zg A)<18446744073709551616->Jo A c=0/\Xu A c=false)):=Z9 ⟨fun h=>⟨if_pos h,decide_eq_true h⟩,fun h=>⟨if_neg h,decide_eq_false h⟩⟩;obtain⟨n,hnn⟩:=ZR A.length;have HN:=Z9 hnn;have Vh:Hid (n<=4398046511104):=Z9 (by omega);rw[hnn] at hb0 hX0 HA ⊢;clear hR hn hnn hw hc;rw[show A.length=n from HN.out] at HTS HTA;generalize Jo A c=tv at *
 generalize Xu A c=tb at *
 obtain⟨tt,htt⟩:∃ tt:Nat->Int,tt=fun j=>tot (c::Zg (A.take j)):=⟨_,rfl⟩;have htj:∀ j,tot (c::Zg (A.take j))=tt j:=fun j=>by rw[htt]
 simp only[htj] at HT0 HTS HTA HT1;generalize tot (c::Zg A)=tz at *
 clear htt htj;go_enter Tryz.func73,Tryz.ntmps73;go_upto_region 1 with fail;change Code.wp _ _ _ _ (w.alloc (.cells (ZU a n k c) 30));generalize w.alloc (.cells (ZU a n k c) 30)=W at *
 obtain⟨g0,hg0⟩:=ZR w.heap.size;have HB0:=Z9 hb0;rw[hg0] at hX0;simp only[hg0];have HX:=Z9 hX0;clear hb0 hg0 hX0;refine wl<|ZV (Z5 g0 1)<|ZK rfl ⟨g0,1,none⟩ (Z7 c) (HX.out.ZQ 1)<|ZV (Z7 c)<|wn ?_;simp only[pu];go_upto_region 2 with fail;refine wl<|ZV (Z5 g0 0)<|ZK rfl ⟨g0,0,none⟩ (.slice a n k) (HX.out.ZQ 0)<|ZG (Z8 n) (Z8 0)<|wn ?_;simp only[pu];go_wp2_with fail;go_loopg [4,14] n (fun gg s4 s14 wx=>∃ j:Nat,s4=Z7 (tt j)/\s14=Z8 j/\j<=n/\Hid (tt j<18446744073709551616)/\Hid (Below W.heap.size W wx)/\n-j=gg)
 case atStart=>exact⟨0,by rw[HT1.out],rfl,by omega,Z9 (by rw[HT1.out]; have:=HC.out.2; omega),Z9 (Below.refl _ _),by omega⟩
 case round=>
  obtain⟨j,rfl,rfl,hj,Bg,HB,hg⟩:=hrel;have EU:=Vh.out;by_cases hlt:j<n
  ·obtain⟨b,off,rfl,-,hrx⟩:=YJ (HA.out.below HB.out) (k:=j) (by rw[HN.out]; exact hlt);have YL:=Z9 (XK hrx);have hts:=HTS.out j hlt;have hyw:=(HW.out j (by rw[HN.out]; exact hlt)).1;generalize aca A j=y at *
   have HG:=Z9 hg;obtain⟨V2,hst,hb2,hbx⟩:=VL wr y;have HB2:=Z9 (HB.out.trans (hb2.mono HB.out.size));have CA:=yG (tt j) y.2.1 V2 ⟨(HT0.out j).1,by have:=Bg.out; omega⟩ hyw;clear hrx hg hb2 hyw;go_upto_region 3 with fail;refine wl<|ZN (Zy rfl (j) (n) dT)<|wn ?_;simp only[pu];go_upto_region 4 with fail;refine wl<|YN (Z5 b (off+j*3)) (YK b off n k j hlt _ _ _ rfl (by kernel_rfl) (by kernel_rfl))<|ZK rfl ⟨b,off+j*3,none⟩ (.agg (Zt y)) (YL.out) ?_;refine Zz rfl (some 6) rfl (Z5 wr.heap.size 0) (wr.alloc (.cells (Zt WJ) 56)) (by kernel_rfl) ?_;refine Zr rfl (hst)<|wn ?_;obtain⟨g4,hg4⟩:=ZR wr.heap.size;rw[hg4] at hbx ⊢;clear hst hg4 YL;by_cases hov:tt j+y.2.1<18446744073709551616
   ·rw[show MX (tt j) y.2.1=tt (j+1) by rw[hts]; exact if_pos hov,show MW (tt j) y.2.1=true from decide_eq_true hov] at CA;go_upto_region 5 with fail;refine wl<|ZG (Z7 (tt j)) (Z5 g4 1)<|ZK rfl ⟨g4,1,none⟩ (Z7 y.2.1) (hbx.ZQ 1)<|YW (.tuple #[Z7 (tt (j+1)),ZW]) (fun w'=>V2=w') (CA) (fun V9 XC=>?_);subst XC;refine Rq (.tuple #[Z7 (tt (j+1)),ZW]) (Z7 (tt (j+1))) ZW (Z7 (tt (j+1))) ZW<|wn ?_;simp only[pu];clear hbx CA;go_upto_region 6 with fail;refine wl<|ZG ZW ZY<|wn ?_;simp only[pu];have aL8:Hid (tt (j+1)<18446744073709551616):=Z9 (by rw[hts]; exact hov);clear hts hov;go_upto_region 8 with fail;refine wl<|ZG (Z7 (tt (j+1))) (Z7 (tt (j+1)))<|wn ?_;simp only[pu];go_upto_region 9 with fail;refine wl<|YC (Z8 (j+1:Nat)) (ZH rfl j 1 (by omega))<|ZV (Z8 (j+1:Nat))<|wn ?_;simp only[pu];go_wp2_with fail;go_roundg (n-(j+1))
    case measure=>have:=HG.out; omega
    case rel=>exact⟨j+1,rfl,rfl,hlt,aL8,HB2,rfl⟩
   ·rw[show MX (tt j) y.2.1=0 from if_neg hov,show MW (tt j) y.2.1=false from decide_eq_false hov] at CA;go_upto_region 5 with fail;refine wl<|ZG (Z7 (tt j)) (Z5 g4 1)<|ZK rfl ⟨g4,1,none⟩ (Z7 y.2.1) (hbx.ZQ 1)<|YW (.tuple #[Z7 0,ZY]) (fun w'=>V2=w') (CA) (fun V9 XC=>?_);subst XC;refine Rq (.tuple #[Z7 0,ZY]) (Z7 0) ZY (Z7 0) ZY<|wn ?_;simp only[pu];clear hbx CA;go_upto_region 6 with fail;refine wl<|ZG ZY ZW<|wn ?_;simp only[pu];have hz:=Bf.out.2 (by have h8:=(HT0.out (j+1)).2; rw[hts] at h8; omega);obtain⟨rfl,rfl⟩:=hz;have Zp:=Z9 (HB0.out.trans (HB2.out.mono HB0.out.size));clear hts hov Bf;go_upto_region 7 with fail;refine wl<|ZG (Z7 0) ZY<|wn ?_;simp only[pu];go_wp2_with fail;go_ret2;exact⟨rfl,Zp.out⟩
  ·obtain rfl:n=j:=(by omega);have htn:=HTA.out;have hz:=Bf.out.1 (by rw[<- htn]; exact Bg.out);obtain⟨rfl,rfl⟩:=hz;subst htn;have Zp:=Z9 (HB0.out.trans (HB.out.mono HB0.out.size));clear hg Bf HB;go_upto_region 3 with fail;refine wl<|ZN (Zy rfl (n) (n) dF)<|wn ?_;simp only[pu];go_upto_region 10 with fail;refine wl<|YG (Z7 (tt n)) (Z7 (tt n)) ZW<|wn ?_;simp only[pu];go_wp2_with fail;go_ret2;exact⟨rfl,Zp.out⟩
end Go.Proofs.YtfpnnmeblefkkaaGreatDoor.Lg
