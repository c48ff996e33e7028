/-
  Texts joined.
-/
import Derived.Test.YtnelmomagdcmnaaGreatJ1
set_option maxRecDepth 100000
set_option maxHeartbeats 8000000
set_option linter.unusedSimpArgs false
set_option linter.unusedVariables false
namespace Go.Proofs.YtnelmomagdcmnaaGreat
open Go.RowKit
structure En where
 k:Nat->Int
 raw:List Int
 snd:ByteArray
 sq:Int
 gas:Int
 pri:Int
 ht:Int
 tm:Int
 od:Int
 Xe:List Int
def Zp:En:=⟨fun _=>0,[],⟨#[]⟩,0,0,0,0,0,0,[]⟩
structure Pn where
 full:Bool
 us:Nat
 e:En
def X5:Pn:=⟨false,0,Zp⟩
def Yq:List Pn->Nat
 | []=>0
 | p::r=>(if p.full then 1 else 0)+Yq r
def WV:List Pn->Nat
 | []=>0
 | p::r=>(if p.full then p.e.raw.length else 0)+WV r
theorem Ig:∀ (A B:List Pn),Yq (A++B)=Yq A+Yq B
 | [],B=>by simp[Yq]
 | p::r,B=>by simp only[List.cons_append,Yq]; rw[Ig r B]; omega
theorem Ir:∀ (A B:List Pn),WV (A++B)=WV A+WV B
 | [],B=>by simp[WV]
 | p::r,B=>by simp only[List.cons_append,WV]; rw[Ir r B]; omega
def pb (b:Bool)(n:Nat):Nat:=if b then n else 0
theorem OE:∀ (A:List Pn) (i:Nat) (q:Pn),i<A.length->Yq (A.set i q)+pb (A.getD i X5).full 1=Yq A+pb q.full 1
 | [],i,q,h=>by simp at h
 | p::r,0,q,_=>by simp only[List.set_cons_zero,Yq,List.getD_cons_zero,pb]; omega
 | p::r,i+1,q,h=>by
  have:=OE r i q (by simpa using h);simp only[List.set_cons_succ,Yq,List.getD_cons_succ]; omega
theorem OM:∀ (A:List Pn) (i:Nat) (q:Pn),i<A.length->WV (A.set i q)+pb (A.getD i X5).full (A.getD i X5).e.raw.length=WV A+pb q.full q.e.raw.length
 | [],i,q,h=>by simp at h
 | p::r,0,q,_=>by simp only[List.set_cons_zero,WV,List.getD_cons_zero,pb]; omega
 | p::r,i+1,q,h=>by
  have:=OM r i q (by simpa using h);simp only[List.set_cons_succ,WV,List.getD_cons_succ]; omega
theorem YK {α:Type}(A:List α)(i:Nat)(q z:α)(h:i<A.length):(A.set i q).getD i z=q:=by simp[List.getD_eq_getElem?_getD,h]
theorem Xn {α:Type}(A:List α)(i j:Nat)(q z:α)(h:i≠j):(A.set i q).getD j z=A.getD j z:=by simp[List.getD_eq_getElem?_getD,List.getElem?_set,h]
theorem WE {α:Type}(A B:List α)(i:Nat)(z:α)(h:i<A.length):(A++B).getD i z=A.getD i z:=by simp[List.getD_eq_getElem?_getD,List.getElem?_append_left h]
theorem Xt {α:Type}(A:List α)(x z:α):(A++[x]).getD A.length z=x:=by simp[List.getD_eq_getElem?_getD]
theorem ay (A:List Pn)(b:Nat)(h:∀ p,p∈A->p.e.raw.length<=b):WV A<=A.length*b:=by
 induction A with
 | nil=>simp[WV]
 | cons p r ih=>
  have h1:=ih fun q hq=>h q (by simp[hq]);have h2:=h p (by simp);simp only[WV,List.length_cons,Nat.add_mul]
  split <;> omega
structure Sm where
 mo:Nat
 P:List Pn
 F:List Nat
def Dp (n:Int):Nat:=(max 0 (min n 512)).toNat
def newS (n:Int):Sm:=⟨Dp n,[],[]⟩
def UY (m:Sm)(e:En):Sm:=if m.mo<=Yq m.P then m else match m.F.getLast? with
 | some i=>{ m with P:=m.P.set i ⟨true,(m.P.getD i X5).us+1,e⟩,F:=m.F.dropLast }
 | none=>{ m with P:=m.P++[⟨true,1,e⟩] }
def XA (m:Sm):Int×Int:=if m.mo<=Yq m.P then (0,0) else match m.F.getLast? with
 | some i=>((i:Int),((m.P.getD i X5).us:Int))
 | none=>((m.P.length:Int),0)
def OQ (m:Sm):Bool:=decide (Yq m.P<m.mo)
def X9 (m:Sm)(h:Int×Int):Bool:=decide (0<=h.1) && (decide (h.1<(m.P.length:Int)) && ((m.P.getD h.1.toNat X5).full && decide (((m.P.getD h.1.toNat X5).us:Int)-1=h.2)))
def Rj (m:Sm)(h:Int×Int):En:=if X9 m h then (m.P.getD h.1.toNat X5).e else Zp
def TU (m:Sm)(h:Int×Int):Sm:=if X9 m h then { m with P:=m.P.set h.1.toNat ⟨false,(m.P.getD h.1.toNat X5).us,Zp⟩,F:=m.F++[h.1.toNat] } else m
structure Wm (m:Sm)(u:Nat):Prop where
 nd:m.F.Nodup
 fr:∀ i,i∈m.F->i<m.P.length/\(m.P.getD i X5).full=false
 al:∀ i,i<m.P.length->(m.P.getD i X5).full=false->i∈m.F
 mo:m.mo<=512
 len:Yq m.P<=m.mo
 pl:m.P.length<=512
 us:∀ i,i<m.P.length->(m.P.getD i X5).us<=u
 up:∀ i,i<m.P.length->(m.P.getD i X5).full=true->1<=(m.P.getD i X5).us
 raw:∀ i,i<m.P.length->(m.P.getD i X5).e.raw.length<=60000
 Xe:∀ i,i<m.P.length->(m.P.getD i X5).e.Xe.length<=60000
def II (e:En):Prop:=e.raw.length<=60000/\e.Xe.length<=60000
theorem II.z:II Zp:=⟨by show 0<=60000; omega,by show 0<=60000; omega⟩
theorem lJ (n:Int):Dp n<=512:=by unfold Dp; omega
theorem Wm.new (n:Int)(u:Nat):Wm (newS n) u:=
 ⟨by simp[newS],fun i h=>by simp[newS] at h,fun i h=>by simp[newS] at h,lJ n,by simp[newS,Yq],by simp[newS],fun i h=>by simp[newS] at h,fun i h=>by simp[newS] at h,fun i h=>by simp[newS] at h,fun i h=>by simp[newS] at h⟩
theorem Wm.mono {m:Sm}{u v:Nat}(h:Wm m u)(hv:u<=v):Wm m v:={ h with us:=fun i hi=>Nat.le_trans (h.us i hi) hv }
theorem Fp:∀ (A:List Pn),(∀ i,i<A.length->(A.getD i X5).full=true)->Yq A=A.length
 | [],_=>rfl
 | p::r,h=>by
  have h0:p.full=true:=h 0 (by simp);have h1:=Fp r fun i hi=>h (i+1) (by simpa using hi);simp only[Yq,List.length_cons,h0,if_true]; omega
theorem Rh {m:Sm}(e:En)(h:m.mo<=Yq m.P):UY m e=m/\XA m=(0,0)/\OQ m=false:=by
 unfold UY XA OQ;exact⟨if_pos h,if_pos h,decide_eq_false (by omega)⟩
theorem Vo {m:Sm}(e:En)(h:Yq m.P<m.mo){F:List Nat}{i:Nat}(hF:m.F=F++[i]):UY m e=⟨m.mo,m.P.set i ⟨true,(m.P.getD i X5).us+1,e⟩,F⟩/\XA m=((i:Int),((m.P.getD i X5).us:Int))/\OQ m=true:=by
 unfold UY XA OQ;rw[if_neg (by omega),if_neg (by omega),hF];exact⟨by simp,by simp,decide_eq_true h⟩
theorem WR {m:Sm}(e:En)(h:Yq m.P<m.mo)(hF:m.F=[]):UY m e=⟨m.mo,m.P++[⟨true,1,e⟩],[]⟩/\XA m=((m.P.length:Int),0)/\OQ m=true:=by
 unfold UY XA OQ;rw[if_neg (by omega),if_neg (by omega),hF];exact⟨by simp[hF],by simp,decide_eq_true h⟩
theorem WG (m:Sm):m.mo<=Yq m.P∨(Yq m.P<m.mo/\((∃ F i,m.F=F++[i])∨m.F=[])):=by
 by_cases h:m.mo<=Yq m.P
 ·exact .inl h
 ·refine .inr ⟨by omega,?_⟩;rcases List.eq_nil_or_concat m.F with h | ⟨F,i,h⟩
  ·exact .inr h
  ·exact .inl ⟨F,i,by simpa using h⟩
theorem Wm.add {m:Sm}{u:Nat}(h:Wm m u){e:En}(he:II e):Wm (UY m e) (u+1):=by
 rcases WG m with h0 | ⟨h0,⟨F,i,hF⟩ | hF⟩
 ·rw[(Rh e h0).1];exact h.mono (by omega)
 ·rw[(Vo e h0 hF).1];have hi:=h.fr i (by rw[hF]; simp);have hnd:=h.nd;rw[hF,List.nodup_append] at hnd;have hni:i ∉ F:=fun h1=>hnd.2.2 i h1 i (by simp) rfl;have hc:=OE m.P i ⟨true,(m.P.getD i X5).us+1,e⟩ hi.1;rw[hi.2] at hc;simp only[pb] at hc;have key:∀ (X:Pn->Prop),X ⟨true,(m.P.getD i X5).us+1,e⟩->(∀ j,j<m.P.length->X (m.P.getD j X5))->∀ j,j<(m.P.set i ⟨true,(m.P.getD i X5).us+1,e⟩).length->X ((m.P.set i ⟨true,(m.P.getD i X5).us+1,e⟩).getD j X5):=fun X h1 h2 j hj=>by
   rw[List.length_set] at hj;by_cases hij:i=j
   ·subst hij; rw[YK _ _ _ _ hi.1]; exact h1
   ·rw[Xn _ _ _ _ _ hij]; exact h2 j hj
  refine⟨hnd.1,fun j hj=>?_,fun j hj nZ=>?_,h.mo,?_,by rw[List.length_set]; exact h.pl,key (fun p=>p.us<=u+1) (Nat.succ_le_succ (h.us i hi.1)) (fun j hj=>Nat.le_succ_of_le (h.us j hj)),key (fun p=>p.full=true->1<=p.us) (fun _=>Nat.le_add_left 1 _) (fun j hj=>h.up j hj),key (fun p=>p.e.raw.length<=60000) he.1 h.raw,key (fun p=>p.e.Xe.length<=60000) he.2 h.Xe⟩
  ·have h1:=h.fr j (by rw[hF]; simp[hj]);have hij:i≠j:=fun e=>hni (e ▸ hj);exact⟨by rw[List.length_set]; exact h1.1,by rw[Xn _ _ _ _ _ hij]; exact h1.2⟩
  ·rw[List.length_set] at hj;by_cases hij:i=j
   ·subst hij; rw[YK _ _ _ _ hi.1] at nZ; cases nZ
   ·rw[Xn _ _ _ _ _ hij] at nZ;have:=h.al j hj nZ;rw[hF] at this;simpa [Ne.symm hij] using this
  ·show Yq (m.P.set i ⟨true,(m.P.getD i X5).us+1,e⟩)<=m.mo;simp only[Bool.false_eq_true,if_false,if_true] at hc;omega
 ·rw[(WR e h0 hF).1];have hfull:∀ i,i<m.P.length->(m.P.getD i X5).full=true:=fun i hi=>by
   by_cases hf:(m.P.getD i X5).full=true
   ·exact hf
   ·have:=h.al i hi (by simpa using hf);rw[hF] at this; cases this
  have hcl:=Fp m.P hfull;have key:∀ (X:Pn->Prop),X (Pn.mk true 1 e)->(∀ j,j<m.P.length->X (m.P.getD j X5))->∀ j,j<(m.P++[Pn.mk true 1 e]).length->X ((m.P++[Pn.mk true 1 e]).getD j X5):=fun X h1 h2 j hj=>by
   rw[List.length_append,List.length_singleton] at hj;by_cases hij:j<m.P.length
   ·rw[WE _ _ _ _ hij]; exact h2 j hij
   ·obtain rfl:j=m.P.length:=(by omega);rw[Xt]; exact h1
  refine⟨by simp,fun j hj=>by simp at hj,fun j hj nZ=>?_,h.mo,?_,?_,key (fun p=>p.us<=u+1) (Nat.le_add_left 1 _) (fun j hj=>Nat.le_succ_of_le (h.us j hj)),key (fun p=>p.full=true->1<=p.us) (fun _=>Nat.le_refl 1) h.up,key (fun p=>p.e.raw.length<=60000) he.1 h.raw,key (fun p=>p.e.Xe.length<=60000) he.2 h.Xe⟩
  ·have:=key (fun p=>p.full=true) rfl hfull j hj;rw[this] at nZ; cases nZ
  ·show Yq (m.P++_)<=m.mo;rw[Ig]; simp[Yq]; omega
  ·show(m.P++_).length<=512;have:=h.mo;rw[List.length_append,List.length_singleton]; omega
theorem Wj {m:Sm}{h:Int×Int}(hv:X9 m h=true):∃ i:Nat,h.1=i/\i<m.P.length/\(m.P.getD i X5).full=true/\((m.P.getD i X5).us:Int)-1=h.2:=by
 unfold X9 at hv;simp only[Bool.and_eq_true,decide_eq_true_eq] at hv;exact⟨h.1.toNat,by omega,by omega,hv.2.2.1,hv.2.2.2⟩
theorem WQ {m:Sm}{h:Int×Int}(hv:X9 m h=true){i:Nat}(hi:h.1=i):TU m h=⟨m.mo,m.P.set i ⟨false,(m.P.getD i X5).us,Zp⟩,m.F++[i]⟩:=by
 unfold TU;rw[if_pos hv,hi];rfl
theorem PL {m:Sm}{h:Int×Int}(hv:X9 m h=false):TU m h=m:=by
 unfold TU;rw[if_neg (by rw[hv]; decide)]
theorem SH {m:Sm}{h:Int×Int}(hv:X9 m h=true){i:Nat}(hi:h.1=i):Rj m h=(m.P.getD i X5).e:=by
 unfold Rj;rw[if_pos hv,hi];rfl
theorem Ie {m:Sm}{h:Int×Int}(hv:X9 m h=false):Rj m h=Zp:=by
 unfold Rj;rw[if_neg (by rw[hv]; decide)]
theorem Wm.rem {m:Sm}{u:Nat}(h:Wm m u)(q:Int×Int):Wm (TU m q) u:=by
 by_cases hv:X9 m q=true
 ·obtain⟨i,hi,hil,hf,hu⟩:=Wj hv;rw[WQ hv hi];have hni:i ∉ m.F:=fun h1=>by have:=(h.fr i h1).2; rw[hf] at this; cases this
  have hc:=OE m.P i ⟨false,(m.P.getD i X5).us,Zp⟩ hil;rw[hf] at hc;have key:∀ (X:Pn->Prop),X ⟨false,(m.P.getD i X5).us,Zp⟩->(∀ j,j<m.P.length->X (m.P.getD j X5))->∀ j,j<(m.P.set i ⟨false,(m.P.getD i X5).us,Zp⟩).length->X ((m.P.set i ⟨false,(m.P.getD i X5).us,Zp⟩).getD j X5):=fun X h1 h2 j hj=>by
   rw[List.length_set] at hj;by_cases hij:i=j
   ·subst hij; rw[YK _ _ _ _ hil]; exact h1
   ·rw[Xn _ _ _ _ _ hij]; exact h2 j hj
  refine⟨?_,fun j hj=>?_,fun j hj nZ=>?_,h.mo,?_,by rw[List.length_set]; exact h.pl,key (fun p=>p.us<=u) (h.us i hil) h.us,key (fun p=>p.full=true->1<=p.us) (fun h=>(by cases h)) h.up,key (fun p=>p.e.raw.length<=60000) II.z.1 h.raw,key (fun p=>p.e.Xe.length<=60000) II.z.2 h.Xe⟩
  ·rw[List.nodup_append];exact⟨h.nd,by simp,fun a ha b hb=>by simp at hb; subst hb; exact fun e=>hni (e ▸ ha)⟩
  ·rw[List.length_set];rcases List.mem_append.1 hj with h1 | h1
   ·have h2:=h.fr j h1;have hij:i≠j:=fun e=>hni (e ▸ h1);exact⟨h2.1,by rw[Xn _ _ _ _ _ hij]; exact h2.2⟩
   ·simp at h1;subst h1;exact⟨hil,by rw[YK _ _ _ _ hil]⟩
  ·rw[List.length_set] at hj;by_cases hij:i=j
   ·simp[hij]
   ·rw[Xn _ _ _ _ _ hij] at nZ;exact List.mem_append.2 (.inl (h.al j hj nZ))
  ·show Yq (m.P.set i ⟨false,(m.P.getD i X5).us,Zp⟩)<=m.mo;have:=h.len;simp only[pb,Bool.false_eq_true,if_false,if_true] at hc;omega
 ·rw[PL (by simpa using hv)];exact h
theorem Ip {m:Sm}{u:Nat}(h:Wm m u)(e:En):Yq (UY m e).P=Yq m.P+(if OQ m then 1 else 0)/\(UY m e).mo=m.mo:=by
 rcases WG m with h0 | ⟨h0,⟨F,i,hF⟩ | hF⟩
 ·obtain⟨h1,-,h3⟩:=Rh e h0;rw[h1,h3];simp
 ·obtain⟨h1,-,h3⟩:=Vo e h0 hF;rw[h1,h3];have hi:=h.fr i (by rw[hF]; simp);have hc:=OE m.P i ⟨true,(m.P.getD i X5).us+1,e⟩ hi.1;rw[hi.2] at hc;simp[pb] at hc;exact⟨by simpa using hc,rfl⟩
 ·obtain⟨h1,-,h3⟩:=WR e h0 hF;rw[h1,h3];exact⟨by rw[Ig]; simp[Yq],rfl⟩
theorem Io (m:Sm)(q:Int×Int):Yq (TU m q).P+(if X9 m q then 1 else 0)=Yq m.P/\(TU m q).mo=m.mo:=by
 by_cases hv:X9 m q=true
 ·obtain⟨i,hi,hil,hf,hu⟩:=Wj hv;rw[WQ hv hi,hv];have hc:=OE m.P i ⟨false,(m.P.getD i X5).us,Zp⟩ hil;rw[hf] at hc;simp[pb] at hc;exact⟨by simpa using hc,rfl⟩
 ·have hv:X9 m q=false:=by simpa using hv
  rw[PL hv,hv];exact⟨by simp,rfl⟩
end Go.Proofs.YtnelmomagdcmnaaGreat
namespace Go.Proofs.YtnelmomagdcmnaaGreat
def keq (a b:Nat->Int):Bool:=(List.range 32).all fun i=>decide (a i=b i)
theorem Qy {a b:Nat->Int}:keq a b=true↔∀ i,i<32->a i=b i:=by simp[keq]
theorem FU (a:Nat->Int):keq a a=true:=Qy.2 fun _ _=>rfl
theorem Ro {a b:Nat->Int}(h:keq a b=true):keq b a=true:=Qy.2 fun i hi=>(Qy.1 h i hi).symm
theorem N7 {a b c:Nat->Int}(h:keq a b=true)(g:keq b c=true):keq a c=true:=Qy.2 fun i hi=>(Qy.1 h i hi).trans (Qy.1 g i hi)
theorem Ls (a b:Nat->Int):keq a b=keq b a:=by
  cases h:keq a b with
  | true=>exact(Ro h).symm
  | false=>
    cases g:keq b a with
    | true=>rw[Ro g] at h; exact h.symm
    | false=>rfl
def Vs (k:Nat->Int):List En->Nat
  | []=>0
  | e::r=>if keq e.k k then 0 else Vs k r+1
theorem uX (k:Nat->Int):∀ L:List En,Vs k L<=L.length
  | []=>Nat.le_refl _
  | e::r=>by
    unfold Vs;have:=uX k r
    split
    · exact Nat.zero_le _
    · rw[List.length_cons]; omega
theorem Ij {k:Nat->Int}:∀ {L:List En},Vs k L<L.length->keq (L.getD (Vs k L) Zp).k k=true
  | [],h=>by simp[Vs] at h
  | e::r,h=>by
    unfold Vs at h ⊢
    split
    · rename_i q; exact q
    · rename_i q
      rw[if_neg q,List.length_cons] at h;exact Ij (L:=r) (by omega)
theorem Ii {k:Nat->Int}:∀ {L:List En} {i:Nat},i<Vs k L->keq (L.getD i Zp).k k=false
  | [],i,h=>by simp[Vs] at h
  | e::r,i,h=>by
    unfold Vs at h
    split at h
    · omega
    · rename_i q
      match i,h with
      | 0,_=>simpa using q
      | i+1,h=>exact Ii (L:=r) (by omega)
theorem vC {k:Nat->Int}{L:List En}:Vs k L<L.length↔∃ e∈L,keq e.k k=true:=by
  constructor
  · intro h;exact⟨L.getD (Vs k L) Zp,by rw[List.getD_eq_getElem?_getD,List.getElem?_eq_getElem h]; exact List.getElem_mem h,Ij h⟩
  · rintro⟨e,he,hk⟩;obtain⟨i,hi,rfl⟩:=List.getElem_of_mem he;rcases Nat.lt_or_ge (Vs k L) L.length with h | h
    · exact h
    · have h1:=Ii (k:=k) (L:=L) (i:=i) (by omega);rw[List.getD_eq_getElem?_getD,List.getElem?_eq_getElem hi] at h1;rw[show(some L[i]).getD Zp=L[i] from rfl,hk] at h1;cases h1
theorem Lm {k:Nat->Int}{L:List En}:¬ Vs k L<L.length↔∀ e∈L,keq e.k k=false:=by
  rw[vC];constructor
  · intro h e he;cases q:keq e.k k with
    | false=>rfl
    | true=>exact absurd ⟨e,he,q⟩ h
  · rintro h ⟨e,he,q⟩;rw[h e he] at q; cases q
theorem Dk {k:Nat->Int}{L:List En}{i:Nat}(hi:i<L.length)(h1:keq (L.getD i Zp).k k=true)(h0:∀ j,j<i->keq (L.getD j Zp).k k=false):Vs k L=i:=by
  rcases Nat.lt_trichotomy (Vs k L) i with h | h | h
  · have:=h0 _ h;rw[Ij (by omega)] at this; cases this
  · exact h
  · have:=Ii h;rw[h1] at this; cases this
theorem lK {k:Nat->Int}{L:List En}(h0:∀ j,j<L.length->keq (L.getD j Zp).k k=false):Vs k L=L.length:=by
  have h1:=uX k L;rcases Nat.lt_or_ge (Vs k L) L.length with h | h
  · have:=h0 _ h;rw[Ij h] at this; cases this
  · omega
theorem take_snoc {α:Type}(L:List α)(i:Nat)(hi:i<L.length):L.take i++[L[i]]=L.take (i+1):=by rw[List.take_add_one,List.getElem?_eq_getElem hi,Option.toList_some]
theorem uV {α:Type}{R:α->α->Prop}(h:∀ a b,R a b):∀ L:List α,L.Pairwise R
  | []=>.nil
  | x::r=>.cons (fun y _=>h x y) (uV h r)
def Yl:List En->Nat
  | []=>0
  | e::r=>e.raw.length+Yl r
theorem SE:∀ A B:List En,Yl (A++B)=Yl A+Yl B
  | [],B=>by simp[Yl]
  | e::r,B=>by simp only[List.cons_append,Yl]; rw[SE r B]; omega
theorem Az {A B:List En}(h:A.Sublist B):Yl A<=Yl B:=by
  induction h with
  | slnil=>exact Nat.le_refl _
  | cons e _ ih=>simp only[Yl]; omega
  | cons_cons e _ ih=>simp only[Yl]; omega
def Lu (s:ByteArray)(q:Int)(e:En):Bool:=decide (e.snd=s) && decide (e.sq=q)
theorem OJ {s:ByteArray}{q:Int}{e:En}:Lu s q e=true↔e.snd=s/\e.sq=q:=by simp[Lu]
def YC (mt mb:Int)(L:List En)(e:En):Int:=if Vs e.k L<L.length then 8 else if L.any (Lu e.snd e.sq) then 9 else if mt<=L.length∨mb<Yl L+e.raw.length then 24 else 0
def insL (mt mb:Int)(L:List En)(e:En):List En:=if YC mt mb L e=0 then L++[e] else L
def XP (L:List En)(k:Nat->Int):Bool:=decide (Vs k L<L.length)
def PX (L:List En)(k:Nat->Int):List En:=L.take (Vs k L)++L.drop (Vs k L+1)
theorem AX (L:List En)(k:Nat->Int):(PX L k).Sublist L:=by
  unfold PX;rw[<- List.eraseIdx_eq_take_drop_succ];exact List.eraseIdx_sublist ..
theorem mO {L:List En}{k:Nat->Int}(h:XP L k=false):PX L k=L:=by
  unfold XP at h;have h1:=of_decide_eq_false h;unfold PX;rw[List.take_of_length_le (by omega),List.drop_of_length_le (by omega),List.append_nil]
structure Wp (mt mb:Int)(L:List En):Prop where
  key:L.Pairwise fun a b=>keq a.k b.k=false
  ss:L.Pairwise fun a b=>Lu a.snd a.sq b=false
  len:(L.length:Int)<=mt
  raw:(Yl L:Int)<=mb
theorem Wp.nil {mt mb:Int}(h1:0<=mt)(h2:0<=mb):Wp mt mb []:=⟨.nil,.nil,by simpa using h1,by simpa [Yl] using h2⟩
section
variable {mt mb : Int} {L A B : List En} {e : En}
theorem Wp.sub (h:Wp mt mb L)(hs:A.Sublist L):Wp mt mb A:=⟨h.key.sublist hs,h.ss.sublist hs,by have:=hs.length_le; have:=h.len; omega,by have:=Az hs; have:=h.raw; omega⟩
theorem Di:YC mt mb L e=0↔(∀ x∈L,keq x.k e.k=false)/\(∀ x∈L,Lu e.snd e.sq x=false)/\(L.length:Int)<mt/\(Yl L:Int)+e.raw.length<=mb:=by
  unfold YC;constructor
  · intro h
    split at h
    · cases h
    · rename_i h1
      split at h
      · cases h
      · rename_i h2
        split at h
        · cases h
        · rename_i h3
          refine⟨Lm.1 h1,fun x hx=>?_,by omega,by omega⟩;cases q:Lu e.snd e.sq x with
          | false=>rfl
          | true=>exact absurd (List.any_eq_true.2 ⟨x,hx,q⟩) h2
  · rintro⟨h1,h2,h3,h4⟩;rw[if_neg (Lm.2 h1),if_neg (fun q=>by obtain⟨x,hx,q⟩:=List.any_eq_true.1 q; rw[h2 x hx] at q; cases q),if_neg (by omega)]
theorem IY (h:YC mt mb L e≠0):insL mt mb L e=L:=if_neg h
theorem QG (h:YC mt mb L e=0):insL mt mb L e=L++[e]:=if_pos h
theorem Aw {a b:En}:Lu a.snd a.sq b=Lu b.snd b.sq a:=by
  unfold Lu;rw[show decide (b.snd=a.snd)=decide (a.snd=b.snd) from decide_eq_decide.2 ⟨Eq.symm,Eq.symm⟩,show decide (b.sq=a.sq)=decide (a.sq=b.sq) from decide_eq_decide.2 ⟨Eq.symm,Eq.symm⟩]
theorem Wp.ins (h:Wp mt mb L)(e:En):Wp mt mb (insL mt mb L e):=by
  by_cases h0:YC mt mb L e=0
  · rw[QG h0];obtain⟨h1,h2,h3,h4⟩:=Di.1 h0;refine⟨List.pairwise_append.2 ⟨h.key,List.pairwise_singleton _ _,fun a ha b hb=>?_⟩,List.pairwise_append.2 ⟨h.ss,List.pairwise_singleton _ _,fun a ha b hb=>?_⟩,by simp; omega,?_⟩
    · rw[List.mem_singleton.1 hb]; exact h1 a ha
    · rw[List.mem_singleton.1 hb,Aw]; exact h2 a ha
    · rw[SE,show Yl [e]=e.raw.length from by simp[Yl]];omega
  · rw[IY h0]; exact h
theorem Wp.again (h:Wp mt mb L){i:Nat}(hi:i<L.length):YC mt mb (L.take i) (L.getD i Zp)=0:=by
  have e1:L.getD i Zp=L[i]:=by rw[List.getD_eq_getElem?_getD,List.getElem?_eq_getElem hi]; rfl
  have hs:(L.take i++[L[i]]).Sublist L:=by
    rw[take_snoc L i hi];exact List.take_sublist ..
  have hw:=h.sub hs;have hk:=List.pairwise_append.1 hw.key;have hq:=List.pairwise_append.1 hw.ss;rw[e1];refine Di.2 ⟨fun x hx=>hk.2.2 x hx _ (List.mem_singleton.2 rfl),fun x hx=>by rw[Aw]; exact hq.2.2 x hx _ (List.mem_singleton.2 rfl),?_,?_⟩
  · have:=hw.len;rw[List.length_append,List.length_singleton] at this; omega
  · have:=hw.raw;rw[SE,show Yl [L[i]]=L[i].raw.length from by simp[Yl]] at this; omega
theorem Wp.step (h:Wp mt mb L){i:Nat}(hi:i<L.length):insL mt mb (L.take i) (L.getD i Zp)=L.take (i+1):=by
  rw[QG (h.again hi),List.getD_eq_getElem?_getD,List.getElem?_eq_getElem hi];exact take_snoc L i hi
end
def Ih (q:Nat->Bool):Nat->Nat
  | 0=>0
  | k+1=>if q k then Ih q k else k+1
theorem fD (q:Nat->Bool):∀ k,Ih q k<=k
  | 0=>Nat.le_refl _
  | k+1=>by
    unfold Ih;have:=fD q k
    split <;> omega
theorem Au {q:Nat->Bool}:∀ {k i:Nat},Ih q k<=i->i<k->q i=true
  | 0,i,_,h=>by omega
  | k+1,i,h1,h2=>by
    unfold Ih at h1
    split at h1
    · rename_i h3
      rcases Nat.lt_or_ge i k with h | h
      · exact Au h1 h
      · obtain rfl:i=k:=(by omega);exact h3
    · omega
theorem Ar {q:Nat->Bool}:∀ {k:Nat},0<Ih q k->q (Ih q k-1)=false
  | 0,h=>by simp[Ih] at h
  | k+1,h=>by
    unfold Ih at h ⊢
    split
    · rename_i h3
      rw[if_pos h3] at h;exact Ar h
    · rename_i h3
      simpa using h3
theorem Fv {q r:Nat->Bool}:∀ {k:Nat},(∀ i,i<k->q i=r i)->Ih q k=Ih r k
  | 0,_=>rfl
  | k+1,h=>by
    unfold Ih;rw[h k (by omega),Fv fun i hi=>h i (by omega)]
section
variable {α β : Type} (p : α -> α -> Bool) (z : α)
def VJ (out:List α)(e:α):List α:=out.take (Ih (fun i=>p (out.getD i z) e) out.length)++e::out.drop (Ih (fun i=>p (out.getD i z) e) out.length)
theorem Jp (out:List α)(e:α):(VJ p z out e).Perm (e::out):=by
  unfold VJ;refine List.perm_middle.trans ?_;rw[List.take_append_drop]
theorem uU {R:α->α->Prop}(tr:∀ a b c,R a b->R b c->R a c){out:List α}{e:α}(hs:out.Pairwise R)(h1:∀ x∈out,p x e=true->R e x)(h0:∀ x∈out,p x e=false->R x e):(VJ p z out e).Pairwise R:=by
  unfold VJ;have hb:=fD (fun i=>p (out.getD i z) e) out.length;have hp:=@Au (fun i=>p (out.getD i z) e) out.length;have hq:=@Ar (fun i=>p (out.getD i z) e) out.length;generalize Ih (fun i=>p (out.getD i z) e) out.length=k at *
  have g:∀ i,(h:i<out.length)->out.getD i z=out[i]:=fun i h=>by rw[List.getD_eq_getElem?_getD,List.getElem?_eq_getElem h]; rfl
  have hlt:∀ x∈out.take k,R x e:=fun x hx=>by
    obtain⟨i,hi,rfl⟩:=List.getElem_of_mem hx;rw[List.length_take] at hi;rw[List.getElem_take];have hk:0<k:=(by omega);have h2:=hq hk;simp only[g (k-1) (by omega)] at h2;have h3:=h0 _ (List.getElem_mem (by omega:k-1<out.length)) h2;rcases Nat.lt_or_ge i (k-1) with h | h
    · exact tr _ _ _ (List.pairwise_iff_getElem.1 hs i (k-1) (by omega) (by omega) h) h3
    · have:i=k-1:=(by omega);subst this;exact h3
  have hgt:∀ x∈out.drop k,R e x:=fun x hx=>by
    obtain⟨i,hi,rfl⟩:=List.getElem_of_mem hx;rw[List.length_drop] at hi;rw[List.getElem_drop];have h2:=hp (i:=k+i) (by omega) (by omega);simp only[g (k+i) (by omega)] at h2;exact h1 _ (List.getElem_mem _) h2
  refine List.pairwise_append.2 ⟨hs.sublist (List.take_sublist ..),List.pairwise_cons.2 ⟨hgt,hs.sublist (List.drop_sublist ..)⟩,fun a ha b hb=>?_⟩;rcases List.mem_cons.1 hb with rfl | hb
  · exact hlt a ha
  · exact tr _ _ _ (hlt a ha) (hgt b hb)
theorem uT (f:α->β)(q:β->β->Bool)(y:β)(hq:∀ a b,p a b=q (f a) (f b))(out:List α)(e:α):(VJ p z out e).map f=VJ q y (out.map f) (f e):=by
  unfold VJ;have hk:Ih (fun i=>q ((out.map f).getD i y) (f e)) (out.map f).length=Ih (fun i=>p (out.getD i z) e) out.length:=by
    rw[List.length_map];refine Fv fun i hi=>?_;rw[hq];simp only[List.getD_eq_getElem?_getD,List.getElem?_map,List.getElem?_eq_getElem hi,Option.map_some,Option.getD_some]
  rw[hk,List.map_append,List.map_cons,List.map_take,List.map_drop]
def Nh (L:List α):List α:=L.foldl (VJ p z) []
theorem P7:∀ (L out:List α),(L.foldl (VJ p z) out).Perm (out++L)
  | [],out=>by simp
  | e::r,out=>by
    rw[List.foldl_cons];refine(P7 r _).trans ?_;refine((Jp p z out e).append_right r).trans ?_;rw[List.cons_append];exact List.perm_middle.symm
theorem VI (L:List α):(Nh p z L).Perm L:=by
  have h:=P7 p z L [];rwa [List.nil_append] at h
theorem OH (f:α->β)(q:β->β->Bool)(y:β)(hq:∀ a b,p a b=q (f a) (f b)):∀ (L out:List α),(L.foldl (VJ p z) out).map f=(L.map f).foldl (VJ q y) (out.map f)
  | [],out=>rfl
  | e::r,out=>by
    rw[List.foldl_cons,List.map_cons,List.foldl_cons,<- uT p z f q y hq];exact OH f q y hq r _
theorem Ld (f:α->β)(q:β->β->Bool)(y:β)(hq:∀ a b,p a b=q (f a) (f b))(L:List α):(Nh p z L).map f=Nh q y (L.map f):=OH p z f q y hq L []
theorem Jo (L:List α)(e:α):Nh p z (L++[e])=VJ p z (Nh p z L) e:=by
  unfold Nh;rw[List.foldl_append];rfl
theorem OG {R:α->α->Prop}(tr:∀ a b c,R a b->R b c->R a c):∀ (L out:List α),out.Pairwise R->(∀ x∈out,∀ e∈L,(p x e=true->R e x)/\(p x e=false->R x e)) ->
    L.Pairwise (fun x e=>(p x e=true->R e x)/\(p x e=false->R x e))->(L.foldl (VJ p z) out).Pairwise R
  | [],out,h,_,_=>h
  | e::r,out,h,h1,h2=>by
    rw[List.foldl_cons];have h3:=List.pairwise_cons.1 h2;refine OG tr r _ (uU p z tr h (fun x hx=>(h1 x hx e (by simp)).1) (fun x hx=>(h1 x hx e (by simp)).2)) (fun x hx y hy=>?_) h3.2;rcases List.mem_cons.1 ((Jp p z out e).mem_iff.1 hx) with rfl | hx
    · exact h3.1 y hy
    · exact h1 x hx y (by simp[hy])
theorem Lc {R:α->α->Prop}(tr:∀ a b c,R a b->R b c->R a c){L:List α}(h:L.Pairwise (fun x e=>(p x e=true->R e x)/\(p x e=false->R x e))):(Nh p z L).Pairwise R:=OG p z tr L [] .nil (fun x hx=>by cases hx) h
end
def P6 (a b:En):Bool:=decide (a.pri<b.pri) || (decide (a.pri=b.pri) && decide (b.od<a.od))
def sortL (L:List En):List En:=Nh P6 Zp L
def Dh (a b:En):Bool:=decide (b.sq<a.sq)
def Vt (s:ByteArray)(L:List En):List En:=Nh Dh Zp (L.filter fun e=>decide (e.snd=s))
theorem Tn (L:List En):(sortL L).Perm L:=VI _ _ _
theorem Rf (L:List En):(sortL L).length=L.length:=(Tn L).length_eq
theorem Lh (s:ByteArray)(L:List En):(Vt s L).Perm (L.filter fun e=>decide (e.snd=s)):=VI _ _ _
theorem uS (L:List En):(sortL L).Pairwise fun a b=>P6 a b=false:=by
  refine Lc (R:=fun a b=>P6 a b=false) P6 Zp (fun a b c h1 h2=>?_) (uV (fun x e=>⟨fun h=>?_,fun h=>h⟩) L)
  · unfold P6 at *
    simp only[Bool.or_eq_false_iff,Bool.and_eq_false_iff,decide_eq_false_iff_not] at *
    omega
  · unfold P6 at *
    simp only[Bool.or_eq_true,Bool.and_eq_true,decide_eq_true_eq,Bool.or_eq_false_iff,Bool.and_eq_false_iff,decide_eq_false_iff_not] at *
    omega
def R3 (a b:En×Nat):Prop:=b.1.pri<a.1.pri∨(a.1.pri=b.1.pri/\(a.1.od<b.1.od∨(a.1.od=b.1.od/\a.2<b.2)))
theorem vk {M:List (En×Nat)}(h:M.Pairwise fun a b=>a.2<b.2):∃ S:List (En×Nat),S.Perm M/\S.map (·.1)=sortL (M.map (·.1))/\S.Pairwise R3:=by
  refine⟨Nh (fun a b=>P6 a.1 b.1) (Zp,0) M,VI _ _ _,Ld _ _ (·.1) P6 Zp (fun _ _=>rfl) M,Lc _ _ (fun a b c h1 h2=>?_) (h.imp fun {a b} hab=>⟨fun q=>?_,fun q=>?_⟩)⟩
  · unfold R3 at *; omega
  · unfold P6 at q;unfold R3;simp only[Bool.or_eq_true,Bool.and_eq_true,decide_eq_true_eq] at q;omega
  · unfold P6 at q;unfold R3;simp only[Bool.or_eq_false_iff,Bool.and_eq_false_iff,decide_eq_false_iff_not] at q;omega
theorem lN {mt mb:Int}{L:List En}(h:Wp mt mb L)(s:ByteArray):(Vt s L).Pairwise fun a b=>a.sq<b.sq:=by
  have h1:(L.filter fun e=>decide (e.snd=s)).Pairwise fun a b=>a.sq≠b.sq:=by
    rw[List.pairwise_filter];refine h.ss.imp fun {a b} hab ha hb e=>?_;rw[OJ.2 ⟨(of_decide_eq_true hb).trans (of_decide_eq_true ha).symm,e.symm⟩] at hab;cases hab
  refine Lc Dh Zp (fun a b c h1 h2=>by omega) (h1.imp fun {a b} hab=>⟨fun q=>of_decide_eq_true q,fun q=>?_⟩);have:=of_decide_eq_false q;omega
theorem Fq:∀ (S:List ByteArray),S.Nodup->∀ L:List En,(∀ e∈L,e.snd∈S)->(S.map fun s=>(Vt s L).length).sum=L.length:=fun S hS L=>by
  have e:∀ s,(Vt s L).length=(L.filter fun e=>decide (e.snd=s)).length:=fun s=>(Lh s L).length_eq;simp only[e];induction L with
  | nil=>
    intro _;induction S with
    | nil=>rfl
    | cons t T ihT=>simpa using ihT (List.nodup_cons.1 hS).2 (fun e he=>by cases he)
  | cons x r ih=>
    intro h;have h1:=ih (fun s=>(Lh s r).length_eq) fun e he=>h e (by simp[he]);have h2:∀ s,((x::r).filter fun e=>decide (e.snd=s)).length=(if x.snd=s then 1 else 0)+(r.filter fun e=>decide (e.snd=s)).length:=fun s=>by
      rw[List.filter_cons];by_cases q:x.snd=s
      · simp[q]; omega
      · simp[q]
    simp only[h2];have h3:∀ (T:List ByteArray),T.Nodup->x.snd∈T->(T.map fun s=>(if x.snd=s then 1 else 0)+(r.filter fun e=>decide (e.snd=s)).length).sum=1+(T.map fun s=>(r.filter fun e=>decide (e.snd=s)).length).sum:=fun T=>by
      induction T with
      | nil=>intro _ hx; cases hx
      | cons t T ihT=>
        intro hn hx;have hn2:=List.nodup_cons.1 hn;simp only[List.map_cons,List.sum_cons];by_cases q:x.snd=t
        · have h4:∀ (U:List ByteArray),x.snd ∉ U->(U.map fun s=>(if x.snd=s then 1 else 0)+(r.filter fun e=>decide (e.snd=s)).length).sum=(U.map fun s=>(r.filter fun e=>decide (e.snd=s)).length).sum:=fun U=>by
            induction U with
            | nil=>intro _; rfl
            | cons u U ihU=>
              intro hu;simp only[List.map_cons,List.sum_cons,ihU (fun w=>hu (by simp[w]))];rw[if_neg (fun w=>hu (by simp[w]))];omega
          rw[h4 T (q ▸ hn2.1),if_pos q];omega
        · rw[ihT hn2.2 (by
            rcases List.mem_cons.1 hx with w | w
            · exact absurd w q
            · exact w),if_neg q]
          omega
    rw[h3 S hS (h x (by simp)),h1,List.length_cons];omega
def Yj (f:En->Bool)(L:List En):List (Nat->Int):=(L.filter f).map En.k
theorem yK (f:En->Bool)(L:List En)(e:En):Yj f (L++[e])=Yj f L++(if f e then [e.k] else []):=by
  unfold Yj;rw[List.filter_append,List.map_append];cases h:f e <;> simp[h]
end Go.Proofs.YtnelmomagdcmnaaGreat
namespace Go.Proofs.YtnelmomagdcmnaaGreat.Hp
open Go.RowKit
abbrev It:=Int×Int×Int
def bf (a b:It):Bool:=if a.2.1=b.2.1 then (if a.2.2=b.2.2 then decide (a.1<b.1) else decide (a.2.2<b.2.2)) else decide (b.2.1<a.2.1)
theorem PN (a b:It):bf a b=true↔b.2.1<a.2.1∨(a.2.1=b.2.1/\(a.2.2<b.2.2∨(a.2.2=b.2.2/\a.1<b.1))):=by
 unfold bf
 split
 ·split <;> simp <;> omega
 ·simp; omega
theorem Fh (a b:It):bf a b=false↔¬ (b.2.1<a.2.1∨(a.2.1=b.2.1/\(a.2.2<b.2.2∨(a.2.2=b.2.2/\a.1<b.1)))):=by
 rw[<- PN,Bool.not_eq_true]
theorem uO (a:It):bf a a=false:=by rw[Fh]; omega
theorem KQ {a b c:It}(h:bf a b=true)(k:bf b c=true):bf a c=true:=by
 rw[PN] at *; omega
theorem Qw {a b:It}(h:bf a b=true):bf b a=false:=by
 rw[PN] at h; rw[Fh]; omega
theorem C9 {a b:It}(hn:a≠b)(h:bf a b=false):bf b a=true:=by
 obtain⟨a1,a2,a3⟩:=a;obtain⟨b1,b2,b3⟩:=b;rw[Fh] at h;rw[PN];simp only[ne_eq,Prod.mk.injEq] at hn h ⊢;omega
theorem KP {a b c:It}(h:bf a b=false)(k:bf b c=false):bf a c=false:=by
 rw[Fh] at *; omega
theorem aj {a b c:It}(h:bf a b=false)(k:bf c b=true):bf a c=false:=by
 rw[Fh] at *
 rw[PN] at k;omega
def ita (A:List It)(j:Nat):It:=A.getD j (0,0,0)
theorem VF {A:List It}{j:Nat}(h:j<A.length):ita A j=A[j]:=getD_lt A j _ h
theorem OA {A:List It}{j:Nat}(h:j<A.length):ita A j∈A:=by rw[VF h]; exact List.getElem_mem h
theorem lu {A:List It}{x:It}(h:x∈A):∃ j,j<A.length/\ita A j=x:=by
 obtain⟨j,hj,e⟩:=List.getElem_of_mem h;exact⟨j,hj,by rw[VF hj,e]⟩
def VR (A:List It)(i j:Nat):List It:=(A.set i (ita A j)).set j (ita A i)
theorem Yu (A:List It)(i j:Nat):(VR A i j).length=A.length:=by simp[VR]
theorem PG (A:List It)(i j k:Nat)(hi:i<A.length)(hj:j<A.length):ita (VR A i j) k=if k=j then ita A i else if k=i then ita A j else ita A k:=by
 unfold VR;show((A.set i (ita A j)).set j (ita A i)).getD k (0,0,0)=_;rw[List.getD_eq_getElem?_getD,List.getElem?_set,List.length_set,List.getElem?_set];by_cases h1:j=k
 ·subst h1; simp[hj]
 ·have h1':¬ k=j:=fun e=>h1 e.symm;rw[if_neg h1,if_neg h1'];by_cases h2:i=k
  ·subst h2; simp[hi]
  ·have h2':¬ k=i:=fun e=>h2 e.symm;rw[if_neg h2,if_neg h2'];unfold ita;rw[List.getD_eq_getElem?_getD]
theorem Qv (A:List It)(i j:Nat)(hi:i<A.length)(hj:j<A.length):(VR A i j).Perm A:=by
 unfold VR;rw[VF hi,VF hj];exact List.set_set_perm hi hj
theorem lq (A:List It)(i:Nat)(hi:i<A.length):VR A i i=A:=by
 unfold VR;rw[VF hi];simp
def okA (A:List It)(j:Nat):Prop:=bf (ita A j) (ita A ((j-1) / 2))=false
def HO (A:List It):Prop:=∀ j,0<j->j<A.length->okA A j
def Gen (A:List It)(i:Nat):Prop:=(∀ j,0<j->j<A.length->j≠i->(j-1) / 2≠i->okA A j)/\(∀ c,0<c->c<A.length->(c-1) / 2=i->0<i->bf (ita A c) (ita A ((i-1) / 2))=false)
def UpI (A:List It)(i:Nat):Prop:=Gen A i/\∀ c,0<c->c<A.length->(c-1) / 2=i->okA A c
def uN (A:List It)(i:Nat):Prop:=Gen A i/\(0<i->okA A i)
theorem HO.gen {A:List It}(h:HO A)(i:Nat)(hi:i<A.length):Gen A i:=by
 refine⟨fun j h1 h2 _ _=>h j h1 h2,fun c h1 h2 h3 h4=>?_⟩;have a:=h c h1 h2;have b:=h i h4 hi;unfold okA at a b;rw[h3] at a;exact KP a b
theorem HO.dn {A:List It}(h:HO A)(i:Nat)(hi:i<A.length):uN A i:=⟨h.gen i hi,fun h0=>h i h0 hi⟩
theorem aa0 {A:List It}{i:Nat}(h:UpI A i)(hk:0<i->okA A i):HO A:=fun j h1 h2=>by
 by_cases e:j=i
 ·subst e; exact hk h1
 ·by_cases e2:(j-1) / 2=i
  ·exact h.2 j h1 h2 e2
  ·exact h.1.1 j h1 h2 e e2
theorem lg {A:List It}{i:Nat}(h:Gen A i)(hi:0<i)(hl:i<A.length)(hb:bf (ita A i) (ita A ((i-1) / 2))=true):UpI (VR A i ((i-1) / 2)) ((i-1) / 2):=by
 obtain⟨p,hp⟩:∃ p,p=(i-1) / 2:=⟨_,rfl⟩;rw[<- hp] at hb ⊢;have hpi:p<i:=by omega
 have hpl:p<A.length:=by omega
 have S:=fun k=>PG A i p k hl hpl;have hkey:∀ c,0<c->c<A.length->(c-1) / 2=p->bf (ita (VR A i p) c) (ita A i)=false:=fun c h1 h2 h3=>by
  by_cases e:c=i
  ·subst e;rw[S,if_neg (by omega),if_pos rfl];exact Qw hb
  ·rw[S,if_neg (by omega),if_neg e];have:=h.1 c h1 h2 e (by omega);unfold okA at this;rw[h3] at this;exact aj this hb
 refine⟨⟨fun j h1 h2 h3 h4=>?_,fun c h1 h2 h3 h4=>?_⟩,fun c h1 h2 h3=>?_⟩
 ·rw[Yu] at h2;unfold okA;by_cases e:(j-1) / 2=i
  ·rw[S,if_neg h3,if_neg (by omega),S,if_neg h4,if_pos e];have:=h.2 j h1 h2 e hi;rw[<- hp] at this;exact this
  ·have hji:j≠i:=fun e2=>h4 (by rw[e2]; exact hp.symm);rw[S,if_neg h3,if_neg hji,S,if_neg h4,if_neg e];exact h.1 j h1 h2 hji e
 ·rw[Yu] at h2;have hg:bf (ita A p) (ita A ((p-1) / 2))=false:=h.1 p h4 (by omega) (by omega) (by omega);rw[S ((p-1) / 2),if_neg (by omega),if_neg (by omega)];by_cases e:c=i
  ·subst e;rw[S,if_neg (by omega),if_pos rfl];exact hg
  ·rw[S,if_neg (by omega),if_neg e];have:=h.1 c h1 h2 e (by omega);unfold okA at this;rw[h3] at this;exact KP this hg
 ·rw[Yu] at h2;unfold okA;rw[h3,S p,if_pos rfl];exact hkey c h1 h2 h3
theorem CZ {A:List It}{i:Nat}(h:uN A i)(hc:∀ s,0<s->s<A.length->(s-1) / 2=i->bf (ita A s) (ita A i)=false):HO A:=fun j h1 h2=>by
 by_cases e:j=i
 ·subst e; exact h.2 h1
 ·by_cases e2:(j-1) / 2=i
  ·have:=hc j h1 h2 e2;unfold okA;rw[e2];exact this
  ·exact h.1.1 j h1 h2 e e2
theorem Aq {A:List It}{i c:Nat}(h:uN A i)(hl:i<A.length)(hc0:0<c)(hc:c<A.length)(hp:(c-1) / 2=i)(hb:bf (ita A c) (ita A i)=true)(hs:∀ s,0<s->s<A.length->(s-1) / 2=i->bf (ita A s) (ita A c)=false):uN (VR A i c) c:=by
 have hci:i<c:=by omega
 have S:=fun k=>PG A i c k hl hc;refine⟨⟨fun j h1 h2 h3 h4=>?_,fun d h1 h2 h3 h4=>?_⟩,fun _=>?_⟩
 ·rw[Yu] at h2;unfold okA;rw[S,if_neg h3,S,if_neg h4];by_cases e:j=i
  ·subst e;rw[if_pos rfl,if_neg (by omega)];exact h.1.2 c hc0 hc hp h1
  ·rw[if_neg e];by_cases e2:(j-1) / 2=i
   ·rw[if_pos e2];exact hs j h1 h2 e2
   ·rw[if_neg e2];exact h.1.1 j h1 h2 e e2
 ·rw[Yu] at h2;rw[S,if_neg (by omega),if_neg (by omega),S,if_neg (by omega),if_pos hp];have:=h.1.1 d h1 h2 (by omega) (by omega);unfold okA at this;rw[h3] at this;exact this
 ·unfold okA;rw[S,if_pos rfl,hp,S,if_neg (by omega),if_pos rfl];exact Qw hb
theorem Oz {A:List It}{x:It}{j:Nat}(h:j<A.length):ita (A++[x]) j=ita A j:=by
 unfold ita;rw[List.getD_eq_getElem?_getD,List.getD_eq_getElem?_getD,List.getElem?_append_left h]
theorem Fg (A:List It)(x:It):ita (A++[x]) A.length=x:=by
 unfold ita;rw[List.getD_eq_getElem?_getD,List.getElem?_append_right (Nat.le_refl _)];simp
theorem Tm {A:List It}{n j:Nat}(h:j<n):ita (A.take n) j=ita A j:=by
 unfold ita;rw[List.getD_eq_getElem?_getD,List.getD_eq_getElem?_getD,List.getElem?_take_of_lt h]
theorem kZ {A:List It}(h:HO A)(x:It):Gen (A++[x]) A.length:=by
 refine⟨fun j h1 h2 h3 h4=>?_,fun c h1 h2 h3 h4=>?_⟩
 ·rw[List.length_append,List.length_singleton] at h2;unfold okA;rw[Oz (by omega),Oz (by omega)];exact h j h1 (by omega)
 ·rw[List.length_append,List.length_singleton] at h2;omega
theorem kY {A:List It}{n:Nat}(hn:A.length<=n+1)(h:uN A n):HO A:=CZ h fun s h1 h2 h3=>by omega
theorem kX {A:List It}{i n:Nat}(h:HO A)(hn:A.length=n+1)(hi:i<n):Gen ((VR A i n).take n) i:=by
 have hl:((VR A i n).take n).length=n:=by rw[List.length_take,Yu]; omega
 have S:∀ k,k<n->k≠i->ita ((VR A i n).take n) k=ita A k:=fun k h1 h2=>by
  rw[Tm h1,PG A i n k (by omega) (by omega),if_neg (by omega),if_neg h2]
 refine⟨fun j h1 h2 h3 h4=>?_,fun c h1 h2 h3 h4=>?_⟩
 ·rw[hl] at h2;unfold okA;rw[S j h2 h3,S _ (by omega) h4];exact h j h1 (by omega)
 ·rw[hl] at h2;rw[S c h2 (by omega),S _ (by omega) (by omega)];exact(h.gen i (by omega)).2 c h1 (by omega) h3 h4
theorem aa1 {A:List It}{n:Nat}(h:HO A):HO (A.take n):=fun j h1 h2=>by
 rw[List.length_take] at h2;unfold okA;rw[Tm (by omega),Tm (by omega)];exact h j h1 (by omega)
theorem aa2:HO []:=fun j _ h=>by simp at h
structure Wh (M:List It):Prop where
 FB:M.Pairwise fun a b=>bf a b=true
 ids:(M.map (·.1)).Nodup
theorem Wh.nil:Wh []:=⟨List.Pairwise.nil,by simp⟩
theorem uZ {A B:List It}(hp:A.Perm B)(ha:A.Pairwise fun a b=>bf a b=true)(hb:B.Pairwise fun a b=>bf a b=true):A=B:=
 List.Perm.eq_of_pairwise (fun a b _ _ h1 h2=>by rw[Qw h1] at h2; cases h2) ha hb hp
def Xh (k:Int)(M:List It):Bool:=M.any fun y=>decide (y.1=k)
theorem VK {k:Int}{M:List It}:Xh k M=true↔∃ y,y∈M/\y.1=k:=by simp[Xh]
theorem UH {k:Int}{M:List It}:Xh k M=false↔∀ y,y∈M->y.1≠k:=by
 unfold Xh;rw[List.any_eq_false];simp
theorem KO {k:Int}{A M:List It}(h:A.Perm M):Xh k A=Xh k M:=by
 rw[Bool.eq_iff_iff,VK,VK];exact⟨fun⟨y,h1,h2⟩=>⟨y,h.mem_iff.1 h1,h2⟩,fun⟨y,h1,h2⟩=>⟨y,h.mem_iff.2 h1,h2⟩⟩
def wY (x:It):List It->Nat->Nat->Nat
 | [],_,k=>k
 | y::r,i,k=>wY x r (i+1) (if bf y x then i+1 else k)
theorem Jm (x:It):∀ (m:List It) (i k:Nat),m.Pairwise (fun a b=>bf a b=true)->∃ P Q,m=P++Q/\(∀ y∈P,bf y x=true)/\(∀ y∈Q,bf y x=false)/\wY x m i k=if P=[] then k else i+P.length
 | [],i,k,_=>⟨[],[],rfl,by simp,by simp,by simp[wY]⟩
 | y::r,i,k,hs=>by
  obtain⟨h1,h2⟩:=List.pairwise_cons.1 hs;obtain⟨P,Q,rfl,hP,hQ,hk⟩:=Jm x r (i+1) (if bf y x then i+1 else k) h2;by_cases hb:bf y x=true
  ·refine⟨y::P,Q,rfl,fun z hz=>?_,hQ,?_⟩
   ·rcases List.mem_cons.1 hz with rfl | hz
    ·exact hb
    ·exact hP z hz
   ·rw[wY,hk,if_pos hb,if_neg (show ¬ (y::P=[]) by simp),List.length_cons]
    split
    ·rename_i e; rw[e]; simp
    ·omega
  ·have hb2:bf y x=false:=(by simpa using hb);obtain rfl:P=[]:=by
    cases P with
    | nil=>rfl
    | cons z P=>
     exfalso;have a:=h1 z (by simp);have b:=hP z (by simp);exact hb (KQ a b)
   refine⟨[],y::Q,rfl,by simp,fun z hz=>?_,?_⟩
   ·rcases List.mem_cons.1 hz with rfl | hz
    ·exact hb2
    ·exact hQ z hz
   ·rw[wY,hk,if_neg hb];simp
def Vq (M:List It)(x:It):List It×Bool:=if Xh x.1 M then (M,false) else (M.take (wY x M 0 0)++x::M.drop (wY x M 0 0),true)
def U4 (M:List It)(k:Int):List It×Bool:=(M.eraseP fun y=>decide (y.1=k),Xh k M)
theorem kW (M:List It)(x:It):(Vq M x).2 = !Xh x.1 M:=by
 unfold Vq;cases Xh x.1 M <;> rfl
theorem Ll {M:List It}{x:It}(h:Xh x.1 M=false):(Vq M x).1.Perm (x::M):=by
 unfold Vq;rw[h];show(M.take (wY x M 0 0)++x::M.drop (wY x M 0 0)).Perm (x::M);refine List.perm_middle.trans ?_;rw[List.take_append_drop]
theorem Wh.ins {M:List It}(h:Wh M)(x:It):Wh (Vq M x).1:=by
 cases hi:Xh x.1 M with
 | true=>unfold Vq; rw[hi]; exact h
 | false=>
  refine⟨?_,?_⟩
  ·unfold Vq;rw[hi];show(M.take (wY x M 0 0)++x::M.drop (wY x M 0 0)).Pairwise _;obtain⟨P,Q,e,hP,hQ,hk⟩:=Jm x M 0 0 h.FB;have hkl:wY x M 0 0=P.length:=by
    rw[hk]
    split
    ·rename_i e2; rw[e2]; rfl
    ·omega
   have hs:=h.FB;have hno:=UH.1 hi;rw[hkl];rw[e] at hs hno ⊢;rw[List.take_left,List.drop_left];rw[List.pairwise_append] at hs ⊢;refine⟨hs.1,List.pairwise_cons.2 ⟨fun q hq=>C9 (fun e2=>hno q (List.mem_append_right _ hq) (by rw[e2])) (hQ q hq),hs.2.1⟩,fun p hp q hq=>?_⟩;rcases List.mem_cons.1 hq with rfl | hq
   ·exact hP p hp
   ·exact hs.2.2 p hp q hq
  ·have:=(Ll hi).map (·.1);rw[this.nodup_iff,List.map_cons,List.nodup_cons];refine⟨fun hm=>?_,h.ids⟩;obtain⟨y,hy,e⟩:=List.mem_map.1 hm;exact UH.1 hi y hy e
theorem Wh.sub {M M2:List It}(h:Wh M)(hs:M2.Sublist M):Wh M2:=⟨h.FB.sublist hs,h.ids.sublist (hs.map _)⟩
theorem Wh.tak {M:List It}(h:Wh M)(k:Int):Wh (U4 M k).1:=h.sub List.eraseP_sublist
theorem uM {M:List It}{k:Int}(h:Xh k M=false):(U4 M k).1=M:=List.eraseP_of_forall_not fun a ha=>by simpa using UH.1 h a ha
theorem Lj {A M:List It}{x:It}{k:Int}(hp:(x::A).Perm M)(hx:x.1=k)(hn:(M.map (·.1)).Nodup):A.Perm (U4 M k).1:=by
 have hm:x∈M:=hp.mem_iff.1 (by simp);obtain⟨a,l1,l2,h1,h2,h3,h4⟩:=List.exists_of_eraseP (p:=fun y:It=>decide (y.1=k)) hm (by simpa using hx);have hax:a=x:=by
  have ha:a∈M:=by rw[h3]; simp
  obtain⟨i,hi,e1⟩:=List.getElem_of_mem ha;obtain⟨j,hj,e2⟩:=List.getElem_of_mem hm;have h5:a.1=x.1:=by rw[hx]; simpa using h2
  have hij:i=j:=by
   have:=(List.getElem_inj (h₀:=by simpa using hi) (h₁:=by simpa using hj) hn).1 (by simp[e1,e2,h5]);exact this
  subst hij;rw[<- e1,<- e2]
 show A.Perm (M.eraseP _);rw[h4];have:(x::A).Perm (x::(l1++l2)):=by
  refine hp.trans ?_;rw[h3,hax];exact List.perm_middle
 exact List.Perm.cons_inv this
def Px (A:List It)(f:Int->Option Int):Prop:=∀ k n,f k=some n↔∃ j:Nat,n=j/\j<A.length/\(ita A j).1=k
def Inj (A:List It):Prop:=∀ j k,j<A.length->k<A.length->(ita A j).1=(ita A k).1->j=k
theorem KL {A:List It}(h:(A.map (·.1)).Nodup):Inj A:=fun j k hj hk e=>by
 rw[VF hj,VF hk] at e;exact(List.getElem_inj (h₀:=by simpa using hj) (h₁:=by simpa using hk) h).1 (by simpa using e)
def XC (f:Int->Option Int)(k:Int)(v:Option Int):Int->Option Int:=fun x=>if x=k then v else f x
theorem Px.nil:Px [] (fun _=>none):=fun k n=>by simp
theorem Px.no {A:List It}{f:Int->Option Int}(h:Px A f){k:Int}:f k=none↔Xh k A=false:=by
 rw[UH];constructor
 ·intro hf y hy e;obtain⟨j,hj,rfl⟩:=lu hy;rw[(h k j).2 ⟨j,rfl,hj,e⟩] at hf;cases hf
 ·intro hn;cases hf:f k with
  | none=>rfl
  | some n=>
   obtain⟨j,-,hj,e⟩:=(h k n).1 hf;exact absurd e (hn _ (OA hj))
theorem Px.app {A:List It}{f:Int->Option Int}(h:Px A f){x:It}(hn:Xh x.1 A=false):Px (A++[x]) (XC f x.1 (some (A.length:Int))):=fun k n=>by
 unfold XC;have hl:(A++[x]).length=A.length+1:=by simp
 by_cases e:k=x.1
 ·rw[if_pos e];constructor
  ·intro h2;simp only[Option.some.injEq] at h2;exact⟨A.length,h2.symm,by omega,by rw[Fg,e]⟩
  ·rintro⟨j,rfl,hj,hk⟩;by_cases h3:j<A.length
   ·rw[Oz h3] at hk;exact absurd (hk.trans e) (UH.1 hn _ (OA h3))
   ·rw[show j=A.length by omega]
 ·rw[if_neg e,h k n];constructor
  ·rintro⟨j,rfl,hj,hk⟩;exact⟨j,rfl,by omega,by rw[Oz hj]; exact hk⟩
  ·rintro⟨j,rfl,hj,hk⟩;by_cases h3:j<A.length
   ·exact⟨j,rfl,h3,by rw[Oz h3] at hk; exact hk⟩
   ·rw[show j=A.length by omega,Fg] at hk;exact absurd hk.symm e
theorem Px.sw {A:List It}{f:Int->Option Int}(h:Px A f)(hi:Inj A){i j:Nat}(h1:i<A.length)(h2:j<A.length):Px (VR A i j) (XC (XC f (ita A j).1 (some (i:Int))) (ita A i).1 (some (j:Int))):=fun k n=>by
 unfold XC;rw[Yu];have S:=fun x=>PG A i j x h1 h2;by_cases e:k=(ita A i).1
 ·rw[if_pos e];constructor
  ·intro h3;simp only[Option.some.injEq] at h3;exact⟨j,h3.symm,h2,by rw[S,if_pos rfl,e]⟩
  ·rintro⟨x,rfl,hx,hk⟩;by_cases hxj:x=j
   ·rw[hxj]
   ·rw[S,if_neg hxj] at hk;by_cases hxi:x=i
    ·rw[if_pos hxi] at hk;exact absurd (hi j i h2 h1 (hk.trans e)) (fun e2=>hxj (hxi.trans e2.symm))
    ·rw[if_neg hxi] at hk;exact absurd (hi x i hx h1 (hk.trans e)) hxi
 ·rw[if_neg e];by_cases e2:k=(ita A j).1
  ·rw[if_pos e2];have hij:i≠j:=fun h3=>e (by rw[e2,h3]);constructor
   ·intro h3;simp only[Option.some.injEq] at h3;exact⟨i,h3.symm,h1,by rw[S,if_neg hij,if_pos rfl,e2]⟩
   ·rintro⟨x,rfl,hx,hk⟩;by_cases hxj:x=j
    ·rw[S,if_pos hxj] at hk;exact absurd hk.symm e
    ·rw[S,if_neg hxj] at hk;by_cases hxi:x=i
     ·rw[hxi]
     ·rw[if_neg hxi] at hk;exact absurd (hi x j hx h2 (hk.trans e2)) hxj
  ·rw[if_neg e2,h k n];constructor
   ·rintro⟨x,rfl,hx,hk⟩;exact⟨x,rfl,hx,by rw[S,if_neg (fun h3=>e2 (by rw[<- hk,h3])),if_neg (fun h3=>e (by rw[<- hk,h3]))]; exact hk⟩
   ·rintro⟨x,rfl,hx,hk⟩;rw[S] at hk;by_cases hxj:x=j
    ·rw[if_pos hxj] at hk;exact absurd hk.symm e
    ·rw[if_neg hxj] at hk;by_cases hxi:x=i
     ·rw[if_pos hxi] at hk;exact absurd hk.symm e2
     ·rw[if_neg hxi] at hk;exact⟨x,rfl,hx,hk⟩
theorem Px.cut {A:List It}{f:Int->Option Int}(h:Px A f)(hi:Inj A){n:Nat}(hn:A.length=n+1):Px (A.take n) (XC f (ita A n).1 none):=fun k m=>by
 unfold XC;rw[List.length_take];by_cases e:k=(ita A n).1
 ·rw[if_pos e];constructor
  ·intro h3; cases h3
  ·rintro⟨j,rfl,hj,hk⟩;rw[Tm (by omega)] at hk;have:=hi j n (by omega) (by omega) (hk.trans e);omega
 ·rw[if_neg e,h k m];constructor
  ·rintro⟨j,rfl,hj,hk⟩;have hjn:j≠n:=fun h3=>e (by rw[<- hk,h3]);exact⟨j,rfl,by omega,by rw[Tm (by omega)]; exact hk⟩
  ·rintro⟨j,rfl,hj,hk⟩;rw[Tm (by omega)] at hk;exact⟨j,rfl,by omega,hk⟩
theorem uK {A:List It}{i n:Nat}(hn:A.length=n+1)(hi:i<A.length):(ita A i::(VR A i n).take n).Perm A:=by
 have hl:(VR A i n).length=n+1:=by rw[Yu,hn]
 have h1:(VR A i n).take n++[ita A i]=VR A i n:=by
  have e:ita (VR A i n) n=ita A i:=by rw[PG A i n n hi (by omega),if_pos rfl]
  rw[<- e,VF (by omega)]
  conv=>rhs; rw[<- List.take_append_drop n (VR A i n),List.drop_eq_getElem_cons (by omega),List.drop_eq_nil_of_le (by omega)]
 have h2:=Qv A i n hi (by omega);rw[<- h1] at h2;exact(List.perm_append_comm (l₁:=[ita A i])).trans h2
end Go.Proofs.YtnelmomagdcmnaaGreat.Hp
