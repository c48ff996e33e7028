/-
  Texts joined.
-/
import Derived.Test.YtnelmomagdcmnaaGreatD1
set_option maxRecDepth 100000
set_option maxHeartbeats 8000000
set_option linter.unusedSimpArgs false
set_option linter.unusedVariables false
namespace Go.Proofs.YtnelmomagdcmnaaGreat
open Go.RowKit
structure En where
 k:Nat->Int
 raw:List Int
 snd:ByteArray
 sq:Int
 qx:Int
 pri:Int
 ht:Int
 tm:Int
 od:Int
 Y6:List Int
def Zf:En:=⟨fun _=>0,[],⟨#[]⟩,0,0,0,0,0,0,[]⟩
structure Pn where
 full:Bool
 us:Nat
 e:En
def Yp:Pn:=⟨false,0,Zf⟩
def YO:List Pn->Nat
 | []=>0
 | p::r=>(if p.full then 1 else 0)+YO r
def Xw:List Pn->Nat
 | []=>0
 | p::r=>(if p.full then p.e.raw.length else 0)+Xw r
theorem NQ:∀ (A B:List Pn),YO (A++B)=YO A+YO B
 | [],B=>by simp[YO]
 | p::r,B=>by simp only[List.cons_append,YO]; rw[NQ r B]; omega
theorem N7:∀ (A B:List Pn),Xw (A++B)=Xw A+Xw B
 | [],B=>by simp[Xw]
 | p::r,B=>by simp only[List.cons_append,Xw]; rw[N7 r B]; omega
def pb (b:Bool)(n:Nat):Nat:=if b then n else 0
theorem NP:∀ (A:List Pn) (i:Nat) (q:Pn),i<A.length->YO (A.set i q)+pb (A.getD i Yp).full 1=YO A+pb q.full 1
 | [],i,q,h=>by simp at h
 | p::r,0,q,_=>by simp only[List.set_cons_zero,YO,List.getD_cons_zero,pb]; omega
 | p::r,i+1,q,h=>by
  have:=NP r i q (by simpa using h);simp only[List.set_cons_succ,YO,List.getD_cons_succ]; omega
theorem Oa:∀ (A:List Pn) (i:Nat) (q:Pn),i<A.length->Xw (A.set i q)+pb (A.getD i Yp).full (A.getD i Yp).e.raw.length=Xw A+pb q.full q.e.raw.length
 | [],i,q,h=>by simp at h
 | p::r,0,q,_=>by simp only[List.set_cons_zero,Xw,List.getD_cons_zero,pb]; omega
 | p::r,i+1,q,h=>by
  have:=Oa r i q (by simpa using h);simp only[List.set_cons_succ,Xw,List.getD_cons_succ]; omega
theorem YV {α:Type}(A:List α)(i:Nat)(q z:α)(h:i<A.length):(A.set i q).getD i z=q:=by simp[List.getD_eq_getElem?_getD,h]
theorem Wv {α:Type}(A:List α)(i j:Nat)(q z:α)(h:i≠j):(A.set i q).getD j z=A.getD j z:=by simp[List.getD_eq_getElem?_getD,List.getElem?_set,h]
theorem XY {α:Type}(A B:List α)(i:Nat)(z:α)(h:i<A.length):(A++B).getD i z=A.getD i z:=by simp[List.getD_eq_getElem?_getD,List.getElem?_append_left h]
theorem Yr {α:Type}(A:List α)(x z:α):(A++[x]).getD A.length z=x:=by simp[List.getD_eq_getElem?_getD]
theorem uY (A:List Pn)(b:Nat)(h:∀ p,p∈A->p.e.raw.length<=b):Xw A<=A.length*b:=by
 induction A with
 | nil=>simp[Xw]
 | cons p r ih=>
  have h1:=ih fun q hq=>h q (by simp[hq]);have h2:=h p (by simp);simp only[Xw,List.length_cons,Nat.add_mul]
  split <;> omega
structure Sm where
 mo:Nat
 P:List Pn
 F:List Nat
def J8 (n:Int):Nat:=(max 0 (min n 512)).toNat
def newS (n:Int):Sm:=⟨J8 n,[],[]⟩
def Xh (m:Sm)(e:En):Sm:=if m.mo<=YO m.P then m else match m.F.getLast? with
 | some i=>{ m with P:=m.P.set i ⟨true,(m.P.getD i Yp).us+1,e⟩,F:=m.F.dropLast }
 | none=>{ m with P:=m.P++[⟨true,1,e⟩] }
def Yx (m:Sm):Int×Int:=if m.mo<=YO m.P then (0,0) else match m.F.getLast? with
 | some i=>((i:Int),((m.P.getD i Yp).us:Int))
 | none=>((m.P.length:Int),0)
def TT (m:Sm):Bool:=decide (YO m.P<m.mo)
def Xl (m:Sm)(h:Int×Int):Bool:=decide (0<=h.1) && (decide (h.1<(m.P.length:Int)) && ((m.P.getD h.1.toNat Yp).full && decide (((m.P.getD h.1.toNat Yp).us:Int)-1=h.2)))
def SH (m:Sm)(h:Int×Int):En:=if Xl m h then (m.P.getD h.1.toNat Yp).e else Zf
def fD (m:Sm)(h:Int×Int):Sm:=if Xl m h then { m with P:=m.P.set h.1.toNat ⟨false,(m.P.getD h.1.toNat Yp).us,Zf⟩,F:=m.F++[h.1.toNat] } else m
structure Wm (m:Sm)(u:Nat):Prop where
 nd:m.F.Nodup
 fr:∀ i,i∈m.F->i<m.P.length/\(m.P.getD i Yp).full=false
 al:∀ i,i<m.P.length->(m.P.getD i Yp).full=false->i∈m.F
 mo:m.mo<=512
 len:YO m.P<=m.mo
 pl:m.P.length<=512
 us:∀ i,i<m.P.length->(m.P.getD i Yp).us<=u
 up:∀ i,i<m.P.length->(m.P.getD i Yp).full=true->1<=(m.P.getD i Yp).us
 raw:∀ i,i<m.P.length->(m.P.getD i Yp).e.raw.length<=60000
 Y6:∀ i,i<m.P.length->(m.P.getD i Yp).e.Y6.length<=60000
def Bv (e:En):Prop:=e.raw.length<=60000/\e.Y6.length<=60000
theorem Ba (n:Int):J8 n<=512:=by unfold J8; omega
theorem Wm.new (n:Int)(u:Nat):Wm (newS n) u:=
 ⟨by simp[newS],fun i h=>by simp[newS] at h,fun i h=>by simp[newS] at h,Ba n,by simp[newS,YO],by simp[newS],fun i h=>by simp[newS] at h,fun i h=>by simp[newS] at h,fun i h=>by simp[newS] at h,fun i h=>by simp[newS] at h⟩
theorem Wm.mono {m:Sm}{u v:Nat}(h:Wm m u)(hv:u<=v):Wm m v:={ h with us:=fun i hi=>Nat.le_trans (h.us i hi) hv }
theorem L6:∀ (A:List Pn),(∀ i,i<A.length->(A.getD i Yp).full=true)->YO A=A.length
 | [],_=>rfl
 | p::r,h=>by
  have h0:p.full=true:=h 0 (by simp);have h1:=L6 r fun i hi=>h (i+1) (by simpa using hi);simp only[YO,List.length_cons,h0,if_true]; omega
theorem U8 {m:Sm}(e:En)(h:m.mo<=YO m.P):Xh m e=m/\Yx m=(0,0)/\TT m=false:=by
 unfold Xh Yx TT;exact⟨if_pos h,if_pos h,decide_eq_false (by omega)⟩
theorem Xv {m:Sm}(e:En)(h:YO m.P<m.mo){F:List Nat}{i:Nat}(hF:m.F=F++[i]):Xh m e=⟨m.mo,m.P.set i ⟨true,(m.P.getD i Yp).us+1,e⟩,F⟩/\Yx m=((i:Int),((m.P.getD i Yp).us:Int))/\TT m=true:=by
 unfold Xh Yx TT;rw[if_neg (by omega),if_neg (by omega),hF];exact⟨by simp,by simp,decide_eq_true h⟩
theorem X7 {m:Sm}(e:En)(h:YO m.P<m.mo)(hF:m.F=[]):Xh m e=⟨m.mo,m.P++[⟨true,1,e⟩],[]⟩/\Yx m=((m.P.length:Int),0)/\TT m=true:=by
 unfold Xh Yx TT;rw[if_neg (by omega),if_neg (by omega),hF];exact⟨by simp[hF],by simp,decide_eq_true h⟩
theorem XZ (m:Sm):m.mo<=YO m.P∨(YO m.P<m.mo/\((∃ F i,m.F=F++[i])∨m.F=[])):=by
 by_cases h:m.mo<=YO m.P
 ·exact .inl h
 ·refine .inr ⟨by omega,?_⟩;rcases List.eq_nil_or_concat m.F with h | ⟨F,i,h⟩
  ·exact .inr h
  ·exact .inl ⟨F,i,by simpa using h⟩
theorem Wm.add {m:Sm}{u:Nat}(h:Wm m u){e:En}(he:Bv e):Wm (Xh m e) (u+1):=by
 rcases XZ m with h0 | ⟨h0,⟨F,i,hF⟩ | hF⟩
 ·rw[(U8 e h0).1];exact h.mono (by omega)
 ·rw[(Xv e h0 hF).1];have hi:=h.fr i (by rw[hF]; simp);have hnd:=h.nd;rw[hF,List.nodup_append] at hnd;have hni:i ∉ F:=fun h1=>hnd.2.2 i h1 i (by simp) rfl;have hc:=NP m.P i ⟨true,(m.P.getD i Yp).us+1,e⟩ hi.1;rw[hi.2] at hc;simp only[pb] at hc;have key:∀ (X:Pn->Prop),X ⟨true,(m.P.getD i Yp).us+1,e⟩->(∀ j,j<m.P.length->X (m.P.getD j Yp))->∀ j,j<(m.P.set i ⟨true,(m.P.getD i Yp).us+1,e⟩).length->X ((m.P.set i ⟨true,(m.P.getD i Yp).us+1,e⟩).getD j Yp):=fun X h1 h2 j hj=>by
   rw[List.length_set] at hj;by_cases hij:i=j
   ·subst hij; rw[YV _ _ _ _ hi.1]; exact h1
   ·rw[Wv _ _ _ _ _ hij]; exact h2 j hj
  refine⟨hnd.1,fun j hj=>?_,fun j hj uX=>?_,h.mo,?_,by rw[List.length_set]; exact h.pl,key (fun p=>p.us<=u+1) (Nat.succ_le_succ (h.us i hi.1)) (fun j hj=>Nat.le_succ_of_le (h.us j hj)),key (fun p=>p.full=true->1<=p.us) (fun _=>Nat.le_add_left 1 _) (fun j hj=>h.up j hj),key (fun p=>p.e.raw.length<=60000) he.1 h.raw,key (fun p=>p.e.Y6.length<=60000) he.2 h.Y6⟩
  ·have h1:=h.fr j (by rw[hF]; simp[hj]);have hij:i≠j:=fun e=>hni (e ▸ hj);exact⟨by rw[List.length_set]; exact h1.1,by rw[Wv _ _ _ _ _ hij]; exact h1.2⟩
  ·rw[List.length_set] at hj;by_cases hij:i=j
   ·subst hij; rw[YV _ _ _ _ hi.1] at uX; cases uX
   ·rw[Wv _ _ _ _ _ hij] at uX;have:=h.al j hj uX;rw[hF] at this;simpa [Ne.symm hij] using this
  ·show YO (m.P.set i ⟨true,(m.P.getD i Yp).us+1,e⟩)<=m.mo;simp only[Bool.false_eq_true,if_false,if_true] at hc;omega
 ·rw[(X7 e h0 hF).1];have hfull:∀ i,i<m.P.length->(m.P.getD i Yp).full=true:=fun i hi=>by
   by_cases hf:(m.P.getD i Yp).full=true
   ·exact hf
   ·have:=h.al i hi (by simpa using hf);rw[hF] at this; cases this
  have hcl:=L6 m.P hfull;have key:∀ (X:Pn->Prop),X (Pn.mk true 1 e)->(∀ j,j<m.P.length->X (m.P.getD j Yp))->∀ j,j<(m.P++[Pn.mk true 1 e]).length->X ((m.P++[Pn.mk true 1 e]).getD j Yp):=fun X h1 h2 j hj=>by
   rw[List.length_append,List.length_singleton] at hj;by_cases hij:j<m.P.length
   ·rw[XY _ _ _ _ hij]; exact h2 j hij
   ·obtain rfl:j=m.P.length:=(by omega);rw[Yr]; exact h1
  refine⟨by simp,fun j hj=>by simp at hj,fun j hj uX=>?_,h.mo,?_,?_,key (fun p=>p.us<=u+1) (Nat.le_add_left 1 _) (fun j hj=>Nat.le_succ_of_le (h.us j hj)),key (fun p=>p.full=true->1<=p.us) (fun _=>Nat.le_refl 1) h.up,key (fun p=>p.e.raw.length<=60000) he.1 h.raw,key (fun p=>p.e.Y6.length<=60000) he.2 h.Y6⟩
  ·have:=key (fun p=>p.full=true) rfl hfull j hj;rw[this] at uX; cases uX
  ·show YO (m.P++_)<=m.mo;rw[NQ]; simp[YO]; omega
  ·show(m.P++_).length<=512;have:=h.mo;rw[List.length_append,List.length_singleton]; omega
theorem NZ {m:Sm}{h:Int×Int}(hv:Xl m h=true):∃ i:Nat,h.1=i/\i<m.P.length/\(m.P.getD i Yp).full=true/\((m.P.getD i Yp).us:Int)-1=h.2:=by
 unfold Xl at hv;simp only[Bool.and_eq_true,decide_eq_true_eq] at hv;exact⟨h.1.toNat,by omega,by omega,hv.2.2.1,hv.2.2.2⟩
theorem Rt {m:Sm}{h:Int×Int}(hv:Xl m h=true){i:Nat}(hi:h.1=i):SH m h=(m.P.getD i Yp).e:=by
 unfold SH;rw[if_pos hv,hi];rfl
theorem J3 {m:Sm}{h:Int×Int}(hv:Xl m h=false):SH m h=Zf:=by
 unfold SH;rw[if_neg (by rw[hv]; decide)]
theorem NY {m:Sm}{u:Nat}(h:Wm m u)(e:En):YO (Xh m e).P=YO m.P+(if TT m then 1 else 0)/\(Xh m e).mo=m.mo:=by
 rcases XZ m with h0 | ⟨h0,⟨F,i,hF⟩ | hF⟩
 ·obtain⟨h1,-,h3⟩:=U8 e h0;rw[h1,h3];simp
 ·obtain⟨h1,-,h3⟩:=Xv e h0 hF;rw[h1,h3];have hi:=h.fr i (by rw[hF]; simp);have hc:=NP m.P i ⟨true,(m.P.getD i Yp).us+1,e⟩ hi.1;rw[hi.2] at hc;simp[pb] at hc;exact⟨by simpa using hc,rfl⟩
 ·obtain⟨h1,-,h3⟩:=X7 e h0 hF;rw[h1,h3];exact⟨by rw[NQ]; simp[YO],rfl⟩
end Go.Proofs.YtnelmomagdcmnaaGreat
namespace Go.Proofs.YtnelmomagdcmnaaGreat
def keq (a b:Nat->Int):Bool:=(List.range 32).all fun i=>decide (a i=b i)
theorem UO {a b:Nat->Int}:keq a b=true↔∀ i,i<32->a i=b i:=by simp[keq]
theorem QT (a:Nat->Int):keq a a=true:=UO.2 fun _ _=>rfl
theorem TP {a b:Nat->Int}(h:keq a b=true):keq b a=true:=UO.2 fun i hi=>(UO.1 h i hi).symm
theorem O4 {a b c:Nat->Int}(h:keq a b=true)(g:keq b c=true):keq a c=true:=UO.2 fun i hi=>(UO.1 h i hi).trans (UO.1 g i hi)
theorem QN (a b:Nat->Int):keq a b=keq b a:=by
  cases h:keq a b with
  | true=>exact(TP h).symm
  | false=>
    cases g:keq b a with
    | true=>rw[TP g] at h; exact h.symm
    | false=>rfl
def RN (k:Nat->Int):List En->Nat
  | []=>0
  | e::r=>if keq e.k k then 0 else RN k r+1
theorem J5 {k:Nat->Int}:∀ {L:List En},RN k L<L.length->keq (L.getD (RN k L) Zf).k k=true
  | [],h=>by simp[RN] at h
  | e::r,h=>by
    unfold RN at h ⊢
    split
    · rename_i q; exact q
    · rename_i q
      rw[if_neg q,List.length_cons] at h;exact J5 (L:=r) (by omega)
theorem NR {k:Nat->Int}:∀ {L:List En} {i:Nat},i<RN k L->keq (L.getD i Zf).k k=false
  | [],i,h=>by simp[RN] at h
  | e::r,i,h=>by
    unfold RN at h
    split at h
    · omega
    · rename_i q
      match i,h with
      | 0,_=>simpa using q
      | i+1,h=>exact NR (L:=r) (by omega)
theorem J7 {k:Nat->Int}{L:List En}:RN k L<L.length↔∃ e∈L,keq e.k k=true:=by
  constructor
  · intro h;exact⟨L.getD (RN k L) Zf,by rw[List.getD_eq_getElem?_getD,List.getElem?_eq_getElem h]; exact List.getElem_mem h,J5 h⟩
  · rintro⟨e,he,hk⟩;obtain⟨i,hi,rfl⟩:=List.getElem_of_mem he;rcases Nat.lt_or_ge (RN k L) L.length with h | h
    · exact h
    · have h1:=NR (k:=k) (L:=L) (i:=i) (by omega);rw[List.getD_eq_getElem?_getD,List.getElem?_eq_getElem hi] at h1;rw[show(some L[i]).getD Zf=L[i] from rfl,hk] at h1;cases h1
theorem QL {k:Nat->Int}{L:List En}:¬ RN k L<L.length↔∀ e∈L,keq e.k k=false:=by
  rw[J7];constructor
  · intro h e he;cases q:keq e.k k with
    | false=>rfl
    | true=>exact absurd ⟨e,he,q⟩ h
  · rintro h ⟨e,he,q⟩;rw[h e he] at q; cases q
theorem FD {k:Nat->Int}{L:List En}{i:Nat}(hi:i<L.length)(h1:keq (L.getD i Zf).k k=true)(h0:∀ j,j<i->keq (L.getD j Zf).k k=false):RN k L=i:=by
  rcases Nat.lt_trichotomy (RN k L) i with h | h | h
  · have:=h0 _ h;rw[J5 (by omega)] at this; cases this
  · exact h
  · have:=NR h;rw[h1] at this; cases this
def WX:List En->Nat
  | []=>0
  | e::r=>e.raw.length+WX r
theorem NW:∀ A B:List En,WX (A++B)=WX A+WX B
  | [],B=>by simp[WX]
  | e::r,B=>by simp only[List.cons_append,WX]; rw[NW r B]; omega
def MI (s:ByteArray)(q:Int)(e:En):Bool:=decide (e.snd=s) && decide (e.sq=q)
theorem NV {s:ByteArray}{q:Int}{e:En}:MI s q e=true↔e.snd=s/\e.sq=q:=by simp[MI]
def X6 (mt mb:Int)(L:List En)(e:En):Int:=if RN e.k L<L.length then 8 else if L.any (MI e.snd e.sq) then 9 else if mt<=L.length∨mb<WX L+e.raw.length then 24 else 0
def insL (mt mb:Int)(L:List En)(e:En):List En:=if X6 mt mb L e=0 then L++[e] else L
def Ik (L:List En)(k:Nat->Int):Bool:=decide (RN k L<L.length)
structure Wp (mt mb:Int)(L:List En):Prop where
  key:L.Pairwise fun a b=>keq a.k b.k=false
  ss:L.Pairwise fun a b=>MI a.snd a.sq b=false
  len:(L.length:Int)<=mt
  raw:(WX L:Int)<=mb
theorem Wp.nil {mt mb:Int}(h1:0<=mt)(h2:0<=mb):Wp mt mb []:=⟨.nil,.nil,by simpa using h1,by simpa [WX] using h2⟩
section
variable {mt mb : Int} {L A B : List En} {e : En}
theorem FC:X6 mt mb L e=0↔(∀ x∈L,keq x.k e.k=false)/\(∀ x∈L,MI e.snd e.sq x=false)/\(L.length:Int)<mt/\(WX L:Int)+e.raw.length<=mb:=by
  unfold X6;constructor
  · intro h
    split at h
    · cases h
    · rename_i h1
      split at h
      · cases h
      · rename_i h2
        split at h
        · cases h
        · rename_i h3
          refine⟨QL.1 h1,fun x hx=>?_,by omega,by omega⟩;cases q:MI e.snd e.sq x with
          | false=>rfl
          | true=>exact absurd (List.any_eq_true.2 ⟨x,hx,q⟩) h2
  · rintro⟨h1,h2,h3,h4⟩;rw[if_neg (QL.2 h1),if_neg (fun q=>by obtain⟨x,hx,q⟩:=List.any_eq_true.1 q; rw[h2 x hx] at q; cases q),if_neg (by omega)]
theorem OB (h:X6 mt mb L e≠0):insL mt mb L e=L:=if_neg h
theorem Ud (h:X6 mt mb L e=0):insL mt mb L e=L++[e]:=if_pos h
theorem Bc {a b:En}:MI a.snd a.sq b=MI b.snd b.sq a:=by
  unfold MI;rw[show decide (b.snd=a.snd)=decide (a.snd=b.snd) from decide_eq_decide.2 ⟨Eq.symm,Eq.symm⟩,show decide (b.sq=a.sq)=decide (a.sq=b.sq) from decide_eq_decide.2 ⟨Eq.symm,Eq.symm⟩]
theorem Wp.ins (h:Wp mt mb L)(e:En):Wp mt mb (insL mt mb L e):=by
  by_cases h0:X6 mt mb L e=0
  · rw[Ud h0];obtain⟨h1,h2,h3,h4⟩:=FC.1 h0;refine⟨List.pairwise_append.2 ⟨h.key,List.pairwise_singleton _ _,fun a ha b hb=>?_⟩,List.pairwise_append.2 ⟨h.ss,List.pairwise_singleton _ _,fun a ha b hb=>?_⟩,by simp; omega,?_⟩
    · rw[List.mem_singleton.1 hb]; exact h1 a ha
    · rw[List.mem_singleton.1 hb,Bc]; exact h2 a ha
    · rw[NW,show WX [e]=e.raw.length from by simp[WX]];omega
  · rw[OB h0]; exact h
end
def Md (q:Nat->Bool):Nat->Nat
  | 0=>0
  | k+1=>if q k then Md q k else k+1
theorem xU (q:Nat->Bool):∀ k,Md q k<=k
  | 0=>Nat.le_refl _
  | k+1=>by
    unfold Md;have:=xU q k
    split <;> omega
theorem Ja {q:Nat->Bool}:∀ {k i:Nat},Md q k<=i->i<k->q i=true
  | 0,i,_,h=>by omega
  | k+1,i,h1,h2=>by
    unfold Md at h1
    split at h1
    · rename_i h3
      rcases Nat.lt_or_ge i k with h | h
      · exact Ja h1 h
      · obtain rfl:i=k:=(by omega);exact h3
    · omega
theorem I9 {q:Nat->Bool}:∀ {k:Nat},0<Md q k->q (Md q k-1)=false
  | 0,h=>by simp[Md] at h
  | k+1,h=>by
    unfold Md at h ⊢
    split
    · rename_i h3
      rw[if_pos h3] at h;exact I9 h
    · rename_i h3
      simpa using h3
theorem Mc {q r:Nat->Bool}:∀ {k:Nat},(∀ i,i<k->q i=r i)->Md q k=Md r k
  | 0,_=>rfl
  | k+1,h=>by
    unfold Md;rw[h k (by omega),Mc fun i hi=>h i (by omega)]
section
variable {α β : Type} (p : α -> α -> Bool) (z : α)
def RH (out:List α)(e:α):List α:=out.take (Md (fun i=>p (out.getD i z) e) out.length)++e::out.drop (Md (fun i=>p (out.getD i z) e) out.length)
theorem O1 (out:List α)(e:α):(RH p z out e).Perm (e::out):=by
  unfold RH;refine List.perm_middle.trans ?_;rw[List.take_append_drop]
theorem Fq {R:α->α->Prop}(tr:∀ a b c,R a b->R b c->R a c){out:List α}{e:α}(hs:out.Pairwise R)(h1:∀ x∈out,p x e=true->R e x)(h0:∀ x∈out,p x e=false->R x e):(RH p z out e).Pairwise R:=by
  unfold RH;have hb:=xU (fun i=>p (out.getD i z) e) out.length;have hp:=@Ja (fun i=>p (out.getD i z) e) out.length;have hq:=@I9 (fun i=>p (out.getD i z) e) out.length;generalize Md (fun i=>p (out.getD i z) e) out.length=k at *
  have g:∀ i,(h:i<out.length)->out.getD i z=out[i]:=fun i h=>by rw[List.getD_eq_getElem?_getD,List.getElem?_eq_getElem h]; rfl
  have hlt:∀ x∈out.take k,R x e:=fun x hx=>by
    obtain⟨i,hi,rfl⟩:=List.getElem_of_mem hx;rw[List.length_take] at hi;rw[List.getElem_take];have hk:0<k:=(by omega);have h2:=hq hk;simp only[g (k-1) (by omega)] at h2;have h3:=h0 _ (List.getElem_mem (by omega:k-1<out.length)) h2;rcases Nat.lt_or_ge i (k-1) with h | h
    · exact tr _ _ _ (List.pairwise_iff_getElem.1 hs i (k-1) (by omega) (by omega) h) h3
    · have:i=k-1:=(by omega);subst this;exact h3
  have hgt:∀ x∈out.drop k,R e x:=fun x hx=>by
    obtain⟨i,hi,rfl⟩:=List.getElem_of_mem hx;rw[List.length_drop] at hi;rw[List.getElem_drop];have h2:=hp (i:=k+i) (by omega) (by omega);simp only[g (k+i) (by omega)] at h2;exact h1 _ (List.getElem_mem _) h2
  refine List.pairwise_append.2 ⟨hs.sublist (List.take_sublist ..),List.pairwise_cons.2 ⟨hgt,hs.sublist (List.drop_sublist ..)⟩,fun a ha b hb=>?_⟩;rcases List.mem_cons.1 hb with rfl | hb
  · exact hlt a ha
  · exact tr _ _ _ (hlt a ha) (hgt b hb)
theorem Fp (f:α->β)(q:β->β->Bool)(y:β)(hq:∀ a b,p a b=q (f a) (f b))(out:List α)(e:α):(RH p z out e).map f=RH q y (out.map f) (f e):=by
  unfold RH;have hk:Md (fun i=>q ((out.map f).getD i y) (f e)) (out.map f).length=Md (fun i=>p (out.getD i z) e) out.length:=by
    rw[List.length_map];refine Mc fun i hi=>?_;rw[hq];simp only[List.getD_eq_getElem?_getD,List.getElem?_map,List.getElem?_eq_getElem hi,Option.map_some,Option.getD_some]
  rw[hk,List.map_append,List.map_cons,List.map_take,List.map_drop]
def J4 (L:List α):List α:=L.foldl (RH p z) []
theorem Uu:∀ (L out:List α),(L.foldl (RH p z) out).Perm (out++L)
  | [],out=>by simp
  | e::r,out=>by
    rw[List.foldl_cons];refine(Uu r _).trans ?_;refine((O1 p z out e).append_right r).trans ?_;rw[List.cons_append];exact List.perm_middle.symm
theorem OZ (L:List α):(J4 p z L).Perm L:=by
  have h:=Uu p z L [];rwa [List.nil_append] at h
theorem TM (f:α->β)(q:β->β->Bool)(y:β)(hq:∀ a b,p a b=q (f a) (f b)):∀ (L out:List α),(L.foldl (RH p z) out).map f=(L.map f).foldl (RH q y) (out.map f)
  | [],out=>rfl
  | e::r,out=>by
    rw[List.foldl_cons,List.map_cons,List.foldl_cons,<- Fp p z f q y hq];exact TM f q y hq r _
theorem Fj (f:α->β)(q:β->β->Bool)(y:β)(hq:∀ a b,p a b=q (f a) (f b))(L:List α):(J4 p z L).map f=J4 q y (L.map f):=TM p z f q y hq L []
theorem TL {R:α->α->Prop}(tr:∀ a b c,R a b->R b c->R a c):∀ (L out:List α),out.Pairwise R->(∀ x∈out,∀ e∈L,(p x e=true->R e x)/\(p x e=false->R x e)) ->
    L.Pairwise (fun x e=>(p x e=true->R e x)/\(p x e=false->R x e))->(L.foldl (RH p z) out).Pairwise R
  | [],out,h,_,_=>h
  | e::r,out,h,h1,h2=>by
    rw[List.foldl_cons];have h3:=List.pairwise_cons.1 h2;refine TL tr r _ (Fq p z tr h (fun x hx=>(h1 x hx e (by simp)).1) (fun x hx=>(h1 x hx e (by simp)).2)) (fun x hx y hy=>?_) h3.2;rcases List.mem_cons.1 ((O1 p z out e).mem_iff.1 hx) with rfl | hx
    · exact h3.1 y hy
    · exact h1 x hx y (by simp[hy])
theorem L8 {R:α->α->Prop}(tr:∀ a b c,R a b->R b c->R a c){L:List α}(h:L.Pairwise (fun x e=>(p x e=true->R e x)/\(p x e=false->R x e))):(J4 p z L).Pairwise R:=TL p z tr L [] .nil (fun x hx=>by cases hx) h
end
def nG (a b:En):Bool:=decide (a.pri<b.pri) || (decide (a.pri=b.pri) && decide (b.od<a.od))
def sortL (L:List En):List En:=J4 nG Zf L
def bsq (a b:En):Bool:=decide (b.sq<a.sq)
def MS (s:ByteArray)(L:List En):List En:=J4 bsq Zf (L.filter fun e=>decide (e.snd=s))
theorem Me (s:ByteArray)(L:List En):(MS s L).Perm (L.filter fun e=>decide (e.snd=s)):=OZ _ _ _
def R3 (a b:En×Nat):Prop:=b.1.pri<a.1.pri∨(a.1.pri=b.1.pri/\(a.1.od<b.1.od∨(a.1.od=b.1.od/\a.2<b.2)))
theorem FB {M:List (En×Nat)}(h:M.Pairwise fun a b=>a.2<b.2):∃ S:List (En×Nat),S.Perm M/\S.map (·.1)=sortL (M.map (·.1))/\S.Pairwise R3:=by
  refine⟨J4 (fun a b=>nG a.1 b.1) (Zf,0) M,OZ _ _ _,Fj _ _ (·.1) nG Zf (fun _ _=>rfl) M,L8 _ _ (fun a b c h1 h2=>?_) (h.imp fun {a b} hab=>⟨fun q=>?_,fun q=>?_⟩)⟩
  · unfold R3 at *; omega
  · unfold nG at q;unfold R3;simp only[Bool.or_eq_true,Bool.and_eq_true,decide_eq_true_eq] at q;omega
  · unfold nG at q;unfold R3;simp only[Bool.or_eq_false_iff,Bool.and_eq_false_iff,decide_eq_false_iff_not] at q;omega
theorem Bg {mt mb:Int}{L:List En}(h:Wp mt mb L)(s:ByteArray):(MS s L).Pairwise fun a b=>a.sq<b.sq:=by
  have h1:(L.filter fun e=>decide (e.snd=s)).Pairwise fun a b=>a.sq≠b.sq:=by
    rw[List.pairwise_filter];refine h.ss.imp fun {a b} hab ha hb e=>?_;rw[NV.2 ⟨(of_decide_eq_true hb).trans (of_decide_eq_true ha).symm,e.symm⟩] at hab;cases hab
  refine L8 bsq Zf (fun a b c h1 h2=>by omega) (h1.imp fun {a b} hab=>⟨fun q=>of_decide_eq_true q,fun q=>?_⟩);have:=of_decide_eq_false q;omega
def Pj (f:En->Bool)(L:List En):List (Nat->Int):=(L.filter f).map En.k
end Go.Proofs.YtnelmomagdcmnaaGreat
namespace Go.Proofs.YtnelmomagdcmnaaGreat.Hp
open Go.RowKit
abbrev It:=Int×Int×Int
def bf (a b:It):Bool:=if a.2.1=b.2.1 then (if a.2.2=b.2.2 then decide (a.1<b.1) else decide (a.2.2<b.2.2)) else decide (b.2.1<a.2.1)
theorem Ui (a b:It):bf a b=true↔b.2.1<a.2.1∨(a.2.1=b.2.1/\(a.2.2<b.2.2∨(a.2.2=b.2.2/\a.1<b.1))):=by
 unfold bf
 split
 ·split <;> simp <;> omega
 ·simp; omega
theorem LV (a b:It):bf a b=false↔¬ (b.2.1<a.2.1∨(a.2.1=b.2.1/\(a.2.2<b.2.2∨(a.2.2=b.2.2/\a.1<b.1)))):=by
 rw[<- Ui,Bool.not_eq_true]
theorem uT (a:It):bf a a=false:=by rw[LV]; omega
theorem LU {a b c:It}(h:bf a b=true)(k:bf b c=true):bf a c=true:=by
 rw[Ui] at *; omega
theorem Rl {a b:It}(h:bf a b=true):bf b a=false:=by
 rw[Ui] at h; rw[LV]; omega
theorem JW {a b:It}(hn:a≠b)(h:bf a b=false):bf b a=true:=by
 obtain⟨a1,a2,a3⟩:=a;obtain⟨b1,b2,b3⟩:=b;rw[LV] at h;rw[Ui];simp only[ne_eq,Prod.mk.injEq] at hn h ⊢;omega
theorem NK {a b c:It}(h:bf a b=false)(k:bf b c=false):bf a c=false:=by
 rw[LV] at *; omega
theorem uS {a b c:It}(h:bf a b=false)(k:bf c b=true):bf a c=false:=by
 rw[LV] at *
 rw[Ui] at k;omega
def ita (A:List It)(j:Nat):It:=A.getD j (0,0,0)
theorem WA {A:List It}{j:Nat}(h:j<A.length):ita A j=A[j]:=getD_lt A j _ h
theorem NJ {A:List It}{j:Nat}(h:j<A.length):ita A j∈A:=by rw[WA h]; exact List.getElem_mem h
theorem AO {A:List It}{x:It}(h:x∈A):∃ j,j<A.length/\ita A j=x:=by
 obtain⟨j,hj,e⟩:=List.getElem_of_mem h;exact⟨j,hj,by rw[WA hj,e]⟩
def Uf (A:List It)(i j:Nat):List It:=(A.set i (ita A j)).set j (ita A i)
theorem Xd (A:List It)(i j:Nat):(Uf A i j).length=A.length:=by simp[Uf]
theorem NI (A:List It)(i j k:Nat)(hi:i<A.length)(hj:j<A.length):ita (Uf A i j) k=if k=j then ita A i else if k=i then ita A j else ita A k:=by
 unfold Uf;show((A.set i (ita A j)).set j (ita A i)).getD k (0,0,0)=_;rw[List.getD_eq_getElem?_getD,List.getElem?_set,List.length_set,List.getElem?_set];by_cases h1:j=k
 ·subst h1; simp[hj]
 ·have h1':¬ k=j:=fun e=>h1 e.symm;rw[if_neg h1,if_neg h1'];by_cases h2:i=k
  ·subst h2; simp[hi]
  ·have h2':¬ k=i:=fun e=>h2 e.symm;rw[if_neg h2,if_neg h2'];unfold ita;rw[List.getD_eq_getElem?_getD]
theorem AL (A:List It)(i j:Nat)(hi:i<A.length)(hj:j<A.length):(Uf A i j).Perm A:=by
 unfold Uf;rw[WA hi,WA hj];exact List.set_set_perm hi hj
def okA (A:List It)(j:Nat):Prop:=bf (ita A j) (ita A ((j-1) / 2))=false
def HO (A:List It):Prop:=∀ j,0<j->j<A.length->okA A j
def Gen (A:List It)(i:Nat):Prop:=(∀ j,0<j->j<A.length->j≠i->(j-1) / 2≠i->okA A j)/\(∀ c,0<c->c<A.length->(c-1) / 2=i->0<i->bf (ita A c) (ita A ((i-1) / 2))=false)
def UpI (A:List It)(i:Nat):Prop:=Gen A i/\∀ c,0<c->c<A.length->(c-1) / 2=i->okA A c
def qw (A:List It)(i:Nat):Prop:=Gen A i/\(0<i->okA A i)
theorem HO.gen {A:List It}(h:HO A)(i:Nat)(hi:i<A.length):Gen A i:=by
 refine⟨fun j h1 h2 _ _=>h j h1 h2,fun c h1 h2 h3 h4=>?_⟩;have a:=h c h1 h2;have b:=h i h4 hi;unfold okA at a b;rw[h3] at a;exact NK a b
theorem HO.dn {A:List It}(h:HO A)(i:Nat)(hi:i<A.length):qw A i:=⟨h.gen i hi,fun h0=>h i h0 hi⟩
theorem uQ {A:List It}{i:Nat}(h:UpI A i)(hk:0<i->okA A i):HO A:=fun j h1 h2=>by
 by_cases e:j=i
 ·subst e; exact hk h1
 ·by_cases e2:(j-1) / 2=i
  ·exact h.2 j h1 h2 e2
  ·exact h.1.1 j h1 h2 e e2
theorem AB {A:List It}{i:Nat}(h:Gen A i)(hi:0<i)(hl:i<A.length)(hb:bf (ita A i) (ita A ((i-1) / 2))=true):UpI (Uf A i ((i-1) / 2)) ((i-1) / 2):=by
 obtain⟨p,hp⟩:∃ p,p=(i-1) / 2:=⟨_,rfl⟩;rw[<- hp] at hb ⊢;have hpi:p<i:=by omega
 have hpl:p<A.length:=by omega
 have S:=fun k=>NI A i p k hl hpl;have hkey:∀ c,0<c->c<A.length->(c-1) / 2=p->bf (ita (Uf A i p) c) (ita A i)=false:=fun c h1 h2 h3=>by
  by_cases e:c=i
  ·subst e;rw[S,if_neg (by omega),if_pos rfl];exact Rl hb
  ·rw[S,if_neg (by omega),if_neg e];have:=h.1 c h1 h2 e (by omega);unfold okA at this;rw[h3] at this;exact uS this hb
 refine⟨⟨fun j h1 h2 h3 h4=>?_,fun c h1 h2 h3 h4=>?_⟩,fun c h1 h2 h3=>?_⟩
 ·rw[Xd] at h2;unfold okA;by_cases e:(j-1) / 2=i
  ·rw[S,if_neg h3,if_neg (by omega),S,if_neg h4,if_pos e];have:=h.2 j h1 h2 e hi;rw[<- hp] at this;exact this
  ·have hji:j≠i:=fun e2=>h4 (by rw[e2]; exact hp.symm);rw[S,if_neg h3,if_neg hji,S,if_neg h4,if_neg e];exact h.1 j h1 h2 hji e
 ·rw[Xd] at h2;have hg:bf (ita A p) (ita A ((p-1) / 2))=false:=h.1 p h4 (by omega) (by omega) (by omega);rw[S ((p-1) / 2),if_neg (by omega),if_neg (by omega)];by_cases e:c=i
  ·subst e;rw[S,if_neg (by omega),if_pos rfl];exact hg
  ·rw[S,if_neg (by omega),if_neg e];have:=h.1 c h1 h2 e (by omega);unfold okA at this;rw[h3] at this;exact NK this hg
 ·rw[Xd] at h2;unfold okA;rw[h3,S p,if_pos rfl];exact hkey c h1 h2 h3
theorem uP {A:List It}{i:Nat}(h:qw A i)(hc:∀ s,0<s->s<A.length->(s-1) / 2=i->bf (ita A s) (ita A i)=false):HO A:=fun j h1 h2=>by
 by_cases e:j=i
 ·subst e; exact h.2 h1
 ·by_cases e2:(j-1) / 2=i
  ·have:=hc j h1 h2 e2;unfold okA;rw[e2];exact this
  ·exact h.1.1 j h1 h2 e e2
theorem TI {A:List It}{x:It}{j:Nat}(h:j<A.length):ita (A++[x]) j=ita A j:=by
 unfold ita;rw[List.getD_eq_getElem?_getD,List.getD_eq_getElem?_getD,List.getElem?_append_left h]
theorem LQ (A:List It)(x:It):ita (A++[x]) A.length=x:=by
 unfold ita;rw[List.getD_eq_getElem?_getD,List.getElem?_append_right (Nat.le_refl _)];simp
theorem AA {A:List It}(h:HO A)(x:It):Gen (A++[x]) A.length:=by
 refine⟨fun j h1 h2 h3 h4=>?_,fun c h1 h2 h3 h4=>?_⟩
 ·rw[List.length_append,List.length_singleton] at h2;unfold okA;rw[TI (by omega),TI (by omega)];exact h j h1 (by omega)
 ·rw[List.length_append,List.length_singleton] at h2;omega
theorem Az {A:List It}{n:Nat}(hn:A.length<=n+1)(h:qw A n):HO A:=uP h fun s h1 h2 h3=>by omega
theorem uO:HO []:=fun j _ h=>by simp at h
structure Wh (M:List It):Prop where
 Hw:M.Pairwise fun a b=>bf a b=true
 ids:(M.map (·.1)).Nodup
theorem Wh.nil:Wh []:=⟨List.Pairwise.nil,by simp⟩
theorem Fz {A B:List It}(hp:A.Perm B)(ha:A.Pairwise fun a b=>bf a b=true)(hb:B.Pairwise fun a b=>bf a b=true):A=B:=
 List.Perm.eq_of_pairwise (fun a b _ _ h1 h2=>by rw[Rl h1] at h2; cases h2) ha hb hp
def XV (k:Int)(M:List It):Bool:=M.any fun y=>decide (y.1=k)
theorem Uh {k:Int}{M:List It}:XV k M=true↔∃ y,y∈M/\y.1=k:=by simp[XV]
theorem VG {k:Int}{M:List It}:XV k M=false↔∀ y,y∈M->y.1≠k:=by
 unfold XV;rw[List.any_eq_false];simp
theorem QB {k:Int}{A M:List It}(h:A.Perm M):XV k A=XV k M:=by
 rw[Bool.eq_iff_iff,Uh,Uh];exact⟨fun⟨y,h1,h2⟩=>⟨y,h.mem_iff.1 h1,h2⟩,fun⟨y,h1,h2⟩=>⟨y,h.mem_iff.2 h1,h2⟩⟩
def Gv (x:It):List It->Nat->Nat->Nat
 | [],_,k=>k
 | y::r,i,k=>Gv x r (i+1) (if bf y x then i+1 else k)
theorem OX (x:It):∀ (m:List It) (i k:Nat),m.Pairwise (fun a b=>bf a b=true)->∃ P Q,m=P++Q/\(∀ y∈P,bf y x=true)/\(∀ y∈Q,bf y x=false)/\Gv x m i k=if P=[] then k else i+P.length
 | [],i,k,_=>⟨[],[],rfl,by simp,by simp,by simp[Gv]⟩
 | y::r,i,k,hs=>by
  obtain⟨h1,h2⟩:=List.pairwise_cons.1 hs;obtain⟨P,Q,rfl,hP,hQ,hk⟩:=OX x r (i+1) (if bf y x then i+1 else k) h2;by_cases hb:bf y x=true
  ·refine⟨y::P,Q,rfl,fun z hz=>?_,hQ,?_⟩
   ·rcases List.mem_cons.1 hz with rfl | hz
    ·exact hb
    ·exact hP z hz
   ·rw[Gv,hk,if_pos hb,if_neg (show ¬ (y::P=[]) by simp),List.length_cons]
    split
    ·rename_i e; rw[e]; simp
    ·omega
  ·have hb2:bf y x=false:=(by simpa using hb);obtain rfl:P=[]:=by
    cases P with
    | nil=>rfl
    | cons z P=>
     exfalso;have a:=h1 z (by simp);have b:=hP z (by simp);exact hb (LU a b)
   refine⟨[],y::Q,rfl,by simp,fun z hz=>?_,?_⟩
   ·rcases List.mem_cons.1 hz with rfl | hz
    ·exact hb2
    ·exact hQ z hz
   ·rw[Gv,hk,if_neg hb];simp
def Xx (M:List It)(x:It):List It×Bool:=if XV x.1 M then (M,false) else (M.take (Gv x M 0 0)++x::M.drop (Gv x M 0 0),true)
def fC (M:List It)(k:Int):List It×Bool:=(M.eraseP fun y=>decide (y.1=k),XV k M)
theorem Aw (M:List It)(x:It):(Xx M x).2 = !XV x.1 M:=by
 unfold Xx;cases XV x.1 M <;> rfl
theorem QJ {M:List It}{x:It}(h:XV x.1 M=false):(Xx M x).1.Perm (x::M):=by
 unfold Xx;rw[h];show(M.take (Gv x M 0 0)++x::M.drop (Gv x M 0 0)).Perm (x::M);refine List.perm_middle.trans ?_;rw[List.take_append_drop]
theorem Wh.ins {M:List It}(h:Wh M)(x:It):Wh (Xx M x).1:=by
 cases hi:XV x.1 M with
 | true=>unfold Xx; rw[hi]; exact h
 | false=>
  refine⟨?_,?_⟩
  ·unfold Xx;rw[hi];show(M.take (Gv x M 0 0)++x::M.drop (Gv x M 0 0)).Pairwise _;obtain⟨P,Q,e,hP,hQ,hk⟩:=OX x M 0 0 h.Hw;have hkl:Gv x M 0 0=P.length:=by
    rw[hk]
    split
    ·rename_i e2; rw[e2]; rfl
    ·omega
   have hs:=h.Hw;have hno:=VG.1 hi;rw[hkl];rw[e] at hs hno ⊢;rw[List.take_left,List.drop_left];rw[List.pairwise_append] at hs ⊢;refine⟨hs.1,List.pairwise_cons.2 ⟨fun q hq=>JW (fun e2=>hno q (List.mem_append_right _ hq) (by rw[e2])) (hQ q hq),hs.2.1⟩,fun p hp q hq=>?_⟩;rcases List.mem_cons.1 hq with rfl | hq
   ·exact hP p hp
   ·exact hs.2.2 p hp q hq
  ·have:=(QJ hi).map (·.1);rw[this.nodup_iff,List.map_cons,List.nodup_cons];refine⟨fun hm=>?_,h.ids⟩;obtain⟨y,hy,e⟩:=List.mem_map.1 hm;exact VG.1 hi y hy e
def Px (A:List It)(f:Int->Option Int):Prop:=∀ k n,f k=some n↔∃ j:Nat,n=j/\j<A.length/\(ita A j).1=k
def dS (A:List It):Prop:=∀ j k,j<A.length->k<A.length->(ita A j).1=(ita A k).1->j=k
theorem uN {A:List It}(h:(A.map (·.1)).Nodup):dS A:=fun j k hj hk e=>by
 rw[WA hj,WA hk] at e;exact(List.getElem_inj (h₀:=by simpa using hj) (h₁:=by simpa using hk) h).1 (by simpa using e)
def Ya (f:Int->Option Int)(k:Int)(v:Option Int):Int->Option Int:=fun x=>if x=k then v else f x
theorem Px.nil:Px [] (fun _=>none):=fun k n=>by simp
theorem Px.no {A:List It}{f:Int->Option Int}(h:Px A f){k:Int}:f k=none↔XV k A=false:=by
 rw[VG];constructor
 ·intro hf y hy e;obtain⟨j,hj,rfl⟩:=AO hy;rw[(h k j).2 ⟨j,rfl,hj,e⟩] at hf;cases hf
 ·intro hn;cases hf:f k with
  | none=>rfl
  | some n=>
   obtain⟨j,-,hj,e⟩:=(h k n).1 hf;exact absurd e (hn _ (NJ hj))
theorem Px.app {A:List It}{f:Int->Option Int}(h:Px A f){x:It}(hn:XV x.1 A=false):Px (A++[x]) (Ya f x.1 (some (A.length:Int))):=fun k n=>by
 unfold Ya;have hl:(A++[x]).length=A.length+1:=by simp
 by_cases e:k=x.1
 ·rw[if_pos e];constructor
  ·intro h2;simp only[Option.some.injEq] at h2;exact⟨A.length,h2.symm,by omega,by rw[LQ,e]⟩
  ·rintro⟨j,rfl,hj,hk⟩;by_cases h3:j<A.length
   ·rw[TI h3] at hk;exact absurd (hk.trans e) (VG.1 hn _ (NJ h3))
   ·rw[show j=A.length by omega]
 ·rw[if_neg e,h k n];constructor
  ·rintro⟨j,rfl,hj,hk⟩;exact⟨j,rfl,by omega,by rw[TI hj]; exact hk⟩
  ·rintro⟨j,rfl,hj,hk⟩;by_cases h3:j<A.length
   ·exact⟨j,rfl,h3,by rw[TI h3] at hk; exact hk⟩
   ·rw[show j=A.length by omega,LQ] at hk;exact absurd hk.symm e
theorem Px.sw {A:List It}{f:Int->Option Int}(h:Px A f)(hi:dS A){i j:Nat}(h1:i<A.length)(h2:j<A.length):Px (Uf A i j) (Ya (Ya f (ita A j).1 (some (i:Int))) (ita A i).1 (some (j:Int))):=fun k n=>by
 unfold Ya;rw[Xd];have S:=fun x=>NI A i j x h1 h2;by_cases e:k=(ita A i).1
 ·rw[if_pos e];constructor
  ·intro h3;simp only[Option.some.injEq] at h3;exact⟨j,h3.symm,h2,by rw[S,if_pos rfl,e]⟩
  ·rintro⟨x,rfl,hx,hk⟩;by_cases hxj:x=j
   ·rw[hxj]
   ·rw[S,if_neg hxj] at hk;by_cases hxi:x=i
    ·rw[if_pos hxi] at hk;exact absurd (hi j i h2 h1 (hk.trans e)) (fun e2=>hxj (hxi.trans e2.symm))
    ·rw[if_neg hxi] at hk;exact absurd (hi x i hx h1 (hk.trans e)) hxi
 ·rw[if_neg e];by_cases e2:k=(ita A j).1
  ·rw[if_pos e2];have hij:i≠j:=fun h3=>e (by rw[e2,h3]);constructor
   ·intro h3;simp only[Option.some.injEq] at h3;exact⟨i,h3.symm,h1,by rw[S,if_neg hij,if_pos rfl,e2]⟩
   ·rintro⟨x,rfl,hx,hk⟩;by_cases hxj:x=j
    ·rw[S,if_pos hxj] at hk;exact absurd hk.symm e
    ·rw[S,if_neg hxj] at hk;by_cases hxi:x=i
     ·rw[hxi]
     ·rw[if_neg hxi] at hk;exact absurd (hi x j hx h2 (hk.trans e2)) hxj
  ·rw[if_neg e2,h k n];constructor
   ·rintro⟨x,rfl,hx,hk⟩;exact⟨x,rfl,hx,by rw[S,if_neg (fun h3=>e2 (by rw[<- hk,h3])),if_neg (fun h3=>e (by rw[<- hk,h3]))]; exact hk⟩
   ·rintro⟨x,rfl,hx,hk⟩;rw[S] at hk;by_cases hxj:x=j
    ·rw[if_pos hxj] at hk;exact absurd hk.symm e
    ·rw[if_neg hxj] at hk;by_cases hxi:x=i
     ·rw[if_pos hxi] at hk;exact absurd hk.symm e2
     ·rw[if_neg hxi] at hk;exact⟨x,rfl,hx,hk⟩
end Go.Proofs.YtnelmomagdcmnaaGreat.Hp
namespace Go.Proofs.YtnelmomagdcmnaaGreat.Sd
open Go.RowKit
def ZP (B:Nat)(S:Nat->Prop)(w w':World):Prop:=Below B w w'/\∀ k,k<w.heap.size->¬ S k->w'.heap[k]?=w.heap[k]?
theorem ZP.of_below {B:Nat}{S:Nat->Prop}{w w':World}(h:Below w.heap.size w w')(hB:B<=w.heap.size):ZP B S w w':=⟨h.mono hB,fun k hk _=>h.block k hk⟩
theorem Bx.VQ {w w':World}{k t B:Nat}{S:Nat->Prop}{cs:Array Value}(h:Bx w k cs t)(hb:ZP B S w w')(hn:¬ S k):Bx w' k cs t:=(hb.2 k h.lt hn).trans h
theorem Cs.VQ {w w':World}{B:Nat}{S:Nat->Prop}{a:Option Addr}{cs:List Value}(h:Cs w a cs)(hb:ZP B S w w')(hn:∀ x,a=some x->¬ S x.block):Cs w' a cs:=fun j v hj=>by
 obtain⟨b,off,e,hlt,hc⟩:=h j v hj;refine⟨b,off,e,Nat.lt_of_lt_of_le hlt hb.1.size,?_⟩;rw[<- hc];unfold World.cell?;rw[hb.2 b hlt (hn _ e)]
theorem ZP.refl (B:Nat)(S:Nat->Prop)(w:World):ZP B S w w:=⟨Below.refl _ _,fun _ _ _=>rfl⟩
theorem ZP.trans {B:Nat}{S S2:Nat->Prop}{a b c:World}(h:ZP B S a b)(k:ZP B S2 b c)(hs:∀ x,S2 x->S x∨a.heap.size<=x):ZP B S a c:=
 ⟨h.1.trans k.1,fun i hi hn=>(k.2 i (by have:=h.1.size; omega) (fun h2=>(hs i h2).elim hn (by omega))).trans (h.2 i hi hn)⟩
theorem ZP.trans' {B:Nat}{S:Nat->Prop}{a b c:World}(h:ZP B S a b)(k:ZP B S b c):ZP B S a c:=h.trans k fun _=>.inl
theorem ZP.setCell {B:Nat}{S:Nat->Prop}(w:World)(b o:Nat)(v:Value)(hB:B<=b)(hS:S b):ZP B S w (w.setCell ⟨b,o,none⟩ v):=
 ⟨(Below.refl B w).setCell hB v,fun k _ hn=>heap_setCell_other w _ k v (fun e=>hn (by rw[e]; exact hS))⟩
theorem XD {w:World}{B e s n c b:Nat}{xs:List Value}(h:w.ownsRow B e s (.slice (some ⟨b,0,none⟩) n c) n xs)(j:Nat)(v:Value)(hj:j<xs.length):(w.setCell ⟨b,j,none⟩ v).ownsRow B e s (.slice (some ⟨b,0,none⟩) n c) n (xs.set j v):=by
 have hlen:=h.1;rcases h.2 with⟨e0,-⟩ | ⟨g,cap,cur,e0,hb,hg,hn,hm,hc,ht⟩
 ·cases e0
 ·simp only[Value.slice.injEq,Option.some.injEq,Addr.mk.injEq,and_true,true_and] at e0;obtain⟨rfl,rfl⟩:=e0;refine⟨by simpa using hlen,.inr ⟨b,c,cur.setIfInBounds j v,rfl,hb,Joins.block_setCell hg v,hn,hm,by simpa using hc,?_⟩⟩;rw[Array.toList_setIfInBounds,List.take_set,ht]
theorem YJ {w:World}{B e s n c b:Nat}{xs:List Value}(h:w.ownsRow B e s (.slice (some ⟨b,0,none⟩) n c) n xs):∃ cur,Bx w b cur e/\n*s<=cur.size/\B<=b/\cur.toList.take (n*s)=xs:=by
 rcases h.2 with⟨e0,-⟩ | ⟨g,cap,cur,e0,hb,hg,hn,hm,hc,ht⟩
 ·cases e0
 ·simp only[Value.slice.injEq,Option.some.injEq,Addr.mk.injEq,and_true,true_and] at e0;obtain⟨rfl,rfl⟩:=e0;exact⟨cur,hg,by rw[hc]; exact Nat.mul_le_mul_right _ hn,hb,ht⟩
theorem ZP.sets {B b:Nat}{S:Nat->Prop}(hB:B<=b)(hS:S b):∀ (vs:List Value) (o:Nat) (w:World),ZP B S w (w.setCells b o vs)
 | [],o,w=>ZP.refl _ _ _
 | v::r,o,w=>(ZP.setCell w b o v hB hS).trans' (ZP.sets hB hS r (o+1) _)
theorem YI {B e s n c b:Nat}:∀ (vs:List Value) (o:Nat) (w:World) (xs:List Value),w.ownsRow B e s (.slice (some ⟨b,0,none⟩) n c) n xs->o+vs.length<=xs.length->(w.setCells b o vs).ownsRow B e s (.slice (some ⟨b,0,none⟩) n c) n (xs.take o++vs++xs.drop (o+vs.length))
 | [],o,w,xs,h,_=>by simpa [World.setCells] using h
 | v::r,o,w,xs,h,hl=>by
  rw[List.length_cons] at hl;have h1:=YI r (o+1) _ _ (XD h o v (by omega)) (by rw[List.length_set]; omega);rw[World.setCells];have e:(xs.set o v).take (o+1)++r++(xs.set o v).drop (o+1+r.length)=xs.take o++v::r++xs.drop (o+(v::r).length):=by
   rw[List.drop_set_of_lt (by omega),List.take_set,List.length_cons,show o+(r.length+1)=o+1+r.length by omega];have ho:o<xs.length:=(by omega);rw[List.take_add_one,List.getElem?_eq_getElem ho,Option.toList_some,List.set_append_right _ _ (by rw[List.length_take]; omega),List.length_take,Nat.min_eq_left (by omega),Nat.sub_self,List.set_cons_zero];simp
  rw[e] at h1;exact h1
section
variable {α : Type} (f : α -> List Value) {s : Nat}
theorem WR (hf:∀ x,(f x).length=s):∀ L:List α,(L.flatMap f).length=L.length*s
 | []=>by simp
 | x::r=>by
  rw[List.flatMap_cons,List.length_append,hf x,WR hf r,List.length_cons,Nat.add_mul]; omega
theorem WQ (hf:∀ x,(f x).length=s)(z:α):∀ (L:List α) (i j:Nat),i<L.length->j<s->(L.flatMap f)[i*s+j]?=(f (L.getD i z))[j]?
 | [],i,j,h,_=>by simp at h
 | x::r,0,j,_,hj=>by
  rw[List.flatMap_cons,Nat.zero_mul,Nat.zero_add,List.getElem?_append_left (by rw[hf x]; exact hj)]; rfl
 | x::r,i+1,j,h,hj=>by
  rw[List.flatMap_cons,List.getElem?_append_right (by rw[hf x,Nat.add_mul]; omega),hf x,show(i+1)*s+j-s=i*s+j by rw[Nat.add_mul]; omega,WQ hf z r i j (by simpa using h) hj]; rfl
theorem Ws (hf:∀ x,(f x).length=s):∀ (L:List α) (k:Nat),(L.flatMap f).take (k*s)=(L.take k).flatMap f
 | [],k=>by simp
 | x::r,0=>by simp
 | x::r,k+1=>by
  rw[List.flatMap_cons,List.take_succ_cons,List.flatMap_cons,Nat.add_mul,Nat.one_mul,Nat.add_comm,<- hf x,List.take_append,List.take_of_length_le (by omega),hf x,Nat.add_sub_cancel_left,Ws hf r k]
theorem Tz (hf:∀ x,(f x).length=s):∀ (L:List α) (k:Nat),(L.flatMap f).drop (k*s)=(L.drop k).flatMap f
 | [],k=>by simp
 | x::r,0=>by simp
 | x::r,k+1=>by
  rw[List.flatMap_cons,List.drop_succ_cons,Nat.add_mul,Nat.one_mul,Nat.add_comm,<- hf x,List.drop_append,List.drop_of_length_le (by omega),hf x,Nat.add_sub_cancel_left,Tz hf r k,List.nil_append]
theorem XR {w:World}{a:Option Addr}(hf:∀ x,(f x).length=s)(hs:0<s)(z:α){L:List α}(h:Cs w a (L.flatMap f)){i:Nat}(hi:i<L.length):∃ b off,a=some ⟨b,off,none⟩/\b<w.heap.size/\w.rangeAt b (off+i*s) (f (L.getD i z)):=by
 have hz:=hf (L.getD i z);have h0:=WQ f hf z L i 0 hi hs;rw[List.getElem?_eq_getElem (show 0<(f (L.getD i z)).length by omega)] at h0;obtain⟨b,off,rfl,hb,-⟩:=h _ _ h0;refine⟨b,off,rfl,hb,fun j v hj=>?_⟩;have hjs:j<s:=by have:=(List.getElem?_eq_some_iff.1 hj).1; omega
 obtain⟨b2,o2,e2,-,c2⟩:=h _ _ ((WQ f hf z L i j hi hjs).trans hj);simp only[Option.some.injEq,Addr.mk.injEq,and_true] at e2;obtain⟨rfl,rfl⟩:=e2;rw[Nat.add_assoc];exact c2
theorem SC (h1:∀ x,∀ u∈f x,u.oneCell'=true)(L:List α):∀ u∈L.flatMap f,u.oneCell'=true:=fun u hu=>by
 obtain⟨x,-,hx⟩:=List.mem_flatMap.1 hu;exact h1 x u hx
end
theorem X5 {B b:Nat}(hB:B<=b):∀ (vs:List Value) (o:Nat) (w:World),Below B w (w.setCells b o vs)
 | [],o,w=>Below.refl _ _
 | v::r,o,w=>((Below.refl B w).setCell hB v).trans (X5 hB r (o+1) _)
theorem Xt {b:Nat}:∀ (vs:List Value) (o:Nat) (w:World),But b w (w.setCells b o vs)
 | [],o,w=>But.refl _ _
 | v::r,o,w=>(But.setCell w o v).trans (Xt r (o+1) _)
theorem ZK {w:World}{b o j:Nat}{cs:List Value}{v:Value}{ty:TypeId}(h:w.rangeAt b o cs)(hv:cs[j]?=some v)(hag:(isAgg ty).run Tryz.prog w=.ok false w):(Instr.loadAt ty (Z7 b (o+j))).run Tryz.prog w=.ok v w:=Zc (h j v hv) hag
theorem ZV {w:World}{g t:Nat}{cs:List Value}(h:Bx w g cs.toArray t):w.rangeAt g 0 cs:=fun j v hv=>by
 rw[cell_of_row w g _ _ _ (0,0) h];simpa using hv
def rb (a:Option Addr){α:Type}(L:List α)(k:Nat):Prop:=L≠[]/\∃ x,a=some x/\x.block=k
theorem Rh {w w':World}{a:Option Addr}{cs:List Value}(h:Cs w a cs)(hs:∀ k,rb a cs k->w'.heap[k]?=w.heap[k]?):Cs w' a cs:=fun j v hj=>by
 obtain⟨b,off,e2,hb,hc⟩:=h j v hj;have hne:cs≠[]:=fun q=>by rw[q] at hj; simp at hj
 have hb2:=hs b ⟨hne,_,e2,rfl⟩;refine⟨b,off,e2,?_,?_⟩
 ·have h1:w.heap[b]?=some w.heap[b]:=Array.getElem?_eq_getElem hb;rw[h1] at hb2;exact(Array.getElem?_eq_some_iff.1 hb2).1
 ·rw[<- hc];unfold World.cell?;rw[hb2]
section
variable {ρ : Operand -> Value} {o : Oper} {x y : Operand}
theorem Zv (ho:o.op=.binOp .lss 3 x y 3)(a b:Int){t:Bool}(ht:decide (a<b)=t)(hx:ρ x=Z9 a)(hy:ρ y=Z9 b)(w:World):(execOp ρ o).run Tryz.prog w=.ok (.value (.bool t)) w:=by
 rw[<- ht];unfold execOp;simp only[ho,hx,hy];go_simp
theorem QX (ho:o.op=.binOp .eql 23 x y 23)(a b:Int){t:Bool}(ht:decide (a=b)=t)(hx:ρ x=ZY a)(hy:ρ y=ZY b)(w:World):(execOp ρ o).run Tryz.prog w=.ok (.value (.bool t)) w:=by
 have e:(a == b)=t:=ht;unfold execOp;simp only[ho,hx,hy];go_simp
theorem Wq (ho:o.op=.binOp .add 3 x y 3)(a b:Int)(h:-1000000000000<=a+b/\a+b<=1000000000000)(hx:ρ x=Z9 a)(hy:ρ y=Z9 b)(w:World):(execOp ρ o).run Tryz.prog w=.ok (.value (Z9 (a+b))) w:=by
 have hw:IntKind.i64.wrap (a+b)=a+b:=by rw[IntKind.wrap_i64]; omega
 unfold execOp;simp only[ho,hx,hy];go_simp
theorem TQ (ho:o.op=.binOp .sub 3 x y 3)(a b:Int)(h:-1000000000000<=a-b/\a-b<=1000000000000)(hx:ρ x=Z9 a)(hy:ρ y=Z9 b)(w:World):(execOp ρ o).run Tryz.prog w=.ok (.value (Z9 (a-b))) w:=by
 have hw:IntKind.i64.wrap (a-b)=a-b:=by rw[IntKind.wrap_i64]; omega
 unfold execOp;simp only[ho,hx,hy];go_simp
theorem UM (ho:o.op=.convert 3 23 x)(a:Int)(h0:0<=a)(h1:a<=1000000)(hx:ρ x=Z9 a)(w:World):(execOp ρ o).run Tryz.prog w=.ok (.value (ZY a)) w:=by
 have hw:IntKind.u64.wrap a=a:=by rw[IntKind.wrap_u64]; omega
 unfold execOp;simp only[ho,hx];go_simp
end
theorem VI {ρ:Operand->Value}{o:Oper}{x y:Operand}(ho:o.op=.binOp .gtr 3 x y 3)(a b:Int){t:Bool}(ht:decide (b<a)=t)(hx:ρ x=Z9 a)(hy:ρ y=Z9 b)(w:World):(execOp ρ o).run Tryz.prog w=.ok (.value (.bool t)) w:=by
 rw[<- ht];unfold execOp;simp only[ho,hx,hy];go_simp
theorem YA {ρ:Operand->Value}{o:Oper}{x y:Operand}(ho:o.op=.binOp .eql 3 x y 3)(a b:Int){t:Bool}(ht:decide (a=b)=t)(hx:ρ x=Z9 a)(hy:ρ y=Z9 b)(w:World):(execOp ρ o).run Tryz.prog w=.ok (.value (.bool t)) w:=by
 have e:(a == b)=t:=ht;unfold execOp;simp only[ho,hx,hy];go_simp
theorem Xm {w:World}{g t i:Nat}{cs:Array Value}(cs':Array Value){v:Value}{ty:TypeId}(h:Bx w g cs t)(hi:i<cs.size)(hc:cs.setIfInBounds i v=cs')(h1:v.oneCell'=true)(hs:(Tryz.prog.info? ty).map (·.size)=some 1):∃ V2,(Instr.storeAt ty (Z7 g i) v).run Tryz.prog w=.ok () V2/\Bx V2 g cs' t/\But g w V2:=
 ⟨_,Zh h hi h1 hs,by rw[<- hc]; exact h.Hu v,But.setCell w i v⟩
theorem st_all {w:World}{g t:Nat}{cs cs':Array Value}{ty:TypeId}(h:Bx w g cs t)(hz:cs.size=cs'.size)(h1:cs'.all (·.oneCell')=true)(hs:(Tryz.prog.info? ty).map (·.size)=some cs'.size):∃ V2,(Instr.storeAt ty (Z7 g 0) (.agg cs')).run Tryz.prog w=.ok () V2/\Bx V2 g cs' t/\But g w V2:=
 ⟨_,XE h hz h1 hs,h.set,But.setRow w cs'⟩
theorem YQ {c c':Array Value}{ty:TypeId}(w:World)(hz:c.size=c'.size)(h1:c'.all (·.oneCell')=true)(hs:(Tryz.prog.info? ty).map (·.size)=some c'.size):∃ V,(Instr.storeAt ty (Z7 w.heap.size 0) (.agg c')).run Tryz.prog (w.alloc (.cells c ty))=.ok () V/\Below w.heap.size w V/\Bx V w.heap.size c' ty:=by
 obtain⟨V,hst,hX,hbt⟩:=st_all (cs':=c') (ty:=ty) (heap_alloc_last w (.cells c ty):Bx _ _ c ty) hz h1 hs;exact⟨V,hst,((Below.refl _ w).alloc (Nat.le_refl _) _).trans hbt.1,hX⟩
theorem SB {w w':World}{B e s n n2 c:Nat}{a:Option Addr}{xs:List Value}(h:w.ownsRow B e s (.slice a n c) n2 xs)(hs:∀ x,a=some x->w'.heap[x.block]?=w.heap[x.block]?):w'.ownsRow B e s (.slice a n c) n2 xs:=by
 refine⟨h.1,?_⟩;rcases h.2 with h0 | ⟨g,cap,cur,e0,hb,hg,r⟩
 ·exact .inl h0
 ·refine .inr ⟨g,cap,cur,e0,hb,?_,r⟩;simp only[Value.slice.injEq,true_and] at e0;rw[<- hg];exact hs _ e0.1
theorem Tv (s:ByteArray):(s == s)=true:=by
 rw[beq_toListBytes];exact beq_self_eq_true _
theorem Qv {w:World}{B e s n n2 c:Nat}{a:Option Addr}{xs:List Value}(h:w.ownsRow B e s (.slice a n c) n2 xs):Cs w a xs/\n2<=c:=by
 obtain⟨a2,c2,e2,h1,h2⟩:=Zi h;simp only[Value.slice.injEq] at e2;obtain⟨rfl,-,rfl⟩:=e2;exact⟨h1,h2⟩
section
variable {P : Program} {t e s bytes : Nat} {z : Value}
theorem VP (hu:P.underlying t=some (.slice e))(hinfo:(P.info? e).map (fun i=>(i.zero,i.size,i.bytes))=some (some z,s,bytes))(hzs:z.cells.size=s)(hs:0<s)(hby:bytes<=1000)
  {w:World} {B n m:Nat} {v:Value} {xs:List Value} (hO:w.ownsRow B e s v n xs) (pa:Option Addr) (cp:Nat) (ys:List Value) (hP:Cs w pa ys) (hl:ys.length=m*s) (h1:∀ u∈ys,u.oneCell'=true) (hB:B<=w.heap.size) (hn:n<=100000) (hm:m<=100000) :
  ∃ v' w',(Builtin.append_ #[t,t] t #[v,.slice pa m cp]).run P w=.ok v' w'/\w'.ownsRow B e s v' (n+m) (xs++ys)/\Below B w w'/\w.grownBy w' v.ownBlock/\(v'.ownBlock=v.ownBlock∨v'.ownBlock=some w.heap.size):=by
 obtain⟨i0,hi,hz0,hz1,hz2⟩:=info_parts hinfo;by_cases hy:ys=[]
 ·subst hy;obtain rfl:m=0:=by
   rcases Nat.eq_zero_or_pos m with h | h
   ·exact h
   ·have:=Nat.mul_pos h hs;rw[<- hl] at this;simp at this
  cases pa with
  | none=>
   refine⟨v,w,?_,by simpa using hO,Below.refl _ _,World.grownBy.refl w _,.inl rfl⟩;rcases hO.2 with⟨rfl,h0⟩ | ⟨g,cap,cur,rfl,_,_,hnc,_⟩
   ·simp[Builtin.append_,run_underlying hu,sizeOf,typeInfo,hi,Builtin.lenOf,Builtin.firstCells]
   ·simp[Builtin.append_,run_underlying hu,sizeOf,typeInfo,hi,Builtin.lenOf,Builtin.firstCells,hnc,storeCells]
  | some x=>
   obtain⟨v',w',hr,h2,h3,-,h4⟩:=run_append_own_at (P:=P) w B t t e i0 z s bytes hu hi hz0 hz1 hz2 hzs hs v n xs hO x 0 cp [] (by simp) (fun j u h=>by simp at h) (by simp) (by unfold maxLen; omega) (by have:=Nat.mul_le_mul (show n+0<=100000 by omega) hby; omega) hB;exact⟨v',w',hr,h2,(Below.refl _ w).grown h3 hB (fun j hj=>(hO.lt j hj).1),h3,h4⟩
 ·obtain⟨y,hy0⟩:∃ y,ys[0]?=some y:=by
   cases ys with
   | nil=>exact absurd rfl hy
   | cons y r=>exact⟨y,rfl⟩
  obtain⟨b,off,rfl,-⟩:=hP 0 y hy0;have hcells:∀ j u,ys[j]?=some u->w.cell? ((⟨b,off,none⟩:Addr).add j)=some u:=fun j u hu=>by
   obtain⟨b2,off2,e2,-,hc⟩:=hP j u hu;simp only[Option.some.injEq,Addr.mk.injEq,and_true] at e2;obtain⟨rfl,rfl⟩:=e2;rw[Addr.add_mid];exact hc
  obtain⟨v',w',hr,h2,h3,-,h4⟩:=run_append_own_at (P:=P) w B t t e i0 z s bytes hu hi hz0 hz1 hz2 hzs hs v n xs hO ⟨b,off,none⟩ m cp ys hl hcells h1 (by unfold maxLen; omega) (by have:=Nat.mul_le_mul (show n+m<=200000 by omega) hby; omega) hB;exact⟨v',w',hr,h2,(Below.refl _ w).grown h3 hB (fun j hj=>(hO.lt j hj).1),h3,h4⟩
end
section
variable {ρ : Operand -> Value} {o : Oper} {x y : Operand}
end
def Cm (a b:ByteArray):Bool:=decide (a.data.toList<b.data.toList)
theorem xK (a:ByteArray):a.toList=a.data.toList:=Lib.toList_data a
theorem eqB (a b:ByteArray):(a.toList == b.toList)=decide (a=b):=by
  rw[xK,xK];by_cases h:a=b
  · subst h; simp
  · rw[decide_eq_false h,beq_eq_false_iff_ne];intro e;exact h (ByteArray.ext (Array.toList_inj.1 e))
theorem ny (a b:ByteArray):(a == b)=decide (a=b):=by rw[beq_toListBytes,eqB]
theorem Rj (a:ByteArray):Cm a a=false:=decide_eq_false (List.lt_irrefl _)
theorem uM {a b c:ByteArray}(h:Cm a b=true)(g:Cm b c=true):Cm a c=true:=decide_eq_true (List.lt_trans (of_decide_eq_true h) (of_decide_eq_true g))
theorem Au {a b:ByteArray}(h:Cm a b=false)(hn:a≠b):Cm b a=true:=by
  refine decide_eq_true ?_;have h1:¬ a.data.toList<b.data.toList:=of_decide_eq_false h;have h2:b.data.toList<=a.data.toList:=List.not_lt.1 h1;rcases List.le_iff_lt_or_eq.1 h2 with h3 | h3
  · exact h3
  · exact absurd (ByteArray.ext (Array.toList_inj.1 h3)).symm hn
section
variable {ρ : Operand -> Value} {o : Oper} {x y : Operand}
theorem I7 (ho:o.op=.binOp .lss 23 x y 23)(a b:Int){t:Bool}(ht:decide (a<b)=t)(hx:ρ x=ZY a)(hy:ρ y=ZY b)(w:World):(execOp ρ o).run Tryz.prog w=.ok (.value (.bool t)) w:=by
  rw[<- ht];unfold execOp;go_simp
theorem I5 (ho:o.op=.binOp .gtr 23 x y 23)(a b:Int){t:Bool}(ht:decide (b<a)=t)(hx:ρ x=ZY a)(hy:ρ y=ZY b)(w:World):(execOp ρ o).run Tryz.prog w=.ok (.value (.bool t)) w:=by
  rw[<- ht];unfold execOp;go_simp
theorem ni (ho:o.op=.binOp .neq 23 x y 23)(a b:Int){t:Bool}(ht:decide (a≠b)=t)(hx:ρ x=ZY a)(hy:ρ y=ZY b)(w:World):(execOp ρ o).run Tryz.prog w=.ok (.value (.bool t)) w:=by
  have e:(a != b)=t:=by rw[<- ht]; by_cases h:a=b <;> simp[h]
  unfold execOp;simp only[ho,hx,hy];go_simp
theorem X0 (ho:o.op=.binOp .eql 3 x y 3)(a b:Nat){t:Bool}(ht:decide (a=b)=t)(hx:ρ x=Z9 a)(hy:ρ y=Z9 b)(w:World):(execOp ρ o).run Tryz.prog w=.ok (.value (.bool t)) w:=
  YA ho a b (by rw[<- ht]; exact decide_eq_decide.2 (by omega)) hx hy w
end
abbrev Rw:=ByteArray×Int×Int
abbrev Eo:=Int×Int
def YN (x:Eo):List Value:=[ZY x.1,Z9 x.2]
abbrev ZQ (x:Eo):Array Value:=#[ZY x.1,Z9 x.2]
def encs (L:List Eo):List Value:=L.flatMap YN
theorem Vs (x:Eo):(YN x).length=2:=rfl
theorem Vr (x:Eo):∀ u∈YN x,u.oneCell'=true:=List.all_eq_true.1 (show(YN x).all (·.oneCell')=true by kernel_rfl)
theorem Y3 (x:Eo):(ZQ x).all (·.oneCell')=true:=by kernel_rfl
theorem Y0 (L:List Eo):(encs L).length=L.length*2:=WR YN Vs L
theorem WO (L:List Eo):∀ u∈encs L,u.oneCell'=true:=SC YN Vr L
theorem WM (A B:List Eo):encs (A++B)=encs A++encs B:=List.flatMap_append
theorem W9 (L:List Eo)(k:Nat):(encs L).take (k*2)=encs (L.take k):=Ws YN Vs L k
theorem WZ (L:List Eo)(k:Nat):(encs L).drop (k*2)=encs (L.drop k):=Tz YN Vs L k
abbrev Wn:Eo:=(0,0)
theorem Vq:(Tryz.prog.info? 168).map (fun i=>(i.zero,i.size,i.bytes))=some (some (.agg (ZQ Wn)),2,16):=by kernel_rfl
theorem EY {w:World}{a:Option Addr}{L:List Eo}(h:Cs w a (encs L)){i:Nat}(hi:i<L.length):∃ b off,a=some ⟨b,off,none⟩/\b<w.heap.size/\w.rangeAt b (off+i*2) (YN (L.getD i Wn)):=XR YN Vs (by omega) Wn h hi
theorem ZC {w:World}{b o:Nat}{x:Eo}(h:w.rangeAt b o (YN x)):(Instr.loadAt 168 (Z7 b o)).run Tryz.prog w=.ok (.agg (ZQ x)) w:=run_loadAt_mid w b o 168 (YN x) _ h Tryz.underlying168 rfl (by kernel_rfl)
theorem Yn (b off n c k:Nat)(hk:k<n)(V:World)(ρ:Operand->Value)(o:Oper){x y:Operand}(ho:o.op=.indexAddr 132 x y)(hx:ρ x=.slice (some ⟨b,off,none⟩) n c)(hy:ρ y=Z9 k):(execOp ρ o).run Tryz.prog V=.ok (.value (Z7 b (off+k*2))) V:=by
  have hs:(sizeOf (Tryz.prog.elem 132)).run Tryz.prog V=.ok 2 V:=by kernel_rfl
  have hlm:(k:Int)<(n:Int):=by omega
  unfold execOp;simp only[ho,hx,hy];go_simp
theorem Qu (x:Eo)(V:World):(Instr.buildSlice 132 1 #[(0,.agg (ZQ x))]).run Tryz.prog V=.ok (.slice (some ⟨V.heap.size,0,none⟩) 1 1) (V.alloc (.cells (ZQ x) 168)):=by
  obtain⟨i0,hi,hz0,hz1,hz2⟩:=info_parts Vq;refine run_buildSlice V 132 168 1 _ (ZQ x) i0 _ Tryz.underlying132 hi hz0 (by rw[hz1]; omega) (by rw[hz1]; omega) ?_;rw[hz1];kernel_rfl
theorem VB (a:Option Addr)(n c k:Nat)(w:World)(h:k<=c):(Instr.slice 132 (.slice a n c) none (some (Z9 (k:Int))) none).run Tryz.prog w=.ok (.slice a k c) w:=Fe (s:=2) (by kernel_rfl) (fun w=>by kernel_rfl) a n c k w h
theorem ZH (a:Option Addr)(n c k:Nat)(w:World)(h:k<=n):(Instr.slice 132 (.slice a n c) (some (Z9 (k:Int))) none none).run Tryz.prog w=.ok (.slice (Yc 2 a c k) (n-k) (c-k)) w:=LX (s:=2) (by kernel_rfl) (fun w=>by kernel_rfl) a n c k w h
def ZE (w:World)(B:Nat)(v:Value)(L:List Eo):Prop:=w.ownsRow B 168 2 v L.length (encs L)
theorem ZE.below {w w':World}{B:Nat}{v:Value}{L:List Eo}(h:ZE w B v L)(hb:Below w.heap.size w w'):ZE w' B v L:=own_below h hb
theorem ZE.cs {w:World}{B:Nat}{v:Value}{L:List Eo}(h:ZE w B v L):∃ a c,v=.slice a L.length c/\Cs w a (encs L)/\L.length<=c:=Zi h
theorem ZE.ne {w:World}{B:Nat}{x:Value}{L:List Eo}(h:ZE w B x L):x.ownBlock≠some w.heap.size:=fun e=>Nat.lt_irrefl _ (h.lt _ e).2
theorem JU {w:World}{B:Nat}{v:Value}{A:List Eo}(h:ZE w B v A)(hB:B<=w.heap.size)(pa:Option Addr)(n cp:Nat)(M:List Eo)(hM:Cs w pa (encs M))(hn:M.length=n)(hl:A.length<=100000)(hm:n<=100000) :
    ∃ v' w',(Builtin.append_ #[132,132] 132 #[v,.slice pa n cp]).run Tryz.prog w=.ok v' w'/\ZE w' B v' (A++M)/\Below B w w'/\w.grownBy w' v.ownBlock/\(v'.ownBlock=v.ownBlock∨v'.ownBlock=some w.heap.size):=by
  subst hn;obtain⟨v',w',h1,h2,h3⟩:=VP (P:=Tryz.prog) (t:=132) (m:=M.length) Tryz.underlying132 Vq (by kernel_rfl) (by omega) (by omega) h pa cp (encs M) hM (Y0 M) (WO M) hB hl hm;refine⟨v',w',h1,?_,h3⟩;unfold ZE;rw[WM,List.length_append];exact h2
def strs (S:List ByteArray):List Value:=S.map Value.string
def Ug (w:World)(B:Nat)(v:Value)(L:List ByteArray):Prop:=w.ownsRow B 9 1 v L.length (strs L)
theorem Ug.below {w w':World}{B:Nat}{v:Value}{L:List ByteArray}(h:Ug w B v L)(hb:Below w.heap.size w w'):Ug w' B v L:=own_below h hb
theorem Ug.cs {w:World}{B:Nat}{v:Value}{L:List ByteArray}(h:Ug w B v L):∃ a c,v=.slice a L.length c/\Cs w a (strs L)/\L.length<=c:=Zi h
theorem Ug.ne {w:World}{B:Nat}{x:Value}{L:List ByteArray}(h:Ug w B x L):x.ownBlock≠some w.heap.size:=fun e=>Nat.lt_irrefl _ (h.lt _ e).2
def Zd (w:World)(B:Nat)(v:Value)(L:List Int):Prop:=w.ownsRow B 3 1 v L.length (ZM L)
theorem Zd.below {w w':World}{B:Nat}{v:Value}{L:List Int}(h:Zd w B v L)(hb:Below w.heap.size w w'):Zd w' B v L:=own_below h hb
theorem Zd.cs {w:World}{B:Nat}{v:Value}{L:List Int}(h:Zd w B v L):∃ a c,v=.slice a L.length c/\Cs w a (ZM L)/\L.length<=c:=Zi h
theorem Zd.ne {w:World}{B:Nat}{x:Value}{L:List Int}(h:Zd w B x L):x.ownBlock≠some w.heap.size:=fun e=>Nat.lt_irrefl _ (h.lt _ e).2
theorem TY {w:World}{B:Nat}{v:Value}{A:List Int}(h:Zd w B v A)(hB:B<=w.heap.size)(pa:Option Addr)(n cp:Nat)(M:List Int)(hM:Cs w pa (ZM M))(hn:M.length=n)(hl:A.length<=100000)(hm:n<=100000) :
    ∃ v' w',(Builtin.append_ #[22,22] 22 #[v,.slice pa n cp]).run Tryz.prog w=.ok v' w'/\Zd w' B v' (A++M)/\Below B w w'/\w.grownBy w' v.ownBlock/\(v'.ownBlock=v.ownBlock∨v'.ownBlock=some w.heap.size):=by
  subst hn;obtain⟨v',w',h1,h2,h3⟩:=VP (P:=Tryz.prog) (t:=22) (m:=M.length) Tryz.underlying22 Ut (by kernel_rfl) (by omega) (by omega) h pa cp (ZM M) hM (by rw[XH,Nat.mul_one]) (WS M) hB hl hm;refine⟨v',w',h1,?_,h3⟩;unfold Zd;rw[WT,List.length_append];exact h2
theorem Yf {w:World}{B e s n:Nat}{v:Value}{xs:List Value}(h:w.ownsRow B e s v n xs):(v=.slice none 0 0/\n=0)∨∃ g c,v=.slice (some ⟨g,0,none⟩) n c/\B<=g/\g<w.heap.size/\n<=c:=by
  rcases h.2 with⟨h1,h2⟩ | ⟨g,c,cur,h1,h2,h3,h4,-⟩
  · exact .inl ⟨h1,h2⟩
  · exact .inr ⟨g,c,h1,h2,(Array.getElem?_eq_some_iff.1 h3).1,h4⟩
end Go.Proofs.YtnelmomagdcmnaaGreat.Sd
