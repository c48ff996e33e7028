/-
  Texts joined.
-/
import Derived.Test.YtnhlpahoomcgnaaGreatJ5
import Derived.Laws.RangeString
set_option maxRecDepth 100000
set_option maxHeartbeats 8000000
set_option linter.unusedSimpArgs false
set_option linter.unusedVariables false
namespace Go.Proofs.YtnhlpahoomcgnaaGreat
open Go.RowKit
def WE:ByteArray:=⟨#[]⟩
theorem EC {s:ByteArray}(h:s.size=0):s=WE:=ByteArray.ext (Array.eq_empty_of_size_eq_zero h)
def tF (k:Int)(s:ByteArray):List Ze:=if s.size=0 then [] else [⟨k,2,0,nums s⟩]
def nF (k v:Int):List Ze:=if v=0 then [] else [⟨k,0,v,[]⟩]
def Ub (x:Tf):List Ze:=tF 1 x.1++nF 2 x.2
def TD (x:Tf):Ze:=⟨6,2,0,msg (Ub x)⟩
def I7 (t:Y8):List Ze:=tF 1 t.snd++(nF 2 t.sq++(nF 3 t.Zp++(nF 4 t.YZ++(tF 5 t.memo++t.tr.map TD))))
def form (t:Y8):List Int:=msg (I7 t)
theorem KI {k:Int}{s:ByteArray}(h:s.size=0):tF k s=[]:=if_pos h
theorem QV {k:Int}{s:ByteArray}(h:s.size≠0):tF k s=[⟨k,2,0,nums s⟩]:=if_neg h
theorem OL (k:Int):nF k 0=[]:=rfl
theorem TA {k v:Int}(h:v≠0):nF k v=[⟨k,0,v,[]⟩]:=if_neg h
theorem QF:msg []=[]:=rfl
theorem WU (f:Ze)(r:List Ze):msg (f::r)=Ye f++msg r:=rfl
theorem Bf (k:Int)(s:ByteArray):(msg (tF k s)).length<=20+s.size/\s.size<=(msg (tF k s)).length:=by
 by_cases h:s.size=0
 ·rw[KI h,QF];exact⟨by simp,by rw[h]; simp⟩
 ·rw[QV h,WU,QF,List.append_nil];have a:=GV ⟨k,2,0,nums s⟩;have b:=Vd k 2 0 (nums s);rw[Zd] at b;have c:(⟨k,2,0,nums s⟩:Ze).bytes.length=s.size:=Zd s;exact⟨by omega,b⟩
theorem GU (k v:Int):(msg (nF k v)).length<=20:=by
 by_cases h:v=0
 ·subst h; rw[OL,QF]; simp
 ·rw[TA h,WU,QF,List.append_nil];have a:=GV ⟨k,0,v,[]⟩;simpa using a
theorem OV (x:Tf):(msg (Ub x)).length<=40+x.1.size/\x.1.size<=(msg (Ub x)).length:=by
 unfold Ub;rw[TP,List.length_append];have a:=Bf 1 x.1;have b:=GU 2 x.2;omega
theorem iP (x:Tf):(Ye (TD x)).length<=60+x.1.size/\60+x.1.size<=61*(Ye (TD x)).length:=by
 have a:=GV (TD x);have b:=Vd 6 2 0 (msg (Ub x));have b2:(msg (Ub x)).length<=(Ye (TD x)).length:=b;have c:=OV x;have d:=VQ (TD x);have e:(TD x).bytes.length=(msg (Ub x)).length:=rfl;omega
def Js:List Tf->Nat
 | []=>0
 | x::r=>60+x.1.size+Js r
def I4 (t:Y8):Nat:=100+t.snd.size+t.memo.size+Js t.tr
theorem yI:∀ (A B:List Tf),Js (A++B)=Js A+Js B
 | [],B=>by simp[Js]
 | x::r,B=>by rw[List.cons_append,Js,Js,yI r B]; omega
theorem yL:∀ A:List Tf,60*A.length<=Js A
 | []=>by simp[Js]
 | x::r=>by have:=yL r; rw[Js,List.length_cons]; omega
theorem yH {A:List Tf}{x:Tf}(h:x∈A):60+x.1.size<=Js A:=by
 induction A with
 | nil=>cases h
 | cons y r ih=>
  rw[Js];rcases List.mem_cons.1 h with rfl | h
  ·omega
  ·have:=ih h; omega
theorem yG:∀ A:List Tf,(msg (A.map TD)).length<=Js A/\Js A<=61*(msg (A.map TD)).length
 | []=>by simp[msg,Js]
 | x::r=>by
  have a:=yG r;have b:=iP x;rw[List.map_cons,WU,List.length_append,Js];omega
theorem OY (t:Y8):(form t).length<=I4 t/\I4 t<=100+61*(form t).length:=by
 unfold form I7 I4;rw[TP,TP,TP,TP,TP];simp only[List.length_append];have a:=Bf 1 t.snd;have b:=GU 2 t.sq;have c:=GU 3 t.Zp;have d:=GU 4 t.YZ;have e:=Bf 5 t.memo;have f:=yG t.tr;omega
structure Dh (t:Y8):Prop where
 sq:W64 t.sq
 Zp:W64 t.Zp
 YZ:W64 t.YZ
 am:∀ x,x∈t.tr->W64 x.2
 wt:I4 t<=800000
theorem Xq:W64 0:=⟨by decide,by decide⟩
theorem ai1 {k:Int}{s:ByteArray}(h1:1<=k)(h2:k<=536870911)(hs:s.size<=1000000):∀ f,f∈tF k s->Vf f/\f.num=k:=fun f hf=>by
 by_cases h:s.size=0
 ·rw[KI h] at hf; cases hf
 ·rw[QV h,List.mem_singleton] at hf;subst hf;exact⟨⟨⟨h1,h2,.inr ⟨rfl,rfl⟩⟩,Xq,fun x hx=>wE s x hx,by rw[Zd]; exact hs⟩,rfl⟩
theorem iO {k v:Int}(h1:1<=k)(h2:k<=536870911)(hv:W64 v):∀ f,f∈nF k v->Vf f/\f.num=k:=fun f hf=>by
 by_cases h:v=0
 ·subst h; rw[OL] at hf; cases hf
 ·rw[TA h,List.mem_singleton] at hf;subst hf;exact⟨⟨⟨h1,h2,.inl ⟨rfl,rfl⟩⟩,hv,fun x (hx:x∈([]:List Int))=>(by cases hx),Nat.zero_le _⟩,rfl⟩
theorem Tj {P:List Ze}(h:∀ f,f∈P->Vf f):∀ x,x∈msg P->0<=x/\x<=255:=fun x hx=>by
 obtain⟨f,hf,hx⟩:=List.mem_flatMap.1 hx;exact Bd f (h f hf) x hx
theorem EI {x:Tf}(hs:x.1.size<=900000)(hv:W64 x.2):∀ f,f∈Ub x->Vf f:=fun f hf=>by
 rcases List.mem_append.1 hf with hf | hf
 ·exact(ai1 (by decide) (by decide) (by omega) f hf).1
 ·exact(iO (by decide) (by decide) hv f hf).1
theorem ay8 {x:Tf}(hs:x.1.size<=900000)(hv:W64 x.2):Vf (TD x):=⟨⟨by show(1:Int)<=6; decide,by show(6:Int)<=536870911; decide,.inr ⟨rfl,rfl⟩⟩,Xq,Tj (EI hs hv),by have:=OV x; show(msg (Ub x)).length<=1000000; omega⟩
theorem Dh.vf {t:Y8}(h:Dh t):∀ f,f∈I7 t->Vf f:=fun f hf=>by
 have hw:=h.wt;unfold I4 at hw;unfold I7 at hf;simp only[List.mem_append] at hf;rcases hf with hf | hf | hf | hf | hf | hf
 ·exact(ai1 (by decide) (by decide) (by omega) f hf).1
 ·exact(iO (by decide) (by decide) h.sq f hf).1
 ·exact(iO (by decide) (by decide) h.Zp f hf).1
 ·exact(iO (by decide) (by decide) h.YZ f hf).1
 ·exact(ai1 (by decide) (by decide) (by omega) f hf).1
 ·obtain⟨x,hx,rfl⟩:=List.mem_map.1 hf;have:=yH hx;exact ay8 (by omega) (h.am x hx)
theorem Dh.tr {t:Y8}(h:Dh t){x:Tf}(hx:x∈t.tr):x.1.size<=800000/\W64 x.2:=by
 have hw:=h.wt;unfold I4 at hw;have:=yH hx;exact⟨by omega,h.am x hx⟩
theorem yF:∀ (P Q:List Ze),(∀ f,f∈P->Vf f)->(∀ f,f∈Q->Vf f)->msg P=msg Q->P=Q
 | [],[],_,_,_=>rfl
 | [],g::Q,_,_,h=>by
  have a:=congrArg List.length h;rw[WU,List.length_append,QF,List.length_nil] at a;have:=VQ g;omega
 | f::P,[],_,_,h=>by
  have a:=congrArg List.length h;rw[WU,List.length_append,QF,List.length_nil] at a;have:=VQ f;omega
 | f::P,g::Q,hP,hQ,h=>by
  rw[WU,WU] at h;have a:=MB f (hP f (by simp)) (msg P);have b:=MB g (hQ g (by simp)) (msg Q);rw[h,b] at a;simp only[Prod.mk.injEq] at a;have e:f=g:=a.1.symm;subst e;rw[yF P Q (fun x hx=>hP x (by simp[hx])) (fun x hx=>hQ x (by simp[hx])) (List.append_cancel_left h)]
theorem Ez {P:List Ze}(h:∀ f,f∈P->Vf f)(hn:P.length<=1024):YN (msg P)=(P,0,0):=by
 have:=Ey P ((msg P).length+1) [] 0 h (by simpa using hn) (by show(msg P).length<_; omega);simpa [YN,msg] using this
theorem TU {L:List Int}(hb:∀ x,x∈L->0<=x/\x<=255)(hl:L.length<=1000000):((YN L).1=[]/\(YN L).2.2≠0)∨(∃ P,YN L=(P,0,0)/\msg P=L/\∀ f,f∈P->Vf f):=by
 rcases oW (L.length+1) [] 0 L hb hl (by omega) with⟨e,j,h,he,-⟩ | ⟨G,h,hm,hv⟩
 ·left;unfold YN;rw[h];exact⟨rfl,he⟩
 ·right;exact⟨G,by unfold YN; rw[h]; simp,hm,hv⟩
theorem BA (P:List Ze):2*P.length<=(msg P).length:=by
 induction P with
 | nil=>simp[msg]
 | cons f r ih=>
  have:=VQ f;rw[WU,List.length_append,List.length_cons];omega
def Xz (k:Int):List Ze->ByteArray×List Ze
 | []=>(WE,[])
 | f::r=>if f.num=k/\f.kind=2/\f.bytes.length≠0 then (strOfNums f.bytes,r) else (WE,f::r)
def XV (k:Int):List Ze->Int×List Ze
 | []=>(0,[])
 | f::r=>if f.num=k/\f.kind=0/\f.val≠0 then (f.val,r) else (0,f::r)
def RS (f:Ze):Option Tf:=
 if f.kind=2/\f.num=6/\(YN f.bytes).2.2=0/\(XV 2 (Xz 1 (YN f.bytes).1).2).2.length=0 then some ((Xz 1 (YN f.bytes).1).1,(XV 2 (Xz 1 (YN f.bytes).1).2).1) else none
def Qm:List Ze->Option (List Tf)
 | []=>some []
 | f::r=>match RS f with
  | none=>none
  | some x=>(Qm r).map (x::·)
def yN (l:List Ze):Option Y8:=
 (Qm (Xz 5 (XV 4 (XV 3 (XV 2 (Xz 1 l).2).2).2).2).2).map fun A=>
  ⟨(Xz 1 l).1,(XV 2 (Xz 1 l).2).1,(XV 3 (XV 2 (Xz 1 l).2).2).1,(XV 4 (XV 3 (XV 2 (Xz 1 l).2).2).2).1,(Xz 5 (XV 4 (XV 3 (XV 2 (Xz 1 l).2).2).2).2).1,A⟩
theorem OU {k:Int}{f:Ze}{r:List Ze}(h:f.num=k/\f.kind=2/\f.bytes.length≠0):Xz k (f::r)=(strOfNums f.bytes,r):=if_pos h
theorem QH {k:Int}{f:Ze}{r:List Ze}(h:¬ (f.num=k/\f.kind=2/\f.bytes.length≠0)):Xz k (f::r)=(WE,f::r):=if_neg h
theorem QW {k:Int}{f:Ze}{r:List Ze}(h:f.num=k/\f.kind=0/\f.val≠0):XV k (f::r)=(f.val,r):=if_pos h
theorem RU {k:Int}{f:Ze}{r:List Ze}(h:¬ (f.num=k/\f.kind=0/\f.val≠0)):XV k (f::r)=(0,f::r):=if_neg h
theorem oV {L:List Int}(h:L.length≠0)(hb:∀ x,x∈L->0<=x/\x<=255):(strOfNums L).size≠0:=by
 rw[<- Zd,QZ L (fun x hx=>hb x hx)];exact h
theorem QE (k:Int)(l:List Ze)(h:∀ f,f∈l->Vf f):l=tF k (Xz k l).1++(Xz k l).2:=by
 cases l with
 | nil=>rfl
 | cons f r=>
  by_cases hc:f.num=k/\f.kind=2/\f.bytes.length≠0
  ·rw[OU hc];obtain⟨h1,h2,h3⟩:=hc;have hv:=h f (by simp);have hb:=hv.2.2.1;simp only;rw[QV (oV h3 hb),QZ _ (fun x hx=>hb x hx)];have hval:f.val=0:=by
    rcases hv.1.2.2 with a | a
    ·omega
    ·exact a.2
   obtain⟨n,kd,v,b⟩:=f;simp only at h1 h2 hval;subst h1 h2 hval;rfl
  ·rw[QH hc]; rfl
theorem SS (k:Int)(l:List Ze)(h:∀ f,f∈l->Vf f):l=nF k (XV k l).1++(XV k l).2:=by
 cases l with
 | nil=>rfl
 | cons f r=>
  by_cases hc:f.num=k/\f.kind=0/\f.val≠0
  ·rw[QW hc];obtain⟨h1,h2,h3⟩:=hc;have hv:=h f (by simp);have hz:f.bytes=[]:=by
    rcases hv.1.2.2 with a | a
    ·exact List.eq_nil_of_length_eq_zero a.2
    ·omega
   simp only;rw[TA h3];obtain⟨n,kd,v,b⟩:=f;simp only at h1 h2 hz;subst h1 h2 hz;rfl
  ·rw[RU hc]; rfl
theorem RQ {k:Int}{l:List Ze}(h:∀ f,f∈l->Vf f):∀ f,f∈(Xz k l).2->Vf f:=fun f hf=>h f (by rw[QE k l h]; exact List.mem_append_right _ hf)
theorem QG {k:Int}{l:List Ze}(h:∀ f,f∈l->Vf f):∀ f,f∈(XV k l).2->Vf f:=fun f hf=>h f (by rw[SS k l h]; exact List.mem_append_right _ hf)
theorem GR {k:Int}{l:List Ze}(h:∀ f,f∈l->Vf f):W64 (XV k l).1:=by
 cases l with
 | nil=>exact Xq
 | cons f r=>
  by_cases hc:f.num=k/\f.kind=0/\f.val≠0
  ·rw[QW hc]; exact(h f (by simp)).2.1
  ·rw[RU hc]; exact Xq
theorem wC {f:Ze}(hv:Vf f){x:Tf}(h:RS f=some x):f=TD x/\W64 x.2:=by
 unfold RS at h
 split at h
 ·rename_i hc
  obtain⟨h1,h2,h3,h4⟩:=hc;simp only[Option.some.injEq] at h;have hb:=hv.2.2.1;rcases TU hb hv.2.2.2 with⟨-,q⟩ | ⟨P,e,hm,hP⟩
  ·exact absurd h3 q
  ·rw[e] at h h4;simp only at h h4;have a:=QE 1 P hP;have b:=SS 2 _ (RQ (k:=1) hP);rw[List.eq_nil_of_length_eq_zero h4,List.append_nil] at b;rw[b] at a;have hw:=GR (k:=2) (RQ (k:=1) hP);subst h;refine⟨?_,hw⟩;have hval:f.val=0:=by
    rcases hv.1.2.2 with q | q
    ·omega
    ·exact q.2
   obtain⟨n,kd,v,bs⟩:=f;simp only at h1 h2 hval hm;subst h1 h2 hval;unfold TD Ub;rw[<- hm];congr 1;exact congrArg msg a
 ·cases h
theorem IZ:∀ {l:List Ze} (hv:∀ f,f∈l->Vf f) {A:List Tf},Qm l=some A->l=A.map TD/\∀ x,x∈A->W64 x.2
 | [],_,A,h=>by
  simp only[Qm,Option.some.injEq] at h;subst h;exact⟨rfl,fun x hx=>by cases hx⟩
 | f::r,hv,A,h=>by
  unfold Qm at h;cases e:RS f with
  | none=>rw[e] at h; cases h
  | some x=>
   rw[e] at h;simp only[Option.map_eq_some_iff] at h;obtain⟨B,hB,rfl⟩:=h;obtain⟨e1,w1⟩:=wC (hv f (by simp)) e;obtain⟨e2,w2⟩:=IZ (fun g hg=>hv g (by simp[hg])) hB;refine⟨by rw[List.map_cons,<- e1,<- e2],fun y hy=>?_⟩;rcases List.mem_cons.1 hy with rfl | hy
   ·exact w1
   ·exact w2 y hy
theorem KY {l:List Ze}(hv:∀ f,f∈l->Vf f){t:Y8}(h:yN l=some t):l=I7 t/\W64 t.sq/\W64 t.Zp/\W64 t.YZ/\∀ x,x∈t.tr->W64 x.2:=by
 unfold yN at h;simp only[Option.map_eq_some_iff] at h;obtain⟨A,hA,rfl⟩:=h;have v1:=RQ (k:=1) hv;have v2:=QG (k:=2) v1;have v3:=QG (k:=3) v2;have v4:=QG (k:=4) v3;have v5:=RQ (k:=5) v4;obtain⟨e6,w6⟩:=IZ v5 hA;refine⟨?_,GR v1,GR v2,GR v3,w6⟩;unfold I7;simp only;rw[<- e6,<- QE 5 _ v4,<- SS 4 _ v3,<- SS 3 _ v2,<- SS 2 _ v1,<- QE 1 _ hv]
def iM (k:Int)(l:List Ze):Prop:=∀ f,f∈l->k<f.num
theorem NY {k:Int}{s:ByteArray}{r:List Ze}(h:iM k r):Xz k (tF k s++r)=(s,r):=by
 by_cases h0:s.size=0
 ·rw[KI h0,EC h0];cases r with
  | nil=>rfl
  | cons f r=>
   have:=h f (by simp);exact QH (by omega)
 ·rw[QV h0,List.singleton_append,OU (f:=⟨k,2,0,nums s⟩) ⟨rfl,rfl,by show(nums s).length≠0; rw[Zd]; exact h0⟩];show(strOfNums (nums s),r)=_;rw[SV]
theorem QD {k v:Int}{r:List Ze}(h:iM k r):XV k (nF k v++r)=(v,r):=by
 by_cases h0:v=0
 ·subst h0;rw[OL];cases r with
  | nil=>rfl
  | cons f r=>
   have:=h f (by simp);exact RU (by omega)
 ·rw[TA h0,List.singleton_append,QW (f:=⟨k,0,v,[]⟩) ⟨rfl,rfl,h0⟩]
theorem iL {j k:Int}{s:ByteArray}{r:List Ze}(h:j<k)(hr:iM j r):iM j (tF k s++r):=fun f hf=>by
 rcases List.mem_append.1 hf with hf | hf
 ·by_cases h0:s.size=0
  ·rw[KI h0] at hf; cases hf
  ·rw[QV h0,List.mem_singleton] at hf;subst hf;exact h
 ·exact hr f hf
theorem Bc {j k v:Int}{r:List Ze}(h:j<k)(hr:iM j r):iM j (nF k v++r):=fun f hf=>by
 rcases List.mem_append.1 hf with hf | hf
 ·by_cases h0:v=0
  ·subst h0; rw[OL] at hf; cases hf
  ·rw[TA h0,List.mem_singleton] at hf;subst hf;exact h
 ·exact hr f hf
theorem OJ {j:Int}(h:j<6)(A:List Tf):iM j (A.map TD):=fun f hf=>by
 obtain⟨x,-,rfl⟩:=List.mem_map.1 hf;exact h
theorem oU (j:Int):iM j []:=fun f hf=>by cases hf
theorem yE {x:Tf}(hs:x.1.size<=900000)(hv:W64 x.2):YN (msg (Ub x))=(Ub x,0,0):=by
 refine Ez (EI hs hv) ?_;unfold Ub tF nF;rw[List.length_append]
 split <;> split <;> simp
theorem iK {x:Tf}(hs:x.1.size<=900000)(hv:W64 x.2):RS (TD x)=some x:=by
 have e:(TD x).bytes=msg (Ub x):=rfl;unfold RS;rw[e,yE hs hv];have a:Xz 1 (Ub x)=(x.1,nF 2 x.2):=by
  have q:iM 1 (nF 2 x.2):=by
   have:=Bc (j:=1) (k:=2) (v:=x.2) (by decide) (oU 1);rwa [List.append_nil] at this
  exact NY q
 have b:XV 2 (nF 2 x.2)=(x.2,[]):=by
  have:=QD (k:=2) (v:=x.2) (oU 2);rwa [List.append_nil] at this
 simp only[a,b];rw[if_pos ⟨rfl,rfl,trivial,rfl⟩]
theorem Ew:∀ (A:List Tf),(∀ x,x∈A->x.1.size<=900000/\W64 x.2)->Qm (A.map TD)=some A
 | [],_=>rfl
 | x::r,h=>by
  have:=h x (by simp);rw[List.map_cons,Qm,iK this.1 this.2,Ew r (fun y hy=>h y (by simp[hy]))];rfl
theorem Eu {t:Y8}(h:Dh t):yN (I7 t)=some t:=by
 have g6:=OJ (j:=5) (by decide) t.tr;have e1:Xz 1 (I7 t)=(t.snd,nF 2 t.sq++(nF 3 t.Zp++(nF 4 t.YZ++(tF 5 t.memo++t.tr.map TD)))):=NY (Bc (by decide) (Bc (by decide) (Bc (by decide) (iL (by decide) (OJ (by decide) _)))));have e2:XV 2 (nF 2 t.sq++(nF 3 t.Zp++(nF 4 t.YZ++(tF 5 t.memo++t.tr.map TD))))=(t.sq,nF 3 t.Zp++(nF 4 t.YZ++(tF 5 t.memo++t.tr.map TD))):=QD (Bc (by decide) (Bc (by decide) (iL (by decide) (OJ (by decide) _))));have e3:XV 3 (nF 3 t.Zp++(nF 4 t.YZ++(tF 5 t.memo++t.tr.map TD)))=(t.Zp,nF 4 t.YZ++(tF 5 t.memo++t.tr.map TD)):=QD (Bc (by decide) (iL (by decide) (OJ (by decide) _)));have e4:XV 4 (nF 4 t.YZ++(tF 5 t.memo++t.tr.map TD))=(t.YZ,tF 5 t.memo++t.tr.map TD):=QD (iL (by decide) (OJ (by decide) _));have e5:Xz 5 (tF 5 t.memo++t.tr.map TD)=(t.memo,t.tr.map TD):=NY g6;have e6:=Ew t.tr (fun x hx=>by have:=h.tr hx; exact⟨by omega,this.2⟩);unfold yN;simp only[e1,e2,e3,e4,e5,e6,Option.map_some]
def zX:Y8:=⟨WE,0,0,0,WE,[]⟩
def Ve:Tf->List Ze->Option Tf
 | x,[]=>some x
 | x,f::r=>if f.num=1/\f.kind=2 then Ve (strOfNums f.bytes,x.2) r else if f.num=2/\f.kind=0 then Ve (x.1,f.val) r else none
def EN (b:List Int):Option Tf:=match Ve (WE,0) (YN b).1 with
 | none=>none
 | some x=>if (YN b).2.2=0/\msg (Ub x)=b then some x else none
def Qo (t:Y8)(f:Ze):Option Y8:=
 if f.num=1/\f.kind=2 then some { t with snd:=strOfNums f.bytes } else if f.num=2/\f.kind=0 then some { t with sq:=f.val } else if f.num=3/\f.kind=0 then some { t with Zp:=f.val } else if f.num=4/\f.kind=0 then some { t with YZ:=f.val } else if f.num=5/\f.kind=2 then some { t with memo:=strOfNums f.bytes } else if f.num=6/\f.kind=2 then (EN f.bytes).map fun x=>{ t with tr:=t.tr++[x] } else none
def Qi:Y8->List Ze->Option Y8
 | t,[]=>some t
 | t,f::r=>match Qo t f with
  | none=>none
  | some u=>Qi u r
theorem VU (t:Y8)(f:Ze)(r:List Ze):Qi t (f::r)=(Qo t f).bind fun u=>Qi u r:=by
 rw[Qi];cases Qo t f <;> rfl
theorem iJ {x:Tf}:Ve (WE,0) (Ub x)=some x:=by
 unfold Ub;by_cases h:x.1.size=0
 ·rw[KI h,List.nil_append];by_cases h0:x.2=0
  ·rw[h0,OL];show some (WE,(0:Int))=some x;rw[<- EC h,<- h0]
  ·rw[TA h0,Ve,if_neg (fun h=>absurd h.1 (show ¬ (2:Int)=1 by decide)),if_pos ⟨rfl,rfl⟩,Ve];show some (WE,x.2)=some x;rw[<- EC h]
 ·rw[QV h,List.singleton_append,Ve,if_pos ⟨rfl,rfl⟩];simp only[SV];by_cases h0:x.2=0
  ·rw[h0,OL,Ve,<- h0]
  ·rw[TA h0,Ve,if_neg (fun h=>absurd h.1 (show ¬ (2:Int)=1 by decide)),if_pos ⟨rfl,rfl⟩,Ve]
theorem ai2 {x:Tf}(hs:x.1.size<=900000)(hv:W64 x.2):EN (msg (Ub x))=some x:=by
 unfold EN;rw[yE hs hv];simp only[iJ];rw[if_pos ⟨trivial,trivial⟩]
theorem yD:∀ (A:List Tf) (t:Y8),(∀ x,x∈A->x.1.size<=900000/\W64 x.2)->Qi t (A.map TD)=some { t with tr:=t.tr++A }
 | [],t,_=>by simp[Qi]
 | x::r,t,h=>by
  have hx:=h x (by simp);have e:Qo t (TD x)=some { t with tr:=t.tr++[x] }:=by
   unfold Qo;rw[if_neg (by show ¬ ((6:Int)=1/\_); omega),if_neg (by show ¬ ((6:Int)=2/\_); omega),if_neg (by show ¬ ((6:Int)=3/\_); omega),if_neg (by show ¬ ((6:Int)=4/\_); omega),if_neg (by show ¬ ((6:Int)=5/\_); omega),if_pos ⟨rfl,rfl⟩];show(EN (msg (Ub x))).map _=_;rw[ai2 hx.1 hx.2];rfl
  rw[List.map_cons,VU,e,Option.bind_some,yD r _ (fun y hy=>h y (by simp[hy]))];simp
theorem ai3 {t:Y8}(h:t.snd=WE)(s:ByteArray)(r:List Ze):Qi t (tF 1 s++r)=Qi { t with snd:=s } r:=by
 by_cases h0:s.size=0
 ·rw[KI h0,EC h0,List.nil_append,<- h]
 ·rw[QV h0,List.singleton_append,VU];unfold Qo;rw[if_pos ⟨rfl,rfl⟩];simp only[SV,Option.bind_some]
theorem ai4 {t:Y8}(h:t.memo=WE)(s:ByteArray)(r:List Ze):Qi t (tF 5 s++r)=Qi { t with memo:=s } r:=by
 by_cases h0:s.size=0
 ·rw[KI h0,EC h0,List.nil_append,<- h]
 ·rw[QV h0,List.singleton_append,VU];unfold Qo;simp only[SV];rfl
theorem ai5 {t:Y8}(h:t.sq=0)(v:Int)(r:List Ze):Qi t (nF 2 v++r)=Qi { t with sq:=v } r:=by
 by_cases h0:v=0
 ·rw[h0,OL,List.nil_append,<- h]
 ·rw[TA h0,List.singleton_append,VU];rfl
theorem ai6 {t:Y8}(h:t.Zp=0)(v:Int)(r:List Ze):Qi t (nF 3 v++r)=Qi { t with Zp:=v } r:=by
 by_cases h0:v=0
 ·rw[h0,OL,List.nil_append,<- h]
 ·rw[TA h0,List.singleton_append,VU];rfl
theorem ai7 {t:Y8}(h:t.YZ=0)(v:Int)(r:List Ze):Qi t (nF 4 v++r)=Qi { t with YZ:=v } r:=by
 by_cases h0:v=0
 ·rw[h0,OL,List.nil_append,<- h]
 ·rw[TA h0,List.singleton_append,VU];rfl
theorem oQ {t:Y8}(h:Dh t):Qi zX (I7 t)=some t:=by
 unfold I7;rw[ai3 rfl,ai5 rfl,ai6 rfl,ai7 rfl,ai4 rfl,yD _ _ (fun x hx=>by have:=h.tr hx; exact⟨by omega,this.2⟩)];rfl
def bkF:List Ze->Nat
 | []=>0
 | f::r=>60+f.bytes.length+bkF r
theorem yC:∀ P:List Ze,bkF P<=61*(msg P).length
 | []=>by simp[bkF]
 | f::r=>by
  have a:=yC r;have b:=VQ f;have c:=Vd f.num f.kind f.val f.bytes;have c2:f.bytes.length<=(Ye f).length:=c;rw[bkF,WU,List.length_append];omega
theorem oP {b:List Int}{x:Tf}(hb:∀ y,y∈b->0<=y/\y<=255)(hl:b.length<=1000000)(h:EN b=some x):msg (Ub x)=b/\W64 x.2:=by
 unfold EN at h;have key:∀ (l:List Ze) (y:Tf),(∀ f,f∈l->Vf f)->W64 y.2->Ve y l=some x->W64 x.2:=by
  intro l;induction l with
  | nil=>
   intro y _ hy e;simp only[Ve,Option.some.injEq] at e;rw[<- e]; exact hy
  | cons f r ih=>
   intro y hv hy e;rw[Ve] at e
   split at e
   ·exact ih (strOfNums f.bytes,y.2) (fun g hg=>hv g (by simp[hg])) hy e
   ·split at e
    ·exact ih (y.1,f.val) (fun g hg=>hv g (by simp[hg])) (hv f (by simp)).2.1 e
    ·cases e
 rcases TU hb hl with⟨e0,q⟩ | ⟨P,e0,hm,hP⟩
 ·rw[e0] at h;simp only[Ve] at h;rw[if_neg (fun h=>q h.1)] at h;cases h
 ·rw[e0] at h;simp only at h;cases e:Ve (WE,0) P with
  | none=>rw[e] at h; cases h
  | some y=>
   rw[e] at h;simp only at h
   split at h
   ·rename_i hc
    simp only[Option.some.injEq] at h;subst h;exact⟨hc.2,key P (WE,0) hP Xq e⟩
   ·cases h
structure Red (t:Y8)(n:Nat):Prop where
 sq:W64 t.sq
 Zp:W64 t.Zp
 YZ:W64 t.YZ
 am:∀ x,x∈t.tr->W64 x.2
 wt:I4 t<=100+n
theorem Red.zero:Red zX 0:=⟨Xq,Xq,Xq,fun x (hx:x∈([]:List Tf))=>(by cases hx),Nat.le_refl _⟩
theorem EJ (L:List Int)(h:∀ x,x∈L->0<=x/\x<=255):(strOfNums L).size=L.length:=by
 rw[<- Zd,QZ L (fun x hx=>h x hx)]
theorem Red.step {t u:Y8}{n:Nat}{f:Ze}(h:Red t n)(hv:Vf f)(e:Qo t f=some u):Red u (n+(60+f.bytes.length)):=by
 obtain⟨h1,h2,h3,h4,h5⟩:=h;have hs:=EJ f.bytes hv.2.2.1;unfold I4 at h5;unfold Qo at e
 split at e
 ·simp only[Option.some.injEq] at e;subst e;exact⟨h1,h2,h3,h4,by unfold I4; simp only; omega⟩
 split at e
 ·simp only[Option.some.injEq] at e;subst e;exact⟨hv.2.1,h2,h3,h4,by unfold I4; simp only; omega⟩
 split at e
 ·simp only[Option.some.injEq] at e;subst e;exact⟨h1,hv.2.1,h3,h4,by unfold I4; simp only; omega⟩
 split at e
 ·simp only[Option.some.injEq] at e;subst e;exact⟨h1,h2,hv.2.1,h4,by unfold I4; simp only; omega⟩
 split at e
 ·simp only[Option.some.injEq] at e;subst e;exact⟨h1,h2,h3,h4,by unfold I4; simp only; omega⟩
 split at e
 ·simp only[Option.map_eq_some_iff] at e;obtain⟨x,hx,rfl⟩:=e;obtain⟨hm,hw⟩:=oP hv.2.2.1 hv.2.2.2 hx;have hl:=OV x;rw[hm] at hl;refine⟨h1,h2,h3,fun y hy=>?_,?_⟩
  ·rcases List.mem_append.1 hy with hy | hy
   ·exact h4 y hy
   ·rw[List.mem_singleton] at hy;subst hy;exact hw
  ·unfold I4;simp only[yI,Js];omega
 ·cases e
theorem Red.all:∀ (l:List Ze) (t u:Y8) (n:Nat),Red t n->(∀ f,f∈l->Vf f)->Qi t l=some u->Red u (n+bkF l)
 | [],t,u,n,h,_,e=>by
  simp only[Qi,Option.some.injEq] at e;subst e;exact h
 | f::r,t,u,n,h,hv,e=>by
  rw[VU] at e;cases e2:Qo t f with
  | none=>rw[e2] at e; cases e
  | some v=>
   rw[e2,Option.bind_some] at e;have:=Red.all r v u _ (h.step (hv f (by simp)) e2) (fun g hg=>hv g (by simp[hg])) e;rw[bkF];exact⟨this.sq,this.Zp,this.YZ,this.am,by have:=this.wt; omega⟩
theorem qG {l:List Ze}{u:Y8}(hv:∀ f,f∈l->Vf f)(hl:(msg l).length<=4096)(h:Qi zX l=some u):Dh u:=by
 have a:=Red.all l zX u 0 Red.zero hv h;have b:=yC l;exact⟨a.sq,a.Zp,a.YZ,a.am,by have:=a.wt; omega⟩
theorem aw8 {l:List Ze}(hv:∀ f,f∈l->Vf f)(hl:(msg l).length<=4096):yN l=(Qi zX l).bind fun t=>if form t=msg l then some t else none:=by
 cases e:yN l with
 | some t=>
  obtain⟨h1,h2,h3,h4,h5⟩:=KY hv e;have hok:Dh t:=⟨h2,h3,h4,h5,by
   have:=(OY t).2;have e2:(form t).length=(msg l).length:=(by rw[h1]; rfl);omega⟩
  rw[h1,oQ hok,Option.bind_some,if_pos (show form t=msg (I7 t) from rfl)]
 | none=>
  cases e2:Qi zX l with
  | none=>rfl
  | some t=>
   rw[Option.bind_some];have hok:=qG hv hl e2;by_cases hf:form t=msg l
   ·exfalso;have:=yF _ _ hok.vf hv hf;rw[<- this,Eu hok] at e;cases e
   ·rw[if_neg hf]
def Zj (L:List Int):Y8×Int:=
 if 4096<L.length then (zX,3) else if (YN L).2.2≠0 then (zX,4) else match yN (YN L).1 with
 | none=>(zX,4)
 | some t=>if Xu t=0 then (t,0) else (zX,Xu t)
def Rn (t:Y8):List Int×Int:=if Xu t≠0 then ([],Xu t) else if 4096<(form t).length then ([],3) else (form t,0)
theorem Ba {L:List Int}{t:Y8}(hb:∀ x,x∈L->0<=x/\x<=255)(h:Zj L=(t,0)):Xu t=0/\form t=L/\Dh t/\L.length<=4096:=by
 unfold Zj at h
 split at h
 ·simp at h
 rename_i hlen
 split at h
 ·simp at h
 rename_i hfl
 have hfl:(YN L).2.2=0:=by simpa using hfl
 rcases TU hb (by omega) with⟨-,q⟩ | ⟨P,e0,hm,hP⟩
 ·exact absurd hfl q
 rw[e0] at h;cases e:yN P with
 | none=>simp[e] at h
 | some u=>
  simp only[e] at h
  split at h
  ·rename_i hval
   simp only[Prod.mk.injEq,and_true] at h;subst h;obtain⟨h1,h2,h3,h4,h5⟩:=KY hP e;have hf:form u=L:=(by unfold form; rw[<- h1]; exact hm);refine⟨hval,hf,⟨h2,h3,h4,h5,?_⟩,by omega⟩;have:=(OY u).2;rw[hf] at this;omega
  ·rename_i hval
   simp only[Prod.mk.injEq] at h;exact absurd h.2 hval
theorem jU {t:Y8}(h:Dh t)(hv:Xu t=0)(hl:(form t).length<=4096)(hn:t.tr.length<=1000):Zj (form t)=(t,0):=by
 have hc:(I7 t).length<=1024:=by
  have q1:∀ k s,(tF k s).length<=1:=fun k s=>by unfold tF; split <;> simp
  have q2:∀ k v,(nF k v).length<=1:=fun k s=>by unfold nF; split <;> simp
  unfold I7;simp only[List.length_append,List.length_map];have a:=q1 1 t.snd;have b:=q2 2 t.sq;have c:=q2 3 t.Zp;have d:=q2 4 t.YZ;have e:=q1 5 t.memo;omega
 have e:=Ez h.vf hc;unfold Zj;rw[if_neg (by omega)];show(if (YN (msg (I7 t))).2.2≠0 then _ else _)=_;unfold form;rw[e,if_neg (by simp)];simp only[Eu h];rw[if_pos hv]
theorem ER {L:List Int}(h:4096<L.length):Zj L=(zX,3):=by unfold Zj; rw[if_pos h]
theorem qI {L:List Int}(h:L.length<=4096)(h2:(YN L).2.2≠0):Zj L=(zX,4):=by unfold Zj; rw[if_neg (by omega),if_pos h2]
theorem KH {L:List Int}(h:isName L=true):L.length<=20:=by
 unfold isName at h;simp at h;exact h.2.2
theorem Et:∀ (n i:Nat) (L:List Int) (m:Nat),L.length-i<=n->runs L i=some m->L.length<=i+4*m
 | 0,i,L,m,h,e=>by omega
 | n+1,i,L,m,h,e=>by
  by_cases hi:i<L.length
  ·by_cases hk:runK L i=0
   ·rw[Es hi hk] at e; cases e
   ·rw[Tc hi hk] at e;simp only[Option.map_eq_some_iff] at e;obtain⟨q,hq,rfl⟩:=e;have:=Et n (i+runK L i) L q (by omega) hq;have:=GX L i;omega
  ·omega
theorem A8 {L:List Int}(h:XZ L=true):L.length<=256:=by
 unfold XZ at h;cases e:runs L 0 with
 | none=>rw[e] at h; cases h
 | some n=>
  rw[e] at h;have:=Et L.length 0 L n (by omega) e;have h2:n<=64:=by simpa using h
  omega
theorem Ep:∀ {A:List Tf},SC A=0->∀ x,x∈A->x.1.size<=20
 | [],_,x,hx=>by cases hx
 | y::r,h,x,hx=>by
  unfold SC at h
  split at h
  ·omega
  rename_i hn
  split at h
  ·omega
  rcases List.mem_cons.1 hx with rfl | hx
  ·have:=KH (by simpa using hn:isName (nums x.1)=true);rwa [Zd] at this
  ·exact Ep h x hx
theorem oO:∀ (A:List Tf) (k:Nat),(∀ x,x∈A->x.1.size<=k)->Js A<=A.length*(60+k)
 | [],k,_=>by simp[Js]
 | x::r,k,h=>by
  have a:=oO r k (fun y hy=>h y (by simp[hy]));have b:=h x (by simp);rw[Js,List.length_cons,Nat.add_mul];omega
theorem val_ok {t:Y8}(h:Xu t=0)(h1:W64 t.sq)(h2:W64 t.Zp)(h3:W64 t.YZ)(h4:∀ x,x∈t.tr->W64 x.2):Dh t/\I4 t<=2000/\t.tr.length<=16:=by
 unfold Xu at h
 split at h
 ·omega
 rename_i a1
 split at h
 ·omega
 split at h
 ·omega
 rename_i a3
 split at h
 ·omega
 rename_i a4
 have b1:=KH (by simpa using a1:isName (nums t.snd)=true);have b2:=A8 (by simpa using a3:XZ (nums t.memo)=true);rw[Zd] at b1 b2;have b3:=oO t.tr 20 (Ep h);have b4:t.tr.length*80<=16*80:=Nat.mul_le_mul_right _ (by omega);have:I4 t<=2000:=by unfold I4; omega
 exact⟨⟨h1,h2,h3,h4,by omega⟩,this,by omega⟩
end Go.Proofs.YtnhlpahoomcgnaaGreat
namespace Go.Proofs.YtnhlpahoomcgnaaGreat
attribute [local irreducible] wpList wpQuiet
open Go.RowKit
theorem pG (c:Int)(w:World):Calls Tryz.prog 88 #[.int .u8 c] w fun e w'=>e=.returned (.bool (Qg c))/\w=w':=by
 have hcl:(97<=c/\c<=122)∨(48<=c/\c<=57)∨c=45∨122<c∨(57<c/\c<97)∨(c<48/\c≠45):=by omega
 rcases hcl with hc | hc | hc | hc | hc | hc
 ·have HE:Qg c=true:=by
   simp only[Qg,Bool.or_eq_true,Bool.and_eq_true,decide_eq_true_eq]; omega
  rw[HE];go_enter Tryz.func88,Tryz.ntmps88;go_upto_region 1 with fail;refine wl<|ZV (.int .u8 c)<|ZJ (WT rfl (97) (c) dT)<|ZA ZW (.int .u8 c)<|ZJ (WT rfl (c) (122) dT) <|
   YW ZW ZW undef undef undef undef<|YW undef undef ZW ZW undef undef<|ZA ZW ZW<|wn ?_
  simp only[pu];go_wp2_with fail;go_ret;exact⟨rfl,rfl⟩
 ·have HE:Qg c=true:=by
   simp only[Qg,Bool.or_eq_true,Bool.and_eq_true,decide_eq_true_eq]; omega
  rw[HE];go_enter Tryz.func88,Tryz.ntmps88;go_upto_region 1 with fail;refine wl<|ZV (.int .u8 c)<|ZJ (WT rfl (97) (c) dF)<|YW ZY undef undef ZY ZY (.int .u8 c) <|
   ZJ (WT rfl (48) (c) dT)<|ZA ZW (.int .u8 c)<|ZJ (WT rfl (c) (57) dT) <|
   YW ZW ZW ZW undef undef ZW<|ZV ZW<|wn ?_
  simp only[pu];go_wp2_with fail;go_ret;exact⟨rfl,rfl⟩
 ·have HE:Qg c=true:=by
   simp only[Qg,Bool.or_eq_true,Bool.and_eq_true,decide_eq_true_eq]; omega
  rw[HE];go_enter Tryz.func88,Tryz.ntmps88;go_upto_region 1 with fail;refine wl<|ZV (.int .u8 c)<|ZJ (WT rfl (97) (c) dF)<|YW ZY undef undef ZY ZY (.int .u8 c) <|
   ZJ (WT rfl (48) (c) dF)<|YW ZY undef undef ZY ZY ZY<|ZV (.int .u8 c) <|
   ZJ (XC rfl (c) (45) dT)<|ZA ZW ZW<|wn ?_
  simp only[pu];go_wp2_with fail;go_ret;exact⟨rfl,rfl⟩
 ·have HE:Qg c=false:=by
   rw[Bool.eq_false_iff]; simp only[ne_eq,Qg,Bool.or_eq_true,Bool.and_eq_true,decide_eq_true_eq]; omega
  rw[HE];go_enter Tryz.func88,Tryz.ntmps88;go_upto_region 1 with fail;refine wl<|ZV (.int .u8 c)<|ZJ (WT rfl (97) (c) dT)<|ZA ZW (.int .u8 c)<|ZJ (WT rfl (c) (122) dF) <|
   Yr ZY ZY (.int .u8 c)<|ZJ (WT rfl (48) (c) dT)<|ZA ZW (.int .u8 c)<|ZJ (WT rfl (c) (57) dF) <|
   WL ZY ZY ZY (.int .u8 c)<|ZJ (XC rfl (c) (45) dF)<|ZA ZY ZY<|wn ?_
  simp only[pu];go_wp2_with fail;go_ret;exact⟨rfl,rfl⟩
 ·have HE:Qg c=false:=by
   rw[Bool.eq_false_iff]; simp only[ne_eq,Qg,Bool.or_eq_true,Bool.and_eq_true,decide_eq_true_eq]; omega
  rw[HE];go_enter Tryz.func88,Tryz.ntmps88;go_upto_region 1 with fail;refine wl<|ZV (.int .u8 c)<|ZJ (WT rfl (97) (c) dF)<|YW ZY undef undef ZY ZY (.int .u8 c) <|
   ZJ (WT rfl (48) (c) dT)<|ZA ZW (.int .u8 c)<|ZJ (WT rfl (c) (57) dF) <|
   WL ZY ZY ZY (.int .u8 c)<|ZJ (XC rfl (c) (45) dF)<|ZA ZY ZY<|wn ?_
  simp only[pu];go_wp2_with fail;go_ret;exact⟨rfl,rfl⟩
 ·have HE:Qg c=false:=by
   rw[Bool.eq_false_iff]; simp only[ne_eq,Qg,Bool.or_eq_true,Bool.and_eq_true,decide_eq_true_eq]; omega
  rw[HE];go_enter Tryz.func88,Tryz.ntmps88;go_upto_region 1 with fail;refine wl<|ZV (.int .u8 c)<|ZJ (WT rfl (97) (c) dF)<|YW ZY undef undef ZY ZY (.int .u8 c) <|
   ZJ (WT rfl (48) (c) dF)<|YW ZY undef undef ZY ZY ZY<|ZV (.int .u8 c) <|
   ZJ (XC rfl (c) (45) dF)<|ZA ZY ZY<|wn ?_
  simp only[pu];go_wp2_with fail;go_ret;exact⟨rfl,rfl⟩
theorem pF (b off n c k:Nat)(hk:k<n)(V:World)(ρ:Operand->Value)(o:Oper){x y:Operand}(ho:o.op=.indexAddr 23 x y)(hx:ρ x=.slice (some ⟨b,off,none⟩) n c)(hy:ρ y=Z8 k):(execOp ρ o).run Tryz.prog V=.ok (.value (Z5 b (off+k))) V:=by
 have hs:(sizeOf (Tryz.prog.elem 23)).run Tryz.prog V=.ok 1 V:=by kernel_rfl
 have hlm:(k:Int)<(n:Int):=by omega
 unfold execOp;simp only[ho,hx,hy];go_simp
theorem wF {s:ByteArray}(h:s.size=0∨20<s.size):isName (nums s)=false:=by
 unfold isName;rw[Zd];rcases h with h | h
 ·rw[h]; simp
 ·rw[show decide (s.size<=20)=false from decide_eq_false (by omega)]; simp
theorem Rk (s:ByteArray)(w:World):Calls Tryz.prog 60 #[.string s] w fun e w'=>e=.returned (.bool (isName (nums s)))/\Below w.heap.size w w':=by
 have Na:=Z9 (@wF s);obtain⟨n,hn⟩:=ZR s.size;rw[hn] at Na;rcases (show n=0∨20<n∨(1<=n/\n<=20) by omega) with hc | hc | hc
 ·rw[Na.out (.inl hc)];clear Na;go_enter Tryz.func60,Tryz.ntmps60;go_upto_region 1 with fail;refine wl<|ZV (.string s)<|YG (Z8 n) (by rw[<- hn]; kernel_rfl)<|ZJ (Zv rfl (n) (1) dT)<|SG ZW undef undef undef ZW<|wn ?_;simp only[pu];go_upto_region 2 with fail;refine wl<|ZV ZY<|wn ?_;simp only[pu];go_wp2_with fail;go_ret;exact⟨rfl,Below.refl _ _⟩
 ·rw[Na.out (.inr hc)];clear Na;go_enter Tryz.func60,Tryz.ntmps60;go_upto_region 1 with fail;refine wl<|ZV (.string s)<|YG (Z8 n) (by rw[<- hn]; kernel_rfl)<|ZJ (Zv rfl (n) (1) dF)<|ZA ZY (.string s)<|YG (Z8 n) (by rw[<- hn]; kernel_rfl) <|
   ZJ (Zo rfl (n) (20) dT)<|ZV ZW<|wn ?_
  simp only[pu];go_upto_region 2 with fail;refine wl<|ZV ZY<|wn ?_;simp only[pu];go_wp2_with fail;go_ret;exact⟨rfl,Below.refl _ _⟩
 ·obtain⟨hbw,hsl,hsz⟩:=KJ w s (grownCap w s.size 0 5);have CV:=fun(ρ:Operand->Value) (o:Oper) (x:Operand) ho hx=>pz (ρ:=ρ) (o:=o) (x:=x) ho s hx w;generalize grownCap w s.size 0 5=d at *
  generalize Lib.bytesWorld w 5 s=W at *
  obtain⟨q,hq⟩:=ZR w.heap.size;have HB:=Z9 hbw;rw[hq] at CV hsl;rw[hn] at CV;have HL:=Z9 (Zd s);obtain⟨L,hL⟩:=ZR (nums s);rw[hL] at HL hsl ⊢;have HS:=Z9 hsl;have wG:=Z9 (fun i (h:i<L.length)=>pq h);have oZ:=Z9 (@yJ L);clear hbw hsl hsz Na hL;go_enter Tryz.func60,Tryz.ntmps60;go_upto_region 1 with fail;refine wl<|ZV (.string s)<|YG (Z8 n) (by rw[<- hn]; kernel_rfl)<|ZJ (Zv rfl (n) (1) dF)<|ZA ZY (.string s)<|YG (Z8 n) (by rw[<- hn]; kernel_rfl) <|
   ZJ (Zo rfl (n) (20) dF)<|ZV ZY<|wn ?_
  simp only[pu];go_upto_region 3 with fail;refine wl<|ZV (.string s) ?_;refine PV (by kernel_rfl) (some 14) rfl (.slice (some ⟨q,0,none⟩) n d) W (CV _ _ _ rfl (by kernel_rfl)) ?_;refine ZA (Z8 n) (Z8 0)<|wn ?_;simp only[pu];clear CV;go_wp2_with fail;go_loopg [16] n (fun gg s16 wx=>∃ i:Nat,s16=Z8 i/\i<=n/\(∀ j,j<i->Qg (L.getD j 0)=true)/\wx=W/\n-i=gg)
  case atStart=>exact⟨0,rfl,by omega,fun j hj=>by omega,rfl,by omega⟩
  case round=>
   obtain⟨i,rfl,hi,hyes,rfl,hg⟩:=hrel;by_cases hlt:i<n
   ·have HG:Hid (n-(i+1)=gk-1/\0<gk/\i+1<=n):=Z9 ⟨by omega,by omega,by omega⟩;have hil:i<L.length:=(by rw[HL.out,hn]; omega);obtain⟨b,off,e1,-,hcell⟩:=EK HS.out hil;simp only[Option.some.injEq,Addr.mk.injEq,and_true] at e1;obtain⟨rfl,rfl⟩:=e1;have hno:=wG.out i hil;obtain⟨c,hc⟩:=ZR (L.getD i 0);rw[hc] at hcell hno;have GY:Hid (Qg c=true->∀ j,j<i+1->Qg (L.getD j 0)=true):=Z9 fun hb j hj=>by
     by_cases e:j=i
     ·rw[e,hc]; exact hb
     ·exact hyes j (by omega)
    have HNE:Hid (Qg c=false->isName L=false):=Z9 hno;have CI:=pG c wr;clear hc hyes hg hno hil;generalize Qg c=tb at *
    go_upto_region 4 with fail;refine wl<|ZJ (Zv rfl (i) (n) dT)<|wn ?_;simp only[pu];go_upto_region 5 with fail;refine wl<|YG (Z5 q (0+i)) (pF q 0 n d i hlt _ _ _ rfl (by kernel_rfl) (by kernel_rfl))<|ZL rfl ⟨q,0+i,none⟩ (.int .u8 c) (X8 hcell (by kernel_rfl))<|ZV (.int .u8 c)<|wn ?_;simp only[pu];go_upto_region 6 with fail;cases tb
    ·refine wl<|ZV (.int .u8 c)<|YS ZY (fun w'=>wr=w') (CI) (fun V9 Xo=>?_);subst Xo;refine ZV ZW<|wn ?_;simp only[pu];have HE:=Z9 (HNE.out rfl);clear HNE GY CI hcell;go_upto_region 7 with fail;refine wl<|ZV ZY<|wn ?_;simp only[pu];go_wp2_with fail;go_ret;rw[HE.out];exact⟨rfl,HB.out⟩
    ·refine wl<|ZV (.int .u8 c)<|YS ZW (fun w'=>wr=w') (CI) (fun V9 Xo=>?_);subst Xo;refine ZV ZY<|wn ?_;simp only[pu];have HY2:=Z9 (GY.out rfl);clear HNE GY CI hcell;go_upto_region 8 with fail;refine wl<|Yy (Z8 (i+1:Nat)) (ZF rfl i 1 (by omega))<|ZV (Z8 (i+1:Nat))<|wn ?_;simp only[pu];go_wp2_with fail;go_roundg (gk-1)
     case measure=>have:=HG.out; omega
     case rel=>exact⟨i+1,rfl,HG.out.2.2,HY2.out,rfl,HG.out.1⟩
   ·have hall:=oZ.out (fun j hj=>hyes j (by rw[HL.out,hn] at hj; omega));have HV:Hid (isName L=true):=Z9 (by unfold isName; rw[hall,HL.out,hn,decide_eq_true hc.1,decide_eq_true hc.2]; rfl);clear hyes hall hg wG oZ;go_upto_region 4 with fail;refine wl<|ZJ (Zv rfl (i) (n) dF)<|wn ?_;simp only[pu];go_upto_region 9 with fail;refine wl<|ZV ZW<|wn ?_;simp only[pu];go_wp2_with fail;go_ret;rw[HV.out];exact⟨rfl,HB.out⟩
theorem ah8 (T:ByteArray)(h:Nat)(hh:h<=T.size)(w:World):(Instr.slice 9 (.string T) none (some (Z8 (h:Int))) none).run Tryz.prog w=.ok (.string (T.extract 0 h)) w:=by
 simp[Instr.slice,run_underlying Tryz.underlying9,Instr.sliceBounds,Instr.sliceBound,asIntOf,go_sem];intro h';omega
theorem pX (T:ByteArray)(l:Nat)(hl:l<=T.size)(w:World):(Instr.slice 9 (.string T) (some (Z8 (l:Int))) none none).run Tryz.prog w=.ok (.string (T.extract l T.size)) w:=by
 simp[Instr.slice,run_underlying Tryz.underlying9,Instr.sliceBounds,Instr.sliceBound,asIntOf,go_sem];intro h';omega
theorem OM (s:ByteArray)(a b:Nat):nums (s.extract a b)=((nums s).drop a).take (b-a):=by
 unfold nums;rw[ByteArray.data_extract,Array.toList_extract,List.extract_eq_take_drop,List.map_take,List.map_drop]
theorem pW {a b:ByteArray}(h:nums a=nums b):a=b:=by rw[<- SV a,h,SV]
theorem EL (a b:ByteArray):(a == b)=decide (nums a=nums b):=by
 by_cases h:nums a=nums b
 ·rw[decide_eq_true h,pW h,beq_toListBytes];simp
 ·rw[decide_eq_false h,Bool.eq_false_iff];intro e;rw[beq_toListBytes] at e;have e2:=eq_of_beq e;rw[ByteArray.toList_eq,ByteArray.toList_eq] at e2;exact h (by unfold nums; rw[e2])
def hpr (s p:ByteArray):Bool:=decide (p.size<=s.size) && (s.extract 0 p.size == p)
theorem ah9 (s p:ByteArray)(w:World)(h1:s.size<=140737488355328)(h2:p.size<=140737488355328):Calls Tryz.prog 136 #[.string s,.string p] w fun e w'=>e=.returned (.bool (hpr s p))/\w=w':=by
 unfold hpr;have HX:=fun(h:p.size<=s.size)=>ah8 s p.size h w;obtain⟨n,hn⟩:=ZR s.size;obtain⟨m,hm⟩:=ZR p.size;rw[hn,hm] at HX ⊢;by_cases hc:m<=n
 ·have hx:=HX hc;rw[decide_eq_true hc,Bool.true_and];generalize s.extract 0 m=u at *
  obtain⟨tb,ht⟩:=ZR ((u == p));rw[ht];clear HX;go_enter Tryz.func136,Tryz.ntmps136;go_upto_region 1 with fail;refine wl<|ZV (.string s)<|YG (Z8 n) (by rw[<- hn]; kernel_rfl)<|ZV (.string p)<|YG (Z8 m) (by rw[<- hm]; kernel_rfl)<|ZJ (UQ rfl (n) (m) dT) <|
   Yr ZW (.string s) (.string p)<|YG (Z8 m) (by rw[<- hm]; kernel_rfl) ?_
  refine ND (by kernel_rfl) (some 14) rfl 9 (.tmp 11) (.tmp 13) rfl (.string s) (Z8 m) (.string u) (by kernel_rfl) (by kernel_rfl) hx ?_;refine ZV (.string p)<|Yy (.bool tb) (TW rfl u p ht)<|ZA (.bool tb) (.bool tb)<|wn ?_;simp only[pu];go_wp2_with fail;go_ret;exact⟨rfl,rfl⟩
 ·rw[decide_eq_false hc,Bool.false_and];clear HX;go_enter Tryz.func136,Tryz.ntmps136;go_upto_region 1 with fail;refine wl<|ZV (.string s)<|YG (Z8 n) (by rw[<- hn]; kernel_rfl)<|ZV (.string p)<|YG (Z8 m) (by rw[<- hm]; kernel_rfl)<|ZJ (UQ rfl (n) (m) dF) <|
   YW ZY undef undef undef undef undef<|Yr undef ZY ZY<|wn ?_
  simp only[pu];go_wp2_with fail;go_ret;exact⟨rfl,rfl⟩
theorem pV (s p:ByteArray)(w:World)(h1:s.size<=140737488355328)(h2:p.size<=140737488355328):Calls Tryz.prog 130 #[.string s,.string p] w fun e w'=>e=.returned (.bool (hpr s p))/\w=w':=by
 have CL:=ah9 s p w h1 h2;generalize hpr s p=tb at *
 go_enter Tryz.func130,Tryz.ntmps130;go_upto_region 1 with fail;refine wl<|ZA (.string s) (.string p)<|YS (.bool tb) (fun w'=>w=w') (CL) (fun V9 Xo=>?_);subst Xo;refine ZV (.bool tb)<|wn ?_;simp only[pu];go_wp2_with fail;go_ret;exact⟨rfl,rfl⟩
def Bh:ByteArray:=⟨#[239,191,189]⟩
theorem take3 (L:List Int)(i:Nat)(h:i+3<=L.length):(L.drop i).take 3=[L.getD i 0,L.getD (i+1) 0,L.getD (i+2) 0]:=by
 rw[List.drop_eq_getElem_cons (by omega),List.take_succ_cons,List.drop_eq_getElem_cons (by omega),List.take_succ_cons,List.drop_eq_getElem_cons (by omega),List.take_succ_cons,List.take_zero];simp[List.getD_eq_getElem?_getD,List.getElem?_eq_getElem (show i<L.length by omega),List.getElem?_eq_getElem (show i+1<L.length by omega),List.getElem?_eq_getElem (show i+2<L.length by omega)]
theorem yK (s:ByteArray)(i:Nat)(hi:i<=s.size):hpr (s.extract i s.size) Bh=decide (i+3<=s.size/\(nums s).getD i 0=239/\(nums s).getD (i+1) 0=191/\(nums s).getD (i+2) 0=189):=by
 have e1:(s.extract i s.size).size=s.size-i:=by rw[<- Zd,OM,List.length_take,List.length_drop,Zd]; omega
 have e2:Bh.size=3:=rfl;have e3:nums Bh=[239,191,189]:=by decide +kernel
 unfold hpr;rw[e1,e2,EL,e3,OM,OM,List.drop_zero];by_cases h:i+3<=s.size
 ·rw[decide_eq_true (show 3<=s.size-i by omega),Bool.true_and];have e4:((((nums s).drop i).take (s.size-i)).take (3-0))=[(nums s).getD i 0,(nums s).getD (i+1) 0,(nums s).getD (i+2) 0]:=by
   rw[List.take_take,show min (3-0) (s.size-i)=3 by omega];exact take3 _ _ (by rw[Zd]; exact h)
  rw[e4,decide_eq_decide];simp[h]
 ·rw[decide_eq_false (show ¬ 3<=s.size-i by omega),Bool.false_and,eq_comm];exact decide_eq_false (fun q=>h q.1)
theorem getD_byte (s:ByteArray)(j:Nat):0<=(nums s).getD j 0/\(nums s).getD j 0<256:=by
 rw[Ul];have:=(s.get! j).toNat_lt;omega
theorem iU (s:ByteArray)(i:Nat)(hi:i<s.size)(hk:runK (nums s) i≠0)(hv:G6 (nums s) i=65533):hpr (s.extract i s.size) Bh=true:=by
 rw[yK s i (by omega)];have h3:=pU (getD_byte s) hk hv;have hl:=G5 (L:=nums s) (i:=i) (by rw[Zd]; exact hi);rw[h3,Zd] at hl;have h0:=getD_byte s i;have h1:=getD_byte s (i+1);have h2:=getD_byte s (i+2);have hr:=h3;unfold runK runN at hr;unfold G6 at hv;rw[h3] at hv;have e:((nums s).getD i 0-224)*4096+((nums s).getD (i+1) 0-128)*64+((nums s).getD (i+2) 0-128)=65533:=hv;refine decide_eq_true ⟨hl,?_⟩;have f1:MC (nums s) (i+1)=true/\MC (nums s) (i+2)=true:=by
  split at hr
  ·omega
  split at hr
  ·omega
  split at hr
  ·rename_i q
   exact⟨q.1.2,q.2⟩
  split at hr
  ·split at hr <;> omega
  ·omega
 have g1:=WO f1.1;have g2:=WO f1.2;omega
theorem ai0 (s:ByteArray)(i:Nat)(hi:i<s.size)(hk:runK (nums s) i=0):hpr (s.extract i s.size) Bh=false:=by
 rw[yK s i (by omega)];refine decide_eq_false fun⟨hl,e0,e1,e2⟩=>?_;have f1:MC (nums s) (i+1)=true:=by
  unfold MC;rw[e1,Zd,decide_eq_true (show i+1<s.size by omega)];rfl
 have f2:MC (nums s) (i+2)=true:=by
  unfold MC;rw[e2,Zd,decide_eq_true (show i+2<s.size by omega)];rfl
 unfold runK runN at hk;rw[e0,e1,f1,f2] at hk;simp at hk
theorem GZ (w:World)(s:ByteArray)(pos:Nat)(ty:TypeId)(h:pos<s.size) :
  (Instr.next (Z5 w.heap.size 0) true ty).run Tryz.prog (w.iter s pos) =
   .ok (.tuple #[ZW,Z8 pos,.int .i32 (Utf8.decode s pos).1]) (w.iter s (pos+(Utf8.decode s pos).2)):=by
 simp only[Instr.next,getObj,setObj,Sem.run_bind,Sem.run,World.iter_heap,Result.andThen,h,if_true,World.iter_set];simp[goInt,Sem.run,World.iter_heap,World.iter_set]
theorem iT {ρ:Operand->Value}{o:Oper}{x:Operand}(ho:o.op=.next x true)(w:World)(s:ByteArray)(pos:Nat)(h:pos<s.size)(hx:ρ x=Z5 w.heap.size 0) :
  (execOp ρ o).run Tryz.prog (w.iter s pos)=.ok (.value (.tuple #[ZW,Z8 pos,.int .i32 (Utf8.decode s pos).1])) (w.iter s (pos+(Utf8.decode s pos).2)):=by
 unfold execOp;simp only[ho,hx,Sem.run_bind,GZ w s pos _ h];rfl
theorem iR {ρ:Operand->Value}{o:Oper}{x:Operand}(ho:o.op=.next x true)(w:World)(s:ByteArray)(pos:Nat)(h:¬ pos<s.size)(hx:ρ x=Z5 w.heap.size 0) :
  (execOp ρ o).run Tryz.prog (w.iter s pos)=.ok (.value (.tuple #[ZY])) (w.iter s pos):=by
 unfold execOp;simp only[ho,hx,Sem.run_bind,run_next_end w s pos _ h];rfl
theorem pR {ρ:Operand->Value}{o:Oper}{x:Operand}(ho:o.op=.range 9 x)(w:World)(s:ByteArray)(hx:ρ x=.string s) :
  (execOp ρ o).run Tryz.prog w=.ok (.value (Z5 w.heap.size 0)) (w.iter s 0):=by
 unfold execOp;simp only[ho,hx,Sem.run_bind,run_range_string w _ s Tryz.underlying9];rfl
theorem pO {ρ:Operand->Value}{o:Oper}{x y:Operand}(ho:o.op=.binOp .eql 21 x y 21)(a b:Int){t:Bool}(ht:decide (a=b)=t)(hx:ρ x=.int .i32 a)(hy:ρ y=.int .i32 b)(w:World):(execOp ρ o).run Tryz.prog w=.ok (.value (.bool t)) w:=by
 have e:(a == b)=t:=ht;unfold execOp;simp only[ho,hx,hy];go_simp
theorem pK {L:List Int}{i m:Nat}(h:Ran L i m)(hm:64<m):XZ L=false:=by
 unfold XZ Ran at *
 rw[h];cases runs L i with
 | none=>rfl
 | some k=>
  show decide (k+m<=64)=false;exact decide_eq_false (by omega)
theorem pJ {L:List Int}(h:runs L 0=none):XZ L=false:=by unfold XZ; rw[h]
theorem MF {L:List Int}{m:Nat}(h:runs L 0=some m)(hm:m<=64):XZ L=true:=by unfold XZ; rw[h]; exact decide_eq_true hm
theorem Bg (w:World)(s:ByteArray)(i:Nat):Below w.heap.size w (w.iter s i):=(Below.refl _ w).alloc (Nat.le_refl _) _
theorem ext_size (s:ByteArray)(i:Nat):(s.extract i s.size).size=s.size-i:=by rw[<- Zd,OM,List.length_take,List.length_drop,Zd]; omega
theorem pY (s:ByteArray)(w:World)(hl:s.size<=140737488355328):Calls Tryz.prog 120 #[.string s] w fun e w'=>e=.returned (.bool (XZ (nums s)))/\Below w.heap.size w w':=by
 have NJ:=Z9 (fun(ρ:Operand->Value) (o:Oper) (x:Operand) ho hx=>pR (ρ:=ρ) (o:=o) (x:=x) ho w s hx);have HOV:=Z9 (fun(ρ:Operand->Value) (o:Oper) (x:Operand) ho i h hx=>iR (ρ:=ρ) (o:=o) (x:=x) ho w s i h hx);have HNX:=Z9 (fun(ρ:Operand->Value) (o:Oper) (x:Operand) ho i h hx=>iT (ρ:=ρ) (o:=o) (x:=x) ho w s i h hx);have HDC:=Z9 (iQ s);have GY:=Z9 (iU s);have Na:=Z9 (ai0 s);have HCP:=Z9 (fun i V=>pV (s.extract i s.size) Bh V (by rw[ext_size]; omega) (by decide));have HSF:=Z9 (fun i (h:i<=s.size) V=>pX s i h V);have HL:=Z9 (Zd s);have HB:=Z9 (Bg w s);obtain⟨L,hL⟩:=ZR (nums s);rw[hL] at HDC GY Na HL ⊢;have HR0:=Z9 (Ran.zero L);obtain⟨r,hr⟩:=ZR (XZ L);have uD:=Z9 hr;rw[hr];clear hL hr;obtain⟨n,hn⟩:=ZR s.size;have HN:=Z9 hn;rw[hn] at hl GY Na HL HOV HNX HCP HSF;obtain⟨WI,hWI⟩:∃ WI:Nat->World,(fun i=>w.iter s i)=WI:=⟨_,rfl⟩;have HWI:∀ i,w.iter s i=WI i:=fun i=>congrFun hWI i;simp only[HWI] at NJ HOV HNX HB;obtain⟨q,hq⟩:=ZR w.heap.size;have HQ:=Z9 hq;rw[hq] at NJ HOV HNX;clear hq hn hWI HWI;go_enter Tryz.func120,Tryz.ntmps120;go_upto_region 1 with fail;refine wl<|ZV (Z8 0)<|wn ?_;simp only[pu];go_upto_region 2 with fail;refine wl<|ZV (.string s) ?_;refine PV (by kernel_rfl) (some 7) rfl (Z5 q 0) (WI 0) (NJ.out _ _ _ rfl (by kernel_rfl)) ?_;simp only[pu];apply wpList_nil;clear NJ;go_wp2_with fail;go_loopg [3] n (fun gg s3 wx=>∃ i m:Nat,s3=Z8 m/\i<=n/\m<=64/\Hid (Ran L i m)/\wx=WI i/\n-i<=gg)
 case atStart=>exact⟨0,0,rfl,by omega,by omega,HR0,rfl,by omega⟩
 case round=>
  obtain⟨i,m,rfl,hi,hm,HM,rfl,hg⟩:=hrel;clear HR0;by_cases hlt:i<n
  ·have hk4:=GX L i;have hkl:=G5 (L:=L) (i:=i) (by rw[HL.out]; omega);have HST:=Z9 (HM.out.step (by rw[HL.out]; omega));have BM:=Z9 (HM.out.bad (by rw[HL.out]; omega));rw[HL.out] at hkl;have hdc:=HDC.out i;have hys:=GY.out i hlt;have hno:=Na.out i hlt;have hcp:=HCP.out i;have hsf:=HSF.out i hi;have hnx:=fun ρ o x ho hx=>HNX.out ρ o x ho i hlt hx;obtain⟨d1,hd1⟩:∃ d1:Int,((Utf8.decode s i).1:Int)=d1:=⟨_,rfl⟩;rw[hd1] at hdc hnx;generalize (Utf8.decode s i).2=d2 at *
   generalize runK L i=k at *
   generalize G6 L i=v at *
   generalize hpr (s.extract i n) Bh=hb at *
   generalize s.extract i n=u at *
   clear HM HDC GY Na HCP HSF HNX HOV hd1;obtain⟨pI,ED⟩:=hdc;go_upto_region 3 with fail;by_cases hk:k=0
   ·rw[if_pos hk] at ED pI;have HHB:=hno hk;have HE:Hid (r=false):=Z9 (by rw[<- uD.out]; exact pJ (BM.out hk));have HB2:=Z9 (HB.out (i+d2));clear hys hno HST BM uD HB hk hkl hk4 pI hg;apply wp_region_lit;refine PV (by kernel_rfl) (some 8) rfl (.tuple #[ZW,Z8 i,.int .i32 d1]) (WI (i+d2)) (hnx _ _ _ rfl (by kernel_rfl)) ?_;refine ZV ZW<|wn ?_;simp only[pu];clear hnx;go_upto_region 4 with fail;refine wl<|WL (Z8 i) (.int .i32 d1) (Z8 i) (.int .i32 d1)<|wn ?_;simp only[pu];have CP:=hcp (WI (i+d2));rw[HHB] at CP;clear hcp HHB;go_upto_region 5 with fail;refine wl<|ZV (.int .i32 d1)<|ZJ (pO rfl (d1) (65533) (decide_eq_true (ED)))<|Yr ZW (.string s) (Z8 i) ?_;refine NC (by kernel_rfl) (some 17) rfl 9 (.tmp 15) (.tmp 16) rfl (.string s) (Z8 i) (.string u) (by kernel_rfl) (by kernel_rfl) (hsf _) ?_;refine YS ZY (fun w'=>WI (i+d2)=w') (CP) (fun V9 Xo=>?_);subst Xo;refine ZA ZW ZW<|wn ?_;simp only[pu];clear CP hsf;go_upto_region 6 with fail;refine wl<|ZV ZY<|wn ?_;simp only[pu];go_wp2_with fail;go_ret;rw[HE.out];exact⟨rfl,HB2.out⟩
   ·rw[if_neg hk] at ED pI;have HS2:=Z9 (HST.out hk);have Ji:Hid (64<m+1->r=false):=Z9 fun h=>(by rw[<- uD.out]; exact pK HS2.out h);have HB2:=Z9 (HB.out (i+d2));have HG:Hid (0<k/\i+k<=n/\i<n/\n-i<=gk/\d2=k):=Z9 ⟨by omega,hkl,hlt,hg,pI⟩;clear hno HST BM hkl hk4 pI hg;apply wp_region_lit;refine PV (by kernel_rfl) (some 8) rfl (.tuple #[ZW,Z8 i,.int .i32 d1]) (WI (i+d2)) (hnx _ _ _ rfl (by kernel_rfl)) ?_;refine ZV ZW<|wn ?_;simp only[pu];clear hnx;go_upto_region 4 with fail;refine wl<|WL (Z8 i) (.int .i32 d1) (Z8 i) (.int .i32 d1)<|wn ?_;simp only[pu];go_upto_region 5 with fail;by_cases hv:v=65533
    ·have HHB:=hys hk hv;rw[hv] at ED;have CP:=hcp (WI (i+d2));rw[HHB] at CP;clear hcp HHB hys hv hk;refine wl<|ZV (.int .i32 d1)<|ZJ (pO rfl (d1) (65533) (decide_eq_true (ED)))<|Yr ZW (.string s) (Z8 i) ?_;refine NC (by kernel_rfl) (some 17) rfl 9 (.tmp 15) (.tmp 16) rfl (.string s) (Z8 i) (.string u) (by kernel_rfl) (by kernel_rfl) (hsf _) ?_;refine YS ZW (fun w'=>WI (i+d2)=w') (CP) (fun V9 Xo=>?_);subst Xo;refine ZA ZY ZY<|wn ?_;simp only[pu];clear CP hsf ED;have HD2:=Z9 HG.out.2.2.2.2;go_upto_region 7 with fail;refine wl<|ZV (Z8 m)<|Yy (Z8 (m+1:Nat)) (ZF rfl m 1 (by omega))<|ZV (Z8 (m+1:Nat))<|wn ?_;simp only[pu];go_upto_region 8 with fail;by_cases hm2:64<m+1
     ·have HE:=Z9 (Ji.out hm2);clear Ji uD HB;refine wl<|ZV (Z8 (m+1:Nat))<|ZJ (Zo rfl ((m+1:Nat)) (64) dT)<|wn ?_;simp only[pu];go_upto_region 9 with fail;refine wl<|ZV ZY<|wn ?_;simp only[pu];go_wp2_with fail;go_ret;rw[HE.out];exact⟨rfl,HB2.out⟩
     ·clear Ji;refine wl<|ZV (Z8 (m+1:Nat))<|ZJ (Zo rfl ((m+1:Nat)) (64) dF)<|wn ?_;simp only[pu];go_wp2_with fail;go_roundg (n-(i+k))
      case measure=>have:=HG.out; omega
      case rel=>exact⟨i+k,m+1,rfl,HG.out.2.1,by omega,HS2,by rw[HD2.out],Nat.le_refl _⟩
    ·have ay7:¬ d1=65533:=(by rw[ED]; exact hv);clear hcp hys ED hsf hv hk;refine wl<|ZV (.int .i32 d1)<|ZJ (pO rfl (d1) (65533) (decide_eq_false (ay7)))<|YW ZY undef undef undef undef undef<|ZV ZY<|wn ?_;simp only[pu];clear ay7;have HD2:=Z9 HG.out.2.2.2.2;go_upto_region 7 with fail;refine wl<|ZV (Z8 m)<|Yy (Z8 (m+1:Nat)) (ZF rfl m 1 (by omega))<|ZV (Z8 (m+1:Nat))<|wn ?_;simp only[pu];go_upto_region 8 with fail;by_cases hm2:64<m+1
     ·have HE:=Z9 (Ji.out hm2);clear Ji uD HB;refine wl<|ZV (Z8 (m+1:Nat))<|ZJ (Zo rfl ((m+1:Nat)) (64) dT)<|wn ?_;simp only[pu];go_upto_region 9 with fail;refine wl<|ZV ZY<|wn ?_;simp only[pu];go_wp2_with fail;go_ret;rw[HE.out];exact⟨rfl,HB2.out⟩
     ·clear Ji;refine wl<|ZV (Z8 (m+1:Nat))<|ZJ (Zo rfl ((m+1:Nat)) (64) dF)<|wn ?_;simp only[pu];go_wp2_with fail;go_roundg (n-(i+k))
      case measure=>have:=HG.out; omega
      case rel=>exact⟨i+k,m+1,rfl,HG.out.2.1,by omega,HS2,by rw[HD2.out],Nat.le_refl _⟩
  ·have HE:Hid (r=true):=Z9 (by rw[<- uD.out]; exact MF (HM.out.done (by rw[HL.out]; omega)) hm);have HB2:=Z9 (HB.out i);have hov:=fun ρ o x ho hx=>HOV.out ρ o x ho i hlt hx;clear HM uD HB hg HOV HNX HDC GY Na HCP HSF;go_upto_region 3 with fail;refine wl<|YG (.tuple #[ZY]) (hov _ _ _ rfl (by kernel_rfl))<|ZV ZY<|wn ?_;simp only[pu];go_upto_region 10 with fail;refine wl<|ZV ZW<|wn ?_;simp only[pu];go_wp2_with fail;go_ret;rw[HE.out];exact⟨rfl,HB2.out⟩
end Go.Proofs.YtnhlpahoomcgnaaGreat
