/-
  Texts joined.
-/
import Derived.Test.YtfpnnmeblefkkaaGreatDoorA5
import Derived.Laws.RangeString
set_option maxRecDepth 100000
set_option maxHeartbeats 8000000
set_option linter.unusedSimpArgs false
set_option linter.unusedVariables false
namespace Go.Proofs.YtfpnnmeblefkkaaGreatDoor
open Go.RowKit
def WU:ByteArray:=⟨#[]⟩
theorem D6 {s:ByteArray}(h:s.size=0):s=WU:=ByteArray.ext (Array.eq_empty_of_size_eq_zero h)
def tF (k:Int)(s:ByteArray):List Zj:=if s.size=0 then [] else [⟨k,2,0,nums s⟩]
def nF (k v:Int):List Zj:=if v=0 then [] else [⟨k,0,v,[]⟩]
def Uj (x:Tf):List Zj:=tF 1 x.1++nF 2 x.2
def TG (x:Tf):Zj:=⟨6,2,0,msg (Uj x)⟩
def IE (t:Y0):List Zj:=tF 1 t.snd++(nF 2 t.sq++(nF 3 t.Zu++(nF 4 t.Y8++(tF 5 t.memo++t.tr.map TG))))
def form (t:Y0):List Int:=msg (IE t)
theorem Kt {k:Int}{s:ByteArray}(h:s.size=0):tF k s=[]:=if_pos h
theorem QL {k:Int}{s:ByteArray}(h:s.size≠0):tF k s=[⟨k,2,0,nums s⟩]:=if_neg h
theorem Oo (k:Int):nF k 0=[]:=rfl
theorem TB {k v:Int}(h:v≠0):nF k v=[⟨k,0,v,[]⟩]:=if_neg h
theorem Qr:msg []=[]:=rfl
theorem Xc (f:Zj)(r:List Zj):msg (f::r)=Yn f++msg r:=rfl
theorem Aa (k:Int)(s:ByteArray):(msg (tF k s)).length<=20+s.size/\s.size<=(msg (tF k s)).length:=by
 by_cases h:s.size=0
 ·rw[Kt h,Qr];exact⟨by simp,by rw[h]; simp⟩
 ·rw[QL h,Xc,Qr,List.append_nil];have a:=Gj ⟨k,2,0,nums s⟩;have b:=Vp k 2 0 (nums s);rw[Zi] at b;have c:(⟨k,2,0,nums s⟩:Zj).bytes.length=s.size:=Zi s;exact⟨by omega,b⟩
theorem Gi (k v:Int):(msg (nF k v)).length<=20:=by
 by_cases h:v=0
 ·subst h; rw[Oo,Qr]; simp
 ·rw[TB h,Xc,Qr,List.append_nil];have a:=Gj ⟨k,0,v,[]⟩;simpa using a
theorem Oy (x:Tf):(msg (Uj x)).length<=40+x.1.size/\x.1.size<=(msg (Uj x)).length:=by
 unfold Uj;rw[TY,List.length_append];have a:=Aa 1 x.1;have b:=Gi 2 x.2;omega
theorem fP (x:Tf):(Yn (TG x)).length<=60+x.1.size/\60+x.1.size<=61*(Yn (TG x)).length:=by
 have a:=Gj (TG x);have b:=Vp 6 2 0 (msg (Uj x));have b2:(msg (Uj x)).length<=(Yn (TG x)).length:=b;have c:=Oy x;have d:=Wn (TG x);have e:(TG x).bytes.length=(msg (Uj x)).length:=rfl;omega
def Ji:List Tf->Nat
 | []=>0
 | x::r=>60+x.1.size+Ji r
def IB (t:Y0):Nat:=100+t.snd.size+t.memo.size+Ji t.tr
theorem xE:∀ (A B:List Tf),Ji (A++B)=Ji A+Ji B
 | [],B=>by simp[Ji]
 | x::r,B=>by rw[List.cons_append,Ji,Ji,xE r B]; omega
theorem xI:∀ A:List Tf,60*A.length<=Ji A
 | []=>by simp[Ji]
 | x::r=>by have:=xI r; rw[Ji,List.length_cons]; omega
theorem xC {A:List Tf}{x:Tf}(h:x∈A):60+x.1.size<=Ji A:=by
 induction A with
 | nil=>cases h
 | cons y r ih=>
  rw[Ji];rcases List.mem_cons.1 h with rfl | h
  ·omega
  ·have:=ih h; omega
theorem xB:∀ A:List Tf,(msg (A.map TG)).length<=Ji A/\Ji A<=61*(msg (A.map TG)).length
 | []=>by simp[msg,Ji]
 | x::r=>by
  have a:=xB r;have b:=fP x;rw[List.map_cons,Xc,List.length_append,Ji];omega
theorem OA (t:Y0):(form t).length<=IB t/\IB t<=100+61*(form t).length:=by
 unfold form IE IB;rw[TY,TY,TY,TY,TY];simp only[List.length_append];have a:=Aa 1 t.snd;have b:=Gi 2 t.sq;have c:=Gi 3 t.Zu;have d:=Gi 4 t.Y8;have e:=Aa 5 t.memo;have f:=xB t.tr;omega
structure Bz (t:Y0):Prop where
 sq:W64 t.sq
 Zu:W64 t.Zu
 Y8:W64 t.Y8
 am:∀ x,x∈t.tr->W64 x.2
 wt:IB t<=800000
theorem WO:W64 0:=⟨by decide,by decide⟩
theorem ak5 {k:Int}{s:ByteArray}(h1:1<=k)(h2:k<=536870911)(hs:s.size<=1000000):∀ f,f∈tF k s->Vf f/\f.num=k:=fun f hf=>by
 by_cases h:s.size=0
 ·rw[Kt h] at hf; cases hf
 ·rw[QL h,List.mem_singleton] at hf;subst hf;exact⟨⟨⟨h1,h2,.inr ⟨rfl,rfl⟩⟩,WO,fun x hx=>uQ s x hx,by rw[Zi]; exact hs⟩,rfl⟩
theorem fO {k v:Int}(h1:1<=k)(h2:k<=536870911)(hv:W64 v):∀ f,f∈nF k v->Vf f/\f.num=k:=fun f hf=>by
 by_cases h:v=0
 ·subst h; rw[Oo] at hf; cases hf
 ·rw[TB h,List.mem_singleton] at hf;subst hf;exact⟨⟨⟨h1,h2,.inl ⟨rfl,rfl⟩⟩,hv,fun x (hx:x∈([]:List Int))=>(by cases hx),Nat.zero_le _⟩,rfl⟩
theorem Tm {P:List Zj}(h:∀ f,f∈P->Vf f):∀ x,x∈msg P->0<=x/\x<=255:=fun x hx=>by
 obtain⟨f,hf,hx⟩:=List.mem_flatMap.1 hx;exact zZ f (h f hf) x hx
theorem Ec {x:Tf}(hs:x.1.size<=900000)(hv:W64 x.2):∀ f,f∈Uj x->Vf f:=fun f hf=>by
 rcases List.mem_append.1 hf with hf | hf
 ·exact(ak5 (by decide) (by decide) (by omega) f hf).1
 ·exact(fO (by decide) (by decide) hv f hf).1
theorem aB0 {x:Tf}(hs:x.1.size<=900000)(hv:W64 x.2):Vf (TG x):=⟨⟨by show(1:Int)<=6; decide,by show(6:Int)<=536870911; decide,.inr ⟨rfl,rfl⟩⟩,WO,Tm (Ec hs hv),by have:=Oy x; show(msg (Uj x)).length<=1000000; omega⟩
theorem Bz.vf {t:Y0}(h:Bz t):∀ f,f∈IE t->Vf f:=fun f hf=>by
 have hw:=h.wt;unfold IB at hw;unfold IE at hf;simp only[List.mem_append] at hf;rcases hf with hf | hf | hf | hf | hf | hf
 ·exact(ak5 (by decide) (by decide) (by omega) f hf).1
 ·exact(fO (by decide) (by decide) h.sq f hf).1
 ·exact(fO (by decide) (by decide) h.Zu f hf).1
 ·exact(fO (by decide) (by decide) h.Y8 f hf).1
 ·exact(ak5 (by decide) (by decide) (by omega) f hf).1
 ·obtain⟨x,hx,rfl⟩:=List.mem_map.1 hf;have:=xC hx;exact aB0 (by omega) (h.am x hx)
theorem Bz.tr {t:Y0}(h:Bz t){x:Tf}(hx:x∈t.tr):x.1.size<=800000/\W64 x.2:=by
 have hw:=h.wt;unfold IB at hw;have:=xC hx;exact⟨by omega,h.am x hx⟩
theorem xA:∀ (P Q:List Zj),(∀ f,f∈P->Vf f)->(∀ f,f∈Q->Vf f)->msg P=msg Q->P=Q
 | [],[],_,_,_=>rfl
 | [],g::Q,_,_,h=>by
  have a:=congrArg List.length h;rw[Xc,List.length_append,Qr,List.length_nil] at a;have:=Wn g;omega
 | f::P,[],_,_,h=>by
  have a:=congrArg List.length h;rw[Xc,List.length_append,Qr,List.length_nil] at a;have:=Wn f;omega
 | f::P,g::Q,hP,hQ,h=>by
  rw[Xc,Xc] at h;have a:=LP f (hP f (by simp)) (msg P);have b:=LP g (hQ g (by simp)) (msg Q);rw[h,b] at a;simp only[Prod.mk.injEq] at a;have e:f=g:=a.1.symm;subst e;rw[xA P Q (fun x hx=>hP x (by simp[hx])) (fun x hx=>hQ x (by simp[hx])) (List.append_cancel_left h)]
theorem D5 {P:List Zj}(h:∀ f,f∈P->Vf f)(hn:P.length<=1024):YR (msg P)=(P,0,0):=by
 have:=DZ P ((msg P).length+1) [] 0 h (by simpa using hn) (by show(msg P).length<_; omega);simpa [YR,msg] using this
theorem Ub {L:List Int}(hb:∀ x,x∈L->0<=x/\x<=255)(hl:L.length<=1000000):((YR L).1=[]/\(YR L).2.2≠0)∨(∃ P,YR L=(P,0,0)/\msg P=L/\∀ f,f∈P->Vf f):=by
 rcases ny (L.length+1) [] 0 L hb hl (by omega) with⟨e,j,h,he,-⟩ | ⟨G,h,hm,hv⟩
 ·left;unfold YR;rw[h];exact⟨rfl,he⟩
 ·right;exact⟨G,by unfold YR; rw[h]; simp,hm,hv⟩
theorem Ak (P:List Zj):2*P.length<=(msg P).length:=by
 induction P with
 | nil=>simp[msg]
 | cons f r ih=>
  have:=Wn f;rw[Xc,List.length_append,List.length_cons];omega
def XH (k:Int):List Zj->ByteArray×List Zj
 | []=>(WU,[])
 | f::r=>if f.num=k/\f.kind=2/\f.bytes.length≠0 then (strOfNums f.bytes,r) else (WU,f::r)
def X5 (k:Int):List Zj->Int×List Zj
 | []=>(0,[])
 | f::r=>if f.num=k/\f.kind=0/\f.val≠0 then (f.val,r) else (0,f::r)
def RP (f:Zj):Option Tf:=
 if f.kind=2/\f.num=6/\(YR f.bytes).2.2=0/\(X5 2 (XH 1 (YR f.bytes).1).2).2.length=0 then some ((XH 1 (YR f.bytes).1).1,(X5 2 (XH 1 (YR f.bytes).1).2).1) else none
def P9:List Zj->Option (List Tf)
 | []=>some []
 | f::r=>match RP f with
  | none=>none
  | some x=>(P9 r).map (x::·)
def xM (l:List Zj):Option Y0:=
 (P9 (XH 5 (X5 4 (X5 3 (X5 2 (XH 1 l).2).2).2).2).2).map fun A=>
  ⟨(XH 1 l).1,(X5 2 (XH 1 l).2).1,(X5 3 (X5 2 (XH 1 l).2).2).1,(X5 4 (X5 3 (X5 2 (XH 1 l).2).2).2).1,(XH 5 (X5 4 (X5 3 (X5 2 (XH 1 l).2).2).2).2).1,A⟩
theorem Ox {k:Int}{f:Zj}{r:List Zj}(h:f.num=k/\f.kind=2/\f.bytes.length≠0):XH k (f::r)=(strOfNums f.bytes,r):=if_pos h
theorem Qu {k:Int}{f:Zj}{r:List Zj}(h:¬ (f.num=k/\f.kind=2/\f.bytes.length≠0)):XH k (f::r)=(WU,f::r):=if_neg h
theorem QO {k:Int}{f:Zj}{r:List Zj}(h:f.num=k/\f.kind=0/\f.val≠0):X5 k (f::r)=(f.val,r):=if_pos h
theorem RQ {k:Int}{f:Zj}{r:List Zj}(h:¬ (f.num=k/\f.kind=0/\f.val≠0)):X5 k (f::r)=(0,f::r):=if_neg h
theorem ni {L:List Int}(h:L.length≠0)(hb:∀ x,x∈L->0<=x/\x<=255):(strOfNums L).size≠0:=by
 rw[<- Zi,QV L (fun x hx=>hb x hx)];exact h
theorem Qq (k:Int)(l:List Zj)(h:∀ f,f∈l->Vf f):l=tF k (XH k l).1++(XH k l).2:=by
 cases l with
 | nil=>rfl
 | cons f r=>
  by_cases hc:f.num=k/\f.kind=2/\f.bytes.length≠0
  ·rw[Ox hc];obtain⟨h1,h2,h3⟩:=hc;have hv:=h f (by simp);have hb:=hv.2.2.1;simp only;rw[QL (ni h3 hb),QV _ (fun x hx=>hb x hx)];have hval:f.val=0:=by
    rcases hv.1.2.2 with a | a
    ·omega
    ·exact a.2
   obtain⟨n,kd,v,b⟩:=f;simp only at h1 h2 hval;subst h1 h2 hval;rfl
  ·rw[Qu hc]; rfl
theorem SQ (k:Int)(l:List Zj)(h:∀ f,f∈l->Vf f):l=nF k (X5 k l).1++(X5 k l).2:=by
 cases l with
 | nil=>rfl
 | cons f r=>
  by_cases hc:f.num=k/\f.kind=0/\f.val≠0
  ·rw[QO hc];obtain⟨h1,h2,h3⟩:=hc;have hv:=h f (by simp);have hz:f.bytes=[]:=by
    rcases hv.1.2.2 with a | a
    ·exact List.eq_nil_of_length_eq_zero a.2
    ·omega
   simp only;rw[TB h3];obtain⟨n,kd,v,b⟩:=f;simp only at h1 h2 hz;subst h1 h2 hz;rfl
  ·rw[RQ hc]; rfl
theorem RN {k:Int}{l:List Zj}(h:∀ f,f∈l->Vf f):∀ f,f∈(XH k l).2->Vf f:=fun f hf=>h f (by rw[Qq k l h]; exact List.mem_append_right _ hf)
theorem Qs {k:Int}{l:List Zj}(h:∀ f,f∈l->Vf f):∀ f,f∈(X5 k l).2->Vf f:=fun f hf=>h f (by rw[SQ k l h]; exact List.mem_append_right _ hf)
theorem Gh {k:Int}{l:List Zj}(h:∀ f,f∈l->Vf f):W64 (X5 k l).1:=by
 cases l with
 | nil=>exact WO
 | cons f r=>
  by_cases hc:f.num=k/\f.kind=0/\f.val≠0
  ·rw[QO hc]; exact(h f (by simp)).2.1
  ·rw[RQ hc]; exact WO
theorem uP {f:Zj}(hv:Vf f){x:Tf}(h:RP f=some x):f=TG x/\W64 x.2:=by
 unfold RP at h
 split at h
 ·rename_i hc
  obtain⟨h1,h2,h3,h4⟩:=hc;simp only[Option.some.injEq] at h;have hb:=hv.2.2.1;rcases Ub hb hv.2.2.2 with⟨-,q⟩ | ⟨P,e,hm,hP⟩
  ·exact absurd h3 q
  ·rw[e] at h h4;simp only at h h4;have a:=Qq 1 P hP;have b:=SQ 2 _ (RN (k:=1) hP);rw[List.eq_nil_of_length_eq_zero h4,List.append_nil] at b;rw[b] at a;have hw:=Gh (k:=2) (RN (k:=1) hP);subst h;refine⟨?_,hw⟩;have hval:f.val=0:=by
    rcases hv.1.2.2 with q | q
    ·omega
    ·exact q.2
   obtain⟨n,kd,v,bs⟩:=f;simp only at h1 h2 hval hm;subst h1 h2 hval;unfold TG Uj;rw[<- hm];congr 1;exact congrArg msg a
 ·cases h
theorem Iz:∀ {l:List Zj} (hv:∀ f,f∈l->Vf f) {A:List Tf},P9 l=some A->l=A.map TG/\∀ x,x∈A->W64 x.2
 | [],_,A,h=>by
  simp only[P9,Option.some.injEq] at h;subst h;exact⟨rfl,fun x hx=>by cases hx⟩
 | f::r,hv,A,h=>by
  unfold P9 at h;cases e:RP f with
  | none=>rw[e] at h; cases h
  | some x=>
   rw[e] at h;simp only[Option.map_eq_some_iff] at h;obtain⟨B,hB,rfl⟩:=h;obtain⟨e1,w1⟩:=uP (hv f (by simp)) e;obtain⟨e2,w2⟩:=Iz (fun g hg=>hv g (by simp[hg])) hB;refine⟨by rw[List.map_cons,<- e1,<- e2],fun y hy=>?_⟩;rcases List.mem_cons.1 hy with rfl | hy
   ·exact w1
   ·exact w2 y hy
theorem KH {l:List Zj}(hv:∀ f,f∈l->Vf f){t:Y0}(h:xM l=some t):l=IE t/\W64 t.sq/\W64 t.Zu/\W64 t.Y8/\∀ x,x∈t.tr->W64 x.2:=by
 unfold xM at h;simp only[Option.map_eq_some_iff] at h;obtain⟨A,hA,rfl⟩:=h;have v1:=RN (k:=1) hv;have v2:=Qs (k:=2) v1;have v3:=Qs (k:=3) v2;have v4:=Qs (k:=4) v3;have v5:=RN (k:=5) v4;obtain⟨e6,w6⟩:=Iz v5 hA;refine⟨?_,Gh v1,Gh v2,Gh v3,w6⟩;unfold IE;simp only;rw[<- e6,<- Qq 5 _ v4,<- SQ 4 _ v3,<- SQ 3 _ v2,<- SQ 2 _ v1,<- Qq 1 _ hv]
def fM (k:Int)(l:List Zj):Prop:=∀ f,f∈l->k<f.num
theorem NG {k:Int}{s:ByteArray}{r:List Zj}(h:fM k r):XH k (tF k s++r)=(s,r):=by
 by_cases h0:s.size=0
 ·rw[Kt h0,D6 h0];cases r with
  | nil=>rfl
  | cons f r=>
   have:=h f (by simp);exact Qu (by omega)
 ·rw[QL h0,List.singleton_append,Ox (f:=⟨k,2,0,nums s⟩) ⟨rfl,rfl,by show(nums s).length≠0; rw[Zi]; exact h0⟩];show(strOfNums (nums s),r)=_;rw[SV]
theorem Qp {k v:Int}{r:List Zj}(h:fM k r):X5 k (nF k v++r)=(v,r):=by
 by_cases h0:v=0
 ·subst h0;rw[Oo];cases r with
  | nil=>rfl
  | cons f r=>
   have:=h f (by simp);exact RQ (by omega)
 ·rw[TB h0,List.singleton_append,QO (f:=⟨k,0,v,[]⟩) ⟨rfl,rfl,h0⟩]
theorem fK {j k:Int}{s:ByteArray}{r:List Zj}(h:j<k)(hr:fM j r):fM j (tF k s++r):=fun f hf=>by
 rcases List.mem_append.1 hf with hf | hf
 ·by_cases h0:s.size=0
  ·rw[Kt h0] at hf; cases hf
  ·rw[QL h0,List.mem_singleton] at hf;subst hf;exact h
 ·exact hr f hf
theorem zY {j k v:Int}{r:List Zj}(h:j<k)(hr:fM j r):fM j (nF k v++r):=fun f hf=>by
 rcases List.mem_append.1 hf with hf | hf
 ·by_cases h0:v=0
  ·subst h0; rw[Oo] at hf; cases hf
  ·rw[TB h0,List.mem_singleton] at hf;subst hf;exact h
 ·exact hr f hf
theorem Om {j:Int}(h:j<6)(A:List Tf):fM j (A.map TG):=fun f hf=>by
 obtain⟨x,-,rfl⟩:=List.mem_map.1 hf;exact h
theorem ng (j:Int):fM j []:=fun f hf=>by cases hf
theorem xu {x:Tf}(hs:x.1.size<=900000)(hv:W64 x.2):YR (msg (Uj x))=(Uj x,0,0):=by
 refine D5 (Ec hs hv) ?_;unfold Uj tF nF;rw[List.length_append]
 split <;> split <;> simp
theorem fJ {x:Tf}(hs:x.1.size<=900000)(hv:W64 x.2):RP (TG x)=some x:=by
 have e:(TG x).bytes=msg (Uj x):=rfl;unfold RP;rw[e,xu hs hv];have a:XH 1 (Uj x)=(x.1,nF 2 x.2):=by
  have q:fM 1 (nF 2 x.2):=by
   have:=zY (j:=1) (k:=2) (v:=x.2) (by decide) (ng 1);rwa [List.append_nil] at this
  exact NG q
 have b:X5 2 (nF 2 x.2)=(x.2,[]):=by
  have:=Qp (k:=2) (v:=x.2) (ng 2);rwa [List.append_nil] at this
 simp only[a,b];rw[if_pos ⟨rfl,rfl,trivial,rfl⟩]
theorem DY:∀ (A:List Tf),(∀ x,x∈A->x.1.size<=900000/\W64 x.2)->P9 (A.map TG)=some A
 | [],_=>rfl
 | x::r,h=>by
  have:=h x (by simp);rw[List.map_cons,P9,fJ this.1 this.2,DY r (fun y hy=>h y (by simp[hy]))];rfl
theorem DW {t:Y0}(h:Bz t):xM (IE t)=some t:=by
 have g6:=Om (j:=5) (by decide) t.tr;have e1:XH 1 (IE t)=(t.snd,nF 2 t.sq++(nF 3 t.Zu++(nF 4 t.Y8++(tF 5 t.memo++t.tr.map TG)))):=NG (zY (by decide) (zY (by decide) (zY (by decide) (fK (by decide) (Om (by decide) _)))));have e2:X5 2 (nF 2 t.sq++(nF 3 t.Zu++(nF 4 t.Y8++(tF 5 t.memo++t.tr.map TG))))=(t.sq,nF 3 t.Zu++(nF 4 t.Y8++(tF 5 t.memo++t.tr.map TG))):=Qp (zY (by decide) (zY (by decide) (fK (by decide) (Om (by decide) _))));have e3:X5 3 (nF 3 t.Zu++(nF 4 t.Y8++(tF 5 t.memo++t.tr.map TG)))=(t.Zu,nF 4 t.Y8++(tF 5 t.memo++t.tr.map TG)):=Qp (zY (by decide) (fK (by decide) (Om (by decide) _)));have e4:X5 4 (nF 4 t.Y8++(tF 5 t.memo++t.tr.map TG))=(t.Y8,tF 5 t.memo++t.tr.map TG):=Qp (fK (by decide) (Om (by decide) _));have e5:XH 5 (tF 5 t.memo++t.tr.map TG)=(t.memo,t.tr.map TG):=NG g6;have e6:=DY t.tr (fun x hx=>by have:=h.tr hx; exact⟨by omega,this.2⟩);unfold xM;simp only[e1,e2,e3,e4,e5,e6,Option.map_some]
def zX:Y0:=⟨WU,0,0,0,WU,[]⟩
def Vq:Tf->List Zj->Option Tf
 | x,[]=>some x
 | x,f::r=>if f.num=1/\f.kind=2 then Vq (strOfNums f.bytes,x.2) r else if f.num=2/\f.kind=0 then Vq (x.1,f.val) r else none
def Eh (b:List Int):Option Tf:=match Vq (WU,0) (YR b).1 with
 | none=>none
 | some x=>if (YR b).2.2=0/\msg (Uj x)=b then some x else none
def Qb (t:Y0)(f:Zj):Option Y0:=
 if f.num=1/\f.kind=2 then some { t with snd:=strOfNums f.bytes } else if f.num=2/\f.kind=0 then some { t with sq:=f.val } else if f.num=3/\f.kind=0 then some { t with Zu:=f.val } else if f.num=4/\f.kind=0 then some { t with Y8:=f.val } else if f.num=5/\f.kind=2 then some { t with memo:=strOfNums f.bytes } else if f.num=6/\f.kind=2 then (Eh f.bytes).map fun x=>{ t with tr:=t.tr++[x] } else none
def PV:Y0->List Zj->Option Y0
 | t,[]=>some t
 | t,f::r=>match Qb t f with
  | none=>none
  | some u=>PV u r
theorem Ws (t:Y0)(f:Zj)(r:List Zj):PV t (f::r)=(Qb t f).bind fun u=>PV u r:=by
 rw[PV];cases Qb t f <;> rfl
theorem fH {x:Tf}:Vq (WU,0) (Uj x)=some x:=by
 unfold Uj;by_cases h:x.1.size=0
 ·rw[Kt h,List.nil_append];by_cases h0:x.2=0
  ·rw[h0,Oo];show some (WU,(0:Int))=some x;rw[<- D6 h,<- h0]
  ·rw[TB h0,Vq,if_neg (fun h=>absurd h.1 (show ¬ (2:Int)=1 by decide)),if_pos ⟨rfl,rfl⟩,Vq];show some (WU,x.2)=some x;rw[<- D6 h]
 ·rw[QL h,List.singleton_append,Vq,if_pos ⟨rfl,rfl⟩];simp only[SV];by_cases h0:x.2=0
  ·rw[h0,Oo,Vq,<- h0]
  ·rw[TB h0,Vq,if_neg (fun h=>absurd h.1 (show ¬ (2:Int)=1 by decide)),if_pos ⟨rfl,rfl⟩,Vq]
theorem ak6 {x:Tf}(hs:x.1.size<=900000)(hv:W64 x.2):Eh (msg (Uj x))=some x:=by
 unfold Eh;rw[xu hs hv];simp only[fH];rw[if_pos ⟨trivial,trivial⟩]
theorem xq:∀ (A:List Tf) (t:Y0),(∀ x,x∈A->x.1.size<=900000/\W64 x.2)->PV t (A.map TG)=some { t with tr:=t.tr++A }
 | [],t,_=>by simp[PV]
 | x::r,t,h=>by
  have hx:=h x (by simp);have e:Qb t (TG x)=some { t with tr:=t.tr++[x] }:=by
   unfold Qb;rw[if_neg (by show ¬ ((6:Int)=1/\_); omega),if_neg (by show ¬ ((6:Int)=2/\_); omega),if_neg (by show ¬ ((6:Int)=3/\_); omega),if_neg (by show ¬ ((6:Int)=4/\_); omega),if_neg (by show ¬ ((6:Int)=5/\_); omega),if_pos ⟨rfl,rfl⟩];show(Eh (msg (Uj x))).map _=_;rw[ak6 hx.1 hx.2];rfl
  rw[List.map_cons,Ws,e,Option.bind_some,xq r _ (fun y hy=>h y (by simp[hy]))];simp
theorem ak7 {t:Y0}(h:t.snd=WU)(s:ByteArray)(r:List Zj):PV t (tF 1 s++r)=PV { t with snd:=s } r:=by
 by_cases h0:s.size=0
 ·rw[Kt h0,D6 h0,List.nil_append,<- h]
 ·rw[QL h0,List.singleton_append,Ws];unfold Qb;rw[if_pos ⟨rfl,rfl⟩];simp only[SV,Option.bind_some]
theorem ak8 {t:Y0}(h:t.memo=WU)(s:ByteArray)(r:List Zj):PV t (tF 5 s++r)=PV { t with memo:=s } r:=by
 by_cases h0:s.size=0
 ·rw[Kt h0,D6 h0,List.nil_append,<- h]
 ·rw[QL h0,List.singleton_append,Ws];unfold Qb;simp only[SV];rfl
theorem ak9 {t:Y0}(h:t.sq=0)(v:Int)(r:List Zj):PV t (nF 2 v++r)=PV { t with sq:=v } r:=by
 by_cases h0:v=0
 ·rw[h0,Oo,List.nil_append,<- h]
 ·rw[TB h0,List.singleton_append,Ws];rfl
theorem al0 {t:Y0}(h:t.Zu=0)(v:Int)(r:List Zj):PV t (nF 3 v++r)=PV { t with Zu:=v } r:=by
 by_cases h0:v=0
 ·rw[h0,Oo,List.nil_append,<- h]
 ·rw[TB h0,List.singleton_append,Ws];rfl
theorem al1 {t:Y0}(h:t.Y8=0)(v:Int)(r:List Zj):PV t (nF 4 v++r)=PV { t with Y8:=v } r:=by
 by_cases h0:v=0
 ·rw[h0,Oo,List.nil_append,<- h]
 ·rw[TB h0,List.singleton_append,Ws];rfl
theorem mZ {t:Y0}(h:Bz t):PV zX (IE t)=some t:=by
 unfold IE;rw[ak7 rfl,ak9 rfl,al0 rfl,al1 rfl,ak8 rfl,xq _ _ (fun x hx=>by have:=h.tr hx; exact⟨by omega,this.2⟩)];rfl
def bkF:List Zj->Nat
 | []=>0
 | f::r=>60+f.bytes.length+bkF r
theorem xg:∀ P:List Zj,bkF P<=61*(msg P).length
 | []=>by simp[bkF]
 | f::r=>by
  have a:=xg r;have b:=Wn f;have c:=Vp f.num f.kind f.val f.bytes;have c2:f.bytes.length<=(Yn f).length:=c;rw[bkF,Xc,List.length_append];omega
theorem mY {b:List Int}{x:Tf}(hb:∀ y,y∈b->0<=y/\y<=255)(hl:b.length<=1000000)(h:Eh b=some x):msg (Uj x)=b/\W64 x.2:=by
 unfold Eh at h;have key:∀ (l:List Zj) (y:Tf),(∀ f,f∈l->Vf f)->W64 y.2->Vq y l=some x->W64 x.2:=by
  intro l;induction l with
  | nil=>
   intro y _ hy e;simp only[Vq,Option.some.injEq] at e;rw[<- e]; exact hy
  | cons f r ih=>
   intro y hv hy e;rw[Vq] at e
   split at e
   ·exact ih (strOfNums f.bytes,y.2) (fun g hg=>hv g (by simp[hg])) hy e
   ·split at e
    ·exact ih (y.1,f.val) (fun g hg=>hv g (by simp[hg])) (hv f (by simp)).2.1 e
    ·cases e
 rcases Ub hb hl with⟨e0,q⟩ | ⟨P,e0,hm,hP⟩
 ·rw[e0] at h;simp only[Vq] at h;rw[if_neg (fun h=>q h.1)] at h;cases h
 ·rw[e0] at h;simp only at h;cases e:Vq (WU,0) P with
  | none=>rw[e] at h; cases h
  | some y=>
   rw[e] at h;simp only at h
   split at h
   ·rename_i hc
    simp only[Option.some.injEq] at h;subst h;exact⟨hc.2,key P (WU,0) hP WO e⟩
   ·cases h
structure Red (t:Y0)(n:Nat):Prop where
 sq:W64 t.sq
 Zu:W64 t.Zu
 Y8:W64 t.Y8
 am:∀ x,x∈t.tr->W64 x.2
 wt:IB t<=100+n
theorem Red.zero:Red zX 0:=⟨WO,WO,WO,fun x (hx:x∈([]:List Tf))=>(by cases hx),Nat.le_refl _⟩
theorem Ed (L:List Int)(h:∀ x,x∈L->0<=x/\x<=255):(strOfNums L).size=L.length:=by
 rw[<- Zi,QV L (fun x hx=>h x hx)]
theorem Red.step {t u:Y0}{n:Nat}{f:Zj}(h:Red t n)(hv:Vf f)(e:Qb t f=some u):Red u (n+(60+f.bytes.length)):=by
 obtain⟨h1,h2,h3,h4,h5⟩:=h;have hs:=Ed f.bytes hv.2.2.1;unfold IB at h5;unfold Qb at e
 split at e
 ·simp only[Option.some.injEq] at e;subst e;exact⟨h1,h2,h3,h4,by unfold IB; simp only; omega⟩
 split at e
 ·simp only[Option.some.injEq] at e;subst e;exact⟨hv.2.1,h2,h3,h4,by unfold IB; simp only; omega⟩
 split at e
 ·simp only[Option.some.injEq] at e;subst e;exact⟨h1,hv.2.1,h3,h4,by unfold IB; simp only; omega⟩
 split at e
 ·simp only[Option.some.injEq] at e;subst e;exact⟨h1,h2,hv.2.1,h4,by unfold IB; simp only; omega⟩
 split at e
 ·simp only[Option.some.injEq] at e;subst e;exact⟨h1,h2,h3,h4,by unfold IB; simp only; omega⟩
 split at e
 ·simp only[Option.map_eq_some_iff] at e;obtain⟨x,hx,rfl⟩:=e;obtain⟨hm,hw⟩:=mY hv.2.2.1 hv.2.2.2 hx;have hl:=Oy x;rw[hm] at hl;refine⟨h1,h2,h3,fun y hy=>?_,?_⟩
  ·rcases List.mem_append.1 hy with hy | hy
   ·exact h4 y hy
   ·rw[List.mem_singleton] at hy;subst hy;exact hw
  ·unfold IB;simp only[xE,Ji];omega
 ·cases e
theorem Red.all:∀ (l:List Zj) (t u:Y0) (n:Nat),Red t n->(∀ f,f∈l->Vf f)->PV t l=some u->Red u (n+bkF l)
 | [],t,u,n,h,_,e=>by
  simp only[PV,Option.some.injEq] at e;subst e;exact h
 | f::r,t,u,n,h,hv,e=>by
  rw[Ws] at e;cases e2:Qb t f with
  | none=>rw[e2] at e; cases e
  | some v=>
   rw[e2,Option.bind_some] at e;have:=Red.all r v u _ (h.step (hv f (by simp)) e2) (fun g hg=>hv g (by simp[hg])) e;rw[bkF];exact⟨this.sq,this.Zu,this.Y8,this.am,by have:=this.wt; omega⟩
theorem oM {l:List Zj}{u:Y0}(hv:∀ f,f∈l->Vf f)(hl:(msg l).length<=4096)(h:PV zX l=some u):Bz u:=by
 have a:=Red.all l zX u 0 Red.zero hv h;have b:=xg l;exact⟨a.sq,a.Zu,a.Y8,a.am,by have:=a.wt; omega⟩
theorem ay9 {l:List Zj}(hv:∀ f,f∈l->Vf f)(hl:(msg l).length<=4096):xM l=(PV zX l).bind fun t=>if form t=msg l then some t else none:=by
 cases e:xM l with
 | some t=>
  obtain⟨h1,h2,h3,h4,h5⟩:=KH hv e;have hok:Bz t:=⟨h2,h3,h4,h5,by
   have:=(OA t).2;have e2:(form t).length=(msg l).length:=(by rw[h1]; rfl);omega⟩
  rw[h1,mZ hok,Option.bind_some,if_pos (show form t=msg (IE t) from rfl)]
 | none=>
  cases e2:PV zX l with
  | none=>rfl
  | some t=>
   rw[Option.bind_some];have hok:=oM hv hl e2;by_cases hf:form t=msg l
   ·exfalso;have:=xA _ _ hok.vf hv hf;rw[<- this,DW hok] at e;cases e
   ·rw[if_neg hf]
def Zb (L:List Int):Y0×Int:=
 if 4096<L.length then (zX,3) else if (YR L).2.2≠0 then (zX,4) else match xM (YR L).1 with
 | none=>(zX,4)
 | some t=>if XA t=0 then (t,0) else (zX,XA t)
def Ri (t:Y0):List Int×Int:=if XA t≠0 then ([],XA t) else if 4096<(form t).length then ([],3) else (form t,0)
theorem zW {L:List Int}{t:Y0}(hb:∀ x,x∈L->0<=x/\x<=255)(h:Zb L=(t,0)):XA t=0/\form t=L/\Bz t/\L.length<=4096:=by
 unfold Zb at h
 split at h
 ·simp at h
 rename_i hlen
 split at h
 ·simp at h
 rename_i hfl
 have hfl:(YR L).2.2=0:=by simpa using hfl
 rcases Ub hb (by omega) with⟨-,q⟩ | ⟨P,e0,hm,hP⟩
 ·exact absurd hfl q
 rw[e0] at h;cases e:xM P with
 | none=>simp[e] at h
 | some u=>
  simp only[e] at h
  split at h
  ·rename_i hval
   simp only[Prod.mk.injEq,and_true] at h;subst h;obtain⟨h1,h2,h3,h4,h5⟩:=KH hP e;have hf:form u=L:=(by unfold form; rw[<- h1]; exact hm);refine⟨hval,hf,⟨h2,h3,h4,h5,?_⟩,by omega⟩;have:=(OA u).2;rw[hf] at this;omega
  ·rename_i hval
   simp only[Prod.mk.injEq] at h;exact absurd h.2 hval
theorem jh {t:Y0}(h:Bz t)(hv:XA t=0)(hl:(form t).length<=4096)(hn:t.tr.length<=1000):Zb (form t)=(t,0):=by
 have hc:(IE t).length<=1024:=by
  have q1:∀ k s,(tF k s).length<=1:=fun k s=>by unfold tF; split <;> simp
  have q2:∀ k v,(nF k v).length<=1:=fun k s=>by unfold nF; split <;> simp
  unfold IE;simp only[List.length_append,List.length_map];have a:=q1 1 t.snd;have b:=q2 2 t.sq;have c:=q2 3 t.Zu;have d:=q2 4 t.Y8;have e:=q1 5 t.memo;omega
 have e:=D5 h.vf hc;unfold Zb;rw[if_neg (by omega)];show(if (YR (msg (IE t))).2.2≠0 then _ else _)=_;unfold form;rw[e,if_neg (by simp)];simp only[DW h];rw[if_pos hv]
theorem Em {L:List Int}(h:4096<L.length):Zb L=(zX,3):=by unfold Zb; rw[if_pos h]
theorem oO {L:List Int}(h:L.length<=4096)(h2:(YR L).2.2≠0):Zb L=(zX,4):=by unfold Zb; rw[if_neg (by omega),if_pos h2]
theorem Kr {L:List Int}(h:isName L=true):L.length<=20:=by
 unfold isName at h;simp at h;exact h.2.2
theorem DV:∀ (n i:Nat) (L:List Int) (m:Nat),L.length-i<=n->runs L i=some m->L.length<=i+4*m
 | 0,i,L,m,h,e=>by omega
 | n+1,i,L,m,h,e=>by
  by_cases hi:i<L.length
  ·by_cases hk:runK L i=0
   ·rw[DU hi hk] at e; cases e
   ·rw[Td hi hk] at e;simp only[Option.map_eq_some_iff] at e;obtain⟨q,hq,rfl⟩:=e;have:=DV n (i+runK L i) L q (by omega) hq;have:=Gl L i;omega
  ·omega
theorem zV {L:List Int}(h:X8 L=true):L.length<=256:=by
 unfold X8 at h;cases e:runs L 0 with
 | none=>rw[e] at h; cases h
 | some n=>
  rw[e] at h;have:=DV L.length 0 L n (by omega) e;have h2:n<=64:=by simpa using h
  omega
theorem DT:∀ {A:List Tf},Sz A=0->∀ x,x∈A->x.1.size<=20
 | [],_,x,hx=>by cases hx
 | y::r,h,x,hx=>by
  unfold Sz at h
  split at h
  ·omega
  rename_i hn
  split at h
  ·omega
  rcases List.mem_cons.1 hx with rfl | hx
  ·have:=Kr (by simpa using hn:isName (nums x.1)=true);rwa [Zi] at this
  ·exact DT h x hx
theorem mX:∀ (A:List Tf) (k:Nat),(∀ x,x∈A->x.1.size<=k)->Ji A<=A.length*(60+k)
 | [],k,_=>by simp[Ji]
 | x::r,k,h=>by
  have a:=mX r k (fun y hy=>h y (by simp[hy]));have b:=h x (by simp);rw[Ji,List.length_cons,Nat.add_mul];omega
theorem val_ok {t:Y0}(h:XA t=0)(h1:W64 t.sq)(h2:W64 t.Zu)(h3:W64 t.Y8)(h4:∀ x,x∈t.tr->W64 x.2):Bz t/\IB t<=2000/\t.tr.length<=16:=by
 unfold XA at h
 split at h
 ·omega
 rename_i a1
 split at h
 ·omega
 split at h
 ·omega
 rename_i a3
 split at h
 ·omega
 rename_i a4
 have b1:=Kr (by simpa using a1:isName (nums t.snd)=true);have b2:=zV (by simpa using a3:X8 (nums t.memo)=true);rw[Zi] at b1 b2;have b3:=mX t.tr 20 (DT h);have b4:t.tr.length*80<=16*80:=Nat.mul_le_mul_right _ (by omega);have:IB t<=2000:=by unfold IB; omega
 exact⟨⟨h1,h2,h3,h4,by omega⟩,this,by omega⟩
end Go.Proofs.YtfpnnmeblefkkaaGreatDoor
namespace Go.Proofs.YtfpnnmeblefkkaaGreatDoor
attribute [local irreducible] wpList wpQuiet
open Go.RowKit
theorem nJ (c:Int)(w:World):Calls Tryz.prog 127 #[.int .u8 c] w fun e w'=>e=.returned (.bool (PO c))/\w=w':=by
 have hcl:(97<=c/\c<=122)∨(48<=c/\c<=57)∨c=45∨122<c∨(57<c/\c<97)∨(c<48/\c≠45):=by omega
 rcases hcl with hc | hc | hc | hc | hc | hc
 ·have HE:PO c=true:=by
   simp only[PO,Bool.or_eq_true,Bool.and_eq_true,decide_eq_true_eq]; omega
  rw[HE];go_enter Tryz.func127,Tryz.ntmps127;go_upto_region 1 with fail;refine wl<|ZV (.int .u8 c)<|ZN (Xb rfl (97) (c) dT)<|ZG ZW (.int .u8 c)<|ZN (Xb rfl (c) (122) dT) <|
   Zc ZW ZW undef undef undef undef<|Zc undef undef ZW ZW undef undef<|ZG ZW ZW<|wn ?_
  simp only[pu];go_wp2_with fail;go_ret;exact⟨rfl,rfl⟩
 ·have HE:PO c=true:=by
   simp only[PO,Bool.or_eq_true,Bool.and_eq_true,decide_eq_true_eq]; omega
  rw[HE];go_enter Tryz.func127,Tryz.ntmps127;go_upto_region 1 with fail;refine wl<|ZV (.int .u8 c)<|ZN (Xb rfl (97) (c) dF)<|Zc ZY undef undef ZY ZY (.int .u8 c) <|
   ZN (Xb rfl (48) (c) dT)<|ZG ZW (.int .u8 c)<|ZN (Xb rfl (c) (57) dT) <|
   Zc ZW ZW ZW undef undef ZW<|ZV ZW<|wn ?_
  simp only[pu];go_wp2_with fail;go_ret;exact⟨rfl,rfl⟩
 ·have HE:PO c=true:=by
   simp only[PO,Bool.or_eq_true,Bool.and_eq_true,decide_eq_true_eq]; omega
  rw[HE];go_enter Tryz.func127,Tryz.ntmps127;go_upto_region 1 with fail;refine wl<|ZV (.int .u8 c)<|ZN (Xb rfl (97) (c) dF)<|Zc ZY undef undef ZY ZY (.int .u8 c) <|
   ZN (Xb rfl (48) (c) dF)<|Zc ZY undef undef ZY ZY ZY<|ZV (.int .u8 c) <|
   ZN (XO rfl (c) (45) dT)<|ZG ZW ZW<|wn ?_
  simp only[pu];go_wp2_with fail;go_ret;exact⟨rfl,rfl⟩
 ·have HE:PO c=false:=by
   rw[Bool.eq_false_iff]; simp only[ne_eq,PO,Bool.or_eq_true,Bool.and_eq_true,decide_eq_true_eq]; omega
  rw[HE];go_enter Tryz.func127,Tryz.ntmps127;go_upto_region 1 with fail;refine wl<|ZV (.int .u8 c)<|ZN (Xb rfl (97) (c) dT)<|ZG ZW (.int .u8 c)<|ZN (Xb rfl (c) (122) dF) <|
   YG ZY ZY (.int .u8 c)<|ZN (Xb rfl (48) (c) dT)<|ZG ZW (.int .u8 c)<|ZN (Xb rfl (c) (57) dF) <|
   WM ZY ZY ZY (.int .u8 c)<|ZN (XO rfl (c) (45) dF)<|ZG ZY ZY<|wn ?_
  simp only[pu];go_wp2_with fail;go_ret;exact⟨rfl,rfl⟩
 ·have HE:PO c=false:=by
   rw[Bool.eq_false_iff]; simp only[ne_eq,PO,Bool.or_eq_true,Bool.and_eq_true,decide_eq_true_eq]; omega
  rw[HE];go_enter Tryz.func127,Tryz.ntmps127;go_upto_region 1 with fail;refine wl<|ZV (.int .u8 c)<|ZN (Xb rfl (97) (c) dF)<|Zc ZY undef undef ZY ZY (.int .u8 c) <|
   ZN (Xb rfl (48) (c) dT)<|ZG ZW (.int .u8 c)<|ZN (Xb rfl (c) (57) dF) <|
   WM ZY ZY ZY (.int .u8 c)<|ZN (XO rfl (c) (45) dF)<|ZG ZY ZY<|wn ?_
  simp only[pu];go_wp2_with fail;go_ret;exact⟨rfl,rfl⟩
 ·have HE:PO c=false:=by
   rw[Bool.eq_false_iff]; simp only[ne_eq,PO,Bool.or_eq_true,Bool.and_eq_true,decide_eq_true_eq]; omega
  rw[HE];go_enter Tryz.func127,Tryz.ntmps127;go_upto_region 1 with fail;refine wl<|ZV (.int .u8 c)<|ZN (Xb rfl (97) (c) dF)<|Zc ZY undef undef ZY ZY (.int .u8 c) <|
   ZN (Xb rfl (48) (c) dF)<|Zc ZY undef undef ZY ZY ZY<|ZV (.int .u8 c) <|
   ZN (XO rfl (c) (45) dF)<|ZG ZY ZY<|wn ?_
  simp only[pu];go_wp2_with fail;go_ret;exact⟨rfl,rfl⟩
theorem nI (b off n c k:Nat)(hk:k<n)(V:World)(ρ:Operand->Value)(o:Oper){x y:Operand}(ho:o.op=.indexAddr 54 x y)(hx:ρ x=.slice (some ⟨b,off,none⟩) n c)(hy:ρ y=Z8 k):(execOp ρ o).run Tryz.prog V=.ok (.value (Z5 b (off+k))) V:=by
 have hs:(sizeOf (Tryz.prog.elem 54)).run Tryz.prog V=.ok 1 V:=by kernel_rfl
 have hlm:(k:Int)<(n:Int):=by omega
 unfold execOp;simp only[ho,hx,hy];go_simp
theorem uS {s:ByteArray}(h:s.size=0∨20<s.size):isName (nums s)=false:=by
 unfold isName;rw[Zi];rcases h with h | h
 ·rw[h]; simp
 ·rw[show decide (s.size<=20)=false from decide_eq_false (by omega)]; simp
theorem OQ (s:ByteArray)(w:World):Calls Tryz.prog 100 #[.string s] w fun e w'=>e=.returned (.bool (isName (nums s)))/\Below w.heap.size w w':=by
 have Ad:=Z9 (@uS s);obtain⟨n,hn⟩:=ZR s.size;rw[hn] at Ad;rcases (show n=0∨20<n∨(1<=n/\n<=20) by omega) with hc | hc | hc
 ·rw[Ad.out (.inl hc)];clear Ad;go_enter Tryz.func100,Tryz.ntmps100;go_upto_region 1 with fail;refine wl<|ZV (.string s)<|YN (Z8 n) (by rw[<- hn]; kernel_rfl)<|ZN (Zy rfl (n) (1) dT)<|Rq ZW undef undef undef ZW<|wn ?_;simp only[pu];go_upto_region 2 with fail;refine wl<|ZV ZY<|wn ?_;simp only[pu];go_wp2_with fail;go_ret;exact⟨rfl,Below.refl _ _⟩
 ·rw[Ad.out (.inr hc)];clear Ad;go_enter Tryz.func100,Tryz.ntmps100;go_upto_region 1 with fail;refine wl<|ZV (.string s)<|YN (Z8 n) (by rw[<- hn]; kernel_rfl)<|ZN (Zy rfl (n) (1) dF)<|ZG ZY (.string s)<|YN (Z8 n) (by rw[<- hn]; kernel_rfl) <|
   ZN (Zo rfl (n) (20) dT)<|ZV ZW<|wn ?_
  simp only[pu];go_upto_region 2 with fail;refine wl<|ZV ZY<|wn ?_;simp only[pu];go_wp2_with fail;go_ret;exact⟨rfl,Below.refl _ _⟩
 ·obtain⟨hbw,hsl,hsz⟩:=Ku w s (grownCap w s.size 0 5);have CV:=fun(ρ:Operand->Value) (o:Oper) (x:Operand) ho hx=>nH (ρ:=ρ) (o:=o) (x:=x) ho s hx w;generalize grownCap w s.size 0 5=d at *
  generalize Lib.bytesWorld w 5 s=W at *
  obtain⟨q,hq⟩:=ZR w.heap.size;have HB:=Z9 hbw;rw[hq] at CV hsl;rw[hn] at CV;have HL:=Z9 (Zi s);obtain⟨L,hL⟩:=ZR (nums s);rw[hL] at HL hsl ⊢;have HS:=Z9 hsl;have uT:=Z9 (fun i (h:i<L.length)=>nG h);have nD:=Z9 (@xG L);clear hbw hsl hsz Ad hL;go_enter Tryz.func100,Tryz.ntmps100;go_upto_region 1 with fail;refine wl<|ZV (.string s)<|YN (Z8 n) (by rw[<- hn]; kernel_rfl)<|ZN (Zy rfl (n) (1) dF)<|ZG ZY (.string s)<|YN (Z8 n) (by rw[<- hn]; kernel_rfl) <|
   ZN (Zo rfl (n) (20) dF)<|ZV ZY<|wn ?_
  simp only[pu];go_upto_region 3 with fail;refine wl<|ZV (.string s) ?_;refine QM (by kernel_rfl) (some 14) rfl (.slice (some ⟨q,0,none⟩) n d) W (CV _ _ _ rfl (by kernel_rfl)) ?_;refine ZG (Z8 n) (Z8 0)<|wn ?_;simp only[pu];clear CV;go_wp2_with fail;go_loopg [16] n (fun gg s16 wx=>∃ i:Nat,s16=Z8 i/\i<=n/\(∀ j,j<i->PO (L.getD j 0)=true)/\wx=W/\n-i=gg)
  case atStart=>exact⟨0,rfl,by omega,fun j hj=>by omega,rfl,by omega⟩
  case round=>
   obtain⟨i,rfl,hi,hyes,rfl,hg⟩:=hrel;by_cases hlt:i<n
   ·have HG:Hid (n-(i+1)=gk-1/\0<gk/\i+1<=n):=Z9 ⟨by omega,by omega,by omega⟩;have hil:i<L.length:=(by rw[HL.out,hn]; omega);obtain⟨b,off,e1,-,hcell⟩:=Nu HS.out hil;simp only[Option.some.injEq,Addr.mk.injEq,and_true] at e1;obtain⟨rfl,rfl⟩:=e1;have hno:=uT.out i hil;obtain⟨c,hc⟩:=ZR (L.getD i 0);rw[hc] at hcell hno;have Gm:Hid (PO c=true->∀ j,j<i+1->PO (L.getD j 0)=true):=Z9 fun hb j hj=>by
     by_cases e:j=i
     ·rw[e,hc]; exact hb
     ·exact hyes j (by omega)
    have nC:Hid (PO c=false->isName L=false):=Z9 hno;have CI:=nJ c wr;clear hc hyes hg hno hil;generalize PO c=tb at *
    go_upto_region 4 with fail;refine wl<|ZN (Zy rfl (i) (n) dT)<|wn ?_;simp only[pu];go_upto_region 5 with fail;refine wl<|YN (Z5 q (0+i)) (nI q 0 n d i hlt _ _ _ rfl (by kernel_rfl) (by kernel_rfl))<|ZK rfl ⟨q,0+i,none⟩ (.int .u8 c) (YB hcell (by kernel_rfl))<|ZV (.int .u8 c)<|wn ?_;simp only[pu];go_upto_region 6 with fail;cases tb
    ·refine wl<|ZV (.int .u8 c)<|YW ZY (fun w'=>wr=w') (CI) (fun V9 XC=>?_);subst XC;refine ZV ZW<|wn ?_;simp only[pu];have HE:=Z9 (nC.out rfl);clear nC Gm CI hcell;go_upto_region 7 with fail;refine wl<|ZV ZY<|wn ?_;simp only[pu];go_wp2_with fail;go_ret;rw[HE.out];exact⟨rfl,HB.out⟩
    ·refine wl<|ZV (.int .u8 c)<|YW ZW (fun w'=>wr=w') (CI) (fun V9 XC=>?_);subst XC;refine ZV ZY<|wn ?_;simp only[pu];have HY2:=Z9 (Gm.out rfl);clear nC Gm CI hcell;go_upto_region 8 with fail;refine wl<|YC (Z8 (i+1:Nat)) (ZH rfl i 1 (by omega))<|ZV (Z8 (i+1:Nat))<|wn ?_;simp only[pu];go_wp2_with fail;go_roundg (gk-1)
     case measure=>have:=HG.out; omega
     case rel=>exact⟨i+1,rfl,HG.out.2.2,HY2.out,rfl,HG.out.1⟩
   ·have hall:=nD.out (fun j hj=>hyes j (by rw[HL.out,hn] at hj; omega));have HV:Hid (isName L=true):=Z9 (by unfold isName; rw[hall,HL.out,hn,decide_eq_true hc.1,decide_eq_true hc.2]; rfl);clear hyes hall hg uT nD;go_upto_region 4 with fail;refine wl<|ZN (Zy rfl (i) (n) dF)<|wn ?_;simp only[pu];go_upto_region 9 with fail;refine wl<|ZV ZW<|wn ?_;simp only[pu];go_wp2_with fail;go_ret;rw[HV.out];exact⟨rfl,HB.out⟩
theorem ak2 (T:ByteArray)(h:Nat)(hh:h<=T.size)(w:World):(Instr.slice 9 (.string T) none (some (Z8 (h:Int))) none).run Tryz.prog w=.ok (.string (T.extract 0 h)) w:=by
 simp[Instr.slice,run_underlying Tryz.underlying9,Instr.sliceBounds,Instr.sliceBound,asIntOf,go_sem];intro h';omega
theorem nU (T:ByteArray)(l:Nat)(hl:l<=T.size)(w:World):(Instr.slice 9 (.string T) (some (Z8 (l:Int))) none none).run Tryz.prog w=.ok (.string (T.extract l T.size)) w:=by
 simp[Instr.slice,run_underlying Tryz.underlying9,Instr.sliceBounds,Instr.sliceBound,asIntOf,go_sem];intro h';omega
theorem Oq (s:ByteArray)(a b:Nat):nums (s.extract a b)=((nums s).drop a).take (b-a):=by
 unfold nums;rw[ByteArray.data_extract,Array.toList_extract,List.extract_eq_take_drop,List.map_take,List.map_drop]
theorem nT {a b:ByteArray}(h:nums a=nums b):a=b:=by rw[<- SV a,h,SV]
theorem Ee (a b:ByteArray):(a == b)=decide (nums a=nums b):=by
 by_cases h:nums a=nums b
 ·rw[decide_eq_true h,nT h,beq_toListBytes];simp
 ·rw[decide_eq_false h,Bool.eq_false_iff];intro e;rw[beq_toListBytes] at e;have e2:=eq_of_beq e;rw[ByteArray.toList_eq,ByteArray.toList_eq] at e2;exact h (by unfold nums; rw[e2])
def hpr (s p:ByteArray):Bool:=decide (p.size<=s.size) && (s.extract 0 p.size == p)
theorem ak3 (s p:ByteArray)(w:World)(h1:s.size<=140737488355328)(h2:p.size<=140737488355328):Calls Tryz.prog 155 #[.string s,.string p] w fun e w'=>e=.returned (.bool (hpr s p))/\w=w':=by
 unfold hpr;have HX:=fun(h:p.size<=s.size)=>ak2 s p.size h w;obtain⟨n,hn⟩:=ZR s.size;obtain⟨m,hm⟩:=ZR p.size;rw[hn,hm] at HX ⊢;by_cases hc:m<=n
 ·have hx:=HX hc;rw[decide_eq_true hc,Bool.true_and];generalize s.extract 0 m=u at *
  obtain⟨tb,ht⟩:=ZR ((u == p));rw[ht];clear HX;go_enter Tryz.func155,Tryz.ntmps155;go_upto_region 1 with fail;refine wl<|ZV (.string s)<|YN (Z8 n) (by rw[<- hn]; kernel_rfl)<|ZV (.string p)<|YN (Z8 m) (by rw[<- hm]; kernel_rfl)<|ZN (U8 rfl (n) (m) dT) <|
   YG ZW (.string s) (.string p)<|YN (Z8 m) (by rw[<- hm]; kernel_rfl) ?_
  refine QN (by kernel_rfl) (some 14) rfl 9 (.tmp 11) (.tmp 13) rfl (.string s) (Z8 m) (.string u) (by kernel_rfl) (by kernel_rfl) hx ?_;refine ZV (.string p)<|YC (.bool tb) (Ud rfl u p ht)<|ZG (.bool tb) (.bool tb)<|wn ?_;simp only[pu];go_wp2_with fail;go_ret;exact⟨rfl,rfl⟩
 ·rw[decide_eq_false hc,Bool.false_and];clear HX;go_enter Tryz.func155,Tryz.ntmps155;go_upto_region 1 with fail;refine wl<|ZV (.string s)<|YN (Z8 n) (by rw[<- hn]; kernel_rfl)<|ZV (.string p)<|YN (Z8 m) (by rw[<- hm]; kernel_rfl)<|ZN (U8 rfl (n) (m) dF) <|
   Zc ZY undef undef undef undef undef<|YG undef ZY ZY<|wn ?_
  simp only[pu];go_wp2_with fail;go_ret;exact⟨rfl,rfl⟩
theorem nS (s p:ByteArray)(w:World)(h1:s.size<=140737488355328)(h2:p.size<=140737488355328):Calls Tryz.prog 146 #[.string s,.string p] w fun e w'=>e=.returned (.bool (hpr s p))/\w=w':=by
 have CL:=ak3 s p w h1 h2;generalize hpr s p=tb at *
 go_enter Tryz.func146,Tryz.ntmps146;go_upto_region 1 with fail;refine wl<|ZG (.string s) (.string p)<|YW (.bool tb) (fun w'=>w=w') (CL) (fun V9 XC=>?_);subst XC;refine ZV (.bool tb)<|wn ?_;simp only[pu];go_wp2_with fail;go_ret;exact⟨rfl,rfl⟩
def Af:ByteArray:=⟨#[239,191,189]⟩
theorem take3 (L:List Int)(i:Nat)(h:i+3<=L.length):(L.drop i).take 3=[L.getD i 0,L.getD (i+1) 0,L.getD (i+2) 0]:=by
 rw[List.drop_eq_getElem_cons (by omega),List.take_succ_cons,List.drop_eq_getElem_cons (by omega),List.take_succ_cons,List.drop_eq_getElem_cons (by omega),List.take_succ_cons,List.take_zero];simp[List.getD_eq_getElem?_getD,List.getElem?_eq_getElem (show i<L.length by omega),List.getElem?_eq_getElem (show i+1<L.length by omega),List.getElem?_eq_getElem (show i+2<L.length by omega)]
theorem xH (s:ByteArray)(i:Nat)(hi:i<=s.size):hpr (s.extract i s.size) Af=decide (i+3<=s.size/\(nums s).getD i 0=239/\(nums s).getD (i+1) 0=191/\(nums s).getD (i+2) 0=189):=by
 have e1:(s.extract i s.size).size=s.size-i:=by rw[<- Zi,Oq,List.length_take,List.length_drop,Zi]; omega
 have e2:Af.size=3:=rfl;have e3:nums Af=[239,191,189]:=by decide +kernel
 unfold hpr;rw[e1,e2,Ee,e3,Oq,Oq,List.drop_zero];by_cases h:i+3<=s.size
 ·rw[decide_eq_true (show 3<=s.size-i by omega),Bool.true_and];have e4:((((nums s).drop i).take (s.size-i)).take (3-0))=[(nums s).getD i 0,(nums s).getD (i+1) 0,(nums s).getD (i+2) 0]:=by
   rw[List.take_take,show min (3-0) (s.size-i)=3 by omega];exact take3 _ _ (by rw[Zi]; exact h)
  rw[e4,decide_eq_decide];simp[h]
 ·rw[decide_eq_false (show ¬ 3<=s.size-i by omega),Bool.false_and,eq_comm];exact decide_eq_false (fun q=>h q.1)
theorem getD_byte (s:ByteArray)(j:Nat):0<=(nums s).getD j 0/\(nums s).getD j 0<256:=by
 rw[Uu];have:=(s.get! j).toNat_lt;omega
theorem fZ (s:ByteArray)(i:Nat)(hi:i<s.size)(hk:runK (nums s) i≠0)(hv:Gq (nums s) i=65533):hpr (s.extract i s.size) Af=true:=by
 rw[xH s i (by omega)];have h3:=nR (getD_byte s) hk hv;have hl:=Gp (L:=nums s) (i:=i) (by rw[Zi]; exact hi);rw[h3,Zi] at hl;have h0:=getD_byte s i;have h1:=getD_byte s (i+1);have h2:=getD_byte s (i+2);have hr:=h3;unfold runK runN at hr;unfold Gq at hv;rw[h3] at hv;have e:((nums s).getD i 0-224)*4096+((nums s).getD (i+1) 0-128)*64+((nums s).getD (i+2) 0-128)=65533:=hv;refine decide_eq_true ⟨hl,?_⟩;have f1:LQ (nums s) (i+1)=true/\LQ (nums s) (i+2)=true:=by
  split at hr
  ·omega
  split at hr
  ·omega
  split at hr
  ·rename_i q
   exact⟨q.1.2,q.2⟩
  split at hr
  ·split at hr <;> omega
  ·omega
 have g1:=WV f1.1;have g2:=WV f1.2;omega
theorem ak4 (s:ByteArray)(i:Nat)(hi:i<s.size)(hk:runK (nums s) i=0):hpr (s.extract i s.size) Af=false:=by
 rw[xH s i (by omega)];refine decide_eq_false fun⟨hl,e0,e1,e2⟩=>?_;have f1:LQ (nums s) (i+1)=true:=by
  unfold LQ;rw[e1,Zi,decide_eq_true (show i+1<s.size by omega)];rfl
 have f2:LQ (nums s) (i+2)=true:=by
  unfold LQ;rw[e2,Zi,decide_eq_true (show i+2<s.size by omega)];rfl
 unfold runK runN at hk;rw[e0,e1,f1,f2] at hk;simp at hk
theorem Gn (w:World)(s:ByteArray)(pos:Nat)(ty:TypeId)(h:pos<s.size) :
  (Instr.next (Z5 w.heap.size 0) true ty).run Tryz.prog (w.iter s pos) =
   .ok (.tuple #[ZW,Z8 pos,.int .i32 (Utf8.decode s pos).1]) (w.iter s (pos+(Utf8.decode s pos).2)):=by
 simp only[Instr.next,getObj,setObj,Sem.run_bind,Sem.run,World.iter_heap,Result.andThen,h,if_true,World.iter_set];simp[goInt,Sem.run,World.iter_heap,World.iter_set]
theorem fV {ρ:Operand->Value}{o:Oper}{x:Operand}(ho:o.op=.next x true)(w:World)(s:ByteArray)(pos:Nat)(h:pos<s.size)(hx:ρ x=Z5 w.heap.size 0) :
  (execOp ρ o).run Tryz.prog (w.iter s pos)=.ok (.value (.tuple #[ZW,Z8 pos,.int .i32 (Utf8.decode s pos).1])) (w.iter s (pos+(Utf8.decode s pos).2)):=by
 unfold execOp;simp only[ho,hx,Sem.run_bind,Gn w s pos _ h];rfl
theorem fU {ρ:Operand->Value}{o:Oper}{x:Operand}(ho:o.op=.next x true)(w:World)(s:ByteArray)(pos:Nat)(h:¬ pos<s.size)(hx:ρ x=Z5 w.heap.size 0) :
  (execOp ρ o).run Tryz.prog (w.iter s pos)=.ok (.value (.tuple #[ZY])) (w.iter s pos):=by
 unfold execOp;simp only[ho,hx,Sem.run_bind,run_next_end w s pos _ h];rfl
theorem nP {ρ:Operand->Value}{o:Oper}{x:Operand}(ho:o.op=.range 9 x)(w:World)(s:ByteArray)(hx:ρ x=.string s) :
  (execOp ρ o).run Tryz.prog w=.ok (.value (Z5 w.heap.size 0)) (w.iter s 0):=by
 unfold execOp;simp only[ho,hx,Sem.run_bind,run_range_string w _ s Tryz.underlying9];rfl
theorem nO {ρ:Operand->Value}{o:Oper}{x y:Operand}(ho:o.op=.binOp .eql 21 x y 21)(a b:Int){t:Bool}(ht:decide (a=b)=t)(hx:ρ x=.int .i32 a)(hy:ρ y=.int .i32 b)(w:World):(execOp ρ o).run Tryz.prog w=.ok (.value (.bool t)) w:=by
 have e:(a == b)=t:=ht;unfold execOp;simp only[ho,hx,hy];go_simp
theorem nN {L:List Int}{i m:Nat}(h:Ran L i m)(hm:64<m):X8 L=false:=by
 unfold X8 Ran at *
 rw[h];cases runs L i with
 | none=>rfl
 | some k=>
  show decide (k+m<=64)=false;exact decide_eq_false (by omega)
theorem nM {L:List Int}(h:runs L 0=none):X8 L=false:=by unfold X8; rw[h]
theorem LV {L:List Int}{m:Nat}(h:runs L 0=some m)(hm:m<=64):X8 L=true:=by unfold X8; rw[h]; exact decide_eq_true hm
theorem Ae (w:World)(s:ByteArray)(i:Nat):Below w.heap.size w (w.iter s i):=(Below.refl _ w).alloc (Nat.le_refl _) _
theorem ext_size (s:ByteArray)(i:Nat):(s.extract i s.size).size=s.size-i:=by rw[<- Zi,Oq,List.length_take,List.length_drop,Zi]; omega
theorem nV (s:ByteArray)(w:World)(hl:s.size<=140737488355328):Calls Tryz.prog 133 #[.string s] w fun e w'=>e=.returned (.bool (X8 (nums s)))/\Below w.heap.size w w':=by
 have OW:=Z9 (fun(ρ:Operand->Value) (o:Oper) (x:Operand) ho hx=>nP (ρ:=ρ) (o:=o) (x:=x) ho w s hx);have HOV:=Z9 (fun(ρ:Operand->Value) (o:Oper) (x:Operand) ho i h hx=>fU (ρ:=ρ) (o:=o) (x:=x) ho w s i h hx);have HNX:=Z9 (fun(ρ:Operand->Value) (o:Oper) (x:Operand) ho i h hx=>fV (ρ:=ρ) (o:=o) (x:=x) ho w s i h hx);have HDC:=Z9 (fQ s);have Gm:=Z9 (fZ s);have Ad:=Z9 (ak4 s);have HCP:=Z9 (fun i V=>nS (s.extract i s.size) Af V (by rw[ext_size]; omega) (by decide));have HSF:=Z9 (fun i (h:i<=s.size) V=>nU s i h V);have HL:=Z9 (Zi s);have HB:=Z9 (Ae w s);obtain⟨L,hL⟩:=ZR (nums s);rw[hL] at HDC Gm Ad HL ⊢;have HR0:=Z9 (Ran.zero L);obtain⟨r,hr⟩:=ZR (X8 L);have rM:=Z9 hr;rw[hr];clear hL hr;obtain⟨n,hn⟩:=ZR s.size;have HN:=Z9 hn;rw[hn] at hl Gm Ad HL HOV HNX HCP HSF;obtain⟨WI,hWI⟩:∃ WI:Nat->World,(fun i=>w.iter s i)=WI:=⟨_,rfl⟩;have HWI:∀ i,w.iter s i=WI i:=fun i=>congrFun hWI i;simp only[HWI] at OW HOV HNX HB;obtain⟨q,hq⟩:=ZR w.heap.size;have HQ:=Z9 hq;rw[hq] at OW HOV HNX;clear hq hn hWI HWI;go_enter Tryz.func133,Tryz.ntmps133;go_upto_region 1 with fail;refine wl<|ZV (Z8 0)<|wn ?_;simp only[pu];go_upto_region 2 with fail;refine wl<|ZV (.string s) ?_;refine QM (by kernel_rfl) (some 7) rfl (Z5 q 0) (WI 0) (OW.out _ _ _ rfl (by kernel_rfl)) ?_;simp only[pu];apply wpList_nil;clear OW;go_wp2_with fail;go_loopg [3] n (fun gg s3 wx=>∃ i m:Nat,s3=Z8 m/\i<=n/\m<=64/\Hid (Ran L i m)/\wx=WI i/\n-i<=gg)
 case atStart=>exact⟨0,0,rfl,by omega,by omega,HR0,rfl,by omega⟩
 case round=>
  obtain⟨i,m,rfl,hi,hm,HM,rfl,hg⟩:=hrel;clear HR0;by_cases hlt:i<n
  ·have hk4:=Gl L i;have hkl:=Gp (L:=L) (i:=i) (by rw[HL.out]; omega);have HST:=Z9 (HM.out.step (by rw[HL.out]; omega));have AA:=Z9 (HM.out.bad (by rw[HL.out]; omega));rw[HL.out] at hkl;have hdc:=HDC.out i;have hys:=Gm.out i hlt;have hno:=Ad.out i hlt;have hcp:=HCP.out i;have hsf:=HSF.out i hi;have hnx:=fun ρ o x ho hx=>HNX.out ρ o x ho i hlt hx;obtain⟨d1,hd1⟩:∃ d1:Int,((Utf8.decode s i).1:Int)=d1:=⟨_,rfl⟩;rw[hd1] at hdc hnx;generalize (Utf8.decode s i).2=d2 at *
   generalize runK L i=k at *
   generalize Gq L i=v at *
   generalize hpr (s.extract i n) Af=hb at *
   generalize s.extract i n=u at *
   clear HM HDC Gm Ad HCP HSF HNX HOV hd1;obtain⟨nK,D7⟩:=hdc;go_upto_region 3 with fail;by_cases hk:k=0
   ·rw[if_pos hk] at D7 nK;have HHB:=hno hk;have HE:Hid (r=false):=Z9 (by rw[<- rM.out]; exact nM (AA.out hk));have HB2:=Z9 (HB.out (i+d2));clear hys hno HST AA rM HB hk hkl hk4 nK hg;apply wp_region_lit;refine QM (by kernel_rfl) (some 8) rfl (.tuple #[ZW,Z8 i,.int .i32 d1]) (WI (i+d2)) (hnx _ _ _ rfl (by kernel_rfl)) ?_;refine ZV ZW<|wn ?_;simp only[pu];clear hnx;go_upto_region 4 with fail;refine wl<|WM (Z8 i) (.int .i32 d1) (Z8 i) (.int .i32 d1)<|wn ?_;simp only[pu];have CP:=hcp (WI (i+d2));rw[HHB] at CP;clear hcp HHB;go_upto_region 5 with fail;refine wl<|ZV (.int .i32 d1)<|ZN (nO rfl (d1) (65533) (decide_eq_true (D7)))<|YG ZW (.string s) (Z8 i) ?_;refine Np (by kernel_rfl) (some 17) rfl 9 (.tmp 15) (.tmp 16) rfl (.string s) (Z8 i) (.string u) (by kernel_rfl) (by kernel_rfl) (hsf _) ?_;refine YW ZY (fun w'=>WI (i+d2)=w') (CP) (fun V9 XC=>?_);subst XC;refine ZG ZW ZW<|wn ?_;simp only[pu];clear CP hsf;go_upto_region 6 with fail;refine wl<|ZV ZY<|wn ?_;simp only[pu];go_wp2_with fail;go_ret;rw[HE.out];exact⟨rfl,HB2.out⟩
   ·rw[if_neg hk] at D7 nK;have HS2:=Z9 (HST.out hk);have Bv:Hid (64<m+1->r=false):=Z9 fun h=>(by rw[<- rM.out]; exact nN HS2.out h);have HB2:=Z9 (HB.out (i+d2));have HG:Hid (0<k/\i+k<=n/\i<n/\n-i<=gk/\d2=k):=Z9 ⟨by omega,hkl,hlt,hg,nK⟩;clear hno HST AA hkl hk4 nK hg;apply wp_region_lit;refine QM (by kernel_rfl) (some 8) rfl (.tuple #[ZW,Z8 i,.int .i32 d1]) (WI (i+d2)) (hnx _ _ _ rfl (by kernel_rfl)) ?_;refine ZV ZW<|wn ?_;simp only[pu];clear hnx;go_upto_region 4 with fail;refine wl<|WM (Z8 i) (.int .i32 d1) (Z8 i) (.int .i32 d1)<|wn ?_;simp only[pu];go_upto_region 5 with fail;by_cases hv:v=65533
    ·have HHB:=hys hk hv;rw[hv] at D7;have CP:=hcp (WI (i+d2));rw[HHB] at CP;clear hcp HHB hys hv hk;refine wl<|ZV (.int .i32 d1)<|ZN (nO rfl (d1) (65533) (decide_eq_true (D7)))<|YG ZW (.string s) (Z8 i) ?_;refine Np (by kernel_rfl) (some 17) rfl 9 (.tmp 15) (.tmp 16) rfl (.string s) (Z8 i) (.string u) (by kernel_rfl) (by kernel_rfl) (hsf _) ?_;refine YW ZW (fun w'=>WI (i+d2)=w') (CP) (fun V9 XC=>?_);subst XC;refine ZG ZY ZY<|wn ?_;simp only[pu];clear CP hsf D7;have HD2:=Z9 HG.out.2.2.2.2;go_upto_region 7 with fail;refine wl<|ZV (Z8 m)<|YC (Z8 (m+1:Nat)) (ZH rfl m 1 (by omega))<|ZV (Z8 (m+1:Nat))<|wn ?_;simp only[pu];go_upto_region 8 with fail;by_cases hm2:64<m+1
     ·have HE:=Z9 (Bv.out hm2);clear Bv rM HB;refine wl<|ZV (Z8 (m+1:Nat))<|ZN (Zo rfl ((m+1:Nat)) (64) dT)<|wn ?_;simp only[pu];go_upto_region 9 with fail;refine wl<|ZV ZY<|wn ?_;simp only[pu];go_wp2_with fail;go_ret;rw[HE.out];exact⟨rfl,HB2.out⟩
     ·clear Bv;refine wl<|ZV (Z8 (m+1:Nat))<|ZN (Zo rfl ((m+1:Nat)) (64) dF)<|wn ?_;simp only[pu];go_wp2_with fail;go_roundg (n-(i+k))
      case measure=>have:=HG.out; omega
      case rel=>exact⟨i+k,m+1,rfl,HG.out.2.1,by omega,HS2,by rw[HD2.out],Nat.le_refl _⟩
    ·have aA9:¬ d1=65533:=(by rw[D7]; exact hv);clear hcp hys D7 hsf hv hk;refine wl<|ZV (.int .i32 d1)<|ZN (nO rfl (d1) (65533) (decide_eq_false (aA9)))<|Zc ZY undef undef undef undef undef<|ZV ZY<|wn ?_;simp only[pu];clear aA9;have HD2:=Z9 HG.out.2.2.2.2;go_upto_region 7 with fail;refine wl<|ZV (Z8 m)<|YC (Z8 (m+1:Nat)) (ZH rfl m 1 (by omega))<|ZV (Z8 (m+1:Nat))<|wn ?_;simp only[pu];go_upto_region 8 with fail;by_cases hm2:64<m+1
     ·have HE:=Z9 (Bv.out hm2);clear Bv rM HB;refine wl<|ZV (Z8 (m+1:Nat))<|ZN (Zo rfl ((m+1:Nat)) (64) dT)<|wn ?_;simp only[pu];go_upto_region 9 with fail;refine wl<|ZV ZY<|wn ?_;simp only[pu];go_wp2_with fail;go_ret;rw[HE.out];exact⟨rfl,HB2.out⟩
     ·clear Bv;refine wl<|ZV (Z8 (m+1:Nat))<|ZN (Zo rfl ((m+1:Nat)) (64) dF)<|wn ?_;simp only[pu];go_wp2_with fail;go_roundg (n-(i+k))
      case measure=>have:=HG.out; omega
      case rel=>exact⟨i+k,m+1,rfl,HG.out.2.1,by omega,HS2,by rw[HD2.out],Nat.le_refl _⟩
  ·have HE:Hid (r=true):=Z9 (by rw[<- rM.out]; exact LV (HM.out.done (by rw[HL.out]; omega)) hm);have HB2:=Z9 (HB.out i);have hov:=fun ρ o x ho hx=>HOV.out ρ o x ho i hlt hx;clear HM rM HB hg HOV HNX HDC Gm Ad HCP HSF;go_upto_region 3 with fail;refine wl<|YN (.tuple #[ZY]) (hov _ _ _ rfl (by kernel_rfl))<|ZV ZY<|wn ?_;simp only[pu];go_upto_region 10 with fail;refine wl<|ZV ZW<|wn ?_;simp only[pu];go_wp2_with fail;go_ret;rw[HE.out];exact⟨rfl,HB2.out⟩
end Go.Proofs.YtfpnnmeblefkkaaGreatDoor
