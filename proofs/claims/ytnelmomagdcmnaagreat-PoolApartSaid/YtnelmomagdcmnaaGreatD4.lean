/-
  Texts joined.
-/
import Derived.Test.YtnelmomagdcmnaaGreatD3
import Derived.StillTail
set_option maxRecDepth 100000
set_option maxHeartbeats 8000000
set_option linter.unusedSimpArgs false
set_option linter.unusedVariables false
namespace Go.Proofs.YtnelmomagdcmnaaGreat
structure El where
  n:Int
  h:Int×Int
  e:En
def eL (L:List El):List En:=L.map El.e
def itO (x:El):Hp.It:=(x.n,x.e.pri,x.e.od)
def iP (x:El):Sd.Rw:=(x.e.snd,x.e.sq,x.n)
def Ox (x:El):Ex.Wt:=(x.n,x.e.ht,x.e.tm)
theorem SQ (L:List El):(eL L).length=L.length:=List.length_map ..
theorem Ot (A B:List El):eL (A++B)=eL A++eL B:=List.map_append
def Ve (k:Nat->Int)(L:List El):Option El:=L.find? fun x=>keq x.e.k k
def Oq (n:Int)(L:List El):Option El:=L.find? fun x=>decide (x.n=n)
section store
variable {m : Sm} {u : Nat} {e : En} {p q : Int × Int}
theorem Ob (h:Wm m u)(hc:YO m.P<m.mo)(e:En):Xw (Xh m e).P=Xw m.P+e.raw.length:=by
  rcases XZ m with h0 | ⟨h0,⟨F,i,hF⟩ | hF⟩
  · omega
  · rw[(Xv e h0 hF).1];have hi:=h.fr i (by rw[hF]; simp);have hs:=Oa m.P i ⟨true,(m.P.getD i Yp).us+1,e⟩ hi.1;rw[hi.2] at hs;simpa [pb] using hs
  · rw[(X7 e h0 hF).1];show Xw (m.P++_)=_;rw[N7]; simp[Xw]
theorem FK {i:Nat}(hi:q.1=i)(hl:i<m.P.length)(hf:(m.P.getD i Yp).full=true)(hu:((m.P.getD i Yp).us:Int)-1=q.2):Xl m q=true:=by
  unfold Xl;rw[hi,Int.toNat_natCast,hf,hu,decide_eq_true (by omega),decide_eq_true (by omega)];simp
theorem MC (h:Wm m u)(e:En)(hv:Xl m q=true):Xl (Xh m e) q=true/\SH (Xh m e) q=SH m q:=by
  obtain⟨i,hi,hil,hf,hu⟩:=NZ hv;have key:∀ m2:Sm,i<m2.P.length->m2.P.getD i Yp=m.P.getD i Yp->Xl m2 q=true/\SH m2 q=SH m q:=fun m2 h1 h2=>by
    have h3:Xl m2 q=true:=FK hi h1 (by rw[h2]; exact hf) (by rw[h2]; exact hu);exact⟨h3,by rw[Rt h3 hi,Rt hv hi,h2]⟩
  rcases XZ m with h0 | ⟨h0,⟨F,j,hF⟩ | hF⟩
  · rw[(U8 e h0).1]; exact⟨hv,rfl⟩
  · rw[(Xv e h0 hF).1];have hj:=h.fr j (by rw[hF]; simp);have hij:j≠i:=fun e2=>(by rw[e2,hf] at hj; exact absurd hj.2 (by decide));exact key _ (by show i<(m.P.set _ _).length; rw[List.length_set]; exact hil) (Wv _ _ _ _ _ hij)
  · rw[(X7 e h0 hF).1];exact key _ (by show i<(m.P++_).length; rw[List.length_append]; omega) (XY _ _ _ _ hil)
theorem MB (h:Wm m u)(hc:YO m.P<m.mo)(e:En):Xl (Xh m e) (Yx m)=true/\SH (Xh m e) (Yx m)=e:=by
  have key:∀ (m2:Sm) (q:Int×Int) (i:Nat),q.1=i->i<m2.P.length->(m2.P.getD i Yp).full=true->((m2.P.getD i Yp).us:Int)-1=q.2->(m2.P.getD i Yp).e=e->Xl m2 q=true/\SH m2 q=e:=fun m2 q i h1 h2 h3 h4 h5=>by
    have h6:=FK h1 h2 h3 h4;exact⟨h6,by rw[Rt h6 h1]; exact h5⟩
  rcases XZ m with h0 | ⟨h0,⟨F,j,hF⟩ | hF⟩
  · omega
  · obtain⟨e1,e2,-⟩:=Xv e h0 hF;have hj:=h.fr j (by rw[hF]; simp);rw[e1,e2];have hg:=YV m.P j ⟨true,(m.P.getD j Yp).us+1,e⟩ Yp hj.1;refine key _ _ j rfl (by show j<(m.P.set _ _).length; rw[List.length_set]; exact hj.1) ?_ ?_ ?_
    · show((m.P.set j _).getD j Yp).full=true; rw[hg]
    · show(((m.P.set j _).getD j Yp).us:Int)-1=_; rw[hg]; show(((m.P.getD j Yp).us+1:Nat):Int)-1=_; omega
    · show((m.P.set j _).getD j Yp).e=e; rw[hg]
  · obtain⟨e1,e2,-⟩:=X7 e h0 hF;rw[e1,e2];have hg:=Yr m.P ⟨true,1,e⟩ Yp;refine key _ _ m.P.length rfl (by show _<(m.P++_).length; simp) ?_ ?_ ?_
    · show((m.P++_).getD m.P.length Yp).full=true; rw[hg]
    · show(((m.P++_).getD m.P.length Yp).us:Int)-1=_; rw[hg]; rfl
    · show((m.P++_).getD m.P.length Yp).e=e; rw[hg]
theorem vk (h:Wm m u)(hc:YO m.P<m.mo)(hv:Xl m q=true):q≠Yx m:=fun e2=>by
  obtain⟨i,hi,hil,hf,hu⟩:=NZ hv;rcases XZ m with h0 | ⟨h0,⟨F,j,hF⟩ | hF⟩
  · omega
  · have h2:=(Xv Zf h0 hF).2.1;have hj:=h.fr j (by rw[hF]; simp);rw[e2,h2] at hi;have hi:(j:Int)=(i:Int):=hi;have hij:j=i:=(by omega);rw[hij,hf] at hj;exact absurd hj.2 (by decide)
  · have h2:=(X7 Zf h0 hF).2.1;rw[e2,h2] at hi;have hi:(m.P.length:Int)=(i:Int):=hi;omega
end store
structure uZ (m:Sm)(L:List El):Prop where
  v:∀ x∈L,Xl m x.h=true/\SH m x.h=x.e
  nd:L.Pairwise fun a b=>a.h≠b.h
  ct:YO m.P=L.length
  sz:Xw m.P=WX (eL L)
theorem uZ.new (n:Int):uZ (newS n) []:=⟨(fun x hx=>nomatch hx),.nil,rfl,rfl⟩
theorem uZ.add {m:Sm}{u:Nat}{L:List El}(h:uZ m L)(hw:Wm m u)(hc:YO m.P<m.mo)(n:Int)(e:En):uZ (Xh m e) (L++[⟨n,Yx m,e⟩]):=by
  refine⟨fun x hx=>?_,List.pairwise_append.2 ⟨h.nd,List.pairwise_singleton _ _,fun a ha b hb=>?_⟩,?_,?_⟩
  · rcases List.mem_append.1 hx with hx | hx
    · obtain⟨h1,h2⟩:=h.v x hx;obtain⟨h3,h4⟩:=MC hw e h1;exact⟨h3,h4.trans h2⟩
    · rw[List.mem_singleton.1 hx]; exact MB hw hc e
  · rw[List.mem_singleton.1 hb]; exact vk hw hc (h.v a ha).1
  · have h1:=(NY hw e).1;have h2:TT m=true:=decide_eq_true hc;rw[h2,if_pos rfl,h.ct] at h1;rw[h1,List.length_append,List.length_singleton]
  · rw[Ob hw hc,h.sz,Ot,NW]; simp[eL,WX]
structure OE (e:En):Prop where
  b:Bv e
  sq:0<=e.sq/\e.sq<=18446744073709551615
  ht:I64 e.ht
  tm:I64 e.tm
  nm:e.snd.size<=1000000
structure PI (c:List Int)(u:Nat)(m:Sm)(M:List Hp.It)(R:List Sd.Rw)(L:List El):Prop where
  num:L.Pairwise fun a b=>a.n<b.n
  lo:∀ x∈L,0<=x.n/\x.n<u
  wp:Wp (c.getD 0 0) (c.getD 1 0) (eL L)
  g:∀ x∈L,OE x.e
  wm:Wm m u
  mo:(m.mo:Int)=c.getD 0 0
  st:uZ m L
  hw:Hp.Wh M
  hp:M.Perm (L.map itO)
  rs:Sd.FI R
  rp:R.Perm (L.map iP)
theorem Hz {R:List Sd.Rw}(h:Sd.FI R){k:Sd.Ky}(hn:Sd.XP R k=false)(id:Int):(Sd.Va R k id).Perm ((k.1,k.2,id)::R):=by
  obtain⟨A,B,h1,hA,hB⟩:=Sd.Xa h k;rcases h1 with rfl | ⟨x,hx,rfl⟩
  · rw[Sd.QM hA hB]; exact List.perm_middle
  · rw[Sd.UR] at hn;have:Sd.XP (x::B) k=true:=(by unfold Sd.XP; simp[hx]);rw[this] at hn;simp at hn
section
variable {c : List Int} {u : Nat} {m : Sm} {M : List Hp.It} {R : List Sd.Rw} {L : List El}
theorem PI.cnt (h:PI c u m M R L):YO m.P=L.length:=h.st.ct
theorem PI.nN (h:PI c u m M R L):Xw m.P=WX (eL L):=h.st.sz
theorem PI.len (h:PI c u m M R L):L.length<=512:=by
  have:=h.wm.len;have:=h.wm.mo;have:=h.st.ct;omega
theorem PI.hlen (h:PI c u m M R L):M.length=L.length:=by rw[h.hp.length_eq,List.length_map]
theorem PI.rlen (h:PI c u m M R L):R.length=L.length:=by rw[h.rp.length_eq,List.length_map]
theorem FH (h:L.Pairwise fun a b=>a.n<b.n):∀ {x y:El},x∈L->y∈L->x.n=y.n->x=y:=by
  induction L with
  | nil=>intro x y hx; cases hx
  | cons z r ih=>
    intro x y hx hy e;have h2:=List.pairwise_cons.1 h;rcases List.mem_cons.1 hx with e1 | hx
    · rcases List.mem_cons.1 hy with e2 | hy
      · exact e1.trans e2.symm
      · have:=h2.1 y hy; rw[e1] at e; omega
    · rcases List.mem_cons.1 hy with e2 | hy
      · have:=h2.1 x hx; rw[e2] at e; omega
      · exact ih h2.2 hx hy e
theorem Oo (h:L.Pairwise fun a b=>a.n<b.n){x:El}(hx:x∈L):Oq x.n L=some x:=by
  unfold Oq;cases hf:L.find? fun y=>decide (y.n=x.n) with
  | none=>exact absurd (decide_eq_true rfl) (List.find?_eq_none.1 hf x hx)
  | some y=>rw[FH h (List.mem_of_find?_eq_some hf) hx (by simpa using List.find?_some hf)]
theorem SI {k:Nat->Int}{x:El}(h:Ve k L=some x):x∈L/\keq x.e.k k=true:=⟨List.mem_of_find?_eq_some h,by simpa using List.find?_some h⟩
theorem Hy {k:Nat->Int}(h:Ve k L=none):∀ x∈L,keq x.e.k k=false:=fun x hx=>by simpa using List.find?_eq_none.1 h x hx
theorem Bz (hw:(eL L).Pairwise fun a b=>keq a.k b.k=false){k:Nat->Int}{x:El}(hx:x∈L)(hk:keq x.e.k k=true):Ve k L=some x:=by
  unfold Ve;induction L with
  | nil=>cases hx
  | cons z r ih=>
    have h2:=List.pairwise_cons.1 (show(z.e::eL r).Pairwise _ from hw);rw[List.find?_cons];rcases List.mem_cons.1 hx with rfl | hx
    · rw[hk]
    · have h3:=h2.1 x.e (List.mem_map.2 ⟨x,hx,rfl⟩);have h4:keq z.e.k k=false:=by
        cases q:keq z.e.k k with
        | false=>rfl
        | true=>rw[O4 q (TP hk)] at h3; cases h3
      rw[h4];exact ih h2.2 hx
theorem Ry {k:Nat->Int}:(Ve k L).isSome=decide (RN k (eL L)<(eL L).length):=by
  cases h:Ve k L with
  | none=>
    have:=Hy h;exact(decide_eq_false (QL.2 fun e he=>by obtain⟨x,hx,rfl⟩:=List.mem_map.1 he; exact this x hx)).symm
  | some x=>
    obtain⟨h1,h2⟩:=SI h;exact(decide_eq_true (J7.2 ⟨x.e,List.mem_map.2 ⟨x,h1,rfl⟩,h2⟩)).symm
theorem Kz (hw:(eL L).Pairwise fun a b=>keq a.k b.k=false){k:Nat->Int}{x:El}(h:Ve k L=some x):∃ A B,L=A++x::B/\RN k (eL L)=A.length/\∀ y∈A++B,keq y.e.k x.e.k=false:=by
  obtain⟨hx,hk⟩:=SI h;obtain⟨A,B,rfl⟩:=List.append_of_mem hx;have hp:=List.pairwise_append.1 (show(eL A++x.e::eL B).Pairwise _ from by simpa [eL] using hw);have hq:=List.pairwise_cons.1 hp.2.1;have h1:∀ y∈A,keq y.e.k x.e.k=false:=fun y hy=>hp.2.2 y.e (List.mem_map.2 ⟨y,hy,rfl⟩) x.e (by simp);have h2:∀ y∈B,keq y.e.k x.e.k=false:=fun y hy=>by rw[QN]; exact hq.1 y.e (List.mem_map.2 ⟨y,hy,rfl⟩)
  refine⟨A,B,rfl,?_,fun y hy=>(List.mem_append.1 hy).elim (h1 y) (h2 y)⟩;have e:(eL (A++x::B)).getD A.length Zf=x.e:=by simp[eL,List.getD_eq_getElem?_getD]
  refine FD (by simp[eL]) (by rw[e]; exact hk) fun j hj=>?_;have e2:(eL (A++x::B)).getD j Zf=(A[j]).e:=by simp[eL,List.getD_eq_getElem?_getD,List.getElem?_append_left hj,List.getElem?_append_left (show j<(A.map El.e).length by simpa using hj),hj]
  rw[e2];have h3:=h1 (A[j]) (List.getElem_mem hj);cases q:keq (A[j]).e.k k with
  | false=>rfl
  | true=>rw[O4 q (TP hk)] at h3; cases h3
theorem PI.J6 (h:PI c u m M R L){k:Int}(hk:∀ x∈L,x.n≠k):Hp.XV k M=false/\Ex.XJ (L.map Ox) k=false:=by
  constructor
  · refine Hp.VG.2 fun y hy=>?_;obtain⟨x,hx,rfl⟩:=List.mem_map.1 (h.hp.mem_iff.1 hy);exact hk x hx
  · cases q:Ex.XJ (L.map Ox) k with
    | false=>rfl
    | true=>
      obtain⟨y,hy,e⟩:=Ex.Ro.1 q;obtain⟨x,hx,rfl⟩:=List.mem_map.1 hy;exact absurd e (hk x hx)
theorem PI.Jb (h:PI c u m M R L)(s:ByteArray)(q:Int):Sd.XP R (s,q)=(eL L).any (MI s q):=by
  have:∀ b:Bool,(Sd.XP R (s,q)=true↔b=true)->Sd.XP R (s,q)=b:=fun b hb=>Bool.eq_iff_iff.2 hb;refine this _ ?_;unfold Sd.XP;rw[List.any_eq_true,List.any_eq_true];constructor
  · rintro⟨y,hy,e⟩;obtain⟨x,hx,rfl⟩:=List.mem_map.1 (h.rp.mem_iff.1 hy);have e:=of_decide_eq_true e;exact⟨x.e,List.mem_map.2 ⟨x,hx,rfl⟩,NV.2 ⟨congrArg Prod.fst e,congrArg Prod.snd e⟩⟩
  · rintro⟨e,he,hs⟩;obtain⟨x,hx,rfl⟩:=List.mem_map.1 he;obtain⟨h1,h2⟩:=NV.1 hs;exact⟨iP x,h.rp.mem_iff.2 (List.mem_map.2 ⟨x,hx,rfl⟩),decide_eq_true (Prod.ext h1 h2)⟩
theorem PI.new (c:List Int)(hmo:((newS (c.getD 0 0)).mo:Int)=c.getD 0 0)(h1:0<=c.getD 1 0)(u:Nat):PI c u (newS (c.getD 0 0)) [] [] []:=
  ⟨.nil,(fun x hx=>nomatch hx),Wp.nil (by omega) h1,(fun x hx=>nomatch hx),Wm.new _ _,hmo,uZ.new _,Hp.Wh.nil,.refl _,.nil,.refl _⟩
theorem PI.ins (h:PI c u m M R L){e:En}(he:OE e)(h0:X6 (c.getD 0 0) (c.getD 1 0) (eL L) e=0):YO m.P<m.mo/\TT m=true /\
    Hp.XV (u:Int) M=false/\Sd.XP R (e.snd,e.sq)=false/\Ex.XJ (L.map Ox) (u:Int)=false/\(∀ x∈L,keq x.e.k e.k=false)/\(∀ x∈L,x.n≠(u:Int)) /\
    Ex.SL (L.map Ox) ((u:Int),e.ht,e.tm)=(L++[(⟨u,Yx m,e⟩:El)]).map Ox /\
    PI c (u+1) (Xh m e) (Hp.Xx M ((u:Int),e.pri,e.od)).1 (Sd.Va R (e.snd,e.sq) (u:Int)) (L++[⟨u,Yx m,e⟩]):=by
  obtain⟨h1,h2,h3,h4⟩:=FC.1 h0;have hc:YO m.P<m.mo:=by have:=h.mo; have:=h.cnt; rw[SQ] at h3; omega
  have hn:∀ x∈L,x.n≠(u:Int):=fun x hx=>by have:=(h.lo x hx).2; omega
  obtain⟨hm,hw⟩:=h.J6 hn;have hr:Sd.XP R (e.snd,e.sq)=false:=by
    rw[h.Jb];cases q:(eL L).any (MI e.snd e.sq) with
    | false=>rfl
    | true=>
      obtain⟨x,hx,q⟩:=List.any_eq_true.1 q;rw[h2 x hx] at q; cases q
  have hwp:Wp (c.getD 0 0) (c.getD 1 0) (eL (L++[⟨u,Yx m,e⟩])):=by
    have:=h.wp.ins e;rw[Ud h0] at this;rw[Ot]; exact this
  refine⟨hc,decide_eq_true hc,hm,hr,hw,fun x hx=>h1 x.e (List.mem_map.2 ⟨x,hx,rfl⟩),hn,?_,?_⟩
  · have h5:=Ex.QM (A:=L.map Ox) (B:=[]) (z:=((u:Int),e.ht,e.tm)) (fun x hx=>by
      obtain⟨y,hy,rfl⟩:=List.mem_map.1 hx;exact(h.lo y hy).2) (fun x hx=>nomatch hx)
    rw[List.append_nil] at h5;rw[h5,List.map_append]; rfl
  · refine⟨List.pairwise_append.2 ⟨h.num,List.pairwise_singleton _ _,fun a ha b hb=>?_⟩,fun x hx=>?_,hwp,fun x hx=>?_,h.wm.add he.b,?_,h.st.add h.wm hc _ e,h.hw.ins _,?_,(Sd.UQ h.rs hr _).Hw,?_⟩
    · rw[List.mem_singleton.1 hb]; exact(h.lo a ha).2
    · rcases List.mem_append.1 hx with hx | hx
      · have:=h.lo x hx; omega
      · rw[List.mem_singleton.1 hx]; show(0:Int)<=(u:Int)/\(u:Int)<((u+1:Nat):Int); omega
    · rcases List.mem_append.1 hx with hx | hx
      · exact h.g x hx
      · rw[List.mem_singleton.1 hx]; exact he
    · rw[(NY h.wm e).2]; exact h.mo
    · rw[List.map_append];exact(Hp.QJ hm).trans ((h.hp.cons _).trans (List.perm_append_comm (l₁:=[itO (⟨u,Yx m,e⟩:El)])))
    · rw[List.map_append];exact(Hz h.rs hr _).trans ((h.rp.cons _).trans (List.perm_append_comm (l₁:=[iP (⟨u,Yx m,e⟩:El)])))
def Yu (L:List El)(n:Int):En:=((Oq n L).map El.e).getD Zf
theorem WB (h:L.Pairwise fun a b=>a.n<b.n){x:El}(hx:x∈L):Yu L x.n=x.e:=by unfold Yu; rw[Oo h hx]; rfl
theorem F6 (h:L.Pairwise fun a b=>a.n<b.n):(L.map El.n).map (Yu L)=eL L:=by
  rw[List.map_map];exact List.map_congr_left fun x hx=>WB h hx
theorem PI.sorted (h:PI c u m M R L):(M.map fun y=>y.1).map (Yu L)=sortL (eL L)/\∀ y∈M,∃ x∈L,x.n=y.1:=by
  refine⟨?_,fun y hy=>?_⟩
  · have h0:(L.map fun x=>(x.e,x.n.toNat)).Pairwise fun a b=>a.2<b.2:=by
      rw[List.pairwise_map];exact(List.Pairwise.and_mem.1 h.num).imp fun {a b} ⟨ha,hb,hab⟩=>by have:=h.lo a ha; have:=h.lo b hb; show a.n.toNat<b.n.toNat; omega
    obtain⟨S,hS,hS1,hS3⟩:=FB h0;rw[List.map_map] at hS1;have hS1:S.map (·.1)=sortL (eL L):=hS1;have hSm:∀ p∈S,∃ x∈L,(x.e,x.n.toNat)=p:=fun p hp=>List.mem_map.1 (hS.mem_iff.1 hp);have hM:M=S.map fun p=>((p.2:Int),p.1.pri,p.1.od):=by
      refine Hp.Fz (h.hp.trans ?_) h.hw.Hw ?_
      · refine List.Perm.trans ?_ (hS.map _).symm;rw[List.map_map];refine .of_eq (List.map_congr_left fun x hx=>?_);have:=h.lo x hx;show(x.n,x.e.pri,x.e.od)=((x.n.toNat:Int),x.e.pri,x.e.od);rw[Int.toNat_of_nonneg this.1]
      · rw[List.pairwise_map];refine hS3.imp fun {a b} hab=>?_;rw[Hp.Ui];unfold R3 at hab;show b.1.pri<a.1.pri∨(a.1.pri=b.1.pri/\(a.1.od<b.1.od∨(a.1.od=b.1.od/\(a.2:Int)<(b.2:Int))));omega
    rw[<- hS1,hM,List.map_map,List.map_map];refine List.map_congr_left fun p hp=>?_;obtain⟨x,hx,rfl⟩:=hSm p hp;show Yu L ((x.n.toNat:Int))=x.e;rw[Int.toNat_of_nonneg (h.lo x hx).1];exact WB h.num hx
  · obtain⟨x,hx,rfl⟩:=List.mem_map.1 (h.hp.mem_iff.1 hy);exact⟨x,hx,rfl⟩
theorem PI.sender (h:PI c u m M R L)(s:ByteArray):(Sd.Xi (Sd.Zy R s)).map (Yu L)=MS s (eL L)/\∀ n∈Sd.Xi (Sd.Zy R s),∃ x∈L,x.n=n:=by
  have hmem:∀ r∈R,∃ x∈L,iP x=r:=fun r hr=>List.mem_map.1 (h.rp.mem_iff.1 hr);refine⟨?_,fun n hn=>?_⟩
  · have e1:(Sd.Xi (Sd.Zy R s)).map (Yu L)=(R.filter fun x=>decide (x.1=s)).map fun r=>Yu L r.2.2:=by
      unfold Sd.Xi Sd.Zy;rw[List.map_map,List.map_map]; rfl
    rw[e1];refine List.Perm.eq_of_pairwise (le:=fun a b:En=>a.sq<b.sq) (fun a b _ _ h1 h2=>by omega) ?_ (Bg h.wp s) ?_
    · rw[List.pairwise_map];have h2:(R.filter fun x=>decide (x.1=s)).Pairwise fun x y=>x.2.1<y.2.1:=by
        have:=Sd.TN h.rs s;unfold Sd.Vt Sd.Zy at this;rw[List.pairwise_map] at this;exact this
      refine(List.Pairwise.and_mem.1 h2).imp fun {a b} ⟨ha,hb,hab⟩=>?_;obtain⟨x,hx,rfl⟩:=hmem a ((List.mem_filter.1 ha).1);obtain⟨y,hy,rfl⟩:=hmem b ((List.mem_filter.1 hb).1);show(Yu L x.n).sq<(Yu L y.n).sq;rw[WB h.num hx,WB h.num hy]; exact hab
    · refine List.Perm.trans ?_ (Me s (eL L)).symm;refine((h.rp.filter _).map _).trans ?_;rw[List.filter_map,List.map_map,show eL L=L.map El.e from rfl,List.filter_map];refine .of_eq ?_;refine List.map_congr_left fun x hx=>?_;exact WB h.num ((List.mem_filter.1 hx).1)
  · obtain⟨p,hp,rfl⟩:=List.mem_map.1 (show n∈(Sd.Zy R s).map _ from hn);obtain⟨r,hr,rfl⟩:=List.mem_map.1 (show p∈(R.filter fun x=>decide (x.1=s)).map _ from hp);obtain⟨x,hx,rfl⟩:=hmem r ((List.mem_filter.1 hr).1);exact⟨x,hx,rfl⟩
theorem Bf {E:List Sd.Eo}(hs:Sd.Vt E)(q:Int):(0<(Sd.RI E q).length)↔Sd.Xk E q=true:=by
  obtain⟨h1,h2⟩:=Sd.QI (q:=q) hs;have h3:(Sd.RI E q).length=Sd.VF (E.drop (Sd.Zw E q)) q:=by
    unfold Sd.RI;rw[List.length_map,List.length_take];have:=Sd.NU (E.drop (Sd.Zw E q)) q;omega
  rw[h3];have h4:Sd.Xk E q=Sd.Xk (E.drop (Sd.Zw E q)) q:=by
    have e:E=E.take (Sd.Zw E q)++E.drop (Sd.Zw E q):=(List.take_append_drop ..).symm;have h5:Sd.Xk (E.take (Sd.Zw E q)) q=false:=by
      cases hh:Sd.Xk (E.take (Sd.Zw E q)) q with
      | false=>rfl
      | true=>
        obtain⟨x,hx,e⟩:=List.any_eq_true.1 hh;have:=h1 x hx;have:=of_decide_eq_true e;omega
    conv=>lhs; rw[e]
    show List.any _ _=_;rw[List.any_append];show(Sd.Xk _ q || Sd.Xk _ q)=_;rw[h5,Bool.false_or]
  rw[h4];have h6:Sd.Vt (E.drop (Sd.Zw E q)):=List.Pairwise.sublist (List.drop_sublist ..) hs;generalize E.drop (Sd.Zw E q)=D at *
  cases D with
  | nil=>simp[Sd.VF,Sd.Xk]
  | cons x r=>
    unfold Sd.VF;by_cases hx:x.1=q
    · simp[hx,Sd.Xk]
    · rw[if_neg hx];constructor
      · intro h; omega
      · intro h;obtain⟨y,hy,e⟩:=List.any_eq_true.1 h;have e:=of_decide_eq_true e;have h7:=h2 x (by simp);rcases List.mem_cons.1 hy with rfl | hy
        · exact absurd e hx
        · have:=(List.pairwise_cons.1 h6).1 y hy;omega
theorem PI.run (h:PI c u m M R L)(s:ByteArray)(q:Int):decide (0<(Sd.RI (Sd.Zy R s) q).length)=(eL L).any (MI s q):=by
  rw[<- h.Jb s q,<- Sd.NT (l:=R) (s,q)];have:=Bf (Sd.TN h.rs s) q;cases hh:Sd.Xk (Sd.Zy R s) q with
  | true=>exact decide_eq_true (this.2 hh)
  | false=>exact decide_eq_false fun h0=>by rw[this.1 h0] at hh; cases hh
theorem PI.gone (h:PI c u m M R L)(bl sp ht tm:Int):(Ex.Ua (L.map Ox) bl sp ht tm).map (fun n=>(Yu L n).k)=Pj (fun e=>Ex.Fv bl sp ht tm (0,e.ht,e.tm)) (eL L)/\∀ n∈Ex.Ua (L.map Ox) bl sp ht tm,∃ x∈L,x.n=n:=by
  have e1:Ex.Ua (L.map Ox) bl sp ht tm=(L.filter fun x=>Ex.Fv bl sp ht tm (Ox x)).map El.n:=by
    unfold Ex.Ua;rw[List.filter_map,List.map_map]; rfl
  rw[e1];refine⟨?_,fun n hn=>?_⟩
  · unfold Pj;rw[List.map_map,show eL L=L.map El.e from rfl,List.filter_map,List.map_map];refine List.map_congr_left fun x hx=>?_;show(Yu L x.n).k=x.e.k;rw[WB h.num ((List.mem_filter.1 hx).1)]
  · obtain⟨x,hx,rfl⟩:=List.mem_map.1 hn;exact⟨x,(List.mem_filter.1 hx).1,rfl⟩
end
abbrev xo (a b:Int):Int:=bits .xor .u32 a b
abbrev an (a b:Int):Int:=bits .and .u32 a b
abbrev oo (a b:Int):Int:=bits .or .u32 a b
def plS (a b:Int):Int:=(a+b) % 4294967296
def no (a:Int):Int:=bits .xor .u32 IntKind.u32.max a
def Tn (x:Int)(n:Nat):Int:=oo (x / 2 ^ n) (x*2 ^ (32-n) % 4294967296)
def ks:List Int:=[1116352408,1899447441,3049323471,3921009573,961987163,1508970993,2453635748,2870763221,3624381080,310598401,607225278,1426881987,1925078388,2162078206,2614888103,3248222580,3835390401,4022224774,264347078,604807628,770255983,1249150122,1555081692,1996064986,2554220882,2821834349,2952996808,3210313671,3336571891,3584528711,113926993,338241895,666307205,773529912,1294757372,1396182291,1695183700,1986661051,2177026350,2456956037,2730485921,2820302411,3259730800,3345764771,3516065817,3600352804,4094571909,275423344,430227734,506948616,659060556,883997877,958139571,1322822218,1537002063,1747873779,1955562222,2024104815,2227730452,2361852424,2428436474,2756734187,3204031479,3329325298]
def Lr (a b c d:Int):Int:=oo (oo (oo (a*16777216 % 4294967296) (b*65536 % 4294967296)) (c*256 % 4294967296)) d
def word (b:List Int)(t:Nat):Int:=Lr (b.getD (4*t) 0) (b.getD (4*t+1) 0) (b.getD (4*t+2) 0) (b.getD (4*t+3) 0)
def words (b:List Int):Nat->List Int
  | 0=>[]
  | t+1=>words b t++[word b t]
def follow (W:List Int)(t:Nat):Int:=
  let x:=W.getD (t-15) 0
  let y:=W.getD (t-2) 0
  (xo (xo (Tn y 17) (Tn y 19)) (y / 1024)+W.getD (t-7) 0+xo (xo (Tn x 7) (Tn x 18)) (x / 8)+W.getD (t-16) 0) % 4294967296
def more (W:List Int):Nat->List Int
  | 0=>W
  | n+1=>more W n++[follow (more W n) (16+n)]
def zF (a b c d e f g h k w:Int):List Int:=
  let x:=(h+xo (xo (Tn e 6) (Tn e 11)) (Tn e 25)+xo (an e f) (an (no e) g)+k+w)
  let y:=(xo (xo (Tn a 2) (Tn a 13)) (Tn a 22)+xo (xo (an a b) (an a c)) (an b c))
  [(x+y) % 4294967296,a,b,c,(d+x) % 4294967296,e,f,g]
def iI (s:List Int)(k w:Int):List Int:=zF (s.getD 0 0) (s.getD 1 0) (s.getD 2 0) (s.getD 3 0) (s.getD 4 0) (s.getD 5 0) (s.getD 6 0) (s.getD 7 0) k w
def Qn (W h:List Int):Nat->List Int
  | 0=>h
  | t+1=>iI (Qn W h t) (ks.getD t 0) (W.getD t 0)
def sums (h s:List Int):Nat->List Int
  | 0=>h
  | i+1=>(sums h s i).set i (plS (h.getD i 0) (s.getD i 0))
def blk (h b:List Int):List Int:=sums h (Qn (more (words b 16) 48) h 64) 8
def xG:List Int:=[1779033703,3144134277,1013904242,2773480762,1359893119,2600822924,528734635,1541459225]
def states (m:List Int):Nat->List Int
  | 0=>xG
  | n+1=>blk (states m n) ((m.drop (64*n)).take 64)
def zeros (n:Nat):Nat:=(119-n % 64) % 64
def YZ (bs:Int):List Int:=[bs / 2 ^ 56 % 256,bs / 2 ^ 48 % 256,bs / 2 ^ 40 % 256,bs / 2 ^ 32 % 256,bs / 2 ^ 24 % 256,bs / 2 ^ 16 % 256,bs / 2 ^ 8 % 256,bs / 2 ^ 0 % 256]
def padded (L:List Int):List Int:=L++[128]++List.replicate (zeros L.length) 0++YZ ((L.length:Int)*8 % 18446744073709551616)
def Q9 (h:List Int)(i:Nat):Int:=h.getD (i / 4) 0 / 2 ^ (24-i % 4*8) % 256
def outs (h:List Int):Nat->List Int
  | 0=>[]
  | i+1=>outs h i++[Q9 h i]
def ND (L:List Int):List Int:=outs (states (padded L) ((padded L).length / 64)) 32
theorem UG (b:List Int)(t:Nat):(words b t).length=t:=by
  induction t with
  | zero=>rfl
  | succ t ih=>simp[words,ih]
theorem Lm (W:List Int)(n:Nat):(more W n).length=W.length+n:=by
  induction n with
  | zero=>rfl
  | succ n ih=>simp[more,ih]; omega
theorem Ll (W h:List Int)(hh:h.length=8)(t:Nat):(Qn W h t).length=8:=by
  cases t <;> simp[Qn,iI,zF,hh]
theorem Lj (h s:List Int)(hh:h.length=8)(i:Nat):(sums h s i).length=8:=by
  induction i with
  | zero=>exact hh
  | succ i ih=>simp[sums,ih]
theorem IX (h b:List Int)(hh:h.length=8):(blk h b).length=8:=Lj _ _ hh _
theorem Qo (m:List Int)(n:Nat):(states m n).length=8:=by
  induction n with
  | zero=>rfl
  | succ n ih=>exact IX _ _ ih
theorem Tt (h:List Int)(n:Nat):(outs h n).length=n:=by
  induction n with
  | zero=>rfl
  | succ n ih=>simp[outs,ih]
theorem uo:ks.length=64:=rfl
end Go.Proofs.YtnelmomagdcmnaaGreat
namespace Go.Proofs.YtnelmomagdcmnaaGreat
open Go.RowKit
theorem Ee (x:Int)(n:Nat)(w:World)(hn:1<=n)(h31:n<=31) :
    Calls Tryz.prog 120 #[.int .u32 x,Z9 n] w fun e w'=>e=.returned (.int .u32 (Tn x n))/\w'=w.drew:=by
  go_enter Tryz.func120,Tryz.ntmps120;have e1:Op.shift .shr .u32 x .i64 (n:Int)=(pure (.int .u32 (x / 2 ^ n)):Sem Value):=by
    rw[shift_shr .u32 .i64 x n (by omega) (by simp[IntKind.bits]; omega)]; simp
  have e2:IntKind.i64.wrap (32-(n:Int))=((32-n:Nat):Int):=by rw[IntKind.wrap_i64]; omega
  have e3:Op.shift .shl .u32 x .i64 ((32-n:Nat):Int)=(pure (.int .u32 (IntKind.u32.wrap (x*2 ^ (32-n)))):Sem Value):=by
    rw[shift_shl .u32 .i64 x _ (by omega) (by simp[IntKind.bits]; omega)]; simp
  go_wp2_with fail
  go_region
  go_wp2;go_ret;exact⟨rfl,rfl⟩
abbrev ZF (L:List Int):Array Value:=(L.map (Value.int .u32)).toArray
theorem Py (w:World) :
    Calls Tryz.prog 121 #[] w fun e w'=>e=.returned (.agg (ZF ks))/\w'=w.alloc (.cells (ZF ks) 204):=by
  go_enter Tryz.func121,Tryz.ntmps121;apply wp_seq_k;intro K hK;apply wp_region_lit;refine YP rfl (some 0) rfl (Z7 w.heap.size 0) (w.alloc (.cells (List.replicate 64 (.int .u32 0)).toArray 204)) (by kernel_rfl) ?_;apply wpList_nil;apply hK;apply wp_seq_k;intro K2 hK2;apply wp_region_lit;refine YP rfl (some 1) rfl (.agg (ZF ks)) (w.alloc (.cells (List.replicate 64 (.int .u32 0)).toArray 204)) (by kernel_rfl) ?_;apply Yg (w:=w) (ty:=204) (x:=.tmp 0) (y:=.tmp 1) (c:=(List.replicate 64 (.int .u32 0)).toArray) (c':=ZF ks)
  case hgd=>rfl
  case ho=>rfl
  case hx=>rfl
  case hy=>rfl
  case hi=>kernel_rfl
  case hz=>kernel_rfl
  case h1=>kernel_rfl
  apply wpList_nil;apply hK2;apply wp_ret;have hrow:=heap_alloc_last w (.cells (ZF ks) 204);refine bodyPost_ret (v:=.agg (ZF ks)) ?_ rfl ⟨rfl,rfl⟩
  · refine results_cell_row (fn:=Tryz.f121) (p:=0) (ty:=204) rfl _ _ w.heap.size 204 (ZF ks) (0,0) (.array 64 175) ?_ hrow ?_ ?_ ?_
    · rfl
    · kernel_rfl
    · rfl
    · kernel_rfl
end Go.Proofs.YtnelmomagdcmnaaGreat
namespace Go.Proofs.YtnelmomagdcmnaaGreat
variable {P : Program} {ops : Array Oper} {md : Region.Mode} {C : World -> Prop}
def Lh (P:Program)(md:Region.Mode)(ops:Array Oper)(C:World->Prop)(n:Nat)(L:Array Bool->Act->Prop):Nat->Array Bool->Act->Prop
 | 0,listed,a=>L listed a
 | f+1,listed,a=>Region.ready md ops listed≠[]/\∀ i∈Region.ready md ops listed,i<n/\qOp P ops C i (Lh P md ops C n L f (listed.setIfInBounds i true)) a
theorem U0 {n g:Nat}{L:Array Bool->Act->Prop}{Q':Exit->Act->World->Prop}(hL:∀ listed a w,C w->L listed a->wpAny P md ops Q' g listed a w) :
  ∀ (f:Nat) (listed:Array Bool) (a:Act) (w:World),C w->Lh P md ops C n L f listed a->wpAny P md ops Q' (f+g) listed a w:=by
 intro f;induction f with
 | zero=>intro listed a w hw h; rw[Nat.zero_add]; exact hL _ _ _ hw h
 | succ f ih=>
  intro listed a w hw h;rw[show f+1+g=(f+g)+1 by omega];exact⟨fun h0=>absurd h0 h.1,fun i hi=>wpOp_of_qOp hw (fun a' w' hw' h'=>ih _ a' w' hw' h') (h.2 i hi).2⟩
theorem Le {n i:Nat}{oi:Oper}{v:Value}{L:Array Bool->Act->Prop}(hi:ops[i]?=some oi)(hsel:∀ (j:Nat) (o:Oper) cs b,ops[j]?=some o->o.op≠.select cs b)
  (hs:Region.sinkB md ops n=true) (hc:Region.chainB md ops n=true) (hn:n<ops.size) (hin:i<n)
  (hdone:∀ listed a,L listed a->∀ j∈Region.ready md ops listed,n<=j) :
  ∀ (f:Nat) (listed:Array Bool) (a:Act),HeadInv md ops n listed ->
   (∀ j oj,ops[j]?=some oj->j≠i->listed.getD j true=false->(∀ e∈oj.after,Region.binds md e=true->e.on≠i)->oi.apart ops oj=true) ->
   i∈Region.ready md ops listed->YieldsIn P ops C oi v a ->
   Lh P md ops C n L f (listed.setIfInBounds i true) (a.put oi.dst v)->Lh P md ops C n L (f+1) listed a:=by
 intro f;induction f with
 | zero=>
  intro listed a inv _ hr hy H;have hlt:∀ j∈Region.ready md ops listed,j<n:=fun j hj=>Nat.lt_of_not_le fun h=>tail_waits hs hc hn inv _ i rfl hin (mem_ready.1 hr).1 j h hj;refine⟨List.ne_nil_of_mem hr,fun j hj=>⟨hlt j hj,?_⟩⟩;by_cases hji:j=i
  ·subst hji; exact hy.qOp hi H
  ·have:=hdone _ _ H j (ready_mono hj hji);have:=hlt j hj;omega
 | succ f ih=>
  intro listed a inv hfree hr hy H;have hun:=(mem_ready.1 hr).1;have hlt:∀ j∈Region.ready md ops listed,j<n:=fun j hj=>Nat.lt_of_not_le fun h=>tail_waits hs hc hn inv _ i rfl hin hun j h hj;refine⟨List.ne_nil_of_mem hr,fun j hj=>⟨hlt j hj,?_⟩⟩;by_cases hji:j=i
  ·subst hji; exact hy.qOp hi H
  ·obtain⟨hjun,oj,hoj,hall⟩:=mem_ready.1 hj;have hnot:∀ e∈oj.after,Region.binds md e=true->e.on≠i:=fun e he hb heq=>by
    have h1:=hall e he hb;rw[heq,getD_both hun] at h1;cases h1
   have h2:=qOp_put hoj (hfree j oj hoj hji hjun hnot) (fun cs b=>hsel i oi cs b hi) (fun cs b=>hsel j oj cs b hoj) hy (H.2 j (ready_mono hj hji)).2;refine qOp_mono (fun a' h3=>ih (listed.setIfInBounds j true) a' (inv.set hj (hlt j hj)) (fun k ok hk hki hu hno=>?_) (ready_mono hr (Ne.symm hji)) h3.1 ?_) h2
   ·refine hfree k ok hk hki ?_ hno;by_cases hjk:j=k
    ·subst hjk; exact hjun
    ·rw[getD_set_ne true hjk] at hu; exact hu
   ·rw[Array.setIfInBounds_comm _ _ hji];exact h3.2
theorem OQ {n g:Nat}{Lq:Act->Prop}(hsel:Region.noSelect ops=true)(hs:Region.sinkB md ops n=true)(hc:Region.chainB md ops n=true)(hn:n<ops.size) :
  ∀ (l:List Oper) (k:Nat) (listed:Array Bool) (a:Act),(∀ j,j<l.length->l[j]?=ops[k+j]?)->k+l.length=n->HeadInv md ops n listed ->
  Region.lexHead md ops g l.length k listed=true->wpQuiet P ops C Lq l a ->
  Lh P md ops C n (fun listed' a'=>Region.seqB md ops g n listed'=true/\Lq a') l.length listed a:=by
 intro l;induction l with
 | nil=>
  intro k listed a _ hk _ hB h;obtain rfl:k=n:=by simpa using hk
  exact⟨by simpa [Region.lexHead] using hB,h⟩
 | cons o l ih=>
  intro k listed a hl hk inv hB h;have h0:ops[k]?=some o:=by simpa using(hl 0 (by simp)).symm
  simp only[List.length_cons] at hk;simp only[List.length_cons,Region.lexHead,Bool.and_eq_true] at hB;obtain⟨⟨hr,hf⟩,hB'⟩:=hB;have hr':k∈Region.ready md ops listed:=by simpa using hr
  have hst:qOp P ops C k (wpQuiet P ops C Lq l) a:=by unfold qOp; simp only[h0]; exact h
  obtain⟨v,hy,hK⟩:=yieldsIn_of_qOp h0 hst;exact Le h0 (Region.noSelect_spec hsel) hs hc hn (by omega) (fun listed' a' hL=>seqB_ready hL.1) l.length listed a inv (Region.free_spec h0 hf) hr' hy
   (ih (k+1) _ _ (fun j hj=>by have:=hl (j+1) (by simp; omega); simpa [Nat.add_assoc,Nat.add_comm 1 j] using this) (by omega) (inv.set hr' (by omega)) hB' hK)
theorem U4 {id:Nat}{Q:Exit->Act->World->Prop}{a:Act}{w:World}{l:List Oper}(n:Nat)(hm:P.follows .mixedOrders=true)(hB:Region.lexTailB .any l.toArray n=true)
  (h:wpQuiet P l.toArray (fun w'=>∃ m,w'=w.drewN m) (fun a'=>∀ w',(∃ m,w'=w.drewN m)->wpList P l.toArray Q (l.drop n) a' w') (l.take n) a):(Code.region id l.toArray true).wp P Q a w:=by
 simp only[Region.lexTailB,Bool.and_eq_true,decide_eq_true_eq] at hB;obtain⟨⟨⟨⟨hsel,hn⟩,hs⟩,hc⟩,hlex⟩:=hB;have hn':n<l.length:=by simpa using hn
 have htl:(l.take n).length=n:=by simp; omega
 have hdl:(l.drop n).length=l.toArray.size-n:=by simp
 have inv0:HeadInv .any l.toArray n (Array.replicate l.toArray.size false):=
  ⟨by simp,fun j oj _ hl=>(by rw[getD_replicate_false] at hl; cases hl),fun t _ ht=>getD_in (by simpa using ht) (getD_replicate_false _ _)⟩
 have H:=OQ (md:=.any) (g:=l.toArray.size-n) hsel hs hc hn (l.take n) 0 _ a (fun j hj=>by
  have hj':j<n:=by rw[htl] at hj; exact hj
  simp[hj']) (by simpa using htl) inv0 (by rw[htl]; exact hlex) h
 refine wp_region_any hm ?_;have:=U0 (Q':=Q) (g:=l.toArray.size-n) (fun listed a' w' hw' hL=>by
  have:=wpAny_of_seq (md:=.any) (Q':=Q) (l.drop n) n listed a' w' (fun j=>by simp[List.getElem?_drop]) (by rw[hdl]; exact hL.1) (hL.2 w' hw');rwa [hdl] at this) _ _ _ { w with drawn:=w.drawn+1 } ⟨1,rfl⟩ H
 rw[htl,show n+(l.toArray.size-n)=l.toArray.size by omega] at this;exact this
end Go.Proofs.YtnelmomagdcmnaaGreat
