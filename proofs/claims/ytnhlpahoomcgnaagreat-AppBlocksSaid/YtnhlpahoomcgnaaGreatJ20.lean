/-
  Texts joined.
-/
import Derived.Test.YtnhlpahoomcgnaaGreatJ19
set_option maxRecDepth 100000
set_option maxHeartbeats 8000000
set_option linter.unusedSimpArgs false
set_option linter.unusedVariables false
namespace Go.Proofs.YtnhlpahoomcgnaaGreat.Lg
open Go.RowKit
open Mo (YU Y9 Ym Yz)
theorem Vt (x:Ac)(r:List Ac)(s:ByteArray):Xt (x::r) s=if x.1=s then x else Xt r s:=by
 unfold Xt Y0;rw[List.findIdx_cons,List.length_cons];by_cases h:x.1=s
 ·rw[if_pos h,decide_eq_true h,cond_true,if_pos (Nat.succ_pos _)]; rfl
 ·rw[if_neg h,decide_eq_false h,cond_false];by_cases h2:r.findIdx (fun x=>decide (x.1=s))<r.length
  ·rw[if_pos h2,if_pos (by omega)]; rfl
  ·rw[if_neg h2,if_neg (by omega)]
theorem D9:∀ (A:List Ac) (i:Nat) (a:Ac),i<A.length->(aca A i).1=a.1->(∀ j,j<i->(aca A j).1≠a.1)->∀ s,Xt (A.set i a) s=if s=a.1 then a else Xt A s
 | [],i,a,h,_,_,_=>absurd h (by simp)
 | x::r,0,a,h,hi,_,s=>by
  have hi2:x.1=a.1:=hi;rw[List.set_cons_zero,Vt,Vt,hi2];by_cases e:s=a.1
  ·rw[if_pos e,if_pos e.symm]
  ·rw[if_neg e,if_neg (fun q=>e q.symm),if_neg (fun q=>e q.symm)]
 | x::r,i+1,a,h,hi,hb,s=>by
  have hx:x.1≠a.1:=hb 0 (by omega);rw[List.set_cons_succ,Vt,Vt,D9 r i a (by simpa using h) hi (fun j hj=>hb (j+1) (by omega)) s];by_cases e:s=a.1
  ·rw[if_pos e,if_pos e,if_neg (fun q=>hx (q.trans e))]
  ·rw[if_neg e,if_neg e]
theorem D8:∀ (X Y:List Ac) (a:Ac),(∀ x,x∈X->x.1≠a.1)->∀ s,Xt (X++a::Y) s=if s=a.1 then a else Xt (X++Y) s
 | [],Y,a,_,s=>by
  rw[List.nil_append,List.nil_append,Vt];by_cases e:s=a.1
  ·rw[if_pos e,if_pos e.symm]
  ·rw[if_neg e,if_neg (fun q=>e q.symm)]
 | x::X,Y,a,h,s=>by
  have hx:x.1≠a.1:=h x List.mem_cons_self;rw[List.cons_append,List.cons_append,Vt,Vt,D8 X Y a (fun y hy=>h y (List.mem_cons_of_mem _ hy)) s];by_cases e:s=a.1
  ·rw[if_pos e,if_pos e,if_neg (fun q=>hx (q.trans e))]
  ·rw[if_neg e,if_neg e]
theorem D7 (A:List Ac)(a:Ac)(s:ByteArray):Xt (Yw A a) s=if s=a.1 then a else Xt A s:=by
 by_cases h:Y0 A a.1<A.length
 ·rw[Wv h];exact D9 A _ a h (Uu h).1 (Uu h).2 s
 ·rw[UM h,D8 _ _ _ (fun x hx=>?_),List.take_append_drop];obtain⟨j,hj,rfl⟩:=List.mem_iff_getElem.1 (List.mem_of_mem_take hx);rw[<- X3 hj];exact O7 h j hj
def Ry (A:List Ac)(s:ByteArray):Int:=(Xt A s).2.2
theorem J7 (A:List Ac)(s:ByteArray):(Zm A s).1.2.2=Ry A s:=by
 unfold Ry Xt Zm
 split <;> rfl
theorem fV (A:List Ac)(x:Tf)(s:ByteArray):Ry (Wp A x) s=Ry A s:=by
 unfold Ry Wp;rw[D7];simp only[Oj];by_cases e:s=x.1
 ·subst e; rw[if_pos rfl]
 ·rw[if_neg e]
theorem D6:∀ (L:List Tf) (A:List Ac) (s:ByteArray),Ry (L.foldl Wp A) s=Ry A s
 | [],_,_=>rfl
 | x::L,A,s=>by rw[List.foldl_cons,D6 L,fV]
theorem fU {A:List Ac}{t:Y8}(h:(Zm A t.snd).2=true)(s:ByteArray):Ry (Wh A t) s=if s=t.snd then Ry A s+1 else Ry A s:=by
 obtain⟨h1,h2,h3⟩:=WV h;have h4:=J7 A t.snd;unfold Wh;have e:=D7 A ((Zm A t.snd).1.1,(Zm A t.snd).1.2.1-YJ t,(Zm A t.snd).1.2.2+1) s;unfold Ry;rw[e];simp only[h3];by_cases q:s=t.snd
 ·subst q; rw[if_pos rfl,if_pos rfl]; show _+1=_; rw[h4]; rfl
 ·rw[if_neg q,if_neg q]
theorem D5 {A:List Ac}{t:Y8}(h:(Zm A t.snd).2=true)(s:ByteArray):Ry (Yl A t) s=if s=t.snd then Ry A s+1 else Ry A s:=by
 unfold Yl Rl;rw[D6,fU h]
def has (A:List Ac)(s:ByteArray):Prop:=∃ x,x∈A/\x.1=s
theorem yh (A:List Ac)(s:ByteArray):(Zm A s).2=true↔has A s:=by
 constructor
 ·intro h;obtain⟨h1,h2,h3⟩:=WV h;exact⟨_,UK h1,(Uu h1).1⟩
 ·rintro⟨x,hx,e⟩;by_cases h:Y0 A s<A.length
  ·unfold Zm; rw[if_pos h]
  ·obtain⟨j,hj,rfl⟩:=List.mem_iff_getElem.1 hx;rw[<- X3 hj] at e;exact absurd e (O7 h j hj)
theorem yg {A:List Ac}{a:Ac}{s:ByteArray}(h:has A s):has (Yw A a) s:=by
 obtain⟨x,hx,e⟩:=h;by_cases f:Y0 A a.1<A.length
 ·rw[Wv f];by_cases q:s=a.1
  ·exact⟨a,List.mem_set f a,q.symm⟩
  ·obtain⟨j,hj,rfl⟩:=List.mem_iff_getElem.1 hx;have hn:Y0 A a.1≠j:=fun w=>by
    have:=(Uu f).1;rw[w,X3 hj,e] at this;exact q this
   refine⟨A[j],?_,e⟩;have hl:j<(A.set (Y0 A a.1) a).length:=(by rw[List.length_set]; exact hj);have:(A.set (Y0 A a.1) a)[j]=A[j]:=List.getElem_set_ne hn hl;rw[<- this]; exact List.getElem_mem hl
 ·rw[UM f];refine⟨x,?_,e⟩;rw[<- List.take_append_drop (Yf A a.1) A] at hx;rcases List.mem_append.1 hx with h1 | h1
  ·exact List.mem_append_left _ h1
  ·exact List.mem_append_right _ (List.mem_cons_of_mem _ h1)
theorem has_fold:∀ (L:List Tf) (A:List Ac) (s:ByteArray),has A s->has (L.foldl Wp A) s
 | [],_,_,h=>h
 | x::L,A,s,h=>by rw[List.foldl_cons]; exact has_fold L _ s (yg h)
theorem has_done {A:List Ac}{t:Y8}{s:ByteArray}(h:has A s):has (Yl A t) s:=has_fold _ _ _ (yg h)
theorem Am {A:List Ac}{c price:Int}{L:List Int}:(WZ A c price L).2.code≠0/\(WZ A c price L).1=(A,c)∨(WZ A c price L).2.code=0/\(WZ A c price L).1=(Yl A (Zj L).1,c+(Zj L).1.YZ)/\YD A c=0/\(Zj L).2=0/\Yp A price (Zj L).1 L.length=0/\(WZ A c price L).2.snd=(Zj L).1.snd:=by
 unfold WZ;by_cases h1:YD A c≠0
 ·rw[if_pos h1]; exact Or.inl ⟨by show(1:Int)≠0; decide,rfl⟩
 ·rw[if_neg h1];by_cases h2:(Zj L).2≠0
  ·rw[if_pos h2]; exact Or.inl ⟨h2,rfl⟩
  ·rw[if_neg h2];by_cases h3:Yp A price (Zj L).1 L.length≠0
   ·rw[if_pos h3]; exact Or.inl ⟨h3,rfl⟩
   ·rw[if_neg h3]; exact Or.inr ⟨rfl,rfl,Decidable.not_not.1 h1,Decidable.not_not.1 h2,Decidable.not_not.1 h3,rfl⟩
theorem Ny {A:List Ac}{price:Int}{t:Y8}{n:Int}(h:Yp A price t n=0):(Zm A t.snd).2=true/\Ry A t.snd=t.sq:=by
 unfold Yp at h;by_cases h1:(Zm A t.snd).2=false
 ·rw[if_pos h1] at h; exact absurd h (by decide)
 ·rw[if_neg h1] at h;by_cases h2:(Zm A t.snd).1.2.2≠t.sq
  ·rw[if_pos h2] at h; exact absurd h (by decide)
  ·refine⟨by simpa using h1,?_⟩;rw[<- J7]; exact Decidable.not_not.1 h2
def Past (A:List Ac)(t:Y8):Prop:=has A t.snd/\t.sq<Ry A t.snd
theorem vM {A:List Ac}{c price:Int}{L:List Int}(h:(WZ A c price L).2.code=0):Past (WZ A c price L).1.1 (Zj L).1:=by
 rcases Am (A:=A) (c:=c) (price:=price) (L:=L) with⟨h1,-⟩ | ⟨-,h1,-,-,h2,-⟩
 ·exact absurd h h1
 ·obtain⟨h3,h4⟩:=Ny h2;rw[h1];refine⟨has_done ((yh A _).1 h3),?_⟩;show _<Ry (Yl A (Zj L).1) _;rw[D5 h3,if_pos rfl,h4];omega
theorem fQ {A:List Ac}{t:Y8}{c price:Int}{L:List Int}(h:Past A t):Past (WZ A c price L).1.1 t:=by
 rcases Am (A:=A) (c:=c) (price:=price) (L:=L) with⟨-,h1⟩ | ⟨-,h1,-,-,h2,-⟩
 ·rw[h1]; exact h
 ·obtain⟨h3,-⟩:=Ny h2;rw[h1];refine⟨has_done h.1,?_⟩;show _<Ry (Yl A (Zj L).1) _;rw[D5 h3];have:=h.2
  split <;> omega
theorem fP {A:List Ac}{c price:Int}{L:List Int}(h:Past A (Zj L).1)(hv:YD A c=0)(hd:(Zj L).2=0):(WZ A c price L).2.code=14/\(WZ A c price L).1=(A,c):=by
 have h1:(Zm A (Zj L).1.snd).2=true:=(yh A _).2 h.1;have h2:(Zm A (Zj L).1.snd).1.2.2≠(Zj L).1.sq:=by rw[J7]; have:=h.2; omega
 have h3:Yp A price (Zj L).1 L.length=14:=by
  unfold Yp;rw[if_neg (by rw[h1]; decide),if_pos h2]
 unfold WZ;rw[if_neg (by rw[hv]; decide),if_neg (by rw[hd]; decide),if_pos (by rw[h3]; decide)];exact⟨h3,rfl⟩
structure Pm (A:List Ac)(c:Int):Prop where
 n:A.length<=4398046511104
 cw:W64 c
 w:Vj A
 z:∀ x,x∈A->x.1.size<=140737488355328
theorem RH.d {A:List Ac}{c:Int}(h:RH A c):Pm A c:=⟨by have:=h.n; omega,h.cw,h.w,h.z⟩
theorem Pm.tx {A:List Ac}{c p:Int}{L:List Int}(h:Pm A c)(hp:W64 p)(h8:∀ y,y∈L->W8 y):Pm (WZ A c p L).1.1 (WZ A c p L).1.2:=by
 by_cases hv:YD A c=0
 ·exact((RH.mk hv h.w h.cw).tx hp h8).d
 ·rw[ak2 hv]; exact h
def YP (A:List Ac)(c p:Int)(Ls:List (List Int))(j:Nat):List Ac×Int:=(Ls.take j).foldl (fun s L=>(WZ s.1 s.2 p L).1) (A,c)
def VE (A:List Ac)(c p:Int)(Ls:List (List Int))(j:Nat):XO:=(WZ (YP A c p Ls j).1 (YP A c p Ls j).2 p (Ls.getD j [])).2
def UW (A:List Ac)(c p:Int)(Ls:List (List Int))(j:Nat):List XO:=(List.range j).map (VE A c p Ls)
theorem xI (A:List Ac)(c p:Int)(Ls:List (List Int)):YP A c p Ls 0=(A,c):=rfl
theorem Xb {A:List Ac}{c p:Int}{Ls:List (List Int)}{j:Nat}(h:j<Ls.length):YP A c p Ls (j+1)=(WZ (YP A c p Ls j).1 (YP A c p Ls j).2 p (Ls.getD j [])).1:=by
 unfold YP;rw[List.take_succ_eq_append_getElem h,List.foldl_append,List.getD_eq_getElem?_getD,List.getElem?_eq_getElem h];rfl
theorem Ol (A:List Ac)(c p:Int)(Ls:List (List Int))(j:Nat):UW A c p Ls (j+1)=UW A c p Ls j++[VE A c p Ls j]:=by
 unfold UW;rw[List.range_succ,List.map_append];rfl
theorem Ru (A:List Ac)(c p:Int)(Ls:List (List Int))(j:Nat):(UW A c p Ls j).length=j:=by unfold UW; rw[List.length_map,List.length_range]
theorem Pm.run {A:List Ac}{c p:Int}{Ls:List (List Int)}(h:Pm A c)(hp:W64 p)(h8:∀ L,L∈Ls->∀ y,y∈L->W8 y):∀ j,j<=Ls.length->Pm (YP A c p Ls j).1 (YP A c p Ls j).2
 | 0,_=>h
 | j+1,hj=>by
  rw[Xb hj];refine(Pm.run h hp h8 j (by omega)).tx hp (h8 _ ?_);rw[List.getD_eq_getElem?_getD,List.getElem?_eq_getElem hj];exact List.getElem_mem hj
def Ap (A:List Ac)(c p:Int)(Ls:List (List Int)):Nat:=(List.range Ls.length).findIdx (fun j=>decide ((VE A c p Ls j).code≠0))
theorem ak3 {A:List Ac}{c p:Int}{Ls:List (List Int)}{i:Nat}(hi:i<Ls.length)(hb:∀ j,j<i->(VE A c p Ls j).code=0)(he:(VE A c p Ls i).code≠0):Ap A c p Ls=i:=by
 unfold Ap;rw[List.findIdx_eq (by rw[List.length_range]; exact hi)];refine⟨by rw[List.getElem_range]; exact decide_eq_true he,fun j hj=>?_⟩;rw[List.getElem_range];exact decide_eq_false (fun q=>q (hb j hj))
theorem ak4 {A:List Ac}{c p:Int}{Ls:List (List Int)}(hb:∀ j,j<Ls.length->(VE A c p Ls j).code=0):Ap A c p Ls=Ls.length:=by
 unfold Ap;have h:(List.range Ls.length).findIdx (fun j=>decide ((VE A c p Ls j).code≠0))=(List.range Ls.length).length:=by
  rw[List.findIdx_eq_length];intro j hj;rw[List.mem_range] at hj;exact decide_eq_false (fun q=>q (hb j hj))
 rw[h,List.length_range]
def VD (A:List Ac)(c p:Int)(Ls:List (List Int)):(List Ac×Int)×Nat×Int:=if Ap A c p Ls<Ls.length then (([],0),Ap A c p Ls,(VE A c p Ls (Ap A c p Ls)).code) else (YP A c p Ls Ls.length,0,0)
theorem Gp {A:List Ac}{c p:Int}{Ls:List (List Int)}{i:Nat}(hi:i<Ls.length)(hb:∀ j,j<i->(VE A c p Ls j).code=0)(he:(VE A c p Ls i).code≠0):VD A c p Ls=(([],0),i,(VE A c p Ls i).code):=by
 have e:=ak3 hi hb he;unfold VD;rw[e,if_pos hi]
theorem LH {A:List Ac}{c p:Int}{Ls:List (List Int)}(hb:∀ j,j<Ls.length->(VE A c p Ls j).code=0):VD A c p Ls=(YP A c p Ls Ls.length,0,0):=by
 have e:=ak4 hb;unfold VD;rw[e,if_neg (Nat.lt_irrefl _)]
def Qc (r:XO):List Value:=[Z8 r.code,.string r.snd,Z4 r.sq,Z4 r.Zp,Z4 r.pr]
def QN (R:List XO):List Value:=R.flatMap Qc
theorem DJ:∀ R:List XO,(QN R).length=R.length*5
 | []=>rfl
 | x::r=>by
  have:=DJ r;show(Qc x++QN r).length=_;rw[List.length_append,this,List.length_cons];show 5+_=_;omega
theorem mO (A B:List XO):QN (A++B)=QN A++QN B:=by unfold QN; rw[List.flatMap_append]
theorem mM (R:List XO):∀ u∈QN R,u.oneCell'=true:=fun u hu=>by
 obtain⟨x,-,hx⟩:=List.mem_flatMap.1 hu;simp only[Qc,List.mem_cons,List.not_mem_nil,or_false] at hx;rcases hx with rfl | rfl | rfl | rfl | rfl <;> rfl
def zR:XO:=YR 0
def CQ (R:List XO)(k:Nat):XO:=R.getD k zR
theorem eF {R:List XO}{k:Nat}(h:k<R.length):CQ R k=R[k]:=getD_lt R k _ h
theorem Gi:∀ (R:List XO) (k q:Nat) (v:Value),k<R.length->(Qc (CQ R k))[q]?=some v->(QN R)[k*5+q]?=some v
 | [],k,q,v,h,_=>absurd h (by simp)
 | x::r,0,q,v,_,hv=>by
  have hq:q<5:=by
   obtain⟨h1,-⟩:=List.getElem?_eq_some_iff.1 hv;exact h1
  show(Qc x++QN r)[0*5+q]?=_;rw[Nat.zero_mul,Nat.zero_add,List.getElem?_append_left (by exact hq)];exact hv
 | x::r,k+1,q,v,h,hv=>by
  show(Qc x++QN r)[(k+1)*5+q]?=_;rw[List.getElem?_append_right (by show 5<=_; omega),show(k+1)*5+q-(Qc x).length=k*5+q by show _-5=_; omega];exact Gi r k q v (by simpa using h) hv
theorem mJ:(Tryz.prog.info? 40).map (fun i=>(i.zero,i.size,i.bytes))=some (some (.agg #[Z8 0,.string ByteArray.empty,Z4 0,Z4 0,Z4 0]),5,48):=by kernel_rfl
theorem Iy (r:XO)(V:World):(Instr.buildSlice 50 1 #[(0,.agg (ZI r))]).run Tryz.prog V=.ok (.slice (some ⟨V.heap.size,0,none⟩) 1 1) (V.alloc (.cells (ZI r) 40)):=by
 obtain⟨i0,hi,hz0,hz1,hz2⟩:=info_parts mJ;refine run_buildSlice V 50 40 1 _ (ZI r) i0 _ Tryz.underlying50 hi hz0 (by rw[hz1]; omega) (by rw[hz1]; omega) ?_;rw[hz1];kernel_rfl
def Wq (w:World)(B:Nat)(v:Value)(R:List XO):Prop:=w.ownsRow B 40 5 v R.length (QN R)
theorem Wq.nil (w:World)(B:Nat):Wq w B (.slice none 0 0) []:=World.ownsRow_nil _ _ _ _
theorem eu {w:World}{B:Nat}{v:Value}{A:List XO}(h:Wq w B v A)(pa:Option Addr)(cp:Nat)(M:List XO)(hP:Cs w pa (QN M))(hB:B<=w.heap.size)(hl:(A.length+M.length)*48<=140737488355328) :
  ∃ a c V2,(Builtin.append_ #[50,50] 50 #[v,.slice pa M.length cp]).run Tryz.prog w=.ok (.slice a (A++M).length c) V2/\Wq V2 B (.slice a (A++M).length c) (A++M)/\Below B w V2/\w.grownBy V2 v.ownBlock/\((Value.slice a (A++M).length c).ownBlock=v.ownBlock∨(Value.slice a (A++M).length c).ownBlock=some w.heap.size):=by
 obtain⟨v2,V2,hr,hO,hb,hg,hat⟩:=VF (P:=Tryz.prog) (t:=50) (e:=40) (m:=M.length) (s:=5) (bytes:=48) Tryz.underlying50 mJ (by kernel_rfl) (by omega) h pa cp (QN M) hP (DJ M) (mM M) hB (by omega) hl;have hO2:Wq V2 B v2 (A++M):=by unfold Wq; rw[List.length_append,mO]; exact hO
 obtain⟨a,c,e,-,-⟩:=Yq hO2;subst e;exact⟨a,c,V2,hr,hO2,hb,hg,hat⟩
theorem Ag {w:World}{B:Nat}{v:Value}{R:List XO}(h:Wq w B v R):∀ q,v.ownBlock=some q->B<=q/\q<w.heap.size:=fun q hq=>by
 obtain⟨-,h⟩:=h;rcases h with⟨rfl,-⟩ | ⟨g,cap,cur,rfl,hB,hh,-⟩
 ·cases hq
 ·cases hq;exact⟨hB,(Array.getElem?_eq_some_iff.1 hh).1⟩
theorem mP {w w':World}{g B e size n:Nat}{v:Value}{xs:List Value}(h:w.ownsRow B e size v n xs)(hb:But g w w')(hn:v.ownBlock≠some g):w'.ownsRow B e size v n xs:=by
 refine⟨h.1,?_⟩;rcases h.2 with h0 | ⟨k,cap,cur,ev,hB,hg,r⟩
 ·exact .inl h0
 ·exact .inr ⟨k,cap,cur,ev,hB,(hb.2 k (Array.getElem?_eq_some_iff.1 hg).1 (fun q=>hn (by rw[ev,q]; rfl))).trans hg,r⟩
theorem SI {w w':World}{row:Option Nat}{a:Option Addr}{cs:List Value}(h:Cs w a cs)(hg:w.grownBy w' row)(hn:cs≠[]->∀ x,a=some x->row≠some x.block):Cs w' a cs:=fun j v hj=>by
 obtain⟨b,off,e,hlt,hc⟩:=h j v hj;refine⟨b,off,e,Nat.lt_of_lt_of_le hlt hg.size,?_⟩;rw[<- hc];exact World.cell?_of_block (hg.block b hlt (fun q=>hn (fun z=>by rw[z] at hj; cases hj) _ e q.symm))
theorem DK {w:World}{B:Nat}{v:Value}{A:List XO}(h:Wq w B v A)(hB:B<=w.heap.size)(r:XO)(hl:A.length<=100000) :
  ∃ a c V2,(Builtin.append_ #[50,50] 50 #[v,.slice (some ⟨w.heap.size,0,none⟩) 1 1]).run Tryz.prog (w.alloc (.cells (ZI r) 40))=.ok (.slice a (A++[r]).length c) V2/\Wq V2 B (.slice a (A++[r]).length c) (A++[r])/\Below B w V2/\w.grownBy V2 v.ownBlock/\(∀ q,(Value.slice a (A++[r]).length c).ownBlock=some q->v.ownBlock=some q∨w.heap.size<=q):=by
 have hb:Below w.heap.size w (w.alloc (.cells (ZI r) 40)):=(Below.refl _ w).alloc (Nat.le_refl _) _;have hO:=own_below h hb;have hc:Cs (w.alloc (.cells (ZI r) 40)) (some ⟨w.heap.size,0,none⟩) (QN [r]):=Cs.block (t:=40) (fr:=(0,0)) (heap_alloc_last w _);obtain⟨a,c,V2,h1,h2,h3,h4,h5⟩:=eu hO (some ⟨w.heap.size,0,none⟩) 1 [r] hc (Nat.le_trans hB hb.size) (by simp only[List.length_cons,List.length_nil]; omega);refine⟨a,c,V2,h1,h2,(hb.mono hB).trans h3,(World.grownBy_alloc w _ _).trans h4,fun q hq=>?_⟩;rcases h5 with h5 | h5
 ·exact .inl (by rw[<- h5]; exact hq)
 ·rw[h5] at hq;cases hq;exact .inr hb.size
theorem JV {w:World}{a:Option Addr}{R:List XO}(h:Cs w a (QN R)){k:Nat}(hk:k<R.length):∃ b off,a=some ⟨b,off,none⟩/\b<w.heap.size/\w.rangeAt b (off+k*5) (Qc (CQ R k)):=by
 have h0:=Gi R k 0 _ hk rfl;obtain⟨b,off,rfl,hb,-⟩:=h _ _ h0;refine⟨b,off,rfl,hb,fun q v hv=>?_⟩;obtain⟨b2,o2,e,-,c2⟩:=h _ _ (Gi R k q v hk hv);simp only[Option.some.injEq,Addr.mk.injEq,and_true] at e;obtain⟨rfl,rfl⟩:=e;rw[Nat.add_assoc];exact c2
theorem Gh {w:World}{b o:Nat}{r:XO}(h:w.rangeAt b o (Qc r)):(Instr.loadAt 40 (Z5 b o)).run Tryz.prog w=.ok (.agg (ZI r)) w:=
 run_loadAt_mid w b o 40 (Qc r) _ h Tryz.underlying40 rfl (by kernel_rfl)
abbrev Bs:=Option Addr×Nat×List Int
def RJ (E:List Bs):List Value:=E.map fun e=>.slice e.1 e.2.2.length e.2.1
def lsB (E:List Bs):List (List Int):=E.map (·.2.2)
def VO (E:List Bs)(k:Nat):Bs:=E.getD k (none,0,[])
theorem Gg {E:List Bs}{k:Nat}(h:k<E.length):VO E k=E[k]:=getD_lt E k _ h
theorem Yn (E:List Bs):(lsB E).length=E.length:=by simp[lsB]
theorem QO {E:List Bs}{k:Nat}(h:k<E.length):(lsB E).getD k []=(VO E k).2.2:=by
 unfold lsB;rw[Gg h,List.getD_eq_getElem?_getD,List.getElem?_map,List.getElem?_eq_getElem h];rfl
structure PE (w:World)(a:Option Addr)(E:List Bs):Prop where
 cs:Cs w a (RJ E)
 sl:∀ e,e∈E->Sl w e.1 e.2.1 e.2.2
 le:∀ e,e∈E->e.2.2.length<=e.2.1
 b:∀ e,e∈E->∀ y,y∈e.2.2->W8 y
theorem PE.below {w w':World}{a:Option Addr}{E:List Bs}(h:PE w a E)(hb:Below w.heap.size w w'):PE w' a E:=⟨h.cs.below hb,fun e he=>ZK (h.sl e he) hb,h.le,h.b⟩
theorem PE.at {w:World}{a:Option Addr}{E:List Bs}(h:PE w a E){k:Nat}(hk:k<E.length):∃ b off,a=some ⟨b,off,none⟩/\(Instr.loadAt 23 (Z5 b (off+k*1))).run Tryz.prog w=.ok (.slice (VO E k).1 (VO E k).2.2.length (VO E k).2.1) w:=by
 have h0:(RJ E)[k]?=some (.slice (VO E k).1 (VO E k).2.2.length (VO E k).2.1):=by
  unfold RJ;rw[Gg hk,List.getElem?_map,List.getElem?_eq_getElem hk];rfl
 obtain⟨b,off,rfl,-,hc⟩:=h.cs _ _ h0;rw[show k*1=k by omega];exact⟨b,off,rfl,X8 hc (by kernel_rfl)⟩
theorem PE.all {w:World}{a:Option Addr}{E:List Bs}(h:PE w a E):∀ L,L∈lsB E->∀ y,y∈L->W8 y:=fun L hL=>by
 obtain⟨e,he,rfl⟩:=List.mem_map.1 hL;exact h.b e he
theorem UE {E:List Bs}{k:Nat}(h:k<E.length):VO E k∈E:=by rw[Gg h]; exact List.getElem_mem h
theorem PI (b off n c k:Nat)(hk:k<n)(V:World)(ρ:Operand->Value)(o:Oper){x y:Operand}(ho:o.op=.indexAddr 32 x y)(hx:ρ x=.slice (some ⟨b,off,none⟩) n c)(hy:ρ y=Z8 k):(execOp ρ o).run Tryz.prog V=.ok (.value (Z5 b (off+k*1))) V:=by
 have hs:(sizeOf (Tryz.prog.elem 32)).run Tryz.prog V=.ok 1 V:=by kernel_rfl
 have hlm:(k:Int)<(n:Int):=by omega
 unfold execOp;simp only[ho,hx,hy];go_simp
theorem Af (b off n c k:Nat)(hk:k<n)(V:World)(ρ:Operand->Value)(o:Oper){x y:Operand}(ho:o.op=.indexAddr 50 x y)(hx:ρ x=.slice (some ⟨b,off,none⟩) n c)(hy:ρ y=Z8 k):(execOp ρ o).run Tryz.prog V=.ok (.value (Z5 b (off+k*5))) V:=by
 have hs:(sizeOf (Tryz.prog.elem 50)).run Tryz.prog V=.ok 5 V:=by kernel_rfl
 have hlm:(k:Int)<(n:Int):=by omega
 unfold execOp;simp only[ho,hx,hy];go_simp
def QTx:Prop:=∀ (A:List Ac) (c price:Int) (L:List Int) (la ra:Option Addr) (lk rc:Nat) (w:World),Cs w la (acc A)->A.length<=lk->A.length<=4398046511104->W64 c->Vj A->(∀ x,x∈A->x.1.size<=140737488355328)->W64 price->Sl w ra rc L->L.length<=rc->(∀ y,y∈L->W8 y) ->
  Calls Tryz.prog 32 #[.agg (ZU la A.length lk c),Z4 price,.slice ra L.length rc] w (ny w la A (WZ A c price L))
theorem JW (V:World)(a:Option Addr)(n k:Nat)(c:Int)(r:XO):∃ Va V2 V3,V.alloc (.cells (ZU none 0 0 0) 29)=Va/\V.heap.size<Va.heap.size /\
  (Instr.storeAt 29 (Z5 V.heap.size 0) (.agg (ZU a n k c))).run Tryz.prog (Va.alloc (.cells (ZI (YR 0)) 40))=.ok () V2 /\
  (Instr.storeAt 40 (Z5 Va.heap.size 0) (.agg (ZI r))).run Tryz.prog V2=.ok () V3 /\
  Below V.heap.size V V3/\Bx V3 V.heap.size (ZU a n k c) 29/\Bx V3 Va.heap.size (ZI r) 40:=by
 have hX1:Bx (V.alloc (.cells (ZU none 0 0 0) 29)) V.heap.size (ZU none 0 0 0) 29:=heap_alloc_last V _;have hb1:Below V.heap.size V (V.alloc (.cells (ZU none 0 0 0) 29)):=(Below.refl _ V).alloc (Nat.le_refl _) _;obtain⟨Va,Oq⟩:=ZR (V.alloc (.cells (ZU none 0 0 0) 29));rw[Oq] at hX1 hb1;have hX2:Bx (Va.alloc (.cells (ZI (YR 0)) 40)) Va.heap.size (ZI (YR 0)) 40:=heap_alloc_last Va _;have hb2:Below Va.heap.size Va (Va.alloc (.cells (ZI (YR 0)) 40)):=(Below.refl _ Va).alloc (Nat.le_refl _) _;have hlt:=hX1.lt;obtain⟨hs1,hY1⟩:=ZC (a':=a) (n':=n) (k':=k) (c':=c) (hX1.below hX1.lt hb2);have hn:Va.heap.size≠V.heap.size:=by omega
 obtain⟨hs2,hY2⟩:=XY (q:=r) (hX2.but (But.setRow _ (ZU a n k c)) hn);exact⟨Va,_,_,Oq,hlt,hs1,hs2,(hb1.trans (hb2.mono hb1.size)).trans (((But.setRow _ _).1).trans ((But.setRow _ _).1.mono (Nat.le_of_lt hlt))),hY1.but (But.setRow _ _) hn.symm,hY2⟩
end Go.Proofs.YtnhlpahoomcgnaaGreat.Lg
namespace Go.Proofs.YtnhlpahoomcgnaaGreat.Lg
attribute [local irreducible] wpList wpQuiet
open Mo (YU Y9 Ym Yz)
open Go.RowKit
abbrev YI (x0 x1:Value)(a:Option Addr)(n k:Nat)(c:Int)(y0 y1 y2:Value)(p:Int):Array Value:=#[x0,x1,.slice a n k,Z4 c,y0,y1,y2,Z4 p]
theorem Bx.two {w:World}{g t:Nat}{cs:Array Value}(h:Bx w g cs t)(o:Nat)(x y:Value)(h0:cs[o]?=some x)(h1:cs[o+1]?=some y):w.rangeAt g o [x,y]:=fun j v hj=>by
 rw[cell_of_row w g _ _ _ (0,0) h];rcases j with _ | _ | j
 ·exact h0.trans hj
 ·exact h1.trans hj
 ·simp at hj
theorem DI {w:World}{g:Nat}{x0 x1 y0 y1 y2:Value}{a:Option Addr}{n k:Nat}{c p:Int}(h:Bx w g (YI x0 x1 a n k c y0 y1 y2 p) 31):(Instr.loadAt 29 (Z5 g 2)).run Tryz.prog w=.ok (.agg (ZU a n k c)) w:=
 run_loadAt_mid w g 2 29 [.slice a n k,Z4 c] _ (Bx.two h 2 _ _ rfl rfl) Tryz.underlying29 rfl (by kernel_rfl)
theorem xQ {w:World}{g:Nat}{x0 x1 y0 y1 y2:Value}{a:Option Addr}{n k:Nat}{c p:Int}(h:Bx w g (YI x0 x1 a n k c y0 y1 y2 p) 31):(Instr.loadAt 27 (Z5 g 7)).run Tryz.prog w=.ok (Z4 p) w:=h.ZP 7
theorem VN {w:World}{g:Nat}{x0 x1 y0 y1 y2:Value}{a:Option Addr}{n k:Nat}{c p:Int}(h:Bx w g (YI x0 x1 a n k c y0 y1 y2 p) 31):(Instr.loadAt 31 (Z5 g 0)).run Tryz.prog w=.ok (.agg (YI x0 x1 a n k c y0 y1 y2 p)) w:=
 run_loadAt_mid w g 0 31 (YI x0 x1 a n k c y0 y1 y2 p).toList _ (fun j v hv=>by
  rw[cell_of_row w g _ _ _ (0,0) h];simpa using hv) Tryz.underlying31 rfl (by kernel_rfl)
theorem Vs {w:World}{g:Nat}{cs:Array Value}{x0 x1 y0 y1 y2:Value}{a:Option Addr}{n k:Nat}{c p:Int}(h:Bx w g cs 31)(hz:cs.size=8)(h1:(YI x0 x1 a n k c y0 y1 y2 p).all (·.oneCell')=true):(Instr.storeAt 31 (Z5 g 0) (.agg (YI x0 x1 a n k c y0 y1 y2 p))).run Tryz.prog w=.ok () (w.setRow g (YI x0 x1 a n k c y0 y1 y2 p))/\Bx (w.setRow g (YI x0 x1 a n k c y0 y1 y2 p)) g (YI x0 x1 a n k c y0 y1 y2 p) 31:=
 ⟨Ya h hz h1 (by kernel_rfl),h.set⟩
theorem vg {w:World}{g B:Nat}{w0:World}{x0 x1 y0 y1 y2:Value}{a a2:Option Addr}{n k n2 k2:Nat}{c c2 p:Int}(h:Bx w g (YI x0 x1 a n k c y0 y1 y2 p) 31)(hb:Below B w0 w)(hg:B<=g):∃ V2,(Instr.storeAt 29 (Z5 g 2) (.agg (ZU a2 n2 k2 c2))).run Tryz.prog w=.ok () V2/\Bx V2 g (YI x0 x1 a2 n2 k2 c2 y0 y1 y2 p) 31/\Below B w0 V2/\But g w V2:=by
 have hst:=run_storeAt_mid (P:=Tryz.prog) w g 2 29 (ZU a2 n2 k2 c2) (fun j hj=>by
  have hj4:j<2:=hj;refine⟨?_,frozen_of_row w g _ _ 31 h⟩;rw[cell_of_row w g _ _ 31 (0,0) h,Array.getElem?_eq_getElem (by show 2+j<8; omega)];rfl) (by kernel_rfl) (by simp[Value.oneCell'])
 exact⟨_,hst,(h.Bo (i:=2) (.slice a2 n2 k2)).Bo (i:=3) (Z4 c2),hb.trans (Us hg _ _ _),Q9 _ _ _⟩
theorem YF {w w':World}{g:Nat}{a:Option Addr}{cs:List Value}(h:Cs w a cs)(hb:But g w w')(hn:cs≠[]->∀ x,a=some x->x.block≠g):Cs w' a cs:=by
 cases cs with
 | nil=>exact Cs.nil _ _
 | cons v r=>exact h.but hb (hn (by simp))
theorem WM {w:World}{a:Option Addr}{cs:List Value}(h:Cs w a cs)(hne:cs≠[]):∀ x,a=some x->x.block<w.heap.size:=fun x hx=>by
 obtain⟨b,off,e,hb,-⟩:=h 0 (cs[0]'(List.length_pos_iff.2 hne)) (List.getElem?_eq_getElem _);rw[hx] at e;cases e;exact hb
theorem Ad {la ad:Option Addr}{A B:List Ac}{W0 W1 g:Nat}(hbl:(ad=la/\A=B)∨∀ x,ad=some x->W1<=x.block)(ho:acc B≠[]->∀ x,la=some x->x.block<W0)(h0:W0<=g)(h1:g<W1):acc A≠[]->∀ x,ad=some x->x.block≠g:=fun hne x hx=>by
 rcases hbl with⟨rfl,e2⟩ | h9
 ·rw[e2] at hne;have:=ho hne x hx;omega
 ·have:=h9 x hx;omega
def aC3 (w:World)(x0 x1 y0 y1 y2:Value)(la:Option Addr)(A:List Ac)(X:List Ac×Int)(p:Int)(e:Ending)(w':World):Prop:=∃ a k,e=.returned (.agg (YI x0 x1 a X.1.length k X.2 y0 y1 y2 p))/\(YI x0 x1 a X.1.length k X.2 y0 y1 y2 p).all (·.oneCell')=true/\Cs w' a (acc X.1)/\X.1.length<=k/\((a=la/\X.1=A)∨∀ x,a=some x->w.heap.size<=x.block)/\Below w.heap.size w w'
theorem Ae (B:List Ac)(c price:Int)(R:List Int)(x0 x1 y0 y1 y2:Value)(la ra:Option Addr)(lk rc:Nat)(w:World)(h1:(YI x0 x1 la B.length lk c y0 y1 y2 price).all (·.oneCell')=true)(hL:Cs w la (acc B))(hlk:B.length<=lk)(hq:RH B c)(hp:W64 price)(hR:Sl w ra rc R)(hrc:R.length<=rc)(h8:∀ y,y∈R->W8 y) :
  Calls Tryz.prog 14 #[.agg (YI x0 x1 la B.length lk c y0 y1 y2 price),.slice ra R.length rc] w (aC3 w x0 x1 y0 y1 y2 la B (WZ B c price R).1 price):=by
 obtain⟨hb0,hX2,YA⟩:=Zk w (YI x0 x1 la B.length lk c y0 y1 y2 price) #[.slice none 0 0,Z4 0,.slice none 0 0,Z4 0,.slice none 0 0,Z4 0,ZY,Z4 0] 31 31;have CT:=fun V hl hr=>NU B c price R la ra lk rc V hl hlk (by have:=hq.n; omega) hq.cw hq.w hq.z hp hr hrc h8;have hL0:=hL.below hb0;have hR0:=ZK hR hb0;have HLB:=Z9 (WM hL);have HO:=Z9 h1;generalize WZ B c price R=X at *
 clear hL hR h8 h1;go_enter Tryz.func14,Tryz.ntmps14;go_upto_region 1 with fail;change Code.wp _ _ _ _ ((w.alloc (.cells (YI x0 x1 la B.length lk c y0 y1 y2 price) 31)).alloc (.cells #[.slice none 0 0,Z4 0,.slice none 0 0,Z4 0,.slice none 0 0,Z4 0,ZY,Z4 0] 31));generalize (w.alloc (.cells (YI x0 x1 la B.length lk c y0 y1 y2 price) 31)).alloc (.cells #[.slice none 0 0,Z4 0,.slice none 0 0,Z4 0,.slice none 0 0,Z4 0,ZY,Z4 0] 31)=W at *
 obtain⟨g2,hg2⟩:=ZR w.heap.size;obtain⟨g4,hg4⟩:=ZR (g2+1);have HB0:=Z9 hb0;rw[show w.heap.size+1=g4 by omega] at YA;have HG:Hid (w.heap.size<=g2/\w.heap.size<=g4/\g2≠g4/\g4≠g2):=Z9 (by omega);rw[hg2] at hX2;simp only[hg2];simp only[hg4];have YK:=Z9 hX2;have YV:=Z9 YA;have MX:=CT W hL0 hR0;clear hb0 hg2 hg4 hX2 YA CT hL0 hR0;refine wl<|ZV (Z5 g2 2)<|ZL rfl ⟨g2,2,none⟩ (.agg (ZU la B.length lk c)) (DI YK.out)<|ZV (Z5 g2 7)<|ZL rfl ⟨g2,7,none⟩ (Z4 price) (xQ YK.out)<|ZV (.slice ra R.length rc) <|
  Yi (fun v w'=>∃ ad k,v=.tuple #[.agg (ZU ad X.1.1.length k X.1.2),.agg (ZI X.2)]/\Cs w' ad (acc X.1.1)/\X.1.1.length<=k/\((ad=la/\X.1.1=B)∨∀ x,ad=some x->W.heap.size<=x.block)/\Below W.heap.size W w') (MX.mono fun e w' q=>by obtain⟨ad,k,h1,h2⟩:=q; exact⟨_,h1,ad,k,rfl,h2⟩) (fun vv W1 hq=>?_)
 obtain⟨ad,k,rfl,hcs,hk,hbl,hb1⟩:=hq;obtain⟨V2,hst2,hY2,hb2,XE⟩:=vg (a2:=ad) (n2:=X.1.1.length) (k2:=k) (c2:=X.1.2) (YK.out.below YK.out.lt hb1) (HB0.out.trans (hb1.mono HB0.out.size)) HG.out.1;have hcs2:=YF hcs XE (Ad hbl HLB.out HG.out.1 YK.out.lt);refine WL (.tuple #[.agg (ZU ad X.1.1.length k X.1.2),.agg (ZI X.2)]) (.agg (ZU ad X.1.1.length k X.1.2)) (.agg (ZI X.2)) (Z5 g2 2)<|Zu rfl (hst2)<|wn ?_;simp only[pu];have QM:=(YV.out.below YV.out.lt hb1).but XE HG.out.2.2.2;have hone:(YI x0 x1 ad X.1.1.length k X.1.2 y0 y1 y2 price).all (·.oneCell')=true:=by have:=HO.out; simpa [Value.oneCell'] using this
 obtain⟨hst3,Qj⟩:=Vs QM rfl hone;have hb3:=ZQ hb2 HG.out.2.1 (YI x0 x1 ad X.1.1.length k X.1.2 y0 y1 y2 price);have hcs3:=YF hcs2 (But.setRow (g:=g4) V2 (YI x0 x1 ad X.1.1.length k X.1.2 y0 y1 y2 price)) (Ad hbl HLB.out HG.out.2.1 YV.out.lt);have HE:Hid (aC3 w x0 x1 y0 y1 y2 la B X.1 price (.returned (.agg (YI x0 x1 ad X.1.1.length k X.1.2 y0 y1 y2 price))) (V2.setRow g4 (YI x0 x1 ad X.1.1.length k X.1.2 y0 y1 y2 price))):=Z9 ⟨ad,k,rfl,hone,hcs3,hk,hbl.imp id (fun h9 x hx=>Nat.le_trans HB0.out.size (h9 x hx)),hb3⟩;generalize V2.setRow g4 (YI x0 x1 ad X.1.1.length k X.1.2 y0 y1 y2 price)=V3 at *
 clear hst2 hcs hbl hb1 XE hcs2 QM hb2 hb3 hcs3;go_upto_region 2 with fail;refine wl<|ZL rfl ⟨g2,0,none⟩ (.agg (YI x0 x1 ad X.1.1.length k X.1.2 y0 y1 y2 price)) (VN hY2)<|Zu rfl (hst3)<|wn ?_;simp only[pu];go_wp2_with fail;exact bodyPost_ret (YB rfl (by kernel_rfl) (VN Qj)) rfl HE.out
def dY (w:World)(X:List Ac×Int)(p:Int)(e:Ending)(w':World):Prop:=(X.2=0/\∃ a k,e=.returned (.tuple #[.agg (YI (.slice a X.1.length k) (Z4 0) a X.1.length k 0 (.slice none 0 0) (Z4 0) ZY p),Z8 0])/\Cs w' a (acc X.1)/\X.1.length<=k/\(∀ x,a=some x->w.heap.size<=x.block)/\Below w.heap.size w w') ∨
 (X.2≠0/\e=.returned (.tuple #[.agg #[.slice none 0 0,Z4 0,.slice none 0 0,Z4 0,.slice none 0 0,Z4 0,ZY,Z4 0],Z8 X.2])/\Below w.heap.size w w')
theorem mD (A:List Ac)(a:Option Addr)(k:Nat)(p:Int)(w:World)(hR:Cs w a (acc A))(hn:A.length<=4398046511104)(hw:Vj A)(hz:∀ x,x∈A->x.1.size<=140737488355328) :
  Calls Tryz.prog 44 #[.slice a A.length k,Z4 p] w (dY w (WC A) p):=by
 have hb0:Below w.heap.size w (w.alloc (.cells #[.slice none 0 0,Z4 0,.slice none 0 0,Z4 0,.slice none 0 0,Z4 0,ZY,Z4 0] 31)):=(Below.refl _ w).alloc (Nat.le_refl _) _;have hX0:Bx (w.alloc (.cells #[.slice none 0 0,Z4 0,.slice none 0 0,Z4 0,.slice none 0 0,Z4 0,ZY,Z4 0] 31)) w.heap.size #[.slice none 0 0,Z4 0,.slice none 0 0,Z4 0,.slice none 0 0,Z4 0,ZY,Z4 0] 31:=heap_alloc_last w _;have CG:=Fg a k A (w.alloc (.cells #[.slice none 0 0,Z4 0,.slice none 0 0,Z4 0,.slice none 0 0,Z4 0,ZY,Z4 0] 31)) (hR.below hb0) hn hw hz;have e1:Nl A=((WC A).1,0,(WC A).2):=rfl;rw[e1] at CG;generalize WC A=X at *
 clear hR hn hw hz e1;go_enter Tryz.func44,Tryz.ntmps44;go_upto_region 1 with fail;change Code.wp _ _ _ _ (w.alloc (.cells #[.slice none 0 0,Z4 0,.slice none 0 0,Z4 0,.slice none 0 0,Z4 0,ZY,Z4 0] 31));generalize w.alloc (.cells #[.slice none 0 0,Z4 0,.slice none 0 0,Z4 0,.slice none 0 0,Z4 0,ZY,Z4 0] 31)=W at *
 obtain⟨g4,hg4⟩:=ZR w.heap.size;have HB0:=Z9 hb0;have HG:Hid (w.heap.size<=g4):=Z9 (by omega);rw[hg4] at hX0;simp only[hg4];clear hb0 hg4;refine wl<|ZV (.slice a A.length k) <|
  Yi (fun v w'=>∃ ad kk,v=.tuple #[.agg (ZU ad X.1.length kk 0),Z8 X.2]/\Zi w' W.heap.size (.slice ad X.1.length kk) X.1/\Below W.heap.size W w') (CG.mono fun e w' q=>by obtain⟨ad,kk,h1,h2⟩:=q; exact⟨_,h1,ad,kk,rfl,h2⟩) (fun vv W1 hq=>?_)
 obtain⟨ad,kk,rfl,hrow,hb1⟩:=hq;obtain⟨V2,hst2,hb2,hY2⟩:=UU W1 ad X.1.length kk 0;refine Yr (.tuple #[.agg (ZU ad X.1.length kk 0),Z8 X.2]) (.agg (ZU ad X.1.length kk 0)) (Z8 X.2) ?_;refine Zy rfl (some 6) rfl (Z5 W1.heap.size 0) (W1.alloc (.cells (ZU none 0 0 0) 29)) (by kernel_rfl) ?_;refine Zu rfl (hst2)<|ZV (Z8 X.2)<|wn ?_;simp only[pu];obtain⟨g6,WG⟩:=ZR W1.heap.size;have hb3:=hb1.trans (hb2.mono hb1.size);have hX2:=hX0.below hX0.lt hb3;have hrow2:=own_below hrow hb2;rw[WG] at hY2 hst2 ⊢;have hbw:=HB0.out.trans (hb3.mono HB0.out.size);clear CG hst2 hrow hb1 hb2 WG;by_cases he:X.2=0
 ·go_upto_region 2 with fail;refine wl<|ZV (Z8 X.2)<|ZJ (YX rfl X.2 0 (decide_eq_true he))<|wn ?_;simp only[pu];obtain⟨hst3,Qj⟩:=Vs (x0:=.slice ad X.1.length kk) (x1:=Z4 0) (a:=ad) (n:=X.1.length) (k:=kk) (c:=0) (y0:=.slice none 0 0) (y1:=Z4 0) (y2:=ZY) (p:=p) hX2 rfl (by simp[Value.oneCell']);have hb4:=ZQ hbw HG.out (YI (.slice ad X.1.length kk) (Z4 0) ad X.1.length kk 0 (.slice none 0 0) (Z4 0) ZY p);have hrow3:=Zt hrow2 (But.setRow (g:=g4) V2 (YI (.slice ad X.1.length kk) (Z4 0) ad X.1.length kk 0 (.slice none 0 0) (Z4 0) ZY p)) hX0.lt;obtain⟨a9,c9,e9,hcs,hk⟩:=Yq hrow3;simp only[Value.slice.injEq,true_and] at e9;obtain⟨rfl,rfl⟩:=e9;have HE:Hid (dY w X p (.returned (.tuple #[.agg (YI (.slice ad X.1.length kk) (Z4 0) ad X.1.length kk 0 (.slice none 0 0) (Z4 0) ZY p),Z8 0])) (V2.setRow g4 (YI (.slice ad X.1.length kk) (Z4 0) ad X.1.length kk 0 (.slice none 0 0) (Z4 0) ZY p))):=Z9 (.inl ⟨he,ad,kk,rfl,hcs,hk,fun x hx=>Nat.le_trans HB0.out.size (J4 (A:=X.1) hrow3 x hx),hb4⟩);generalize V2.setRow g4 (YI (.slice ad X.1.length kk) (Z4 0) ad X.1.length kk 0 (.slice none 0 0) (Z4 0) ZY p)=V3 at *
  clear hX2 hb4 hrow2 hrow3 hcs;go_upto_region 4 with fail;refine wl<|ZL rfl ⟨g6,0,none⟩ (.agg (ZU ad X.1.length kk 0)) (ZN hY2)<|ZL rfl ⟨g6,0,none⟩ (.agg (ZU ad X.1.length kk 0)) (ZN hY2) <|
   ZA (Z4 p) (.agg (YI (.slice ad X.1.length kk) (Z4 0) ad X.1.length kk 0 (.slice none 0 0) (Z4 0) ZY p))<|Zu rfl (hst3)<|ZV (Z8 0)<|wn ?_
  simp only[pu];go_wp2_with fail;exact bodyPost_ret (ZO rfl (by kernel_rfl) (VN Qj) rfl) rfl HE.out
 ·go_upto_region 2 with fail;refine wl<|ZV (Z8 X.2)<|ZJ (YX rfl X.2 0 (decide_eq_false he))<|wn ?_;simp only[pu];obtain⟨hst3,Qj⟩:=Vs (x0:=.slice none 0 0) (x1:=Z4 0) (a:=none) (n:=0) (k:=0) (c:=0) (y0:=.slice none 0 0) (y1:=Z4 0) (y2:=ZY) (p:=0) hX2 rfl (by simp[Value.oneCell']);have hb4:=ZQ hbw HG.out (YI (.slice none 0 0) (Z4 0) none 0 0 0 (.slice none 0 0) (Z4 0) ZY 0);have HE:Hid (dY w X p (.returned (.tuple #[.agg (YI (.slice none 0 0) (Z4 0) none 0 0 0 (.slice none 0 0) (Z4 0) ZY 0),Z8 X.2])) (V2.setRow g4 (YI (.slice none 0 0) (Z4 0) none 0 0 0 (.slice none 0 0) (Z4 0) ZY 0))):=Z9 (.inr ⟨he,rfl,hb4⟩);generalize V2.setRow g4 (YI (.slice none 0 0) (Z4 0) none 0 0 0 (.slice none 0 0) (Z4 0) ZY 0)=V3 at *
  clear hX2 hb4 hrow2;go_upto_region 3 with fail;refine wl<|ZA (.agg (YI (.slice none 0 0) (Z4 0) none 0 0 0 (.slice none 0 0) (Z4 0) ZY 0)) (Z8 X.2)<|Zu rfl (hst3)<|ZV (Z8 X.2)<|wn ?_;simp only[pu];go_wp2_with fail;exact bodyPost_ret (ZO rfl (by kernel_rfl) (VN Qj) rfl) rfl HE.out
end Go.Proofs.YtnhlpahoomcgnaaGreat.Lg
