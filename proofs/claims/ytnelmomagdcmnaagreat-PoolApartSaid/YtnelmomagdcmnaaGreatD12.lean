/-
  Texts joined.
-/
import Derived.Test.YtnelmomagdcmnaaGreatD11
set_option maxRecDepth 100000
set_option maxHeartbeats 8000000
set_option linter.unusedSimpArgs false
set_option linter.unusedVariables false
namespace Go.Proofs.YtnelmomagdcmnaaGreat.Hp
open Go.RowKit Go.Shelf Go.Sort
theorem Lc (A:List It)(j:Nat)(hj:j<A.length*3):(itc A)[j]?=some ((TV (A.toArray[j / 3]!))[j % 3]!):=by
 have hk:j / 3<A.length:=by omega
 obtain⟨h0,h1,h2⟩:=JH A (j / 3) hk;have e:A.toArray[j / 3]! = ita A (j / 3):=by
  rw[WA hk,getElem!_pos A.toArray (j / 3) (by simpa using hk)];simp
 rw[e];rcases (show j % 3=0∨j % 3=1∨j % 3=2 by omega) with h | h | h
 ·rw[show j=j / 3*3 by omega,h0,show j / 3*3 / 3=j / 3 by omega,show j / 3*3 % 3=0 by omega]; rfl
 ·rw[show j=j / 3*3+1 by omega,h1,show(j / 3*3+1) / 3=j / 3 by omega,show(j / 3*3+1) % 3=1 by omega]; rfl
 ·rw[show j=j / 3*3+2 by omega,h2,show(j / 3*3+2) / 3=j / 3 by omega,show(j / 3*3+2) % 3=2 by omega]; rfl
theorem holds_of {w:World}{B n c g:Nat}{A:List It}(h:w.ownsRow B 99 3 (.slice (some ⟨g,0,none⟩) n c) n (itc A)):HoldsK TV 3 w g 0 A.toArray:=by
 have hn:n=A.length:=by have:=h.1; rw[Xb] at this; omega
 obtain⟨cur,hX,hz,-,ht⟩:=YJ h;intro j hj;rw[size_flatK] at hj;have hj3:j<A.length*3:=by simpa using hj
 have hcl:cur.toList.length=cur.size:=Array.length_toList;rw[get_flatK _ _ _ _ hj];refine⟨?_,frozen_of_row w g _ _ 99 hX⟩;rw[Nat.zero_add,cell_of_row w g _ _ 99 (0,0) hX];have h2:=Lc A j hj3;rw[<- ht,List.getElem?_take_of_lt (by omega),Array.getElem?_toList] at h2;exact h2
theorem D5 {w:World}{g:Nat}{M:List It}(hg:g<w.heap.size)(h:HoldsK TV 3 w g 0 M.toArray):Cs w (some ⟨g,0,none⟩) (itc M):=fun j v hj=>by
 have hl:j<M.length*3:=by
  have:=(List.getElem?_eq_some_iff.1 hj).1;rwa [Xb] at this
 refine⟨g,0,rfl,hg,?_⟩;have h2:=(h j (by rw[size_flatK]; simpa using hl)).1;rw[h2,get_flatK _ _ _ _ (by simpa using hl)];rw[Lc M j hl] at hj;exact hj
theorem zo {W V:World}(h:Gd W V):∃ q os,V=grow (W.drewN q) os:=by
 refine⟨V.drawn-W.drawn,V.heap.extract W.heap.size V.heap.size,?_⟩;obtain⟨⟨h1,h2,h3,h4,h5⟩,h6⟩:=h;have hd:W.drawn+(V.drawn-W.drawn)=V.drawn:=by omega
 have hh:W.heap++V.heap.extract W.heap.size V.heap.size=V.heap:=by
  apply Array.ext_getElem?;intro i;by_cases hi:i<W.heap.size
  ·rw[Array.getElem?_append_left hi,h5 i hi]
  ·rw[Array.getElem?_append_right (by omega),Array.getElem?_extract];by_cases h7:i-W.heap.size<min V.heap.size V.heap.size-W.heap.size
   ·rw[if_pos h7,show W.heap.size+(i-W.heap.size)=i by omega]
   ·rw[if_neg h7];rw[Array.getElem?_eq_none (by omega)]
 unfold grow World.drewN;cases V;simp only at *
 subst h1 h2 h3;rw[hd,hh]
theorem JG {w:World}{g n B:Nat}{dk:Array It}{os:Array Obj}(hB:B<=g)(hw:B<=w.heap.size):Below B w (sortWorldK TV 3 w g 0 n dk os):=by
 have hs:(putRowK TV 3 (Sort.ahead w n) g 0 dk).heap.size=w.heap.size:=by rw[size_putRowK]; rfl
 refine⟨rfl,rfl,rfl,by unfold sortWorldK; rw[size_grow,hs]; omega,fun k hk=>?_⟩;show((putRowK TV 3 (Sort.ahead w n) g 0 dk).heap++os)[k]?=w.heap[k]?;rw[Array.getElem?_append_left (by omega)];show(w.heap.modify g _)[k]?=w.heap[k]?;rw[Array.getElem?_modify,if_neg (by omega)]
theorem RP (x y:It):ltOf Sj x y=bf x y:=IV x y
theorem sW:SWO (ltOf Sj) where
 irrefl x:=by rw[RP]; exact uT x
 trans x y z h1 h2:=by rw[RP] at *; exact LU h1 h2
 ntrans x y z h1 h2:=by rw[RP] at *; exact NK h1 h2
theorem zn {A M:List It}(hp:A.Perm M)(hs:M.Pairwise fun a b=>bf a b=true):A.mergeSort (fun x y=>!(ltOf Sj) y x)=M:=by
 refine List.Perm.eq_of_pairwise (le:=fun x y=>(!(ltOf Sj) y x)=true) (fun a b _ _ h1 h2=>?_) (List.pairwise_mergeSort (fun a b c h1 h2=>?_) (fun a b=>?_) A) ?_ ((List.mergeSort_perm _ _).trans hp)
 ·simp only[RP,Bool.not_eq_true'] at h1 h2;by_cases e:a=b
  ·exact e
  ·rw[JW e h2] at h1; cases h1
 ·simp only[RP,Bool.not_eq_true'] at h1 h2 ⊢;exact NK h2 h1
 ·simp only[RP];cases h:bf b a with
  | false=>rfl
  | true=>rw[Rl h]; rfl
 ·exact hs.imp fun h=>by rw[RP,Rl h]; rfl
theorem DZ (blk off size:Nat)(w:World):CmpLays Tryz.prog 75 #[] TV 3 Sj blk off size w:=fun m os dk hs x y=>
 (DY x y _).mono fun e w' q=>⟨q.1,zo q.2⟩
theorem D6 {w:World}{B n c g:Nat}{A M:List It}(h:w.ownsRow B 99 3 (.slice (some ⟨g,0,none⟩) n c) n (itc A))(hB:B<=w.heap.size)(hBg:B<=g)(hp:A.Perm M)(hs:M.Pairwise fun a b=>bf a b=true)(hl:A.length<=100000) :
  Calls Tryz.prog 74 #[.slice (some ⟨g,0,none⟩) n c,.func (.func 75) #[] #[]] w fun e w'=>e=.returned (.tuple #[])/\Cs w' (some ⟨g,0,none⟩) (itc M)/\Below B w w':=by
 have hn:A.toArray.size=n:=by have:=h.1; rw[Xb] at this; simp; omega
 have hg:g<w.heap.size:=(h.lt g rfl).2;have hH:=holds_of h;have eg:∀ args W,(callFunc 75 args).run Tryz.prog W=.ok (.enter 75 args) W:=enters_of Tryz.func75 (by kernel_rfl) rfl;have hcon:=AnyQ.slices_SortFunc_total RQ 3 Tryz.isAgg99 Tryz.sizeOf99 TV (fun _=>rfl) (fun x v hv=>Nv [x] v (by simpa [itc] using hv)) Sj sW 75 #[] g 0 c A.toArray w eg (DZ g 0 A.toArray.size w) hH hg (by rw[hn]; have:=h.1; rw[Xb] at this; omega) (fun x y h1 h2=>by
  rw[RP] at h1 h2;by_cases e:x=y
  ·exact e
  ·rw[JW e h1] at h2; cases h2)
 rw[List.toList_toArray,zn hp hs,hn] at hcon;change Calls Tryz.prog 74 _ _ _ at hcon;refine hcon.mono ?_;rintro e w' ⟨rfl,m,os,rfl⟩;refine⟨rfl,D5 ?_ ?_,JG hBg hB⟩
 ·exact lt_sortWorldK TV 3 w g 0 m M.toArray os hg
 ·exact holdsK_sortWorldK TV 3 w g 0 m A.toArray M.toArray os hg hH (by simp[hp.length_eq])
theorem GZ (p:Option Addr)(c:Nat)(fv:Value)(w:World):Calls Tryz.prog 74 #[.slice p 0 c,fv] w fun e w'=>e=.returned (.tuple #[])/\w'=w:=
 AnyF.slices_SortFunc_none RQ p c fv w
end Go.Proofs.YtnelmomagdcmnaaGreat.Hp
namespace Go.Proofs.YtnelmomagdcmnaaGreat.Hp
attribute [local irreducible] wpList wpQuiet
open Go.RowKit
theorem G5 {g:Nat}{d:Hd}{f:Int->Option Int}{w:World}(h:Mh w g d f){M:List It}(hp:d.A.Perm M)(hs:M.Pairwise fun a b=>bf a b=true)(hl:d.A.length<=90000):∃ a c W1,(Builtin.append_ #[96,96] 96 #[.slice none 0 0,.slice d.ka d.A.length d.kc]).run Tryz.prog w=.ok (.slice a d.A.length c) W1/\d.A.length<=c /\
  Calls Tryz.prog 74 #[.slice a d.A.length c,.func (.func 75) #[] #[]] W1 fun e w'=>e=.returned (.tuple #[])/\Cs w' a (itc M)/\Below w.heap.size w w':=by
 obtain⟨v',W1,hr,hO,hb,-⟩:=UN (P:=Tryz.prog) (t:=96) (B:=w.heap.size) (v:=.slice none 0 0) (n:=0) (xs:=[]) Tryz.underlying96 D7 (by kernel_rfl) (by omega) (by omega) ⟨rfl,.inl ⟨rfl,rfl⟩⟩ d.ka d.kc (itc d.A) h.cs (Xb _) (Nv _) (Nat.le_refl _) (by omega) (by omega);rw[Nat.zero_add,List.nil_append] at hO;obtain⟨a,c,rfl,hcs,hc⟩:=Zi hO;refine⟨a,c,W1,hr,hc,?_⟩;rcases hO.2 with⟨e,h0⟩ | ⟨g2,cap,cur,e,hB,-⟩
 ·simp only[Value.slice.injEq] at e;obtain⟨rfl,-,rfl⟩:=e;have hM:M=[]:=List.eq_nil_of_length_eq_zero (by rw[<- hp.length_eq]; exact h0);rw[h0];exact(GZ none 0 _ W1).mono fun e w' q=>⟨q.1,by rw[hM]; exact Cs.nil _ _,by rw[q.2]; exact hb⟩
 ·simp only[Value.slice.injEq,true_and] at e;obtain⟨rfl,rfl⟩:=e;exact(D6 hO hb.size hB hp hs (by omega)).mono fun e w' q=>⟨q.1,q.2.1,hb.trans q.2.2⟩
theorem D8 {g:Nat}{d:Hd}{f:Int->Option Int}{w:World}(h:Mh w g d f){M:List It}(hp:d.A.Perm M)(hs:M.Pairwise fun a b=>bf a b=true)(hl:d.A.length<=90000):Calls Tryz.prog 43 #[Z7 g 0] w fun e w'=>∃ a c,e=.returned (.slice a M.length c)/\Cs w' a (itc M)/\M.length<=c/\Below w.heap.size w w':=by
 obtain⟨a,c,W1,hap,hc,hso⟩:=G5 h hp hs hl;have HL:=Z8 h.iC;rw[hp.length_eq] at hap hc hso HL;obtain⟨n,hn⟩:=ZR M.length;rw[hn] at hap hc hso HL ⊢;have HSO:=Z8 hso;clear h hp hs hl hn hso;go_enter Tryz.func43,Tryz.ntmps43;go_upto_region 1 with fail;refine wl<|ZA (Z7 g 0) ZW<|wn ?_;simp only[pu];go_upto_region 3 with fail;refine wl<|YU (Z7 g 0) (Z7 g 0) (Z7 g 0)<|Zq rfl ⟨g,0,none⟩ (.slice d.ka n d.kc) (HL.out) ?_;refine Y5 rfl (some 10) rfl 96 rfl (.const (.slice none 0 0)) (.tmp 9) 96 rfl (.slice none 0 0) (.slice d.ka n d.kc) (.slice a n c) W1 (by kernel_rfl) (by kernel_rfl) hap ?_;refine ZN (.slice a n c)<|wn ?_;simp only[pu];clear hap HL;go_upto_region 4 with fail;refine wl<|ZN (.slice a n c)<|Yd (.tuple #[]) (fun w'=>Cs w' a (itc M)/\Below w.heap.size w w') HSO.out (fun V2 hV2=>?_);simp only[pu];apply wpList_nil;have HV:=Z8 hV2;clear hV2 HSO;go_upto_region 5 with fail;refine wl<|ZA (.slice a n c) (.slice a n c)<|wn ?_;simp only[pu];go_wp2_with fail;go_ret;exact⟨a,c,rfl,HV.out.1,hc,HV.out.2⟩
end Go.Proofs.YtnelmomagdcmnaaGreat.Hp
namespace Go.Proofs.YtnelmomagdcmnaaGreat.Hp
open Go.RowKit
def Bq (R:World->Nat->(Nat->Prop)->List It->Prop)(g B:Nat)(S:Nat->Prop)(M:List It)(w w':World):Prop:=∃ S',R w' g S' M/\(∀ k,S' k->S k∨w.heap.size<=k)/\ZP B S w w'
def Vh (w:World)(g:Nat)(S:Nat->Prop)(M:List It):Prop:=∃ d f,Mh w g d f/\Px d.A f/\HO d.A/\d.A.Perm M/\∀ k,S k↔Sh g d k
theorem Vh.in9 {w:World}{g B:Nat}{S:Nat->Prop}{M:List It}(h:Vh w g S M)(hw:Wh M)(hl:M.length<=80000)(hB:∀ j,S j->B<=j)(hs:B<=w.heap.size):∃ d f,Ce B g d f w/\d.A.Perm M/\∀ k,S k↔Sh g d k:=by
 obtain⟨d,f,h1,h2,h3,h4,h5⟩:=h;exact⟨d,f,⟨h1,h2,h3,fun k hk=>hB k ((h5 k).2 hk),hs,(h4.map (·.1)).nodup_iff.2 hw.ids,by rw[h4.length_eq]; omega⟩,h4,h5⟩
theorem tq.upd {w V:World}{g B:Nat}{d:Hd}{S:Nat->Prop}{M:List It}(h:tq B g d w M V)(hS:∀ k,S k↔Sh g d k):Bq Vh g B S M w V:=by
 obtain⟨d',f',hG,h1,h2,h3⟩:=h;exact⟨Sh g d',⟨d',f',hG.mem,h1,h2,h3,fun k=>Iff.rfl⟩,fun k hk=>(hG.sub k hk).imp (hS k).2 id,hG.but.1,fun k hk hn=>hG.but.2 k hk fun h4=>hn ((hS k).2 h4)⟩
theorem Vh.inn {w:World}{g:Nat}{S:Nat->Prop}{M:List It}(h:Vh w g S M):∀ k,S k->k<w.heap.size:=fun k hk=>by
 obtain⟨d,f,h1,h2,h3,h4,h5⟩:=h;obtain⟨i,hi⟩:=(h5 k).1 hk;exact h1.inn i k hi
theorem Vh.same {w w':World}{g:Nat}{S:Nat->Prop}{M:List It}(h:Vh w g S M)(hs:∀ k,S k->w'.heap[k]?=w.heap[k]?):Vh w' g S M:=by
 obtain⟨d,f,h1,h2,h3,h4,h5⟩:=h;exact⟨d,f,h1.same fun i k hk=>hs k ((h5 k).2 ⟨i,hk⟩),h2,h3,h4,h5⟩
theorem yj (w:World):Calls Tryz.prog 55 #[] w fun e w'=>∃ g S,e=.returned (Z7 g 0)/\Vh w' g S []/\(∀ k,S k->w.heap.size<=k)/\Below w.heap.size w w':=(Uy w).mono fun e w' q=>by
 obtain⟨g,d,e1,e2,e3,e4,e5⟩:=q;exact⟨g,Sh g d,e1,⟨d,_,e2,by rw[e3]; exact Px.nil,by rw[e3]; exact uO,by rw[e3],fun k=>Iff.rfl⟩,e4,e5⟩
theorem vP {w:World}{g:Nat}{S:Nat->Prop}{M:List It}(x:It){B:Nat}(h:Vh w g S M)(hw:Wh M)(hl:M.length<=80000)(hB:∀ j,S j->B<=j)(hs:B<=w.heap.size):Calls Tryz.prog 60 #[Z7 g 0,.agg (YS x)] w fun e w'=>e=.returned (.bool (Xx M x).2)/\Bq Vh g B S (Xx M x).1 w w':=by
 obtain⟨d,f,I,hp,hS⟩:=h.in9 hw hl hB hs;exact(sZ I x hp (by rw[hp.length_eq]; omega)).mono fun e w' q=>⟨q.1,q.2.upd hS⟩
theorem FY {w:World}{g:Nat}{S:Nat->Prop}{M:List It}(h:Vh w g S M)(hw:Wh M)(hl:M.length<=80000):Calls Tryz.prog 43 #[Z7 g 0] w fun e w'=>∃ a c,e=.returned (.slice a M.length c)/\Cs w' a (itc M)/\M.length<=c/\Below w.heap.size w w':=by
 obtain⟨d,f,h1,h2,h3,h4,h5⟩:=h;exact D8 h1 h4 hw.Hw (by rw[h4.length_eq]; omega)
end Go.Proofs.YtnelmomagdcmnaaGreat.Hp
namespace Go.Proofs.YtnelmomagdcmnaaGreat.Sd
attribute [local irreducible] wpList wpQuiet
open Go.RowKit
def Nm (w:World)(g:Nat)(a:Option Addr)(c:Nat)(L:List Int)(N:Nat):Prop:=Bx w g #[.slice a L.length c,Z9 N] 66/\Cs w a (ZM L)/\(L≠[]->∀ x,a=some x->x.block<g)
section
variable {w w' : World} {g c N q : Nat} {a : Option Addr} {L : List Int}
theorem Nm.lt (h:Nm w g a c L N):g<w.heap.size:=h.1.lt
theorem Nm.below (h:Nm w g a c L N)(hb:Below w.heap.size w w'):Nm w' g a c L N:=⟨h.1.below h.1.lt hb,h.2.1.below hb,h.2.2⟩
theorem Rf {cs:List Value}(h:Cs w a cs)(hb:But q w w')(hn:cs≠[]->∀ x,a=some x->x.block≠q):Cs w' a cs:=by
 cases cs with
 | nil=>exact Cs.nil _ _
 | cons x r=>exact h.but hb (hn (by simp))
theorem OU (h:ZM L≠[]):L≠[]:=fun e=>h (by rw[e]; rfl)
theorem Nm.but (h:Nm w g a c L N)(hb:But q w w')(hq:g<q):Nm w' g a c L N:=⟨h.1.but hb (by omega),Rf h.2.1 hb (fun hn x hx=>by have:=h.2.2 (OU hn) x hx; omega),h.2.2⟩
theorem Nm.low (h:Nm w g a c L N){B:Nat}(hb:Below B w w')(hg:g<B):Nm w' g a c L N:=⟨h.1.below hg hb,Rh h.2.1 fun k hk=>hb.block k (by obtain⟨hn,x,hx,rfl⟩:=hk; have:=h.2.2 (OU hn) x hx; omega),h.2.2⟩
theorem Nm.VQ {B:Nat}{S:Nat->Prop}(h:Nm w g a c L N)(hb:ZP B S w w')(hg:g<B):Nm w' g a c L N:=h.low hb.1 hg
end
section
variable {ρ : Operand -> Value} {o : Oper} {x y : Operand}
end
section
variable {P : Program} {o : Oper} {a : Act} {w w2 : World}
theorem Yy (ty:TypeId)(x y:Operand)(b:Bool)(ho:o.op=.lookup ty x y b)(vx vy v:Value)(hx:a.eval x=vx)(hy:a.eval y=vy)(hr:(Instr.lookup ty vx vy b).run P w=.ok v w):(execOp a.eval o).run P w=.ok (.value v) w:=by
 unfold execOp;simp only[ho,hx,hy,Sem.run_bind,hr];rfl
theorem Vu (ty:TypeId)(x y z:Operand)(ho:o.op=.mapUpdate ty x y z)(vx vy vz:Value)(hx:a.eval x=vx)(hy:a.eval y=vy)(hz:a.eval z=vz)(hr:(Instr.mapUpdate ty vx vy vz).run P w=.ok () w2):(execOp a.eval o).run P w=.ok .skip w2:=by
 unfold execOp;simp only[ho,hx,hy,hz,Sem.run_bind,hr];rfl
theorem Vw (ty:TypeId)(ho:o.op=.makeMap ty none):(execOp a.eval o).run P w=.ok (.value (.map (some w.heap.size))) (w.alloc (.map #[] 0)):=by
 unfold execOp;simp only[ho];rfl
theorem sF (x y:Operand)(t u:TypeId)(ho:o.op=.call { callee:=.builtin .delete,args:=#[x,y],argTypes:=#[t,u] })(vx vy v:Value)(hx:a.eval x=vx)(hy:a.eval y=vy)(hr:(Builtin.delete_ #[t,u] o.type #[vx,vy]).run P w=.ok v w2):(execOp a.eval o).run P w=.ok (.value v) w2:=by
 unfold execOp;simp only[ho,resolve,invoke,builtin,Sem.run_bind,Sem.run_pure,Result.andThen_ok,List.map_toArray,List.map_cons,List.map_nil,hx,hy,hr]
end
theorem Xe {P:Program}{ops:Array Oper}{rest:List Oper}{o:Oper}{a:Act}{w:World}{Q:Exit->Act->World->Prop}(hw:Region.wanted o (yielded ops a.tmps)=true)(hd:o.dst=none)(w2:World)(hr:(execOp a.eval o).run P w=.ok .skip w2)(k:wpList P ops Q rest a w2):wpList P ops Q (o::rest) a w:=by
 apply wpList_step;intro K hK;rw[if_pos hw,Oper.wp,hr];refine hK _ _ ?_;rw[hd];exact k
theorem Yl {α β:Type}(f:α->β)(g:α->α)(g':β->β)(h:∀ x,f (g x)=g' (f x)):∀ (l:List α) (i:Nat),(l.modify i g).map f=(l.map f).modify i g'
 | [],i=>by cases i <;> rfl
 | x::r,0=>by simp[List.modify_cons,h]
 | x::r,i+1=>by simp[List.modify_cons,Yl f g g' h r i]
theorem WJ {α:Type}(l:List α)(i:Nat)(x:α)(g:α->α)(h:l[i]?=some x):l.modify i g=l.set i (g x):=by
 apply List.ext_getElem?;intro j;rw[List.getElem?_modify,List.getElem?_set];by_cases hj:i=j
 ·subst hj;obtain⟨hl,hv⟩:=List.getElem?_eq_some_iff.1 h;simp[hl,hv]
 ·simp[hj]
def Ya (f:ByteArray->Option Value)(x:ByteArray)(v:Option Value):ByteArray->Option Value:=fun y=>if y=x then v else f y
def Mi (w:World)(B:Nat)(L:List (ByteArray×Value)):Prop:=
 ∃ es clock,w.heap[B]?=some (.map es clock)/\es.toList.map (fun e=>(e.key,e.val))=L.map (fun x=>(Value.string x.1,x.2))/\MapKept.Stamped es clock
def Zx (x:ByteArray):List (ByteArray×Value)->Nat->Option (Nat×Value)
 | [],_=>none
 | p::r,i=>if p.1=x then some (i,p.2) else Zx x r (i+1)
theorem Zl {x:ByteArray}:∀ {L:List (ByteArray×Value)} {i j:Nat} {v:Value},Zx x L i=some (j,v)->∃ k,j=i+k/\k<L.length/\L[k]?=some (x,v)
 | [],i,j,v,h=>by cases h
 | p::r,i,j,v,h=>by
  unfold Zx at h;by_cases hp:p.1=x
  ·rw[if_pos hp] at h;simp only[Option.some.injEq,Prod.mk.injEq] at h;exact⟨0,by omega,by simp,by simp[<- hp,<- h.2]⟩
  ·rw[if_neg hp] at h;obtain⟨k,h1,h2,h3⟩:=Zl h;exact⟨k+1,by omega,by simpa using h2,by simpa using h3⟩
theorem Za {x:ByteArray}:∀ {L:List (ByteArray×Value)} {i:Nat},Zx x L i=none↔∀ p∈L,p.1≠x
 | [],i=>by simp[Zx]
 | p::r,i=>by
  unfold Zx;by_cases hp:p.1=x
  ·simp[hp]
  ·rw[if_neg hp,Za];simp[hp]
def Wi (L:List (ByteArray×Value))(x:ByteArray):Option Value:=(Zx x L 0).map (·.2)
theorem XU (x:ByteArray):∀ (L:List (ByteArray×Value)) (i j:Nat),(Zx x L i).map (·.2)=(Zx x L j).map (·.2)
 | [],i,j=>rfl
 | p::r,i,j=>by
  unfold Zx
  split
  ·rfl
  ·exact XU x r _ _
theorem ZG (p:ByteArray×Value)(r:List (ByteArray×Value))(x:ByteArray):Wi (p::r) x=if p.1=x then some p.2 else Wi r x:=by
 unfold Wi;rw[Zx]
 split
 ·rfl
 ·exact XU x r _ _
theorem VZ (x:ByteArray)(p:ByteArray×Value):∀ (L:List (ByteArray×Value)),(∀ q∈L,q.1≠p.1)->Wi (L++[p]) x=if x=p.1 then some p.2 else Wi L x
 | [],_=>by
  rw[List.nil_append,ZG];by_cases h:p.1=x
  ·rw[if_pos h,if_pos h.symm]
  ·rw[if_neg h,if_neg (fun e=>h e.symm)]
 | q::r,hq=>by
  have h1:=hq q (by simp);rw[List.cons_append,ZG,VZ x p r (fun z hz=>hq z (by simp[hz])),ZG];by_cases h:q.1=x
  ·rw[if_pos h,if_neg (fun e=>h1 (h.trans e)),if_pos h]
  ·rw[if_neg h,if_neg h]
theorem VY (x k:ByteArray)(v u:Value):∀ (L:List (ByteArray×Value)) (j:Nat),L[j]?=some (k,u)->(L.map (·.1)).Nodup->Wi (L.set j (k,v)) x=if x=k then some v else Wi L x
 | [],j,h,_=>by simp at h
 | p::r,0,h,hn=>by
  simp only[List.getElem?_cons_zero,Option.some.injEq] at h;subst h;rw[List.set_cons_zero,ZG,ZG];by_cases h:k=x
  ·rw[if_pos h,if_pos h.symm]
  ·rw[if_neg h,if_neg (fun e=>h e.symm),if_neg h]
 | p::r,j+1,h,hn=>by
  rw[List.getElem?_cons_succ] at h;rw[List.map_cons,List.nodup_cons] at hn;have hpk:p.1≠k:=fun e=>hn.1 (by rw[e]; exact List.mem_map.2 ⟨(k,u),List.mem_of_getElem? h,rfl⟩);rw[List.set_cons_succ,ZG,VY x k v u r j h hn.2,ZG];by_cases h1:p.1=x
  ·rw[if_pos h1,if_neg (fun e=>hpk (h1.trans e)),if_pos h1]
  ·rw[if_neg h1,if_neg h1]
theorem Xq {L:List (ByteArray×Value)}{x:ByteArray}(h:∀ p∈L,p.1≠x):Wi L x=none:=by
 unfold Wi;rw[Za.2 h];rfl
theorem VX (x k:ByteArray)(u:Value):∀ (L:List (ByteArray×Value)) (j:Nat),L[j]?=some (k,u)->(L.map (·.1)).Nodup->Wi (L.eraseIdx j) x=if x=k then none else Wi L x
 | [],j,h,_=>by simp at h
 | p::r,0,h,hn=>by
  simp only[List.getElem?_cons_zero,Option.some.injEq] at h;subst h;rw[List.map_cons,List.nodup_cons] at hn;rw[List.eraseIdx_cons_zero,ZG];by_cases h:k=x
  ·rw[if_pos h.symm];exact Xq fun q hq e=>hn.1 (List.mem_map.2 ⟨q,hq,e.trans h.symm⟩)
  ·rw[if_neg (fun e=>h e.symm),if_neg h]
 | p::r,j+1,h,hn=>by
  rw[List.getElem?_cons_succ] at h;rw[List.map_cons,List.nodup_cons] at hn;have hpk:p.1≠k:=fun e=>hn.1 (by rw[e]; exact List.mem_map.2 ⟨(k,u),List.mem_of_getElem? h,rfl⟩);rw[List.eraseIdx_cons_succ,ZG,VX x k u r j h hn.2,ZG];by_cases h1:p.1=x
  ·rw[if_pos h1,if_neg (fun e=>hpk (h1.trans e)),if_pos h1]
  ·rw[if_neg h1,if_neg h1]
theorem Zt (w:World)(b:Bool)(x:ByteArray):(Instr.checkKey b 10000 9 (.string x)).run Tryz.prog w=.ok () w:=by
 rw[show(10000:Nat)=9999+1 from rfl,Instr.checkKey];simp[run_underlying Tryz.underlying9]
theorem Xp (x:ByteArray):∀ (es:List MapEntry) (L:List (ByteArray×Value)) (i:Nat),es.map (fun e=>(e.key,e.val))=L.map (fun x=>(Value.string x.1,x.2)) ->
  Instr.findNow .string (.string x) es i=some ((Zx x L i).map fun p=>(p.1,p.2))
 | [],[],i,_=>by simp[Instr.findNow,Zx]
 | [],_::_,i,h=>by simp at h
 | _::_,[],i,h=>by simp at h
 | e::es,p::L,i,h=>by
  simp only[List.map_cons,List.cons.injEq,Prod.mk.injEq] at h;obtain⟨⟨h1,h2⟩,h3⟩:=h;have ih:=Xp x es L (i+1) h3;unfold Zx;rw[Instr.findNow,h1];simp only[Instr.sameNow];by_cases hx:p.1=x
  ·have:(x == p.1)=true:=(by rw[ny]; exact decide_eq_true hx.symm);simp[hx,h2,Tv]
  ·have:(x == p.1)=false:=(by rw[ny]; exact decide_eq_false fun h=>hx h.symm);simp[this,hx,ih]
theorem YH (w:World)(x:ByteArray)(es:List MapEntry)(L:List (ByteArray×Value))(h:es.map (fun e=>(e.key,e.val))=L.map (fun x=>(Value.string x.1,x.2))) :
  (Instr.findKey 9 (.string x) es).run Tryz.prog w=.ok ((Zx x L 0).map fun p=>(p.1,p.2)) w:=by
 simp[Instr.findKey,run_underlying Tryz.underlying9,Xp x es L 0 h]
def JF (o:Option Value)(b:Bool):Value:=
 match o with
 | some v=>if b then .tuple #[v,ZT] else v
 | none=>if b then .tuple #[.slice none 0 0,ZW] else .slice none 0 0
theorem Ti {w:World}{B:Nat}{L:List (ByteArray×Value)}(h:Mi w B L)(x:ByteArray)(b:Bool):(Instr.lookup 157 (.map (some B)) (.string x) b).run Tryz.prog w=.ok (JF (Wi L x) b) w:=by
 obtain⟨es,c,hb,he,YB⟩:=h;have hu:(Go.underlying 157).run Tryz.prog w=.ok (.map 9 132) w:=run_underlying (by kernel_rfl) w;have hz:(zeroValue 132).run Tryz.prog w=.ok (.slice none 0 0) w:=by kernel_rfl
 have hr:=YH w x es.toList L he;unfold JF Wi;cases hf:Zx x L 0 with
 | none=>
  rw[hf] at hr;cases b <;> simp[Instr.lookup,hu,MapKept.run_getObj_map hb,Zt w _ x,hr,hz,Result.andThen]
 | some p=>
  rw[hf] at hr;cases b <;> simp[Instr.lookup,hu,MapKept.run_getObj_map hb,Zt w _ x,hr,hz,Result.andThen]
theorem Qj {w:World}{B:Nat}{L:List (ByteArray×Value)}(h:Mi w B L)(x:ByteArray)(v:Value)(hn:Zx x L 0=none) :
  ∃ w',(Instr.mapUpdate 157 (.map (some B)) (.string x) v).run Tryz.prog w=.ok () w'/\Mi w' B (L++[(x,v)])/\w'.heap.size=w.heap.size/\w.grownBy w' (some B):=by
 obtain⟨es,c,hb,he,YB⟩:=h;have hu:(Go.underlying 157).run Tryz.prog w=.ok (.map 9 132) w:=run_underlying (by kernel_rfl) w;have hr:=YH w x es.toList L he;rw[hn] at hr;have hlt:B<w.heap.size:=(Array.getElem?_eq_some_iff.1 hb).1;refine⟨{ w with heap:=w.heap.setIfInBounds B (.map (es.push { key:=.string x,val:=v,born:=c }) (c+1)) },
  by simp[Instr.mapUpdate,hu,MapKept.run_getObj_map hb,Zt w _ x,hr,MapKept.run_setObj_map _ hb,Result.andThen],⟨es.push { key:=.string x,val:=v,born:=c },c+1,by simp[hlt],by simp[he],MapKept.stamped_push YB fun y hy e=>?_⟩,by simp,rfl,rfl,rfl,by simp,fun i _ hi=>?_⟩
 ·have hm:(y.key,y.val)∈L.map (fun x=>(Value.string x.1,x.2)):=by rw[<- he]; exact List.mem_map.2 ⟨y,hy,rfl⟩
  obtain⟨q,hq,hq2⟩:=List.mem_map.1 hm;have h3:=congrArg Prod.fst hq2;simp only[e,Value.string.injEq] at h3;exact Za.1 hn q hq h3
 ·have hne:B≠i:=fun e=>hi (by rw[e]);simp[Array.getElem?_setIfInBounds_ne hne]
theorem Qi {w:World}{B:Nat}{L:List (ByteArray×Value)}(h:Mi w B L)(x:ByteArray)(v u:Value)(j:Nat)(hn:Zx x L 0=some (j,u)) :
  ∃ w',(Instr.mapUpdate 157 (.map (some B)) (.string x) v).run Tryz.prog w=.ok () w'/\Mi w' B (L.set j (x,v))/\w'.heap.size=w.heap.size/\w.grownBy w' (some B):=by
 obtain⟨es,c,hb,he,YB⟩:=h;have hu:(Go.underlying 157).run Tryz.prog w=.ok (.map 9 132) w:=run_underlying (by kernel_rfl) w;have hr:=YH w x es.toList L he;rw[hn] at hr;have hlt:B<w.heap.size:=(Array.getElem?_eq_some_iff.1 hb).1;obtain⟨k,hj,hkl,hg⟩:=Zl hn;obtain rfl:j=k:=by omega
 have hlen:es.size=L.length:=by
  have:=congrArg List.length he;simpa using this
 have hes:j<es.size:=by omega
 have hkey:es[j].key=.string x:=by
  have h1:=congrArg (fun l=>l[j]?) he;simp only[List.getElem?_map,hg,Array.getElem?_toList,Array.getElem?_eq_getElem hes,Option.map_some,Option.some.injEq,Prod.mk.injEq] at h1;exact h1.1
 have hsb:Instr.sameBits 10000 (.string x) (.string x)=true:=by
  rw[show(10000:Nat)=9999+1 from rfl];simp[Instr.sameBits,Tv]
 have hst:(Instr.keyThatStays (((es[j]?).map (·.key)).getD (.string x)) (.string x)).run Tryz.prog w=.ok (.string x) w:=by
  simp only[Array.getElem?_eq_getElem hes,Option.map_some,Option.getD_some,hkey,Instr.keyThatStays,hsb,if_true];rfl
 refine⟨{ w with heap:=w.heap.setIfInBounds B (.map (es.modify j fun e=>{ e with key:=.string x,val:=v }) c) },
  by simp only[Instr.mapUpdate,Sem.run_bind,hu,MapKept.run_getObj_map hb,Zt w _ x,hr,Option.map_some,hst,MapKept.run_setObj_map _ hb,Result.andThen],⟨es.modify j fun e=>{ e with key:=.string x,val:=v },c,by simp[hlt],?_,MapKept.stamped_modify YB j _ (fun _ _=>rfl) fun e _ he2=>by rw[Array.getElem?_eq_getElem hes] at he2; cases he2; exact hkey.symm⟩,by simp,rfl,rfl,rfl,by simp,fun i _ hi=>?_⟩
 ·rw[Array.toList_modify,Yl (fun e:MapEntry=>(e.key,e.val)) _ (fun _=>(Value.string x,v)) (fun _=>rfl),he,
   WJ _ j (Value.string x,u) _ (by simp[hg]),List.map_set]
 ·have hne:B≠i:=fun e=>hi (by rw[e]);simp[Array.getElem?_setIfInBounds_ne hne]
theorem Zg {α β:Type}(f:α->β):∀ (l:List α) (i:Nat),(l.eraseIdx i).map f=(l.map f).eraseIdx i
 | [],i=>by simp
 | x::r,0=>by simp
 | x::r,i+1=>by simp[Zg f r i]
theorem Qh {w:World}{B:Nat}{L:List (ByteArray×Value)}(h:Mi w B L)(x:ByteArray)(ty:TypeId) :
  ∃ w',(Builtin.delete_ #[157,9] ty #[.map (some B),.string x]).run Tryz.prog w=.ok (.tuple #[]) w'/\Mi w' B (match Zx x L 0 with | some (j,_)=>L.eraseIdx j | none=>L)/\w'.heap.size=w.heap.size/\w.grownBy w' (some B):=by
 obtain⟨es,c,hb,he,YB⟩:=h;have hu:(Go.underlying 157).run Tryz.prog w=.ok (.map 9 132) w:=run_underlying (by kernel_rfl) w;have hr:=YH w x es.toList L he;have hlt:B<w.heap.size:=(Array.getElem?_eq_some_iff.1 hb).1;have hg:∀ o:Obj,w.grownBy { w with heap:=w.heap.setIfInBounds B o } (some B):=fun o=>⟨rfl,rfl,rfl,by simp,fun i _ hi=>by
  have hne:B≠i:=fun e=>hi (by rw[e]);simp[Array.getElem?_setIfInBounds_ne hne]⟩
 cases hf:Zx x L 0 with
 | none=>
  rw[hf] at hr;exact⟨{ w with heap:=w.heap.setIfInBounds B (.map es c) },by simp[Builtin.delete_,hu,MapKept.run_getObj_map hb,Zt w _ x,hr,MapKept.run_setObj_map _ hb,Result.andThen],⟨es,c,by simp[hlt],he,YB⟩,by simp,hg _⟩
 | some p=>
  rw[hf] at hr;obtain⟨k,hj,hkl,-⟩:=Zl (show Zx x L 0=some (p.1,p.2) from hf);have hlen:es.size=L.length:=by
   have:=congrArg List.length he;simpa using this
  refine⟨{ w with heap:=w.heap.setIfInBounds B (.map (es.eraseIdxIfInBounds p.1) c) },by simp[Builtin.delete_,hu,MapKept.run_getObj_map hb,Zt w _ x,hr,MapKept.run_setObj_map _ hb,Result.andThen],⟨es.eraseIdxIfInBounds p.1,c,by simp[hlt],?_,MapKept.stamped_erase YB _⟩,by simp,hg _⟩;have hin:p.1<es.size:=by omega
  show(es.eraseIdxIfInBounds p.1).toList.map _=(L.eraseIdx p.1).map _;rw[Array.eraseIdxIfInBounds,dif_pos hin,Array.toList_eraseIdx,Zg,he,Zg]
def Mf (w:World)(B:Nat)(f:ByteArray->Option Value):Prop:=∃ L,Mi w B L/\(L.map (·.1)).Nodup/\∀ x,Wi L x=f x
theorem Mf.lt {w:World}{B:Nat}{f:ByteArray->Option Value}(h:Mf w B f):B<w.heap.size:=by
 obtain⟨L,⟨es,c,h1,-⟩,-⟩:=h;exact(Array.getElem?_eq_some_iff.1 h1).1
theorem Mf.same {w w':World}{B:Nat}{f:ByteArray->Option Value}(h:Mf w B f)(hs:w'.heap[B]?=w.heap[B]?):Mf w' B f:=by
 obtain⟨L,⟨es,c,h1,h2⟩,h3⟩:=h;exact⟨L,⟨es,c,hs.trans h1,h2⟩,h3⟩
theorem Mf.new (w:World):Mf (w.alloc (.map #[] 0)) w.heap.size fun _=>none:=⟨[],⟨#[],0,heap_alloc_last w _,rfl,MapKept.stamped_empty 0⟩,by simp,fun _=>rfl⟩
theorem Mf.look {w:World}{B:Nat}{f:ByteArray->Option Value}(h:Mf w B f)(x:ByteArray)(b:Bool):(Instr.lookup 157 (.map (some B)) (.string x) b).run Tryz.prog w=.ok (JF (f x) b) w:=by
 obtain⟨L,h1,-,h3⟩:=h;rw[<- h3 x];exact Ti h1 x b
theorem Mf.put {w:World}{B:Nat}{f:ByteArray->Option Value}(h:Mf w B f)(x:ByteArray)(v:Value) :
  ∃ w',(Instr.mapUpdate 157 (.map (some B)) (.string x) v).run Tryz.prog w=.ok () w'/\Mf w' B (Ya f x (some v))/\w'.heap.size=w.heap.size/\w.grownBy w' (some B):=by
 obtain⟨L,h1,h2,h3⟩:=h;cases hf:Zx x L 0 with
 | none=>
  have hno:=Za.1 hf;obtain⟨w',hr,hm,hz,hg⟩:=Qj h1 x v hf;refine⟨w',hr,⟨_,hm,?_,fun y=>?_⟩,hz,hg⟩
  ·rw[List.map_append,List.nodup_append];refine⟨h2,by simp,fun a ha b hb e=>?_⟩;obtain⟨q,hq,rfl⟩:=List.mem_map.1 ha;simp only[List.map_cons,List.map_nil,List.mem_singleton] at hb;exact hno q hq (e.trans hb)
  ·rw[VZ y (x,v) L hno,h3 y];rfl
 | some p=>
  obtain⟨w',hr,hm,hz,hg⟩:=Qi h1 x v p.2 p.1 hf;obtain⟨k,hj,hkl,hgt⟩:=Zl (show Zx x L 0=some (p.1,p.2) from hf);have hk:p.1=k:=by omega
  rw[<- hk] at hgt;refine⟨w',hr,⟨_,hm,?_,fun y=>?_⟩,hz,hg⟩
  ·have e:(L.set p.1 (x,v)).map (·.1)=L.map (·.1):=by
    rw[List.map_set];apply List.ext_getElem?;intro i;rw[List.getElem?_set];by_cases hi:p.1=i
    ·subst hi;simp[hgt];omega
    ·rw[if_neg hi]
   rw[e];exact h2
  ·rw[VY y x v p.2 L p.1 hgt h2,h3 y];rfl
theorem Mf.del {w:World}{B:Nat}{f:ByteArray->Option Value}(h:Mf w B f)(x:ByteArray)(ty:TypeId) :
  ∃ w',(Builtin.delete_ #[157,9] ty #[.map (some B),.string x]).run Tryz.prog w=.ok (.tuple #[]) w'/\Mf w' B (Ya f x none)/\w'.heap.size=w.heap.size/\w.grownBy w' (some B):=by
 obtain⟨L,h1,h2,h3⟩:=h;obtain⟨w',hr,hm,hz,hg⟩:=Qh h1 x ty;refine⟨w',hr,?_,hz,hg⟩;cases hf:Zx x L 0 with
 | none=>
  rw[hf] at hm;refine⟨L,hm,h2,fun y=>?_⟩;rw[h3 y];unfold Ya;by_cases e:y=x
  ·rw[if_pos e,e,<- h3 x];exact Xq (Za.1 hf)
  ·rw[if_neg e]
 | some p=>
  rw[hf] at hm;obtain⟨k,hj,hkl,hgt⟩:=Zl (show Zx x L 0=some (p.1,p.2) from hf);have hk:p.1=k:=by omega
  rw[<- hk] at hgt;refine⟨_,hm,?_,fun y=>?_⟩
  ·rw[Zg];exact h2.sublist (List.eraseIdx_sublist _ _)
  ·rw[VX y x p.2 L p.1 hgt h2,h3 y];rfl
def YD (x y:Int):Int:=if x<y then -1 else if y<x then 1 else 0
def MW (x y:Int):Bool:=decide (x<y)
theorem kL (x y:Int):decide (YD x y<0)=MW x y:=by
 unfold MW YD;refine decide_eq_decide.2 ?_
 split
 ·omega
 ·split <;> omega
theorem kK (x y:Int):decide (YD x y=0)=decide (x=y):=by
 unfold YD;refine decide_eq_decide.2 ?_
 split
 ·omega
 ·split <;> omega
theorem Dw {a b c:Int}(h:MW a b=true)(g:MW b c=true):MW a c=true:=decide_eq_true (Int.lt_trans (of_decide_eq_true h) (of_decide_eq_true g))
def Yv (A:List Eo)(j:Nat):Eo:=A.getD j Wn
def KY (A:List Eo):Prop:=∀ i j,i<j->j<A.length->MW (Yv A i).1 (Yv A j).1=true
theorem y7 {A:List Eo}(h:Vt A):KY A:=fun i j hij hj=>by
 have:=List.pairwise_iff_getElem.1 h i j (by omega) hj hij;unfold Yv;rw[getD_lt A i Wn (by omega),getD_lt A j Wn hj];exact decide_eq_true this
theorem UZ {w:World}{a:Option Addr}{L:List Eo}(h:Cs w a (encs L)){i:Nat}(hi:i<L.length):∃ b off,a=some ⟨b,off,none⟩/\b<w.heap.size/\w.rangeAt b (off+i*2) (YN (Yv L i)):=EY h hi
theorem Q8 {A:List Eo}{j:Nat}(h:j<A.length):Yv A j∈A:=by unfold Yv; rw[getD_lt A j Wn h]; exact List.getElem_mem h
theorem Dv {A:List Eo}(hs:KY A){i:Nat}(hi:i<=A.length){q:Int}(h1:∀ t,t<i->MW (Yv A t).1 q=true)(h2:∀ t,i<=t->t<A.length->MW (Yv A t).1 q=false):i=Zw A q/\Xk A q=decide (i<A.length/\(Yv A i).1=q):=by
 have hA:∀ e∈A.take i,e.1<q:=fun e he=>by
  obtain⟨t,ht,rfl⟩:=List.mem_take_iff_getElem.1 he;have:=h1 t (by omega);unfold Yv at this;rw[getD_lt A t Wn (by omega)] at this;exact of_decide_eq_true this
 have hB:∀ e∈A.drop i,q<=e.1:=fun e he=>by
  obtain⟨t,ht,rfl⟩:=List.mem_drop_iff_getElem.1 he;have h3:=h2 (i+t) (by omega) (by omega);unfold Yv at h3;rw[getD_lt A (i+t) Wn (by omega)] at h3;have h4:=of_decide_eq_false h3;exact Int.not_lt.1 h4
 refine⟨?_,?_⟩
 ·conv=>rhs; rw[<- List.take_append_drop i A]
  rw[Qx hA hB,List.length_take]; omega
 ·unfold Xk;rw[Bool.eq_iff_iff,decide_eq_true_iff,List.any_eq_true];simp only[decide_eq_true_eq];constructor
  ·rintro⟨e,he,rfl⟩;obtain⟨t,ht,rfl⟩:=List.mem_iff_getElem.1 he;have e2:(Yv A t)=A[t]:=(by unfold Yv; exact getD_lt A t Wn ht);rcases Nat.lt_or_ge t i with h3 | h3
   ·have:=of_decide_eq_true (h1 t h3);rw[e2] at this; omega
   ·rcases Nat.lt_or_ge i t with h4 | h4
    ·have h5:=of_decide_eq_true (hs i t h4 ht);have h6:=of_decide_eq_false (h2 i (Nat.le_refl _) (by omega));rw[e2] at h5; omega
    ·obtain rfl:i=t:=(by omega);exact⟨ht,by rw[e2]⟩
  ·rintro⟨h3,h4⟩;exact⟨_,Q8 h3,h4⟩
theorem KX (x:Int)(w:World):Calls Tryz.prog 142 #[ZY x] w fun e w'=>e=.returned ZW/\w=w':=by
 go_enter Tryz.func142,Tryz.ntmps142;go_upto_region 1 with fail;refine wl<|ZA (ZY x) (ZY x)<|YF (ni rfl x x (decide_eq_false (fun h=>h rfl)))<|ZN ZW<|wn ?_;simp only[pu];go_wp2_with fail;go_ret;exact⟨rfl,rfl⟩
theorem IG (a b:Int)(w:World):Calls Tryz.prog 106 #[ZY a,ZY b] w fun e w'=>e=.returned (Z9 (YD a b))/\w=w':=by
 have C1:=KX a w;have C2:=KX b w;obtain⟨q,hq⟩:=ZR (YD a b);have HQ:Hid ((a<b->q=-1)/\(¬ a<b->b<a->q=1)/\(¬ a<b->¬ b<a->q=0)):=Z8 ⟨fun h=>by rw[<- hq]; exact if_pos h,fun h h2=>by rw[<- hq]; unfold YD; rw[if_neg h,if_pos h2],fun h h2=>by rw[<- hq]; unfold YD; rw[if_neg h,if_neg h2]⟩;rw[hq];clear hq;go_enter Tryz.func106,Tryz.ntmps106;go_upto_region 1 with fail;refine wl<|ZN (ZY a)<|Yd ZW (fun w'=>w=w') (C1) (fun V9 X9=>?_);subst X9;refine ZN ZW<|wn ?_;simp only[pu];go_upto_region 2 with fail;refine wl<|ZN (ZY b)<|Yd ZW (fun w'=>w=w') (C2) (fun V9 X9=>?_);subst X9;refine ZN ZW<|wn ?_;simp only[pu];clear C1 C2;go_upto_region 3 with fail;refine wl<|ZN ZW<|wn ?_;simp only[pu];go_upto_region 7 with fail;refine wl<|ZN ZW<|wn ?_;simp only[pu];by_cases h1:a<b
 ·obtain rfl:=HQ.out.1 h1;go_upto_region 9 with fail;refine wl<|ZA (ZY a) (ZY b)<|YF (I7 rfl a b (decide_eq_true h1))<|wn ?_;simp only[pu];go_upto_region 10 with fail;refine wl<|ZN (Z9 (-1))<|wn ?_;simp only[pu];go_wp2_with fail;go_ret;exact⟨rfl,rfl⟩
 ·go_upto_region 9 with fail;refine wl<|ZA (ZY a) (ZY b)<|YF (I7 rfl a b (decide_eq_false h1))<|wn ?_;simp only[pu];by_cases h2:b<a
  ·obtain rfl:=HQ.out.2.1 h1 h2;go_upto_region 11 with fail;refine wl<|ZA (ZY a) (ZY b)<|YF (I5 rfl a b (decide_eq_true h2))<|wn ?_;simp only[pu];go_upto_region 12 with fail;refine wl<|ZN (Z9 1)<|wn ?_;simp only[pu];go_wp2_with fail;go_ret;exact⟨rfl,rfl⟩
  ·obtain rfl:=HQ.out.2.2 h1 h2;go_upto_region 11 with fail;refine wl<|ZA (ZY a) (ZY b)<|YF (I5 rfl a b (decide_eq_false h2))<|wn ?_;simp only[pu];go_upto_region 13 with fail;refine wl<|ZN (Z9 0)<|wn ?_;simp only[pu];go_wp2_with fail;go_ret;exact⟨rfl,rfl⟩
theorem KW (x:Eo)(s:Int)(w:World):Calls Tryz.prog 113 #[.agg (ZQ x),ZY s] w fun e w'=>e=.returned (Z9 (YD x.1 s))/\Below w.heap.size w w':=by
 have hb0:Below w.heap.size w (w.alloc (.cells (ZQ x) 168)):=(Below.refl _ w).alloc (Nat.le_refl _) _;have hX:Bx (w.alloc (.cells (ZQ x) 168)) w.heap.size (ZQ x) 168:=heap_alloc_last w _;have CB:=IG x.1 s (w.alloc (.cells (ZQ x) 168));obtain⟨q,hq⟩:=ZR (YD x.1 s);rw[hq] at CB ⊢;clear hq;go_enter Tryz.func113,Tryz.ntmps113;go_upto_region 1 with fail;change Code.wp _ _ _ _ (w.alloc (.cells (ZQ x) 168));generalize w.alloc (.cells (ZQ x) 168)=W at *
 have HB:=Z8 hb0;clear hb0;refine wl<|ZN (Z7 w.heap.size 0)<|Zq rfl ⟨w.heap.size,0,none⟩ (ZY x.1) (hX.ZL 0)<|ZN (ZY s)<|Yd (Z9 q) (fun w'=>W=w') (CB) (fun V9 X9=>?_);subst X9;refine ZN (Z9 q)<|wn ?_;simp only[pu];clear CB hX;go_wp2_with fail;go_ret;exact⟨rfl,HB.out⟩
theorem Nk {ρ:Operand->Value}{o:Oper}{x:Operand}(ho:o.op=.convert 3 185 x)(a:Nat)(h:a<=9223372036854775807)(hx:ρ x=Z9 a)(w:World):(execOp ρ o).run Tryz.prog w=.ok (.value (ZY a)) w:=by
 have e:IntKind.u64.wrap (a:Int)=a:=by rw[IntKind.wrap_u64]; omega
 unfold execOp;simp only[ho,hx];go_simp
theorem Nj {ρ:Operand->Value}{o:Oper}{x:Operand}(ho:o.op=.convert 185 3 x)(a:Nat)(h:a<=9223372036854775807)(hx:ρ x=ZY a)(w:World):(execOp ρ o).run Tryz.prog w=.ok (.value (Z9 a)) w:=by
 have e:IntKind.i64.wrap (a:Int)=a:=by rw[IntKind.wrap_i64]; omega
 unfold execOp;simp only[ho,hx];go_simp
theorem Jy {ρ:Operand->Value}{o:Oper}{x y:Operand}(ho:o.op=.binOp .shr 185 x y 185)(a:Nat)(h:a<=9223372036854775807)(hx:ρ x=ZY a)(hy:ρ y=ZY 1)(w:World):(execOp ρ o).run Tryz.prog w=.ok (.value (ZY (a / 2:Nat))) w:=by
 unfold execOp;simp only[ho,hx,hy];go_simp
theorem su (a:Option Addr)(k:Nat)(A:List Eo)(s:Int)(w:World)(hR:Cs w a (encs A))(hs:KY A)(hn:A.length<=1000000) :
  Calls Tryz.prog 112 #[.slice a A.length k,ZY s,.func (.func 113) #[] #[]] w fun e w'=>e=.returned (.tuple #[Z9 (Zw A s),.bool (Xk A s)])/\Below w.heap.size w w':=by
 have HA:=Z8 hR;have Cj:=Z8 (fun i=>kL (Yv A i).1 s);have gX:=Z8 (fun i=>kK (Yv A i).1 s);have HS:=Z8 hs;obtain⟨n,hnn⟩:=ZR A.length;have HN:=Z8 hnn;have yh:Hid (n<=1000000):=Z8 (by omega);obtain⟨lL,Du⟩:=ZR (Zw A s);obtain⟨fF,BZ⟩:=ZR (Xk A s);have Cb:Hid (∀ i,i<=n->(∀ t,t<i->MW (Yv A t).1 s=true)->(∀ t,i<=t->t<n->MW (Yv A t).1 s=false)->i=lL/\fF=decide (i<n/\(Yv A i).1=s)):=Z8 fun i h1 h2 h3=>by
  have e:=Dv hs (i:=i) (by omega) h2 (fun t h4 h5=>h3 t h4 (by omega));rw[<- Du,<- BZ,<- hnn];exact e
 rw[hnn,Du,BZ];clear Du BZ hR hs hn hnn;go_enter Tryz.func112,Tryz.ntmps112;go_upto_region 1 with fail;refine wl<|YU (.slice a n k) (Z9 n) (Z9 n)<|wn ?_;simp only[pu];go_upto_region 2 with fail;refine wl<|YU (Z9 n) (Z9 0) (Z9 n)<|wn ?_;simp only[pu];go_wp2_with fail;go_loopg [9,10] n (fun gg s9 s10 wx=>∃ i j:Nat,s9=Z9 i/\s10=Z9 j/\i<=j/\j<=n/\Hid ((∀ t,t<i->MW (Yv A t).1 s=true)/\(∀ t,j<=t->t<n->MW (Yv A t).1 s=false))/\Hid (Below w.heap.size w wx)/\j-i=gg)
 case atStart=>exact⟨0,n,rfl,rfl,by omega,by omega,Z8 ⟨fun t h=>by omega,fun t h h2=>by omega⟩,Z8 (Below.refl _ _),by omega⟩
 case round=>
  obtain⟨i,j,rfl,rfl,hij,hjn,HO,HB,hg⟩:=hrel;have Ij:=yh.out;by_cases hlt:i<j
  ·go_upto_region 3 with fail;refine wl<|ZA (Z9 i) (Z9 j)<|YF (Zv rfl (i) (j) dT)<|wn ?_;simp only[pu];go_upto_region 4 with fail;refine wl<|ZA (Z9 i) (Z9 j)<|Yb (Z9 (i+j:Nat)) (YK rfl i j (by omega))<|YT (ZY (i+j:Nat)) (Nk rfl (i+j) (by omega) (by kernel_rfl) _) <|
    Yb (ZY ((i+j) / 2:Nat)) (Jy rfl (i+j) (by omega))<|YT (Z9 ((i+j) / 2:Nat)) (Nj rfl ((i+j) / 2) (by omega) (by kernel_rfl) _)<|ZN (Z9 ((i+j) / 2:Nat))<|wn ?_
   simp only[pu];obtain⟨h,hh⟩:=ZR ((i+j) / 2);have HH:Hid (i<=h/\h<j):=Z8 (by omega);have hhn:h<n:=(by have:=HH.out; omega);rw[hh];clear hh;obtain⟨b,off,rfl,-,hrx⟩:=UZ (HA.out.below HB.out) (i:=h) (by rw[HN.out]; exact hhn);have Q5:=Z8 (ZC hrx);have hl1:=Cj.out h;generalize hy:Yv A h=y at *
   have CP:=KW y s wr;obtain⟨q,hq⟩:=ZR (YD y.1 s);rw[hq] at CP hl1;have HY:=Z8 hy;have HG:=Z8 hg;clear hrx hq hy hg;go_upto_region 5 with fail;by_cases hqq:q<0
   ·rw[decide_eq_true hqq] at hl1;refine wl<|YU (.func (.func 113) #[] #[]) (.slice (some ⟨b,off,none⟩) n k) (Z9 h)<|YT (Z7 b (off+h*2)) (Yn b off n k h hhn _ _ _ rfl (by kernel_rfl) (by kernel_rfl))<|Zq rfl ⟨b,off+h*2,none⟩ (.agg (ZQ y)) (Q5.out) <|
     ZN (ZY s)<|Yd (Z9 q) (fun w'=>Below wr.heap.size wr w') (CP) (fun V9 X9=>?_)
    have SK:=Z8 (HB.out.trans (X9.mono HB.out.size));refine YF (Zv rfl (q) (0) (decide_eq_true (hqq)))<|wn ?_;simp only[pu];clear X9 HB Q5 CP hqq;have rZ:Hid ((∀ t,t<h+1->MW (Yv A t).1 s=true)/\(∀ t,j<=t->t<n->MW (Yv A t).1 s=false)):=Z8 ⟨fun t ht=>(by rcases Nat.lt_or_ge t h with h7 | h7; exact Dw (HS.out t h h7 (by rw[HN.out]; exact hhn)) (by rw[HY.out]; exact hl1.symm); have e7:t=h:=(by omega); rw[e7,HY.out]; exact hl1.symm),HO.out.2⟩;go_upto_region 6 with fail;refine wl<|ZN (Z9 h)<|Yb (Z9 (h+1:Nat)) (YK rfl h 1 (by omega))<|ZN (Z9 (h+1:Nat))<|wn ?_;simp only[pu];clear HO hl1;go_wp2_with fail;go_roundg (j-(h+1))
    case measure=>have:=HG.out; have:=HH.out; omega
    case rel=>exact⟨h+1,j,rfl,rfl,by have:=HH.out; omega,hjn,rZ,SK,rfl⟩
   ·rw[decide_eq_false hqq] at hl1;refine wl<|YU (.func (.func 113) #[] #[]) (.slice (some ⟨b,off,none⟩) n k) (Z9 h)<|YT (Z7 b (off+h*2)) (Yn b off n k h hhn _ _ _ rfl (by kernel_rfl) (by kernel_rfl))<|Zq rfl ⟨b,off+h*2,none⟩ (.agg (ZQ y)) (Q5.out) <|
     ZN (ZY s)<|Yd (Z9 q) (fun w'=>Below wr.heap.size wr w') (CP) (fun V9 X9=>?_)
    have SK:=Z8 (HB.out.trans (X9.mono HB.out.size));refine YF (Zv rfl (q) (0) (decide_eq_false (hqq)))<|wn ?_;simp only[pu];clear X9 HB Q5 CP hqq;have rZ:Hid ((∀ t,t<i->MW (Yv A t).1 s=true)/\(∀ t,h<=t->t<n->MW (Yv A t).1 s=false)):=Z8 ⟨HO.out.1,fun t ht htn=>(by have h0:MW (Yv A h).1 s=false:=(by rw[HY.out]; exact hl1.symm); rcases Nat.lt_or_ge h t with h7 | h7; have h8:=HS.out h t h7 (by rw[HN.out]; exact htn); by_cases h9:MW (Yv A t).1 s=true; rw[Dw h8 h9] at h0; cases h0; simpa using h9; have e7:t=h:=(by omega); rw[e7]; exact h0)⟩;go_upto_region 7 with fail;refine wl<|ZA (Z9 h) (Z9 h)<|wn ?_;simp only[pu];clear HO hl1;go_wp2_with fail;go_roundg (h-i)
    case measure=>have:=HG.out; have:=HH.out; omega
    case rel=>exact⟨i,h,rfl,rfl,by have:=HH.out; omega,by have:=HH.out; omega,rZ,SK,rfl⟩
  ·obtain rfl:i=j:=(by omega);obtain⟨hil,BX⟩:=Cb.out i hjn HO.out.1 HO.out.2;subst hil;clear HO Cb hg hij;by_cases hin:i<n
   ·obtain⟨b,off,rfl,-,hrx⟩:=UZ (HA.out.below HB.out) (i:=i) (by rw[HN.out]; exact hin);have Q5:=Z8 (ZC hrx);have hl1:=gX.out i;have yX:fF=decide ((Yv A i).1=s):=(by rw[BX,decide_eq_decide]; exact⟨fun h=>h.2,fun h=>⟨hin,h⟩⟩);clear BX;generalize Yv A i=y at *
    rw[<- hl1] at yX;have CP:=KW y s wr;obtain⟨q,hq⟩:=ZR (YD y.1 s);rw[hq] at CP yX;have Gw:=Z8 yX.symm;clear hrx hq hl1 yX;go_upto_region 3 with fail;refine wl<|ZA (Z9 i) (Z9 i)<|YF (Zv rfl (i) (i) dF)<|wn ?_;simp only[pu];go_upto_region 8 with fail;refine wl<|YU (Z9 i) (Z9 i) (Z9 n)<|YF (Zv rfl (i) (n) dT)<|MR ZT (.func (.func 113) #[] #[]) (.slice (some ⟨b,off,none⟩) n k) (Z9 i) <|
     YT (Z7 b (off+i*2)) (Yn b off n k i hin _ _ _ rfl (by kernel_rfl) (by kernel_rfl))<|Zq rfl ⟨b,off+i*2,none⟩ (.agg (ZQ y)) (Q5.out)<|ZN (ZY s)<|Yd (Z9 q) (fun w'=>Below wr.heap.size wr w') (CP) (fun V9 X9=>?_)
    have SK:=Z8 (HB.out.trans (X9.mono HB.out.size));refine Yb (.bool fF) (YA rfl q 0 Gw.out)<|YU (.bool fF) (Z9 i) (.bool fF)<|wn ?_;simp only[pu];clear X9 HB Q5 CP Gw;go_wp2_with fail;go_ret2;exact⟨rfl,SK.out⟩
   ·rw[decide_eq_false (fun h=>hin h.1)] at BX;subst BX;go_upto_region 3 with fail;refine wl<|ZA (Z9 i) (Z9 i)<|YF (Zv rfl (i) (i) dF)<|wn ?_;simp only[pu];go_upto_region 8 with fail;refine wl<|YU (Z9 i) (Z9 i) (Z9 n)<|YF (Zv rfl (i) (n) dF)<|AP ZW undef undef undef undef undef<|AP undef undef undef ZW (Z9 i) ZW <|
     wpList_nil ?_
    simp only[pu];go_wp2_with fail;go_ret2;exact⟨rfl,HB.out⟩
theorem Nh (a:Option Addr)(k:Nat)(A:List Eo)(s:Int)(w:World)(hR:Cs w a (encs A))(hs:KY A)(hn:A.length<=1000000) :
  Calls Tryz.prog 88 #[.slice a A.length k,ZY s] w fun e w'=>e=.returned (.tuple #[Z9 (Zw A s),.bool (Xk A s)])/\Below w.heap.size w w':=by
 have CB:=su a k A s w hR hs hn;obtain⟨lL,Du⟩:=ZR (Zw A s);obtain⟨fF,BZ⟩:=ZR (Xk A s);rw[Du,BZ] at CB ⊢;generalize A.length=n at *
 clear Du BZ hR hs hn;go_enter Tryz.func88,Tryz.ntmps88;go_upto_region 1 with fail;refine wl<|ZA (.slice a n k) (ZY s)<|Yd (.tuple #[Z9 lL,.bool fF]) (fun w'=>Below w.heap.size w w') (CB) (fun V9 X9=>?_);have SK:=Z8 X9;refine MR (Z9 lL) (.bool fF) (Z9 lL) (.bool fF)<|wn ?_;simp only[pu];clear X9 CB;go_wp2_with fail;go_ret2;exact⟨rfl,SK.out⟩
theorem Qg {w:World}{B:Nat}{v:Value}{E:List Eo}(h:ZE w B v E)(hs:Vt E)(hl:E.length<=1000000)(q:Int):Calls Tryz.prog 88 #[v,ZY q] w fun e w'=>e=.returned (.tuple #[Z9 (Zw E q),.bool (Xk E q)])/\Below w.heap.size w w':=by
 obtain⟨a,c,rfl,h1,-⟩:=h.cs;exact Nh a c E q w h1 (y7 hs) hl
end Go.Proofs.YtnelmomagdcmnaaGreat.Sd
