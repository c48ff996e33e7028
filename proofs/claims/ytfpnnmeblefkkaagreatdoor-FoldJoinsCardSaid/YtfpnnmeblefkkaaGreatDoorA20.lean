/-
  Texts joined.
-/
import Derived.Test.YtfpnnmeblefkkaaGreatDoorA19
set_option maxRecDepth 100000
set_option maxHeartbeats 8000000
set_option linter.unusedSimpArgs false
set_option linter.unusedVariables false
namespace Go.Proofs.YtfpnnmeblefkkaaGreatDoor.Lg
open Mo (YO YX Yo Yx)
open Go.RowKit
def PI (r:XQ):List Value:=[Z8 r.code,.string r.snd,Z7 r.sq,Z7 r.Zu,Z7 r.pr]
def Vg (R:List XQ):List Value:=R.flatMap PI
theorem Dh:∀ R:List XQ,(Vg R).length=R.length*5
 | []=>rfl
 | x::r=>by
  have:=Dh r;show(PI x++Vg r).length=_;rw[List.length_append,this,List.length_cons];show 5+_=_;omega
theorem kP (A B:List XQ):Vg (A++B)=Vg A++Vg B:=by unfold Vg; rw[List.flatMap_append]
theorem kN (R:List XQ):∀ u∈Vg R,u.oneCell'=true:=fun u hu=>by
 obtain⟨x,-,hx⟩:=List.mem_flatMap.1 hu;simp only[PI,List.mem_cons,List.not_mem_nil,or_false] at hx;rcases hx with rfl | rfl | rfl | rfl | rfl <;> rfl
def zR:XQ:=YQ 0
def bV (R:List XQ)(k:Nat):XQ:=R.getD k zR
theorem bU {R:List XQ}{k:Nat}(h:k<R.length):bV R k=R[k]:=getD_lt R k _ h
theorem FD:∀ (R:List XQ) (k q:Nat) (v:Value),k<R.length->(PI (bV R k))[q]?=some v->(Vg R)[k*5+q]?=some v
 | [],k,q,v,h,_=>absurd h (by simp)
 | x::r,0,q,v,_,hv=>by
  have hq:q<5:=by
   obtain⟨h1,-⟩:=List.getElem?_eq_some_iff.1 hv;exact h1
  show(PI x++Vg r)[0*5+q]?=_;rw[Nat.zero_mul,Nat.zero_add,List.getElem?_append_left (by exact hq)];exact hv
 | x::r,k+1,q,v,h,hv=>by
  show(PI x++Vg r)[(k+1)*5+q]?=_;rw[List.getElem?_append_right (by show 5<=_; omega),show(k+1)*5+q-(PI x).length=k*5+q by show _-5=_; omega];exact FD r k q v (by simpa using h) hv
theorem zn:(Tryz.prog.info? 47).map (fun i=>(i.zero,i.size,i.bytes))=some (some (.agg #[Z8 0,.string ByteArray.empty,Z7 0,Z7 0,Z7 0]),5,48):=by kernel_rfl
theorem Ic (r:XQ)(V:World):(Instr.buildSlice 35 1 #[(0,.agg (ZB r))]).run Tryz.prog V=.ok (.slice (some ⟨V.heap.size,0,none⟩) 1 1) (V.alloc (.cells (ZB r) 47)):=by
 obtain⟨i0,hi,hz0,hz1,hz2⟩:=info_parts zn;refine run_buildSlice V 35 47 1 _ (ZB r) i0 _ Tryz.underlying35 hi hz0 (by rw[hz1]; omega) (by rw[hz1]; omega) ?_;rw[hz1];kernel_rfl
def P8 (w:World)(B:Nat)(v:Value)(R:List XQ):Prop:=w.ownsRow B 47 5 v R.length (Vg R)
theorem P8.nil (w:World)(B:Nat):P8 w B (.slice none 0 0) []:=World.ownsRow_nil _ _ _ _
theorem FC {w:World}{B:Nat}{v:Value}{A:List XQ}(h:P8 w B v A)(pa:Option Addr)(cp:Nat)(M:List XQ)(hP:Cs w pa (Vg M))(hB:B<=w.heap.size)(hl:(A.length+M.length)*48<=140737488355328) :
  ∃ a c V2,(Builtin.append_ #[35,35] 35 #[v,.slice pa M.length cp]).run Tryz.prog w=.ok (.slice a (A++M).length c) V2/\P8 V2 B (.slice a (A++M).length c) (A++M)/\Below B w V2/\w.grownBy V2 v.ownBlock/\((Value.slice a (A++M).length c).ownBlock=v.ownBlock∨(Value.slice a (A++M).length c).ownBlock=some w.heap.size):=by
 obtain⟨v2,V2,hr,hO,hb,hg,hat⟩:=UG (P:=Tryz.prog) (t:=35) (e:=47) (m:=M.length) (s:=5) (bytes:=48) Tryz.underlying35 zn (by kernel_rfl) (by omega) h pa cp (Vg M) hP (Dh M) (kN M) hB (by omega) hl;have hO2:P8 V2 B v2 (A++M):=by unfold P8; rw[List.length_append,kP]; exact hO
 obtain⟨a,c,e,-,-⟩:=YH hO2;subst e;exact⟨a,c,V2,hr,hO2,hb,hg,hat⟩
theorem zo {w:World}{B:Nat}{v:Value}{R:List XQ}(h:P8 w B v R):∀ q,v.ownBlock=some q->B<=q/\q<w.heap.size:=fun q hq=>by
 obtain⟨-,h⟩:=h;rcases h with⟨rfl,-⟩ | ⟨g,cap,cur,rfl,hB,hh,-⟩
 ·cases hq
 ·cases hq;exact⟨hB,(Array.getElem?_eq_some_iff.1 hh).1⟩
theorem kQ {w w':World}{g B e size n:Nat}{v:Value}{xs:List Value}(h:w.ownsRow B e size v n xs)(hb:But g w w')(hn:v.ownBlock≠some g):w'.ownsRow B e size v n xs:=by
 refine⟨h.1,?_⟩;rcases h.2 with h0 | ⟨k,cap,cur,ev,hB,hg,r⟩
 ·exact .inl h0
 ·exact .inr ⟨k,cap,cur,ev,hB,(hb.2 k (Array.getElem?_eq_some_iff.1 hg).1 (fun q=>hn (by rw[ev,q]; rfl))).trans hg,r⟩
theorem JJ {w w':World}{row:Option Nat}{a:Option Addr}{cs:List Value}(h:Cs w a cs)(hg:w.grownBy w' row)(hn:cs≠[]->∀ x,a=some x->row≠some x.block):Cs w' a cs:=fun j v hj=>by
 obtain⟨b,off,e,hlt,hc⟩:=h j v hj;refine⟨b,off,e,Nat.lt_of_lt_of_le hlt hg.size,?_⟩;rw[<- hc];exact World.cell?_of_block (hg.block b hlt (fun q=>hn (fun z=>by rw[z] at hj; cases hj) _ e q.symm))
theorem Di {w:World}{B:Nat}{v:Value}{A:List XQ}(h:P8 w B v A)(hB:B<=w.heap.size)(r:XQ)(hl:A.length<=100000) :
  ∃ a c V2,(Builtin.append_ #[35,35] 35 #[v,.slice (some ⟨w.heap.size,0,none⟩) 1 1]).run Tryz.prog (w.alloc (.cells (ZB r) 47))=.ok (.slice a (A++[r]).length c) V2/\P8 V2 B (.slice a (A++[r]).length c) (A++[r])/\Below B w V2/\w.grownBy V2 v.ownBlock/\(∀ q,(Value.slice a (A++[r]).length c).ownBlock=some q->v.ownBlock=some q∨w.heap.size<=q):=by
 have hb:Below w.heap.size w (w.alloc (.cells (ZB r) 47)):=(Below.refl _ w).alloc (Nat.le_refl _) _;have hO:=own_below h hb;have hc:Cs (w.alloc (.cells (ZB r) 47)) (some ⟨w.heap.size,0,none⟩) (Vg [r]):=Cs.block (t:=47) (fr:=(0,0)) (heap_alloc_last w _);obtain⟨a,c,V2,h1,h2,h3,h4,h5⟩:=FC hO (some ⟨w.heap.size,0,none⟩) 1 [r] hc (Nat.le_trans hB hb.size) (by simp only[List.length_cons,List.length_nil]; omega);refine⟨a,c,V2,h1,h2,(hb.mono hB).trans h3,(World.grownBy_alloc w _ _).trans h4,fun q hq=>?_⟩;rcases h5 with h5 | h5
 ·exact .inl (by rw[<- h5]; exact hq)
 ·rw[h5] at hq;cases hq;exact .inr hb.size
theorem Rj {w:World}{a:Option Addr}{R:List XQ}(h:Cs w a (Vg R)){k:Nat}(hk:k<R.length):∃ b off,a=some ⟨b,off,none⟩/\b<w.heap.size/\w.rangeAt b (off+k*5) (PI (bV R k)):=by
 have h0:=FD R k 0 _ hk rfl;obtain⟨b,off,rfl,hb,-⟩:=h _ _ h0;refine⟨b,off,rfl,hb,fun q v hv=>?_⟩;obtain⟨b2,o2,e,-,c2⟩:=h _ _ (FD R k q v hk hv);simp only[Option.some.injEq,Addr.mk.injEq,and_true] at e;obtain⟨rfl,rfl⟩:=e;rw[Nat.add_assoc];exact c2
theorem FB {w:World}{b o:Nat}{r:XQ}(h:w.rangeAt b o (PI r)):(Instr.loadAt 47 (Z5 b o)).run Tryz.prog w=.ok (.agg (ZB r)) w:=
 run_loadAt_mid w b o 47 (PI r) _ h Tryz.underlying47 rfl (by kernel_rfl)
abbrev Bs:=Option Addr×Nat×List Int
def PG (E:List Bs):List Value:=E.map fun e=>.slice e.1 e.2.2.length e.2.1
def lsB (E:List Bs):List (List Int):=E.map (·.2.2)
def UU (E:List Bs)(k:Nat):Bs:=E.getD k (none,0,[])
theorem Fz {E:List Bs}{k:Nat}(h:k<E.length):UU E k=E[k]:=getD_lt E k _ h
theorem Yy (E:List Bs):(lsB E).length=E.length:=by simp[lsB]
theorem O4 {E:List Bs}{k:Nat}(h:k<E.length):(lsB E).getD k []=(UU E k).2.2:=by
 unfold lsB;rw[Fz h,List.getD_eq_getElem?_getD,List.getElem?_map,List.getElem?_eq_getElem h];rfl
structure Rn (w:World)(a:Option Addr)(E:List Bs):Prop where
 cs:Cs w a (PG E)
 sl:∀ e,e∈E->Sl w e.1 e.2.1 e.2.2
 le:∀ e,e∈E->e.2.2.length<=e.2.1
 b:∀ e,e∈E->∀ y,y∈e.2.2->W8 y
theorem Rn.below {w w':World}{a:Option Addr}{E:List Bs}(h:Rn w a E)(hb:Below w.heap.size w w'):Rn w' a E:=⟨h.cs.below hb,fun e he=>ZL (h.sl e he) hb,h.le,h.b⟩
theorem Rn.at {w:World}{a:Option Addr}{E:List Bs}(h:Rn w a E){k:Nat}(hk:k<E.length):∃ b off,a=some ⟨b,off,none⟩/\(Instr.loadAt 54 (Z5 b (off+k*1))).run Tryz.prog w=.ok (.slice (UU E k).1 (UU E k).2.2.length (UU E k).2.1) w:=by
 have h0:(PG E)[k]?=some (.slice (UU E k).1 (UU E k).2.2.length (UU E k).2.1):=by
  unfold PG;rw[Fz hk,List.getElem?_map,List.getElem?_eq_getElem hk];rfl
 obtain⟨b,off,rfl,-,hc⟩:=h.cs _ _ h0;rw[show k*1=k by omega];exact⟨b,off,rfl,YB hc (by kernel_rfl)⟩
theorem Rn.all {w:World}{a:Option Addr}{E:List Bs}(h:Rn w a E):∀ L,L∈lsB E->∀ y,y∈L->W8 y:=fun L hL=>by
 obtain⟨e,he,rfl⟩:=List.mem_map.1 hL;exact h.b e he
theorem Og {E:List Bs}{k:Nat}(h:k<E.length):UU E k∈E:=by rw[Fz h]; exact List.getElem_mem h
theorem NY (b off n c k:Nat)(hk:k<n)(V:World)(ρ:Operand->Value)(o:Oper){x y:Operand}(ho:o.op=.indexAddr 23 x y)(hx:ρ x=.slice (some ⟨b,off,none⟩) n c)(hy:ρ y=Z8 k):(execOp ρ o).run Tryz.prog V=.ok (.value (Z5 b (off+k*1))) V:=by
 have hs:(sizeOf (Tryz.prog.elem 23)).run Tryz.prog V=.ok 1 V:=by kernel_rfl
 have hlm:(k:Int)<(n:Int):=by omega
 unfold execOp;simp only[ho,hx,hy];go_simp
theorem Le (b off n c k:Nat)(hk:k<n)(V:World)(ρ:Operand->Value)(o:Oper){x y:Operand}(ho:o.op=.indexAddr 35 x y)(hx:ρ x=.slice (some ⟨b,off,none⟩) n c)(hy:ρ y=Z8 k):(execOp ρ o).run Tryz.prog V=.ok (.value (Z5 b (off+k*5))) V:=by
 have hs:(sizeOf (Tryz.prog.elem 35)).run Tryz.prog V=.ok 5 V:=by kernel_rfl
 have hlm:(k:Int)<(n:Int):=by omega
 unfold execOp;simp only[ho,hx,hy];go_simp
def QTx:Prop:=∀ (A:List Ac) (c price:Int) (L:List Int) (la ra:Option Addr) (lk rc:Nat) (w:World),Cs w la (acc A)->A.length<=lk->A.length<=4398046511104->W64 c->TM A->(∀ x,x∈A->x.1.size<=140737488355328)->W64 price->Sl w ra rc L->L.length<=rc->(∀ y,y∈L->W8 y) ->
  Calls Tryz.prog 25 #[.agg (ZU la A.length lk c),Z7 price,.slice ra L.length rc] w (kY w la A (Uh A c price L))
theorem zq (V:World)(a:Option Addr)(n k:Nat)(c:Int)(r:XQ):∃ Va V2 V3,V.alloc (.cells (ZU none 0 0 0) 30)=Va/\V.heap.size<Va.heap.size /\
  (Instr.storeAt 30 (Z5 V.heap.size 0) (.agg (ZU a n k c))).run Tryz.prog (Va.alloc (.cells (ZB (YQ 0)) 47))=.ok () V2 /\
  (Instr.storeAt 47 (Z5 Va.heap.size 0) (.agg (ZB r))).run Tryz.prog V2=.ok () V3 /\
  Below V.heap.size V V3/\Bx V3 V.heap.size (ZU a n k c) 30/\Bx V3 Va.heap.size (ZB r) 47:=by
 have hX1:Bx (V.alloc (.cells (ZU none 0 0 0) 30)) V.heap.size (ZU none 0 0 0) 30:=heap_alloc_last V _;have hb1:Below V.heap.size V (V.alloc (.cells (ZU none 0 0 0) 30)):=(Below.refl _ V).alloc (Nat.le_refl _) _;obtain⟨Va,kS⟩:=ZR (V.alloc (.cells (ZU none 0 0 0) 30));rw[kS] at hX1 hb1;have hX2:Bx (Va.alloc (.cells (ZB (YQ 0)) 47)) Va.heap.size (ZB (YQ 0)) 47:=heap_alloc_last Va _;have hb2:Below Va.heap.size Va (Va.alloc (.cells (ZB (YQ 0)) 47)):=(Below.refl _ Va).alloc (Nat.le_refl _) _;have hlt:=hX1.lt;obtain⟨hs1,hY1⟩:=ZF (a':=a) (n':=n) (k':=k) (c':=c) (hX1.below hX1.lt hb2);have hn:Va.heap.size≠V.heap.size:=by omega
 obtain⟨hs2,hY2⟩:=XB (q:=r) (hX2.but (But.setRow _ (ZU a n k c)) hn);exact⟨Va,_,_,kS,hlt,hs1,hs2,(hb1.trans (hb2.mono hb1.size)).trans (((But.setRow _ _).1).trans ((But.setRow _ _).1.mono (Nat.le_of_lt hlt))),hY1.but (But.setRow _ _) hn.symm,hY2⟩
end Go.Proofs.YtfpnnmeblefkkaaGreatDoor.Lg
namespace Go.Proofs.YtfpnnmeblefkkaaGreatDoor.Lg
attribute [local irreducible] wpList wpQuiet
open Mo (YO YX Yo Yx)
open Go.RowKit
abbrev YZ (x0 x1:Value)(a:Option Addr)(n k:Nat)(c:Int)(y0 y1 y2:Value)(p:Int):Array Value:=#[x0,x1,.slice a n k,Z7 c,y0,y1,y2,Z7 p]
theorem Bx.two {w:World}{g t:Nat}{cs:Array Value}(h:Bx w g cs t)(o:Nat)(x y:Value)(h0:cs[o]?=some x)(h1:cs[o+1]?=some y):w.rangeAt g o [x,y]:=fun j v hj=>by
 rw[cell_of_row w g _ _ _ (0,0) h];rcases j with _ | _ | j
 ·exact h0.trans hj
 ·exact h1.trans hj
 ·simp at hj
theorem Df {w:World}{g:Nat}{x0 x1 y0 y1 y2:Value}{a:Option Addr}{n k:Nat}{c p:Int}(h:Bx w g (YZ x0 x1 a n k c y0 y1 y2 p) 67):(Instr.loadAt 30 (Z5 g 2)).run Tryz.prog w=.ok (.agg (ZU a n k c)) w:=
 run_loadAt_mid w g 2 30 [.slice a n k,Z7 c] _ (Bx.two h 2 _ _ rfl rfl) Tryz.underlying30 rfl (by kernel_rfl)
theorem Fq {w:World}{g:Nat}{x0 x1 y0 y1 y2:Value}{a:Option Addr}{n k:Nat}{c p:Int}(h:Bx w g (YZ x0 x1 a n k c y0 y1 y2 p) 67):(Instr.loadAt 24 (Z5 g 7)).run Tryz.prog w=.ok (Z7 p) w:=h.ZQ 7
theorem WZ {w:World}{g:Nat}{x0 x1 y0 y1 y2:Value}{a:Option Addr}{n k:Nat}{c p:Int}(h:Bx w g (YZ x0 x1 a n k c y0 y1 y2 p) 67):(Instr.loadAt 67 (Z5 g 0)).run Tryz.prog w=.ok (.agg (YZ x0 x1 a n k c y0 y1 y2 p)) w:=
 run_loadAt_mid w g 0 67 (YZ x0 x1 a n k c y0 y1 y2 p).toList _ (fun j v hv=>by
  rw[cell_of_row w g _ _ _ (0,0) h];simpa using hv) Tryz.underlying67 rfl (by kernel_rfl)
theorem WE {w:World}{g:Nat}{cs:Array Value}{x0 x1 y0 y1 y2:Value}{a:Option Addr}{n k:Nat}{c p:Int}(h:Bx w g cs 67)(hz:cs.size=8)(h1:(YZ x0 x1 a n k c y0 y1 y2 p).all (·.oneCell')=true):(Instr.storeAt 67 (Z5 g 0) (.agg (YZ x0 x1 a n k c y0 y1 y2 p))).run Tryz.prog w=.ok () (w.setRow g (YZ x0 x1 a n k c y0 y1 y2 p))/\Bx (w.setRow g (YZ x0 x1 a n k c y0 y1 y2 p)) g (YZ x0 x1 a n k c y0 y1 y2 p) 67:=
 ⟨Yg h hz h1 (by kernel_rfl),h.set⟩
theorem tN {w:World}{g B:Nat}{w0:World}{x0 x1 y0 y1 y2:Value}{a a2:Option Addr}{n k n2 k2:Nat}{c c2 p:Int}(h:Bx w g (YZ x0 x1 a n k c y0 y1 y2 p) 67)(hb:Below B w0 w)(hg:B<=g):∃ V2,(Instr.storeAt 30 (Z5 g 2) (.agg (ZU a2 n2 k2 c2))).run Tryz.prog w=.ok () V2/\Bx V2 g (YZ x0 x1 a2 n2 k2 c2 y0 y1 y2 p) 67/\Below B w0 V2/\But g w V2:=by
 have hst:=run_storeAt_mid (P:=Tryz.prog) w g 2 30 (ZU a2 n2 k2 c2) (fun j hj=>by
  have hj4:j<2:=hj;refine⟨?_,frozen_of_row w g _ _ 67 h⟩;rw[cell_of_row w g _ _ 67 (0,0) h,Array.getElem?_eq_getElem (by show 2+j<8; omega)];rfl) (by kernel_rfl) (by simp[Value.oneCell'])
 exact⟨_,hst,(h.oz (i:=2) (.slice a2 n2 k2)).oz (i:=3) (Z7 c2),hb.trans (RZ hg _ _ _),OH _ _ _⟩
theorem YT {w w':World}{g:Nat}{a:Option Addr}{cs:List Value}(h:Cs w a cs)(hb:But g w w')(hn:cs≠[]->∀ x,a=some x->x.block≠g):Cs w' a cs:=by
 cases cs with
 | nil=>exact Cs.nil _ _
 | cons v r=>exact h.but hb (hn (by simp))
theorem Vz {w:World}{a:Option Addr}{cs:List Value}(h:Cs w a cs)(hne:cs≠[]):∀ x,a=some x->x.block<w.heap.size:=fun x hx=>by
 obtain⟨b,off,e,hb,-⟩:=h 0 (cs[0]'(List.length_pos_iff.2 hne)) (List.getElem?_eq_getElem _);rw[hx] at e;cases e;exact hb
theorem zi {la ad:Option Addr}{A B:List Ac}{W0 W1 g:Nat}(hbl:(ad=la/\A=B)∨∀ x,ad=some x->W1<=x.block)(ho:acc B≠[]->∀ x,la=some x->x.block<W0)(h0:W0<=g)(h1:g<W1):acc A≠[]->∀ x,ad=some x->x.block≠g:=fun hne x hx=>by
 rcases hbl with⟨rfl,e2⟩ | h9
 ·rw[e2] at hne;have:=ho hne x hx;omega
 ·have:=h9 x hx;omega
def aE2 (w:World)(x0 x1:Value)(la:Option Addr)(A:List Ac)(X:List Ac×Int)(p:Int)(e:Ending)(w':World):Prop:=∃ a k y0 y1 y2,e=.returned (.agg (YZ x0 x1 a X.1.length k X.2 y0 y1 y2 p))/\(YZ x0 x1 a X.1.length k X.2 y0 y1 y2 p).all (·.oneCell')=true/\Cs w' a (acc X.1)/\X.1.length<=k/\((a=la/\X.1=A)∨∀ x,a=some x->w.heap.size<=x.block)/\Below w.heap.size w w'
theorem zk (B:List Ac)(c price:Int)(R:List Int)(x0 x1 y0 y1 y2:Value)(la ra:Option Addr)(lk rc:Nat)(w:World)(h1:(YZ x0 x1 la B.length lk c y0 y1 y2 price).all (·.oneCell')=true)(hL:Cs w la (acc B))(hlk:B.length<=lk)(hq:N7 B c)(hp:W64 price)(hR:Sl w ra rc R)(hrc:R.length<=rc)(h8:∀ y,y∈R->W8 y) :
  Calls Tryz.prog 36 #[.agg (YZ x0 x1 la B.length lk c y0 y1 y2 price),.slice ra R.length rc] w (aE2 w x0 x1 la B (Uh B c price R).1 price):=by
 obtain⟨hb0,hX2,XD⟩:=YA w (YZ x0 x1 la B.length lk c y0 y1 y2 price) #[.slice none 0 0,Z7 0,.slice none 0 0,Z7 0,.slice none 0 0,Z7 0,ZY,Z7 0] 67 67;have CT:=fun V hl hr=>FQ B c price R la ra lk rc V hl hlk (by have:=hq.n; omega) hq.cw hq.w hq.z hp hr hrc h8;have hL0:=hL.below hb0;have hR0:=ZL hR hb0;have HLB:=Z9 (Vz hL);have HO:=Z9 h1;generalize Uh B c price R=X at *
 clear hL hR h8 h1;go_enter Tryz.func36,Tryz.ntmps36;go_upto_region 1 with fail;change Code.wp _ _ _ _ ((w.alloc (.cells (YZ x0 x1 la B.length lk c y0 y1 y2 price) 67)).alloc (.cells #[.slice none 0 0,Z7 0,.slice none 0 0,Z7 0,.slice none 0 0,Z7 0,ZY,Z7 0] 67));generalize (w.alloc (.cells (YZ x0 x1 la B.length lk c y0 y1 y2 price) 67)).alloc (.cells #[.slice none 0 0,Z7 0,.slice none 0 0,Z7 0,.slice none 0 0,Z7 0,ZY,Z7 0] 67)=W at *
 obtain⟨g2,hg2⟩:=ZR w.heap.size;obtain⟨g4,hg4⟩:=ZR (g2+1);have HB0:=Z9 hb0;rw[show w.heap.size+1=g4 by omega] at XD;have HG:Hid (w.heap.size<=g2/\w.heap.size<=g4/\g2≠g4/\g4≠g2):=Z9 (by omega);rw[hg2] at hX2;simp only[hg2];simp only[hg4];have SB:=Z9 hX2;have Yl:=Z9 XD;have CTW:=CT W hL0 hR0;clear hb0 hg2 hg4 hX2 XD CT hL0 hR0;refine wl<|ZV (Z5 g2 2)<|ZK rfl ⟨g2,2,none⟩ (.agg (ZU la B.length lk c)) (Df SB.out)<|ZV (Z5 g2 7)<|ZK rfl ⟨g2,7,none⟩ (Z7 price) (Fq SB.out)<|ZV (.slice ra R.length rc) <|
  XZ (fun v w'=>∃ ad k,v=.tuple #[.agg (ZU ad X.1.1.length k X.1.2),.agg (ZB X.2)]/\Cs w' ad (acc X.1.1)/\X.1.1.length<=k/\((ad=la/\X.1.1=B)∨∀ x,ad=some x->W.heap.size<=x.block)/\Below W.heap.size W w') (CTW.mono fun e w' q=>by obtain⟨ad,k,h1,h2⟩:=q; exact⟨_,h1,ad,k,rfl,h2⟩) (fun vv W1 hq=>?_)
 obtain⟨ad,k,rfl,hcs,hk,hbl,hb1⟩:=hq;obtain⟨V2,hst2,hY2,hb2,Ui⟩:=tN (a2:=ad) (n2:=X.1.1.length) (k2:=k) (c2:=X.1.2) (SB.out.below SB.out.lt hb1) (HB0.out.trans (hb1.mono HB0.out.size)) HG.out.1;have hcs2:=YT hcs Ui (zi hbl HLB.out HG.out.1 SB.out.lt);refine WM (.tuple #[.agg (ZU ad X.1.1.length k X.1.2),.agg (ZB X.2)]) (.agg (ZU ad X.1.1.length k X.1.2)) (.agg (ZB X.2)) (Z5 g2 2)<|Zr rfl (hst2)<|wn ?_;simp only[pu];have kK:=(Yl.out.below Yl.out.lt hb1).but Ui HG.out.2.2.2;have hone:(YZ x0 x1 ad X.1.1.length k X.1.2 y0 y1 y2 price).all (·.oneCell')=true:=by have:=HO.out; simpa [Value.oneCell'] using this
 obtain⟨hst3,ET⟩:=WE kK rfl hone;have hb3:=ZT hb2 HG.out.2.1 (YZ x0 x1 ad X.1.1.length k X.1.2 y0 y1 y2 price);have hcs3:=YT hcs2 (But.setRow (g:=g4) V2 (YZ x0 x1 ad X.1.1.length k X.1.2 y0 y1 y2 price)) (zi hbl HLB.out HG.out.2.1 Yl.out.lt);have HE:Hid (aE2 w x0 x1 la B X.1 price (.returned (.agg (YZ x0 x1 ad X.1.1.length k X.1.2 y0 y1 y2 price))) (V2.setRow g4 (YZ x0 x1 ad X.1.1.length k X.1.2 y0 y1 y2 price))):=Z9 ⟨ad,k,y0,y1,y2,rfl,hone,hcs3,hk,hbl.imp id (fun h9 x hx=>Nat.le_trans HB0.out.size (h9 x hx)),hb3⟩;generalize V2.setRow g4 (YZ x0 x1 ad X.1.1.length k X.1.2 y0 y1 y2 price)=V3 at *
 clear hst2 hcs hbl hb1 Ui hcs2 kK hb2 hb3 hcs3;go_upto_region 2 with fail;refine wl<|ZK rfl ⟨g2,0,none⟩ (.agg (YZ x0 x1 ad X.1.1.length k X.1.2 y0 y1 y2 price)) (WZ hY2)<|Zr rfl (hst3)<|wn ?_;simp only[pu];go_wp2_with fail;exact bodyPost_ret (Yk rfl (by kernel_rfl) (WZ ET)) rfl HE.out
def bQ (w:World)(X:List Ac×Int)(p:Int)(e:Ending)(w':World):Prop:=(X.2=0/\∃ a k,e=.returned (.tuple #[.agg (YZ (.slice a X.1.length k) (Z7 0) a X.1.length k 0 (.slice none 0 0) (Z7 0) ZY p),Z8 0])/\Cs w' a (acc X.1)/\X.1.length<=k/\(∀ x,a=some x->w.heap.size<=x.block)/\Below w.heap.size w w') ∨
 (X.2≠0/\e=.returned (.tuple #[.agg #[.slice none 0 0,Z7 0,.slice none 0 0,Z7 0,.slice none 0 0,Z7 0,ZY,Z7 0],Z8 X.2])/\Below w.heap.size w w')
theorem kL (A:List Ac)(a:Option Addr)(k:Nat)(p:Int)(w:World)(hR:Cs w a (acc A))(hn:A.length<=4398046511104)(hw:TM A)(hz:∀ x,x∈A->x.1.size<=140737488355328) :
  Calls Tryz.prog 33 #[.slice a A.length k,Z7 p] w (bQ w (Rx A) p):=by
 have hb0:Below w.heap.size w (w.alloc (.cells #[.slice none 0 0,Z7 0,.slice none 0 0,Z7 0,.slice none 0 0,Z7 0,ZY,Z7 0] 67)):=(Below.refl _ w).alloc (Nat.le_refl _) _;have hX0:Bx (w.alloc (.cells #[.slice none 0 0,Z7 0,.slice none 0 0,Z7 0,.slice none 0 0,Z7 0,ZY,Z7 0] 67)) w.heap.size #[.slice none 0 0,Z7 0,.slice none 0 0,Z7 0,.slice none 0 0,Z7 0,ZY,Z7 0] 67:=heap_alloc_last w _;have CG:=EF a k A (w.alloc (.cells #[.slice none 0 0,Z7 0,.slice none 0 0,Z7 0,.slice none 0 0,Z7 0,ZY,Z7 0] 67)) (hR.below hb0) hn hw hz;have e1:G6 A=((Rx A).1,0,(Rx A).2):=rfl;rw[e1] at CG;generalize Rx A=X at *
 clear hR hn hw hz e1;go_enter Tryz.func33,Tryz.ntmps33;go_upto_region 1 with fail;change Code.wp _ _ _ _ (w.alloc (.cells #[.slice none 0 0,Z7 0,.slice none 0 0,Z7 0,.slice none 0 0,Z7 0,ZY,Z7 0] 67));generalize w.alloc (.cells #[.slice none 0 0,Z7 0,.slice none 0 0,Z7 0,.slice none 0 0,Z7 0,ZY,Z7 0] 67)=W at *
 obtain⟨g4,hg4⟩:=ZR w.heap.size;have HB0:=Z9 hb0;have HG:Hid (w.heap.size<=g4):=Z9 (by omega);rw[hg4] at hX0;simp only[hg4];clear hb0 hg4;refine wl<|ZV (.slice a A.length k) <|
  XZ (fun v w'=>∃ ad kk,v=.tuple #[.agg (ZU ad X.1.length kk 0),Z8 X.2]/\Zf w' W.heap.size (.slice ad X.1.length kk) X.1/\Below W.heap.size W w') (CG.mono fun e w' q=>by obtain⟨ad,kk,h1,h2⟩:=q; exact⟨_,h1,ad,kk,rfl,h2⟩) (fun vv W1 hq=>?_)
 obtain⟨ad,kk,rfl,hrow,hb1⟩:=hq;obtain⟨V2,hst2,hb2,hY2⟩:=XM W1 ad X.1.length kk 0;refine YG (.tuple #[.agg (ZU ad X.1.length kk 0),Z8 X.2]) (.agg (ZU ad X.1.length kk 0)) (Z8 X.2) ?_;refine Zz rfl (some 6) rfl (Z5 W1.heap.size 0) (W1.alloc (.cells (ZU none 0 0 0) 30)) (by kernel_rfl) ?_;refine Zr rfl (hst2)<|ZV (Z8 X.2)<|wn ?_;simp only[pu];obtain⟨g6,Ul⟩:=ZR W1.heap.size;have hb3:=hb1.trans (hb2.mono hb1.size);have hX2:=hX0.below hX0.lt hb3;have hrow2:=own_below hrow hb2;rw[Ul] at hY2 hst2 ⊢;have hbw:=HB0.out.trans (hb3.mono HB0.out.size);clear CG hst2 hrow hb1 hb2 Ul;by_cases he:X.2=0
 ·go_upto_region 2 with fail;refine wl<|ZV (Z8 X.2)<|ZN (Za rfl X.2 0 (decide_eq_true he))<|wn ?_;simp only[pu];obtain⟨hst3,ET⟩:=WE (x0:=.slice ad X.1.length kk) (x1:=Z7 0) (a:=ad) (n:=X.1.length) (k:=kk) (c:=0) (y0:=.slice none 0 0) (y1:=Z7 0) (y2:=ZY) (p:=p) hX2 rfl (by simp[Value.oneCell']);have hb4:=ZT hbw HG.out (YZ (.slice ad X.1.length kk) (Z7 0) ad X.1.length kk 0 (.slice none 0 0) (Z7 0) ZY p);have hrow3:=Zq hrow2 (But.setRow (g:=g4) V2 (YZ (.slice ad X.1.length kk) (Z7 0) ad X.1.length kk 0 (.slice none 0 0) (Z7 0) ZY p)) hX0.lt;obtain⟨a9,c9,e9,hcs,hk⟩:=YH hrow3;simp only[Value.slice.injEq,true_and] at e9;obtain⟨rfl,rfl⟩:=e9;have HE:Hid (bQ w X p (.returned (.tuple #[.agg (YZ (.slice ad X.1.length kk) (Z7 0) ad X.1.length kk 0 (.slice none 0 0) (Z7 0) ZY p),Z8 0])) (V2.setRow g4 (YZ (.slice ad X.1.length kk) (Z7 0) ad X.1.length kk 0 (.slice none 0 0) (Z7 0) ZY p))):=Z9 (.inl ⟨he,ad,kk,rfl,hcs,hk,fun x hx=>Nat.le_trans HB0.out.size (JM (A:=X.1) hrow3 x hx),hb4⟩);generalize V2.setRow g4 (YZ (.slice ad X.1.length kk) (Z7 0) ad X.1.length kk 0 (.slice none 0 0) (Z7 0) ZY p)=V3 at *
  clear hX2 hb4 hrow2 hrow3 hcs;go_upto_region 4 with fail;refine wl<|ZK rfl ⟨g6,0,none⟩ (.agg (ZU ad X.1.length kk 0)) (ZP hY2)<|ZK rfl ⟨g6,0,none⟩ (.agg (ZU ad X.1.length kk 0)) (ZP hY2) <|
   ZG (Z7 p) (.agg (YZ (.slice ad X.1.length kk) (Z7 0) ad X.1.length kk 0 (.slice none 0 0) (Z7 0) ZY p))<|Zr rfl (hst3)<|ZV (Z8 0)<|wn ?_
  simp only[pu];go_wp2_with fail;exact bodyPost_ret (ZO rfl (by kernel_rfl) (WZ ET) rfl) rfl HE.out
 ·go_upto_region 2 with fail;refine wl<|ZV (Z8 X.2)<|ZN (Za rfl X.2 0 (decide_eq_false he))<|wn ?_;simp only[pu];obtain⟨hst3,ET⟩:=WE (x0:=.slice none 0 0) (x1:=Z7 0) (a:=none) (n:=0) (k:=0) (c:=0) (y0:=.slice none 0 0) (y1:=Z7 0) (y2:=ZY) (p:=0) hX2 rfl (by simp[Value.oneCell']);have hb4:=ZT hbw HG.out (YZ (.slice none 0 0) (Z7 0) none 0 0 0 (.slice none 0 0) (Z7 0) ZY 0);have HE:Hid (bQ w X p (.returned (.tuple #[.agg (YZ (.slice none 0 0) (Z7 0) none 0 0 0 (.slice none 0 0) (Z7 0) ZY 0),Z8 X.2])) (V2.setRow g4 (YZ (.slice none 0 0) (Z7 0) none 0 0 0 (.slice none 0 0) (Z7 0) ZY 0))):=Z9 (.inr ⟨he,rfl,hb4⟩);generalize V2.setRow g4 (YZ (.slice none 0 0) (Z7 0) none 0 0 0 (.slice none 0 0) (Z7 0) ZY 0)=V3 at *
  clear hX2 hb4 hrow2;go_upto_region 3 with fail;refine wl<|ZG (.agg (YZ (.slice none 0 0) (Z7 0) none 0 0 0 (.slice none 0 0) (Z7 0) ZY 0)) (Z8 X.2)<|Zr rfl (hst3)<|ZV (Z8 X.2)<|wn ?_;simp only[pu];go_wp2_with fail;exact bodyPost_ret (ZO rfl (by kernel_rfl) (WZ ET) rfl) rfl HE.out
def Fv (lo g g2 g3:Nat)(V:World)(x0 x1:Value):Prop:=∃ a k B c,x0=.slice a (List.length B) k/\x1=Z7 c/\Cs V a (acc B)/\B.length<=k/\N7 B c/\(acc B≠[]->∀ x,a=some x->x.block≠g/\x.block≠g2/\x.block≠g3/\lo<=x.block)
theorem Fv.below {lo g g2 g3:Nat}{V V2:World}{x0 x1:Value}(h:Fv lo g g2 g3 V x0 x1)(hb:Below V.heap.size V V2):Fv lo g g2 g3 V2 x0 x1:=by
 obtain⟨a,k,B,c,h1,h2,h3,h4⟩:=h;exact⟨a,k,B,c,h1,h2,h3.below hb,h4⟩
theorem Fv.but {lo g g2 g3 q:Nat}{V V2:World}{x0 x1:Value}(h:Fv lo g g2 g3 V x0 x1)(hb:But q V V2)(hq:q=g∨q=g2∨q=g3):Fv lo g g2 g3 V2 x0 x1:=by
 obtain⟨a,k,B,c,h1,h2,h3,h4,h5,h6⟩:=h;refine⟨a,k,B,c,h1,h2,YT h3 hb (fun hne x hx=>?_),h4,h5,h6⟩;obtain⟨n1,n2,n3,-⟩:=h6 hne x hx;rcases hq with rfl | rfl | rfl <;> assumption
def P7 (lo g g2 g3:Nat)(p:Int)(V:World)(v:Value):Prop:=∃ x0 x1 la lk y0 y1 y2 B cc,v=.agg (YZ x0 x1 la (List.length B) lk cc y0 y1 y2 p)/\(YZ x0 x1 la (List.length B) lk cc y0 y1 y2 p).all (·.oneCell')=true/\Cs V la (acc B)/\B.length<=lk/\N7 B cc/\(acc B≠[]->∀ x,la=some x->x.block≠g/\x.block≠g2/\x.block≠g3/\lo<=x.block)/\Fv lo g g2 g3 V x0 x1
theorem P7.but {lo g g2 g3 q:Nat}{p:Int}{V V2:World}{v:Value}(h:P7 lo g g2 g3 p V v)(hb:But q V V2)(hq:q=g∨q=g2∨q=g3):P7 lo g g2 g3 p V2 v:=by
 obtain⟨x0,x1,la,lk,y0,y1,y2,B,cc,h1,h2,h3,h4,h5,h6,h7⟩:=h;refine⟨x0,x1,la,lk,y0,y1,y2,B,cc,h1,h2,YT h3 hb (fun hne x hx=>?_),h4,h5,h6,h7.but hb hq⟩;obtain⟨n1,n2,n3,-⟩:=h6 hne x hx;rcases hq with rfl | rfl | rfl <;> assumption
structure KA (w:World)(g g2 g3:Nat)(a:Option Addr)(c:Nat)(L:List Int)(k:Nat)(p:Int)(av:Array Value)(la:Option Addr)(B:List Ac)(b0 b3 b5 b6 b7 b8:Bool)(x30 x31:Value)(V:World):Prop where
 but:But g w V
 ns:NS V g a c L (cond b6 (k+45) k)
 led:Cs V la (acc B)
 zl:Bx V g2 #[.slice none 0 0,Z7 0,.slice none 0 0,Z7 0,.slice none 0 0,Z7 0,ZY,Z7 0] 67
 bx:b8=false->Bx V g3 av 67
 rw:b6=true->b7=false->∃ b d R,x30=.slice b (List.length R) d/\Rw V w.heap.size b d R
 ap:b7=true->P7 w.heap.size g g2 g3 p V x31
 st:b8=true->∃ cs,x31=.agg cs/\Bx V g3 cs 67
 o7:b7=true->b6=true
 o8:b8=true->b0=true/\b3=true/\b5=true/\b7=true
 com:Fv w.heap.size g g2 g3 V (av.getD 0 undef) (av.getD 1 undef)
section
variable {w : World} {g g2 g3 : Nat} {a : Option Addr} {c : Nat} {L : List Int} {k : Nat} {p : Int} {av : Array Value} {la : Option Addr} {B : List Ac} {b0 b3 b5 b6 b7 b8 : Bool} {x30 x31 : Value} {V : World}
theorem KA.n8 (h:KA w g g2 g3 a c L k p av la B b0 b3 b5 b6 b7 b8 x30 x31 V)(hf:b0=false∨b3=false∨b5=false∨b7=false):b8=false:=by
 cases b8
 ·rfl
 ·obtain⟨h0,h3,h5,h7⟩:=h.o8 rfl;rcases hf with e | e | e | e
  ·rw[e] at h0; cases h0
  ·rw[e] at h3; cases h3
  ·rw[e] at h5; cases h5
  ·rw[e] at h7; cases h7
theorem KA.up0 (h:KA w g g2 g3 a c L k p av la B b0 b3 b5 b6 b7 b8 x30 x31 V):KA w g g2 g3 a c L k p av la B true b3 b5 b6 b7 b8 x30 x31 V:={ h with o8:=fun e=>⟨rfl,(h.o8 e).2⟩ }
theorem KA.up3 (h:KA w g g2 g3 a c L k p av la B b0 b3 b5 b6 b7 b8 x30 x31 V):KA w g g2 g3 a c L k p av la B b0 true b5 b6 b7 b8 x30 x31 V:={ h with o8:=fun e=>⟨(h.o8 e).1,rfl,(h.o8 e).2.2⟩ }
theorem KA.up5 (h:KA w g g2 g3 a c L k p av la B b0 b3 b5 b6 b7 b8 x30 x31 V):KA w g g2 g3 a c L k p av la B b0 b3 true b6 b7 b8 x30 x31 V:={ h with o8:=fun e=>⟨(h.o8 e).1,(h.o8 e).2.1,rfl,(h.o8 e).2.2.2⟩ }
theorem KA.start (hb:But g w V)(hn:NS V g a c L k)(h3:Cs V la (acc B))(h2:Bx V g2 #[.slice none 0 0,Z7 0,.slice none 0 0,Z7 0,.slice none 0 0,Z7 0,ZY,Z7 0] 67)(h4:Bx V g3 av 67)(h5:Fv w.heap.size g g2 g3 V (av.getD 0 undef) (av.getD 1 undef)):KA w g g2 g3 a c L k p av la B false false false false false false x30 x31 V.drew:=
 ⟨⟨hb.1.drew,hb.2⟩,hn,h3,h2,fun _=>h4,(fun e=>nomatch e),(fun e=>nomatch e),(fun e=>nomatch e),(fun e=>nomatch e),(fun e=>nomatch e),h5.below (Below.refl _ V).drew⟩
theorem an8 {lo:Nat}{la2:Option Addr}{B2:List Ac}(QJ:(la2=la/\B2=B)∨∀ x,la2=some x->V.heap.size<=x.block)(hB:acc B≠[]->∀ x,la=some x->x.block≠g/\x.block≠g2/\x.block≠g3/\lo<=x.block)(h1:g<V.heap.size)(h2:g2<V.heap.size)(h3:g3<V.heap.size)(h4:lo<=V.heap.size):acc B2≠[]->∀ x,la2=some x->x.block≠g/\x.block≠g2/\x.block≠g3/\lo<=x.block:=fun hne x hx=>by
 rcases QJ with⟨rfl,e2⟩ | h9
 ·rw[e2] at hne;exact hB hne x hx
 ·have:=h9 x hx;omega
theorem KA.raw (h:KA w g g2 g3 a c L k p av la B b0 b3 b5 false b7 b8 x30 x31 V)(hg:g<w.heap.size)(h2:g2≠g)(h3:g3≠g)(hn:acc B≠[]->∀ x,la=some x->x.block≠g){V2:World}{b:Option Addr}{d:Nat}{R:List Int}(hr:Rw V2 w.heap.size b d R)(hns:NS V2 g a c L (k+45))(hb:But g V V2):KA w g g2 g3 a c L k p av la B b0 b3 b5 true b7 b8 (.slice b R.length d) x31 V2:=by
 obtain rfl:=ff h.o7 rfl;have e8:=h.n8 (.inr (.inr (.inr rfl)));subst e8;exact⟨h.but.trans hb,hns,YT h.led hb hn,h.zl.but hb h2,fun e=>(h.bx e).but hb h3,fun _ _=>⟨b,d,R,rfl,hr⟩,(fun e=>nomatch e),(fun e=>nomatch e),fun _=>rfl,(fun e=>nomatch e),h.com.but hb (.inl rfl)⟩
theorem KA.acp (h:KA w g g2 g3 a c L k p av la B b0 b3 b5 true false b8 x30 x31 V)(hg:g<w.heap.size){V2:World}{v:Value}(hv:P7 w.heap.size g g2 g3 p V2 v)(hb:Below V.heap.size V V2):KA w g g2 g3 a c L k p av la B b0 b3 b5 true true b8 x30 v V2:=by
 have e8:=h.n8 (.inr (.inr (.inr rfl)));subst e8;exact⟨h.but.more (hb.mono h.but.1.size) (Nat.le_of_lt hg),h.ns.below hb,h.led.below hb,h.zl.below h.zl.lt hb,fun e=>(h.bx e).below (h.bx e).lt hb,(fun _ e=>nomatch e),fun _=>hv,(fun e=>nomatch e),fun _=>rfl,(fun e=>nomatch e),h.com.below hb⟩
theorem KA.store (h:KA w g g2 g3 a c L k p av la B true true true true true false x30 x31 V)(hg:g<w.heap.size)(h23:g2≠g3)(h3:w.heap.size<=g3)(hgg:g3≠g)(hsz:av.size=8)(hla:acc B≠[]->∀ x,la=some x->x.block≠g3)(ha:L≠[]->∀ x,a=some x->x.block<w.heap.size):∃ cs V2,x31=.agg cs/\(Instr.storeAt 67 (Z5 g3 0) (.agg cs)).run Tryz.prog V=.ok () V2/\KA w g g2 g3 a c L k p av la B true true true true true true x30 (.agg cs) V2:=by
 obtain⟨x0,x1,la2,lk,y0,y1,y2,B2,cc,rfl,h2,h3',h4⟩:=h.ap rfl;obtain⟨hst,hY⟩:=WE (h.bx rfl) hsz h2;have hbt:But g3 V (V.setRow g3 (YZ x0 x1 la2 B2.length lk cc y0 y1 y2 p)):=But.setRow _ _;exact⟨_,_,rfl,hst,But.SI h.but hbt h3 (by omega),h.ns.but hbt (by omega) (fun e x hx=>by have:=ha e x hx; omega),YT h.led hbt hla,h.zl.but hbt h23,(fun e=>nomatch e),(fun _ e=>nomatch e),fun _=>(show P7 w.heap.size g g2 g3 p _ _ from(h.ap rfl).but hbt (.inr (.inr rfl))),fun _=>⟨_,rfl,hY⟩,fun _=>rfl,fun _=>⟨rfl,rfl,rfl,rfl⟩,h.com.but hbt (.inr (.inr rfl))⟩
end
theorem bT {ρ:Operand->Value}{o:Oper}{x:Operand}(ho:o.op=.convert 3 24 x)(a:Nat)(h1:a<=1000000)(hx:ρ x=Z8 a)(w:World):(execOp ρ o).run Tryz.prog w=.ok (.value (Z7 a)) w:=by
 have hw:IntKind.u64.wrap (a:Int)=a:=by rw[IntKind.wrap_u64]; omega
 unfold execOp;simp only[ho,hx];go_simp
theorem kM {w:World}{A:List Ac}{v10:Nat}{e:Ending}{w':World}(hv:(v10:Int)<=3)(hw:TM A)(q:bQ w (Rx A) v10 e w'):∃ v,e=.returned v/\(∃ x0 x1 la lk y0 y1 y2 B cc p ee,v=.tuple #[.agg (YZ x0 x1 la (List.length B) lk cc y0 y1 y2 p),Z8 ee]/\(YZ x0 x1 la (List.length B) lk cc y0 y1 y2 p).all (·.oneCell')=true/\Cs w' la (acc B)/\B.length<=lk/\N7 B cc/\(acc B≠[]->∀ x,la=some x->w.heap.size<=x.block)/\0<=p/\p<=3/\Below w.heap.size w w'/\x0=.slice la (List.length B) lk/\x1=Z7 cc):=by
 rcases q with⟨h0,a,k,h1,h2,h3,h4,h5⟩ | ⟨h0,h1,h2⟩
 ·obtain⟨q1,q2⟩:=iE h0;exact⟨_,h1,_,_,a,k,_,_,_,(Rx A).1,0,v10,0,rfl,by simp[Value.oneCell'],h2,h3,⟨q1,ah1 hw,WO⟩,fun _=>h4,by omega,hv,h5,rfl,rfl⟩
 ·exact⟨_,h1,_,_,none,0,_,_,_,[],0,0,(Rx A).2,rfl,by simp[Value.oneCell'],Cs.nil _ _,Nat.le_refl _,N7.nil,fun h=>absurd rfl h,by omega,by omega,h2,rfl,rfl⟩
def an9 (w:World)(g:Nat)(a:Option Addr)(c:Nat)(L:List Int)(k:Nat)(e:Ending)(w':World):Prop:=∃ v p g2 g3,e=.returned v/\P7 w.heap.size g g2 g3 p w' v/\0<=p/\p<=3/\NS w' g a c L (k+110)/\But g w w'
theorem ao0 {w:World}{g c k:Nat}{a:Option Addr}{L:List Int}(h:NS w g a c L k)(hl:L.length<=100000)(hk:k<=5000) :
  Calls Tryz.prog 22 #[Z5 g 0] w (an9 w g a c L k):=by
 have hb0:Below w.heap.size w (w.alloc (.cells #[.slice none 0 0,Z7 0,.slice none 0 0,Z7 0,.slice none 0 0,Z7 0,ZY,Z7 0] 67)):=(Below.refl _ w).alloc (Nat.le_refl _) _;have hX0:Bx (w.alloc (.cells #[.slice none 0 0,Z7 0,.slice none 0 0,Z7 0,.slice none 0 0,Z7 0,ZY,Z7 0] 67)) w.heap.size #[.slice none 0 0,Z7 0,.slice none 0 0,Z7 0,.slice none 0 0,Z7 0,ZY,Z7 0] 67:=heap_alloc_last w _;have Xi:=Z9 h.lt;have HAB:=Z9 (fun h1 x hx=>h.ab h1 x hx);have CA:=Ep (h.below hb0) hl (by omega:k<=10000);go_enter Tryz.func22,Tryz.ntmps22;go_upto_region 1 with fail;change Code.wp _ _ _ _ (w.alloc (.cells #[.slice none 0 0,Z7 0,.slice none 0 0,Z7 0,.slice none 0 0,Z7 0,ZY,Z7 0] 67));generalize w.alloc (.cells #[.slice none 0 0,Z7 0,.slice none 0 0,Z7 0,.slice none 0 0,Z7 0,ZY,Z7 0] 67)=W at *
 obtain⟨g2,hg2⟩:=ZR w.heap.size;have HB0:=Z9 hb0;have HG2:Hid (w.heap.size<=g2/\g2<W.heap.size/\g<g2):=Z9 ⟨by omega,by have:=hX0.lt; omega,by have:=Xi.out; omega⟩;rw[hg2] at hX0;simp only[hg2];have HX0:=Z9 hX0;clear hb0 hg2 h hX0;refine wl<|ZV (Z5 g 0) <|
  XZ (fun v w'=>∃ ra rc A,v=.slice ra (List.length A) rc/\Zf w' W.heap.size (.slice ra A.length rc) A/\(∀ x,x∈A->AcQ x)/\A.length<=4/\NS w' g a c L (k+13)/\But g W w') (CA.mono fun e w' q=>by obtain⟨ra,rc,A,h1,h2⟩:=q; exact⟨_,h1,ra,rc,A,rfl,h2⟩) (fun vv W1 hq=>?_)
 obtain⟨ra,rc,A,rfl,hrow,hAq,hA4,oW,FK⟩:=hq;obtain⟨v10,aM2,CN⟩:=X6 oW hl (by omega) 3 (by decide) (by decide);refine ZV (Z5 g 0)<|YW (Z8 v10) (fun w'=>NS w' g a c L (k+13+1)/\But g W1 w') CN (fun W2 hq=>?_);obtain⟨Uy,Ui⟩:=hq;have hrow2:=Zq hrow Ui (by have:=HG2.out; omega);obtain⟨a9,c9,e9,hcs2,-⟩:=YH hrow2;simp only[Value.slice.injEq,true_and] at e9;obtain⟨rfl,rfl⟩:=e9;have CI:=kL A ra rc v10 W2 hcs2 (by omega) (Hl fun x hx=>(hAq x hx).2) (fun x hx=>Nat.le_trans (hAq x hx).1.2 (by decide));refine YN (Z7 v10) (bT rfl v10 (by omega) (by kernel_rfl) _) <|
  XZ (fun v w'=>∃ x0 x1 la lk y0 y1 y2 B cc p ee,v=.tuple #[.agg (YZ x0 x1 la (List.length B) lk cc y0 y1 y2 p),Z8 ee]/\(YZ x0 x1 la (List.length B) lk cc y0 y1 y2 p).all (·.oneCell')=true/\Cs w' la (acc B)/\B.length<=lk/\N7 B cc/\(acc B≠[]->∀ x,la=some x->W2.heap.size<=x.block)/\0<=p/\p<=3/\Below W2.heap.size W2 w'/\x0=.slice la (List.length B) lk/\x1=Z7 cc) (CI.mono fun e w' q=>kM (by omega) (Hl fun x hx=>(hAq x hx).2) q) (fun vv W3 hq=>?_)
 obtain⟨x0,x1,la,lk,y0,y1,y2,B,cc,p,ee,rfl,hone,hcs3,hlk,hlq,zS,hp0,hp3,hb3,hx0,hx1⟩:=hq;obtain⟨hst3,ET⟩:=WE (heap_alloc_last W3 _:Bx (W3.alloc (.cells #[.slice none 0 0,Z7 0,.slice none 0 0,Z7 0,.slice none 0 0,Z7 0,ZY,Z7 0] 67)) W3.heap.size _ 67) rfl hone;refine YG (.tuple #[.agg (YZ x0 x1 la B.length lk cc y0 y1 y2 p),Z8 ee]) (.agg (YZ x0 x1 la B.length lk cc y0 y1 y2 p)) (Z8 ee) ?_;refine Zz rfl (some 3) rfl (Z5 W3.heap.size 0) (W3.alloc (.cells (#[.slice none 0 0,Z7 0,.slice none 0 0,Z7 0,.slice none 0 0,Z7 0,ZY,Z7 0]) 67)) (by kernel_rfl) ?_;refine Zr rfl (hst3)<|ZV (Z8 ee)<|wn ?_;simp only[pu];have Um:Below W3.heap.size W3 ((W3.alloc (.cells #[.slice none 0 0,Z7 0,.slice none 0 0,Z7 0,.slice none 0 0,Z7 0,ZY,Z7 0] 67)).setRow W3.heap.size (YZ x0 x1 la B.length lk cc y0 y1 y2 p)):=ZT ((Below.refl _ W3).alloc (Nat.le_refl _) _) (Nat.le_refl _) _;generalize (W3.alloc (.cells #[.slice none 0 0,Z7 0,.slice none 0 0,Z7 0,.slice none 0 0,Z7 0,ZY,Z7 0] 67)).setRow W3.heap.size (YZ x0 x1 la B.length lk cc y0 y1 y2 p)=V4 at *
 obtain⟨g3,hg3⟩:=ZR W3.heap.size;have wI:=FK.trans Ui;have aP7:=wI.1.size;have hszW:W.heap.size<=W2.heap.size:=Nat.le_trans FK.1.size Ui.1.size;have aT7:=HG2.out;have Pz:=hb3.trans (Um.mono hb3.size);have HG3:Hid (g2<g3/\w.heap.size<=g3/\g3<V4.heap.size):=Z9 ⟨by have:=hb3.size; omega,by have:=hb3.size; omega,by have:=ET.lt; omega⟩;rw[hg3] at ET ⊢;have xU:=Z9 (Uy.below Pz);have OX:=Z9 (((But.of_below HB0.out (Nat.le_of_lt Xi.out)).trans wI).more (Pz.mono (by have:=HB0.out.size; omega)) (Nat.le_of_lt Xi.out));have ao1:=Z9 (((HX0.out.but wI (by omega)).below (by omega:g2<W2.heap.size) Pz));have gW:Hid (P7 w.heap.size g g2 g3 p V4 (.agg (YZ x0 x1 la B.length lk cc y0 y1 y2 p))):=Z9 ⟨x0,x1,la,lk,y0,y1,y2,B,cc,rfl,hone,hcs3.below Um,hlk,hlq,(fun hne x hx=>by have h1:=zS hne x hx; have h2:=Vz hcs3 hne x hx; have h9:=HB0.out.size; omega),la,lk,B,cc,hx0,hx1,hcs3.below Um,hlk,hlq,fun hne x hx=>by have h1:=zS hne x hx; have h2:=Vz hcs3 hne x hx; have h9:=HB0.out.size; omega⟩;have X7:=Z9 ET;have HP:Hid (0<=p/\p<=3):=Z9 ⟨hp0,hp3⟩;clear CA CN CI hrow oW FK Uy Ui hrow2 hcs2 hst3 ET Um Pz wI aP7 hszW hb3 zS hcs3 hAq hA4 hg3 HX0 HB0 hx0 hx1;obtain⟨q12,hq12⟩:=ZR (Value.tuple #[.agg (YZ x0 x1 la B.length lk cc y0 y1 y2 p),Z8 ee]);simp only[hq12];obtain⟨q13,Et⟩:=ZR (Value.agg (YZ x0 x1 la B.length lk cc y0 y1 y2 p));have aD9:=Z9 Et;rw[Et] at gW;simp only[Et];clear hq12 Et hone hlk hlq;by_cases he:ee=0
 ·go_upto_region 2 with fail;refine wl<|ZV (Z8 ee)<|ZN (Za rfl ee 0 (decide_eq_true he))<|wn ?_;simp only[pu];obtain⟨v5,hv5,CN⟩:=X6 xU.out hl (by omega) 3 (by decide) (by decide);go_upto_region 4 with fail;refine wl<|ZV (Z5 g 0)<|YW (Z8 v5) (fun w'=>NS w' g a c L (k+13+1+1)/\But g V4 w') CN (fun V5 hq=>?_);obtain⟨Jk,Xh⟩:=hq;refine ZV (Z8 v5)<|wn ?_;simp only[pu];have lC:=Z9 (OX.out.trans Xh);have aE0:Hid (NS V5 g a c L (k+15+45*(2-v5))):=Z9 (Jk.mono (by omega));have aE1:=Z9 (ao1.out.but Xh (by have:=HG2.out; omega));have FM:Hid (∃ cs,Bx V5 g3 cs 67/\cs.size=8/\P7 w.heap.size g g2 g3 p V5 (.agg cs)):=Z9 ⟨_,X7.out.but Xh (by have:=HG2.out; have:=HG3.out; omega),rfl,by rw[aD9.out]; exact gW.out.but Xh (.inl rfl)⟩;clear CN Jk Xh gW X7 xU OX ao1;go_wp2_with fail;go_loopg [5] v5 (fun gg s5 wx=>∃ i:Nat,s5=Z8 i/\i<=2/\Hid (NS wx g a c L (k+15+45*(2-i)))/\Hid (But g w wx)/\Hid (Bx wx g2 #[.slice none 0 0,Z7 0,.slice none 0 0,Z7 0,.slice none 0 0,Z7 0,ZY,Z7 0] 67)/\Hid (∃ cs,Bx wx g3 cs 67/\cs.size=8/\P7 w.heap.size g g2 g3 p wx (.agg cs))/\i=gg)
  case atStart=>exact⟨v5,rfl,by omega,aE0,lC,aE1,FM,rfl⟩
  case round=>
   clear aE0 lC aE1 FM;obtain⟨i,rfl,hi2,xU,OX,SB,X7,hgi⟩:=hrel;obtain⟨cs,hxc,hcz,hag⟩:=X7.out;have HG:=Z9 hgi;clear X7 hgi;by_cases hlt:0<i
   ·obtain⟨x0,x1,la,lk,y0,y1,y2,B,cc,e0,hone,hcs,hlk,hlq,hbl,hcm⟩:=hag;simp only[Value.agg.injEq] at e0;subst e0;have HA:=Z9 hcs;go_upto_region 5 with fail;refine wl<|ZV (Z8 i)<|ZN (Zo rfl (i) (0) dT)<|wn ?_;simp only[pu];go_upto_region 7 with fail;have h0:KA w g g2 g3 a c L (k+15+45*(2-i)) p (YZ x0 x1 la B.length lk cc y0 y1 y2 p) la B false false false false false false u30 u31 wr.drew:=KA.start OX.out xU.out hcs SB.out hxc hcm;have HQ:=Z9 hlq;have vk:=Z9 hbl;have cu:=Z9 hone;have HWR:=Z9 (OX.out.1.size);clear hxc hcs hbl hone SB xU OX hlq;refine Zx (fun listed Zh V=>∃ b0 b1 b2 b3 b4 b5 b6 b7 b8:Bool,∃ x30 x31:Value,listed=#[b0,b1,b2,b3,b4,b5,b6,b7,b8]/\Zh={ tmps:=#[Z5 g 0,undef,Z5 g2 0,Z5 g3 0,Z8 ee,Z8 i,q12,Z5 g 0,.slice ra A.length rc,Z5 g 0,Z8 v10,Z7 v10,q12,q13,Z8 ee,Z8 ee,ZY,undef,Z5 g 0,Z8 v5,Z8 i,ZW,u22,u23,(cond b0 (.agg (YZ x0 x1 la B.length lk cc y0 y1 y2 p)) (u24)),(cond b1 (Z5 g 0) (u25)),(cond b2 (Z5 g3 2) (u26)),(cond b3 (.agg (ZU la B.length lk cc)) (u27)),(cond b4 (Z5 g3 7) (u28)),(cond b5 (Z7 p) (u29)),x30,x31,undef],defers:=[] }/\KA w g g2 g3 a c L (k+15+45*(2-i)) p (YZ x0 x1 la B.length lk cc y0 y1 y2 p) la B b0 b3 b5 b6 b7 b8 x30 x31 V) (by kernel_rfl) (by kernel_rfl) ?_ ?_ ?_
    ·exact⟨_,_,_,_,_,_,_,_,_,_,_,rfl,rfl,h0⟩
    ·intro i9 listed Zh V hi9 hr hJ;obtain⟨b0,b1,b2,b3,b4,b5,b6,b7,b8,x30,x31,rfl,rfl,hF⟩:=hJ;have hi2:i9<9:=hi9;have hi3:i9=0∨i9=1∨i9=2∨i9=3∨i9=4∨i9=5∨i9=6∨i9=7∨i9=8:=(by omega);rcases hi3 with rfl | rfl | rfl | rfl | rfl | rfl | rfl | rfl | rfl
     ·obtain rfl:b0=false:=Z4 hr;obtain rfl:b8=false:=hF.n8 (.inl rfl);refine Zv rfl (by kernel_rfl) (some 24) rfl 67 (.tmp 3) rfl ⟨g3,0,none⟩ (.agg (YZ x0 x1 la B.length lk cc y0 y1 y2 p)) (by kernel_rfl) (WZ (hF.bx rfl)) ?_;exact⟨_,_,_,_,_,_,_,_,_,_,_,rfl,rfl,hF.up0⟩
     ·obtain rfl:b1=false:=Z4 hr;refine ZM rfl (by kernel_rfl) (some 25) rfl (Z5 g 0) V (by kernel_rfl) ?_;exact⟨_,_,_,_,_,_,_,_,_,_,_,rfl,rfl,hF⟩
     ·obtain rfl:b2=false:=Z4 hr;refine ZM rfl (by kernel_rfl) (some 26) rfl (Z5 g3 2) V (by kernel_rfl) ?_;exact⟨_,_,_,_,_,_,_,_,_,_,_,rfl,rfl,hF⟩
     ·obtain rfl:b3=false:=Z4 hr;obtain rfl:b2=true:=ZX hr 2;obtain rfl:b8=false:=hF.n8 (.inr (.inl rfl));refine Zv rfl (by kernel_rfl) (some 27) rfl 30 (.tmp 26) rfl ⟨g3,2,none⟩ (.agg (ZU la B.length lk cc)) (by kernel_rfl) (Df (hF.bx rfl)) ?_;exact⟨_,_,_,_,_,_,_,_,_,_,_,rfl,rfl,hF.up3⟩
     ·obtain rfl:b4=false:=Z4 hr;refine ZM rfl (by kernel_rfl) (some 28) rfl (Z5 g3 7) V (by kernel_rfl) ?_;exact⟨_,_,_,_,_,_,_,_,_,_,_,rfl,rfl,hF⟩
     ·obtain rfl:b5=false:=Z4 hr;obtain rfl:b4=true:=ZX hr 4;obtain rfl:b8=false:=hF.n8 (.inr (.inr (.inl rfl)));refine Zv rfl (by kernel_rfl) (some 29) rfl 24 (.tmp 28) rfl ⟨g3,7,none⟩ (Z7 p) (by kernel_rfl) (Fq (hF.bx rfl)) ?_;exact⟨_,_,_,_,_,_,_,_,_,_,_,rfl,rfl,hF.up5⟩
     ·obtain rfl:b6=false:=Z4 hr;obtain rfl:b1=true:=ZX hr 1;obtain rfl:b3=true:=ZX hr 3;obtain rfl:b5=true:=ZX hr 5;refine Ym rfl (by kernel_rfl) (some 30) rfl 37 #[Z5 g 0,.agg (ZU la B.length lk cc),Z7 p] (by kernel_rfl) ((lF (rc:=lk) (co:=cc) (p:=p) hF.ns hl (by simp only[cond_false]; omega) hF.led (fun hne x hx=>(vk.out hne x hx).1) HQ.out.q (by have:=HQ.out.n; omega)).mono fun e w' z=>?_);obtain⟨b,d,R,rfl,hr,hn,hb⟩:=z;exact⟨_,rfl,_,_,_,_,_,_,_,_,_,_,_,rfl,rfl,hF.raw Xi.out (by have:=HG2.out; omega) (by have:=HG2.out; have:=HG3.out; omega) (fun hne x hx=>(vk.out hne x hx).1) (hr.base hF.but.1.size) hn hb⟩
     ·obtain rfl:b7=false:=Z4 hr;obtain rfl:b0=true:=ZX hr 0;obtain rfl:b6=true:=ZX hr 6;obtain⟨b,d,R,rfl,hr⟩:=hF.rw rfl rfl;refine Ym rfl (by kernel_rfl) (some 31) rfl 36 #[.agg (YZ x0 x1 la B.length lk cc y0 y1 y2 p),.slice b R.length d] (by kernel_rfl) ((zk B cc p R x0 x1 y0 y1 y2 la b lk d V cu.out hF.led hlk HQ.out ⟨HP.out.1,by have:=HP.out.2; omega⟩ hr.sl hr.le hr.b).mono fun e w' z=>?_);obtain⟨la2,jo,y0,y1,y2,rfl,ho2,hc2,hk2,QJ,hb2⟩:=z;exact⟨_,rfl,_,_,_,_,_,_,_,_,_,_,_,rfl,rfl,hF.acp Xi.out ⟨x0,x1,la2,jo,y0,y1,y2,_,_,rfl,ho2,hc2,hk2,HQ.out.tx ⟨HP.out.1,by have:=HP.out.2; omega⟩ hr.b,an8 QJ vk.out hF.ns.lt hF.zl.lt (hF.bx (hF.n8 (.inr (.inr (.inr rfl))))).lt hF.but.1.size,hF.com.below hb2⟩ hb2⟩
     ·obtain rfl:b8=false:=Z4 hr;obtain rfl:b7=true:=ZX hr 7;obtain rfl:b0=true:=ZX hr 0;obtain rfl:b3=true:=ZX hr 3;obtain rfl:b5=true:=ZX hr 5;obtain rfl:b6=true:=hF.o7 rfl;obtain⟨cs,V2,rfl,hst,hF2⟩:=hF.store Xi.out (Nat.ne_of_lt HG3.out.1) HG3.out.2.1 (Nat.ne_of_gt (Nat.lt_trans HG2.out.2.2 HG3.out.1)) rfl (fun hne x hx=>(vk.out hne x hx).2.2.1) (fun h5 x hx=>HAB.out h5 x hx);refine Zd rfl (by kernel_rfl) rfl 67 (.tmp 3) (.tmp 31) rfl (Z5 g3 0) (.agg cs) (by kernel_rfl) (by kernel_rfl) _ hst ?_;exact⟨_,_,_,_,_,_,_,_,_,_,_,rfl,rfl,hF2⟩
    ·intro Zh V hJ;obtain⟨b0,b1,b2,b3,b4,b5,b6,b7,b8,x30,x31,he,rfl,hF⟩:=hJ;have he:(#[true,true,true,true,true,true,true,true,true]:Array Bool)=#[b0,b1,b2,b3,b4,b5,b6,b7,b8]:=he;simp only[Array.mk.injEq,List.cons.injEq,and_true] at he;obtain⟨rfl,rfl,rfl,rfl,rfl,rfl,rfl,rfl,rfl⟩:=he;simp only[cond_true];obtain⟨cs2,rfl,hx2⟩:=hF.st rfl;have HN9:Hid (NS V g a c L (k+15+45*(2-(i-1)))):=Z9 (hF.ns.mono (show(k+15+45*(2-i))+45<=k+15+45*(2-(i-1)) by omega));have Zp:=Z9 hF.but;have aP8:=Z9 hF.zl;have aP9:Hid (∃ cs,Bx V g3 cs 67/\cs.size=8/\P7 w.heap.size g g2 g3 p V (.agg cs)):=Z9 ⟨cs2,hx2,by obtain⟨q0,q1,q2,q3,q4,q5,q6,q7,q8,e9,-⟩:=hF.ap rfl; simp only[Value.agg.injEq] at e9; rw[e9]; rfl,hF.ap rfl⟩;clear hF hx2 h0;go_upto_region 6 with fail;refine wl<|ZV (Z8 i)<|YC (Z8 (i-1:Nat)) (Rz rfl i hlt (by omega))<|ZV (Z8 (i-1:Nat))<|wn ?_;simp only[pu];go_wp2_with fail;go_roundg (i-1)
     case measure=>have:=HG.out; omega
     case rel=>exact⟨i-1,rfl,by omega,HN9,Zp,aP8,aP9,rfl⟩
   ·go_upto_region 5 with fail;refine wl<|ZV (Z8 i)<|ZN (Zo rfl (i) (0) dF)<|wn ?_;simp only[pu];obtain⟨x0,x1,la,lk,y0,y1,y2,B,cc,e0,hone,hcs,hlk,hlq,hbl,hcm⟩:=hag;simp only[Value.agg.injEq] at e0;subst e0;obtain⟨VJ,hY9⟩:=WE SB.out rfl hone;have Xg:But g2 wr (wr.setRow g2 (YZ x0 x1 la B.length lk cc y0 y1 y2 p)):=But.setRow _ _;have HE:Hid (an9 w g a c L k (.returned (.agg (YZ x0 x1 la B.length lk cc y0 y1 y2 p))) (wr.setRow g2 (YZ x0 x1 la B.length lk cc y0 y1 y2 p))):=Z9 ⟨_,p,g2,g3,rfl,(show P7 w.heap.size g g2 g3 p _ _ from P7.but (V:=wr) ⟨x0,x1,la,lk,y0,y1,y2,B,cc,rfl,hone,hcs,hlk,hlq,hbl,hcm⟩ Xg (.inr (.inl rfl))),HP.out.1,HP.out.2,(xU.out.but Xg HG2.out.2.2 (fun h5 x hx=>by have:=HAB.out h5 x hx; have:=HG2.out; omega)).mono (by omega),But.SI OX.out Xg HG2.out.1 (Nat.le_of_lt HG2.out.2.2)⟩;generalize wr.setRow g2 (YZ x0 x1 la B.length lk cc y0 y1 y2 p)=V9 at *
    clear Xg hcs;go_upto_region 8 with fail;refine wl<|ZK rfl ⟨g3,0,none⟩ (.agg (YZ x0 x1 la B.length lk cc y0 y1 y2 p)) (WZ hxc)<|Zr rfl (VJ)<|wn ?_;simp only[pu];go_wp2_with fail;exact bodyPost_ret (Yk rfl (by kernel_rfl) (WZ hY9)) rfl HE.out
 ·go_upto_region 2 with fail;refine wl<|ZV (Z8 ee)<|ZN (Za rfl ee 0 (decide_eq_false he))<|wn ?_;simp only[pu];have hag:=gW.out;rw[<- aD9.out] at hag;have hxc:=X7.out;obtain⟨cs0,hcs0⟩:=ZR ((YZ x0 x1 la B.length lk cc y0 y1 y2 p));rw[hcs0] at hag hxc;have SB:=ao1;obtain⟨x0,x1,la,lk,y0,y1,y2,B,cc,e0,hone,hcs,hlk,hlq,hbl,hcm⟩:=hag;simp only[Value.agg.injEq] at e0;subst e0;obtain⟨VJ,hY9⟩:=WE SB.out rfl hone;have Xg:But g2 V4 (V4.setRow g2 (YZ x0 x1 la B.length lk cc y0 y1 y2 p)):=But.setRow _ _;have HE:Hid (an9 w g a c L k (.returned (.agg (YZ x0 x1 la B.length lk cc y0 y1 y2 p))) (V4.setRow g2 (YZ x0 x1 la B.length lk cc y0 y1 y2 p))):=Z9 ⟨_,p,g2,g3,rfl,(show P7 w.heap.size g g2 g3 p _ _ from P7.but (V:=V4) ⟨x0,x1,la,lk,y0,y1,y2,B,cc,rfl,hone,hcs,hlk,hlq,hbl,hcm⟩ Xg (.inr (.inl rfl))),HP.out.1,HP.out.2,(xU.out.but Xg HG2.out.2.2 (fun h5 x hx=>by have:=HAB.out h5 x hx; have:=HG2.out; omega)).mono (by omega),But.SI OX.out Xg HG2.out.1 (Nat.le_of_lt HG2.out.2.2)⟩;generalize V4.setRow g2 (YZ x0 x1 la B.length lk cc y0 y1 y2 p)=V9 at *
  clear Xg hcs;go_upto_region 3 with fail;refine wl<|ZK rfl ⟨g3,0,none⟩ (.agg (YZ x0 x1 la B.length lk cc y0 y1 y2 p)) (WZ hxc)<|Zr rfl (VJ)<|wn ?_;simp only[pu];go_wp2_with fail;exact bodyPost_ret (Yk rfl (by kernel_rfl) (WZ hY9)) rfl HE.out
def bY (w:World)(X:List Ac×Int)(R:List XQ)(e:Ending)(w':World):Prop:=∃ ad k v,e=.returned (.tuple #[.agg (ZU ad X.1.length k X.2),v])/\Cs w' ad (acc X.1)/\X.1.length<=k/\P8 w' w.heap.size v R/\Below w.heap.size w w'
def TxQ (f:Nat):Prop:=∀ (A:List Ac) (c price:Int) (L:List Int) (la ra:Option Addr) (lk rc:Nat) (w:World),Cs w la (acc A)->A.length<=lk->A.length<=4398046511104->W64 c->TM A->(∀ x,x∈A->x.1.size<=140737488355328)->W64 price->Sl w ra rc L->L.length<=rc->(∀ y,y∈L->W8 y) ->
 Calls Tryz.prog f #[.agg (ZU la A.length lk c),Z7 price,.slice ra L.length rc] w (kY w la A (Uh A c price L))
theorem rtx:TxQ 26:=fun A c p L la ra lk rc w h1 h2 h3 h4 h5 h6 h7 h8 h9 h10=>FQ A c p L la ra lk rc w h1 h2 h3 h4 h5 h6 h7 h8 h9 h10
theorem bW (A:List Ac)(c p:Int)(E:List Bs)(la ra:Option Addr)(lk rc:Nat)(w:World)(hL:Cs w la (acc A))(hlk:A.length<=lk)(hd:Hu A c)(hp:W64 p)(hE:Rn w ra E)(hn:E.length<=100000) :
  Calls Tryz.prog 12 #[.agg (ZU la A.length lk c),Z7 p,.slice ra E.length rc] w (bY w (Ze A c p (lsB E) E.length) (Xl A c p (lsB E) E.length)):=by
 obtain⟨hb0,Wx,WY⟩:=YA w (ZU la A.length lk c) (ZU none 0 0 0) 30 30;have HC0:=Z9 (hL.below hb0);have Vh:=Z9 hn;have Nk:=Z9 hp;have NZ:=Z9 hE;have HRD:Hid (∀ j,j<=E.length->Hu (Ze A c p (lsB E) j).1 (Ze A c p (lsB E) j).2):=Z9 fun j hj=>hd.run hp hE.all j (by rw[Yy]; exact hj);have Jt:Hid (∀ j,j<E.length->Ze A c p (lsB E) (j+1)=(Uh (Ze A c p (lsB E) j).1 (Ze A c p (lsB E) j).2 p (UU E j).2.2).1):=Z9 fun j hj=>by rw[VQ (by rw[Yy]; exact hj),O4 hj]
 have HRR:Hid (∀ j,j<E.length->Xl A c p (lsB E) (j+1)=Xl A c p (lsB E) j++[(Uh (Ze A c p (lsB E) j).1 (Ze A c p (lsB E) j).2 p (UU E j).2.2).2]):=Z9 fun j hj=>by rw[WL]; unfold Xk; rw[O4 hj]
 have Ba:Hid (∀ j,(Xl A c p (lsB E) j).length=j):=Z9 fun j=>Ut _ _ _ _ j;have HR0:Hid (Ze A c p (lsB E) 0=(A,c)/\Xl A c p (lsB E) 0=[]):=Z9 ⟨rfl,rfl⟩;have cu:=Z9 (Vz hL);generalize Ze A c p (lsB E)=U at *
 generalize Xl A c p (lsB E)=Q at *
 clear hL hd hp hE;go_enter Tryz.func12,Tryz.ntmps12;go_upto_region 1 with fail;change Code.wp _ _ _ _ ((w.alloc (.cells (ZU la A.length lk c) 30)).alloc (.cells (ZU none 0 0 0) 30));generalize (w.alloc (.cells (ZU la A.length lk c) 30)).alloc (.cells (ZU none 0 0 0) 30)=W at *
 obtain⟨g3,hg3⟩:=ZR w.heap.size;obtain⟨g6,Ul⟩:=ZR (g3+1);have HB0:=Z9 hb0;rw[hg3] at Wx;rw[show w.heap.size+1=g6 by omega] at WY;have HG:Hid (w.heap.size<=g3/\w.heap.size<=g6/\g3≠g6/\g6≠g3/\w.heap.size<=W.heap.size):=Z9 ⟨by omega,by omega,by omega,by omega,hb0.size⟩;have yg:Hid (g3<W.heap.size/\g6<W.heap.size):=Z9 ⟨Wx.lt,WY.lt⟩;have kT:Hid (acc A≠[]->∀ x,la=some x->x.block≠g3/\x.block≠g6/\(Value.slice none 0 0).ownBlock≠some x.block):=Z9 fun h x hx=>by
  have:=cu.out h x hx;exact⟨by omega,by omega,fun z=>by cases z⟩
 simp only[hg3];simp only[Ul];have X7:=Z9 Wx;have XP:=Z9 WY;clear hb0 hg3 Ul Wx WY cu;go_upto_region 1 with fail;refine wl<|ZV (.slice none 0 0)<|wn ?_;simp only[pu];go_upto_region 2 with fail;refine wl<|YG (.slice ra E.length rc) (Z8 E.length) (Z8 0)<|wn ?_;simp only[pu];go_wp2_with fail;go_loopg [8,15] E.length (fun gg s8 s15 wx=>∃ (j:Nat) (v8:Value) (ad:Option Addr) (k:Nat),s8=v8/\s15=Z8 j/\j<=E.length/\(U j).1.length<=k/\Hid (Cs wx ad (acc (U j).1))/\Hid (acc (U j).1≠[]->∀ x,ad=some x->x.block≠g3/\x.block≠g6/\v8.ownBlock≠some x.block)/\Hid (Bx wx g3 (ZU ad (U j).1.length k (U j).2) 30)/\Hid (Bx wx g6 (ZU none 0 0 0) 30)/\Hid (P8 wx W.heap.size v8 (Q j))/\Hid (Below w.heap.size w wx)/\Hid (W.heap.size<=wx.heap.size)/\E.length-j=gg)
 case atStart=>exact⟨0,_,la,lk,rfl,rfl,by omega,by rw[HR0.out.1]; exact hlk,by rw[HR0.out.1]; exact HC0,by rw[HR0.out.1]; exact kT,by rw[HR0.out.1]; exact X7,XP,Z9 (by rw[HR0.out.2]; exact P8.nil _ _),HB0,Z9 (Nat.le_refl _),by omega⟩
 case round=>
  obtain⟨j,v8,ad,k,rfl,rfl,hj,hk,HC,UQ,HX,HZ,HR,HB,Gz,hg⟩:=hrel;clear HC0 kT X7 XP HB0;have EU:=Vh.out;by_cases hlt:j<E.length
  ·obtain⟨b,off,rfl,hld⟩:=(NZ.out.below HB.out).at hlt;have YL:=Z9 hld;have JK:=HRD.out j hj;have FI:=Og hlt;have CT:=rtx (U j).1 (U j).2 p (UU E j).2.2 ad (UU E j).1 k (UU E j).2.1 wr HC.out hk JK.n JK.cw JK.w JK.z Nk.out (ZL (NZ.out.sl _ FI) HB.out) (NZ.out.le _ FI) (NZ.out.b _ FI);have FH:=Z9 (Jt.out j hlt);have HQS:=Z9 (HRR.out j hlt);have HQL:=Z9 (Ba.out j);generalize Uh (U j).1 (U j).2 p (UU E j).2.2=X at *
   generalize UU E j=y at *
   have HG2:=Z9 hg;clear hld JK FI hg;go_upto_region 3 with fail;refine wl<|ZN (Zy rfl (j) (E.length) dT)<|wn ?_;simp only[pu];go_upto_region 4 with fail;refine wl<|YN (Z5 b (off+j*1)) (NY b off E.length rc j hlt _ _ _ rfl (by kernel_rfl) (by kernel_rfl))<|ZK rfl ⟨b,off+j*1,none⟩ (.slice y.1 y.2.2.length y.2.1) (YL.out)<|ZV (.slice y.1 y.2.2.length y.2.1)<|wn ?_;simp only[pu];go_upto_region 5 with fail;refine wl<|ZK rfl ⟨g3,0,none⟩ (.agg (ZU ad (U j).1.length k (U j).2)) (ZP HX.out)<|ZG (Z7 p) (.slice y.1 y.2.2.length y.2.1) <|
    XZ (fun v w'=>∃ aZ kZ,v=.tuple #[.agg (ZU aZ X.1.1.length kZ X.1.2),.agg (ZB X.2)]/\Cs w' aZ (acc X.1.1)/\X.1.1.length<=kZ/\((aZ=ad/\X.1.1=(U j).1)∨∀ x,aZ=some x->wr.heap.size<=x.block)/\Below wr.heap.size wr w') (CT.mono fun e w' q=>by obtain⟨aZ,kZ,h1,h2⟩:=q; exact⟨_,h1,aZ,kZ,rfl,h2⟩) (fun vv V2 hq=>?_)
   obtain⟨a2,k2,rfl,hct,hkt,hbl,hbt⟩:=hq;obtain⟨Va,Vb,Vc,kS,hlt2,hs6,hs7,hb7,hx4,hx5⟩:=zq V2 a2 X.1.1.length k2 X.1.2 X.2;refine YG (.tuple #[.agg (ZU a2 X.1.1.length k2 X.1.2),.agg (ZB X.2)]) (.agg (ZU a2 X.1.1.length k2 X.1.2)) (.agg (ZB X.2)) ?_;refine Zz rfl (some 11) rfl (Z5 V2.heap.size 0) (V2.alloc (.cells (ZU none 0 0 0) 30)) (by kernel_rfl) ?_;simp only[pu];rw[kS];refine Zz rfl (some 12) rfl (Z5 Va.heap.size 0) (Va.alloc (.cells (ZB (YQ 0)) 47)) (by kernel_rfl) ?_;refine Zr rfl (hs6)<|Zr rfl (hs7)<|wn ?_;obtain⟨g11,QH⟩:=ZR V2.heap.size;obtain⟨g12,Je⟩:=ZR Va.heap.size;have Um:=hbt.trans (hb7.mono hbt.size);have hsz:=Gz.out;have hsz2:=hbt.size;have hl12:g3<g12:=(by have:=yg.out.1; omega);rw[QH] at hx4 ⊢;rw[Je] at hx5 ⊢;have hcA:=hct.below hb7;have Us:acc X.1.1≠[]->∀ x,a2=some x->x.block≠g3/\x.block≠g6/\u8.ownBlock≠some x.block:=fun hne x hx=>by
    rcases hbl with⟨e1,e2⟩ | h9
    ·rw[e1] at hx; rw[e2] at hne; exact UQ.out hne x hx
    ·have h10:=h9 x hx;have h11:=yg.out;exact⟨by omega,by omega,fun z=>by have:=(zo HR.out _ z).2; omega⟩
   have Rt:=HX.out.below HX.out.lt Um;have hZ7:=HZ.out.below HZ.out.lt Um;have hR7:=own_below HR.out Um;have Po:=HB.out.trans (Um.mono HB.out.size);obtain⟨hst3,WH⟩:=ZF (a':=a2) (n':=X.1.1.length) (k':=k2) (c':=X.1.2) Rt;have Yw:But g3 Vc (Vc.setRow g3 (ZU a2 X.1.1.length k2 X.1.2)):=But.setRow (g:=g3) Vc (ZU a2 X.1.1.length k2 X.1.2);have Nj:=YT hcA Yw (fun h x hx=>(Us h x hx).1);have hZ8:=hZ7.but Yw HG.out.2.2.2.1;have ru:=Zq hR7 Yw yg.out.1;have Nh:=ZT Po HG.out.1 (ZU a2 X.1.1.length k2 X.1.2);have wJ:=hx5.but Yw (by omega);have kR:(Vc.setRow g3 (ZU a2 X.1.1.length k2 X.1.2)).heap.size=Vc.heap.size:=size_setRow _ _ _;have tV:W.heap.size<=Vc.heap.size:=Nat.le_trans hsz Um.size;generalize Vc.setRow g3 (ZU a2 X.1.1.length k2 X.1.2)=V8 at *
   rw[<- kR] at tV;clear kS hlt2 hs6 hs7 hct hbt hb7 hbl Rt hZ7 hR7 Po Yw hcA Um kR hsz hsz2 QH Je hl12 CT YL;go_upto_region 6 with fail;refine wl<|ZK rfl ⟨g11,0,none⟩ (.agg (ZU a2 X.1.1.length k2 X.1.2)) (ZP hx4)<|Zr rfl (hst3)<|wn ?_;simp only[pu];clear hst3 hx4;obtain⟨ao,co,rfl,hro,-⟩:=YH ru;have hbu:=Ic X.2 V8;obtain⟨a9,c9,V9,hap,hR9,Wi,hgr,hob⟩:=Di ru tV X.2 (by rw[HQL.out]; omega);have hC9:=JJ Nj hgr (fun h x hx=>(Us h x hx).2.2);have aP6:acc X.1.1≠[]->∀ x,a2=some x->x.block≠g3/\x.block≠g6/\(Value.slice a9 (Q j++[X.2]).length c9).ownBlock≠some x.block:=fun hne x hx=>⟨(Us hne x hx).1,(Us hne x hx).2.1,fun z=>by
    rcases hob _ z with h | h
    ·exact(Us hne x hx).2.2 h
    ·have:=Vz Nj hne x hx; omega⟩
   obtain⟨gz,hgz⟩:=ZR V8.heap.size;rw[hgz] at hbu hap;clear hgr hob Nj Us;go_upto_region 7 with fail;refine wl<|ZV (.slice ao (Q j).length co)<|ZK rfl ⟨g12,0,none⟩ (.agg (ZB X.2)) (XR wJ) ?_;refine Zw (by kernel_rfl) (some 29) rfl 35 1 #[(0,.tmp 28)] rfl #[(0,.agg (ZB X.2))] (by kernel_rfl) (.slice (some ⟨gz,0,none⟩) 1 1) _ hbu ?_;refine Zk rfl (some 30) rfl 35 rfl (.tmp 27) (.tmp 29) 35 rfl (.slice ao (Q j).length co) (.slice (some ⟨gz,0,none⟩) 1 1) (.slice a9 (Q j++[X.2]).length c9) V9 (by kernel_rfl) (by kernel_rfl) hap ?_;refine ZV (.slice a9 (Q j++[X.2]).length c9)<|wn ?_;simp only[pu];clear hap hbu wJ ru hro hgz;go_upto_region 8 with fail;refine wl<|YC (Z8 (j+1:Nat)) (ZH rfl j 1 (by omega))<|ZV (Z8 (j+1:Nat))<|wn ?_;simp only[pu];go_wp2_with fail;go_roundg (E.length-(j+1))
   case measure=>have:=HG2.out; omega
   case rel=>exact⟨j+1,_,a2,k2,rfl,rfl,hlt,by rw[FH.out]; exact hkt,Z9 (by rw[FH.out]; exact hC9),Z9 (by rw[FH.out]; exact aP6),Z9 (by rw[FH.out]; exact WH.below (by first | exact yg.out.1 | exact WH.lt) Wi),Z9 (hZ8.below (by first | exact yg.out.2 | exact hZ8.lt) Wi),Z9 (by rw[HQS.out]; exact hR9),Z9 (Nh.trans (Wi.mono HG.out.2.2.2.2)),Z9 (Nat.le_trans tV Wi.size),rfl⟩
  ·obtain rfl:E.length=j:=(by omega);obtain⟨hst3,WH⟩:=ZF (a':=ad) (n':=(U E.length).1.length) (k':=k) (c':=(U E.length).2) HZ.out;have Yw:=But.setRow (g:=g6) wr (ZU ad (U E.length).1.length k (U E.length).2);have ru:=Zq HR.out Yw yg.out.2;have Nh:=ZT HB.out HG.out.2.1 (ZU ad (U E.length).1.length k (U E.length).2);have Nj:=YT HC.out Yw (fun h x hx=>(UQ.out h x hx).2.1);have HE:Hid (bY w (U E.length) (Q E.length) (.returned (.tuple #[.agg (ZU ad (U E.length).1.length k (U E.length).2),u8])) (wr.setRow g6 (ZU ad (U E.length).1.length k (U E.length).2))):=Z9 ⟨ad,k,_,rfl,Nj,hk,own_base ru HG.out.2.2.2.2,Nh⟩;generalize wr.setRow g6 (ZU ad (U E.length).1.length k (U E.length).2)=V3 at *
   clear Yw ru Nh Nj;go_upto_region 3 with fail;refine wl<|ZN (Zy rfl (E.length) (E.length) dF)<|wn ?_;simp only[pu];go_upto_region 9 with fail;refine wl<|ZK rfl ⟨g3,0,none⟩ (.agg (ZU ad (U E.length).1.length k (U E.length).2)) (ZP HX.out)<|ZV (u8)<|Zr rfl (hst3)<|ZV (u8)<|wn ?_;simp only[pu];go_wp2_with fail;exact bodyPost_ret (ZO rfl (by kernel_rfl) (ZP WH) rfl) rfl HE.out
end Go.Proofs.YtfpnnmeblefkkaaGreatDoor.Lg
