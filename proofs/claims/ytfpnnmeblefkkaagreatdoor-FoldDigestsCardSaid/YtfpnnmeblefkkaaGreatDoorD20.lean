/-
  Texts joined.
-/
import Derived.Test.YtfpnnmeblefkkaaGreatDoorD19
set_option maxRecDepth 100000
set_option maxHeartbeats 8000000
set_option linter.unusedSimpArgs false
set_option linter.unusedVariables false
namespace Go.Proofs.YtfpnnmeblefkkaaGreatDoor.Lg
open Mo (YK YR Yl Yw)
open Go.RowKit
def TM (r:X6):List Value:=[Z8 r.code,.string r.snd,Z7 r.sq,Z7 r.Zx,Z7 r.pr]
def U9 (R:List X6):List Value:=R.flatMap TM
theorem JH:∀ R:List X6,(U9 R).length=R.length*5
 | []=>rfl
 | x::r=>by
  have:=JH r;show(TM x++U9 r).length=_;rw[List.length_append,this,List.length_cons];show 5+_=_;omega
theorem kD (A B:List X6):U9 (A++B)=U9 A++U9 B:=by unfold U9; rw[List.flatMap_append]
theorem kC (R:List X6):∀ u∈U9 R,u.oneCell'=true:=fun u hu=>by
 obtain⟨x,-,hx⟩:=List.mem_flatMap.1 hu;simp only[TM,List.mem_cons,List.not_mem_nil,or_false] at hx;rcases hx with rfl | rfl | rfl | rfl | rfl <;> rfl
def zR:X6:=YP 0
def qQ (R:List X6)(k:Nat):X6:=R.getD k zR
theorem NU {R:List X6}{k:Nat}(h:k<R.length):qQ R k=R[k]:=getD_lt R k _ h
theorem La:∀ (R:List X6) (k q:Nat) (v:Value),k<R.length->(TM (qQ R k))[q]?=some v->(U9 R)[k*5+q]?=some v
 | [],k,q,v,h,_=>absurd h (by simp)
 | x::r,0,q,v,_,hv=>by
  have hq:q<5:=by
   obtain⟨h1,-⟩:=List.getElem?_eq_some_iff.1 hv;exact h1
  show(TM x++U9 r)[0*5+q]?=_;rw[Nat.zero_mul,Nat.zero_add,List.getElem?_append_left (by exact hq)];exact hv
 | x::r,k+1,q,v,h,hv=>by
  show(TM x++U9 r)[(k+1)*5+q]?=_;rw[List.getElem?_append_right (by show 5<=_; omega),show(k+1)*5+q-(TM x).length=k*5+q by show _-5=_; omega];exact La r k q v (by simpa using h) hv
theorem ku:(Tryz.prog.info? 47).map (fun i=>(i.zero,i.size,i.bytes))=some (some (.agg #[Z8 0,.string ByteArray.empty,Z7 0,Z7 0,Z7 0]),5,48):=by kernel_rfl
theorem Ia (r:X6)(V:World):(Instr.buildSlice 35 1 #[(0,.agg (ZE r))]).run Tryz.prog V=.ok (.slice (some ⟨V.heap.size,0,none⟩) 1 1) (V.alloc (.cells (ZE r) 47)):=by
 obtain⟨i0,hi,hz0,hz1,hz2⟩:=info_parts ku;refine run_buildSlice V 35 47 1 _ (ZE r) i0 _ Tryz.underlying35 hi hz0 (by rw[hz1]; omega) (by rw[hz1]; omega) ?_;rw[hz1];kernel_rfl
def OU (w:World)(B:Nat)(v:Value)(R:List X6):Prop:=w.ownsRow B 47 5 v R.length (U9 R)
theorem OU.nil (w:World)(B:Nat):OU w B (.slice none 0 0) []:=World.ownsRow_nil _ _ _ _
theorem bn {w:World}{B:Nat}{v:Value}{A:List X6}(h:OU w B v A)(pa:Option Addr)(cp:Nat)(M:List X6)(hP:Cs w pa (U9 M))(hB:B<=w.heap.size)(hl:(A.length+M.length)*48<=140737488355328) :
  ∃ a c V2,(Builtin.append_ #[35,35] 35 #[v,.slice pa M.length cp]).run Tryz.prog w=.ok (.slice a (A++M).length c) V2/\OU V2 B (.slice a (A++M).length c) (A++M)/\Below B w V2/\w.grownBy V2 v.ownBlock/\((Value.slice a (A++M).length c).ownBlock=v.ownBlock∨(Value.slice a (A++M).length c).ownBlock=some w.heap.size):=by
 obtain⟨v2,V2,hr,hO,hb,hg,hat⟩:=RH (P:=Tryz.prog) (t:=35) (e:=47) (m:=M.length) (s:=5) (bytes:=48) Tryz.underlying35 ku (by kernel_rfl) (by omega) h pa cp (U9 M) hP (JH M) (kC M) hB (by omega) hl;have hO2:OU V2 B v2 (A++M):=by unfold OU; rw[List.length_append,kD]; exact hO
 obtain⟨a,c,e,-,-⟩:=Yd hO2;subst e;exact⟨a,c,V2,hr,hO2,hb,hg,hat⟩
theorem y8 {w:World}{B:Nat}{v:Value}{R:List X6}(h:OU w B v R):∀ q,v.ownBlock=some q->B<=q/\q<w.heap.size:=fun q hq=>by
 obtain⟨-,h⟩:=h;rcases h with⟨rfl,-⟩ | ⟨g,cap,cur,rfl,hB,hh,-⟩
 ·cases hq
 ·cases hq;exact⟨hB,(Array.getElem?_eq_some_iff.1 hh).1⟩
theorem kF {w w':World}{g B e size n:Nat}{v:Value}{xs:List Value}(h:w.ownsRow B e size v n xs)(hb:But g w w')(hn:v.ownBlock≠some g):w'.ownsRow B e size v n xs:=by
 refine⟨h.1,?_⟩;rcases h.2 with h0 | ⟨k,cap,cur,ev,hB,hg,r⟩
 ·exact .inl h0
 ·exact .inr ⟨k,cap,cur,ev,hB,(hb.2 k (Array.getElem?_eq_some_iff.1 hg).1 (fun q=>hn (by rw[ev,q]; rfl))).trans hg,r⟩
theorem JI {w w':World}{row:Option Nat}{a:Option Addr}{cs:List Value}(h:Cs w a cs)(hg:w.grownBy w' row)(hn:cs≠[]->∀ x,a=some x->row≠some x.block):Cs w' a cs:=fun j v hj=>by
 obtain⟨b,off,e,hlt,hc⟩:=h j v hj;refine⟨b,off,e,Nat.lt_of_lt_of_le hlt hg.size,?_⟩;rw[<- hc];exact World.cell?_of_block (hg.block b hlt (fun q=>hn (fun z=>by rw[z] at hj; cases hj) _ e q.symm))
theorem Dc {w:World}{B:Nat}{v:Value}{A:List X6}(h:OU w B v A)(hB:B<=w.heap.size)(r:X6)(hl:A.length<=100000) :
  ∃ a c V2,(Builtin.append_ #[35,35] 35 #[v,.slice (some ⟨w.heap.size,0,none⟩) 1 1]).run Tryz.prog (w.alloc (.cells (ZE r) 47))=.ok (.slice a (A++[r]).length c) V2/\OU V2 B (.slice a (A++[r]).length c) (A++[r])/\Below B w V2/\w.grownBy V2 v.ownBlock/\(∀ q,(Value.slice a (A++[r]).length c).ownBlock=some q->v.ownBlock=some q∨w.heap.size<=q):=by
 have hb:Below w.heap.size w (w.alloc (.cells (ZE r) 47)):=(Below.refl _ w).alloc (Nat.le_refl _) _;have hO:=own_below h hb;have hc:Cs (w.alloc (.cells (ZE r) 47)) (some ⟨w.heap.size,0,none⟩) (U9 [r]):=Cs.block (t:=47) (fr:=(0,0)) (heap_alloc_last w _);obtain⟨a,c,V2,h1,h2,h3,h4,h5⟩:=bn hO (some ⟨w.heap.size,0,none⟩) 1 [r] hc (Nat.le_trans hB hb.size) (by simp only[List.length_cons,List.length_nil]; omega);refine⟨a,c,V2,h1,h2,(hb.mono hB).trans h3,(World.grownBy_alloc w _ _).trans h4,fun q hq=>?_⟩;rcases h5 with h5 | h5
 ·exact .inl (by rw[<- h5]; exact hq)
 ·rw[h5] at hq;cases hq;exact .inr hb.size
theorem OJ {w:World}{a:Option Addr}{R:List X6}(h:Cs w a (U9 R)){k:Nat}(hk:k<R.length):∃ b off,a=some ⟨b,off,none⟩/\b<w.heap.size/\w.rangeAt b (off+k*5) (TM (qQ R k)):=by
 have h0:=La R k 0 _ hk rfl;obtain⟨b,off,rfl,hb,-⟩:=h _ _ h0;refine⟨b,off,rfl,hb,fun q v hv=>?_⟩;obtain⟨b2,o2,e,-,c2⟩:=h _ _ (La R k q v hk hv);simp only[Option.some.injEq,Addr.mk.injEq,and_true] at e;obtain⟨rfl,rfl⟩:=e;rw[Nat.add_assoc];exact c2
theorem wF {w:World}{b o:Nat}{r:X6}(h:w.rangeAt b o (TM r)):(Instr.loadAt 47 (Z5 b o)).run Tryz.prog w=.ok (.agg (ZE r)) w:=
 run_loadAt_mid w b o 47 (TM r) _ h Tryz.underlying47 rfl (by kernel_rfl)
abbrev Bs:=Option Addr×Nat×List Int
def EP (E:List Bs):List Value:=E.map fun e=>.slice e.1 e.2.2.length e.2.1
def lsB (E:List Bs):List (List Int):=E.map (·.2.2)
def Ti (E:List Bs)(k:Nat):Bs:=E.getD k (none,0,[])
theorem KZ {E:List Bs}{k:Nat}(h:k<E.length):Ti E k=E[k]:=getD_lt E k _ h
theorem Xe (E:List Bs):(lsB E).length=E.length:=by simp[lsB]
theorem OW {E:List Bs}{k:Nat}(h:k<E.length):(lsB E).getD k []=(Ti E k).2.2:=by
 unfold lsB;rw[KZ h,List.getD_eq_getElem?_getD,List.getElem?_map,List.getElem?_eq_getElem h];rfl
structure AQ (w:World)(a:Option Addr)(E:List Bs):Prop where
 cs:Cs w a (EP E)
 sl:∀ e,e∈E->Sl w e.1 e.2.1 e.2.2
 le:∀ e,e∈E->e.2.2.length<=e.2.1
 b:∀ e,e∈E->∀ y,y∈e.2.2->W8 y
theorem AQ.below {w w':World}{a:Option Addr}{E:List Bs}(h:AQ w a E)(hb:Below w.heap.size w w'):AQ w' a E:=⟨h.cs.below hb,fun e he=>ZP (h.sl e he) hb,h.le,h.b⟩
theorem AQ.at {w:World}{a:Option Addr}{E:List Bs}(h:AQ w a E){k:Nat}(hk:k<E.length):∃ b off,a=some ⟨b,off,none⟩/\(Instr.loadAt 54 (Z5 b (off+k*1))).run Tryz.prog w=.ok (.slice (Ti E k).1 (Ti E k).2.2.length (Ti E k).2.1) w:=by
 have h0:(EP E)[k]?=some (.slice (Ti E k).1 (Ti E k).2.2.length (Ti E k).2.1):=by
  unfold EP;rw[KZ hk,List.getElem?_map,List.getElem?_eq_getElem hk];rfl
 obtain⟨b,off,rfl,-,hc⟩:=h.cs _ _ h0;rw[show k*1=k by omega];exact⟨b,off,rfl,Yz hc (by kernel_rfl)⟩
theorem AQ.all {w:World}{a:Option Addr}{E:List Bs}(h:AQ w a E):∀ L,L∈lsB E->∀ y,y∈L->W8 y:=fun L hL=>by
 obtain⟨e,he,rfl⟩:=List.mem_map.1 hL;exact h.b e he
theorem NV {E:List Bs}{k:Nat}(h:k<E.length):Ti E k∈E:=by rw[KZ h]; exact List.getElem_mem h
theorem FD (b off n c k:Nat)(hk:k<n)(V:World)(ρ:Operand->Value)(o:Oper){x y:Operand}(ho:o.op=.indexAddr 23 x y)(hx:ρ x=.slice (some ⟨b,off,none⟩) n c)(hy:ρ y=Z8 k):(execOp ρ o).run Tryz.prog V=.ok (.value (Z5 b (off+k*1))) V:=by
 have hs:(sizeOf (Tryz.prog.elem 23)).run Tryz.prog V=.ok 1 V:=by kernel_rfl
 have hlm:(k:Int)<(n:Int):=by omega
 unfold execOp;simp only[ho,hx,hy];go_simp
theorem Ho (b off n c k:Nat)(hk:k<n)(V:World)(ρ:Operand->Value)(o:Oper){x y:Operand}(ho:o.op=.indexAddr 35 x y)(hx:ρ x=.slice (some ⟨b,off,none⟩) n c)(hy:ρ y=Z8 k):(execOp ρ o).run Tryz.prog V=.ok (.value (Z5 b (off+k*5))) V:=by
 have hs:(sizeOf (Tryz.prog.elem 35)).run Tryz.prog V=.ok 5 V:=by kernel_rfl
 have hlm:(k:Int)<(n:Int):=by omega
 unfold execOp;simp only[ho,hx,hy];go_simp
def QTx:Prop:=∀ (A:List Ac) (c price:Int) (L:List Int) (la ra:Option Addr) (lk rc:Nat) (w:World),Cs w la (acc A)->A.length<=lk->A.length<=4398046511104->W64 c->Tz A->(∀ x,x∈A->x.1.size<=140737488355328)->W64 price->Sl w ra rc L->L.length<=rc->(∀ y,y∈L->W8 y) ->
  Calls Tryz.prog 25 #[.agg (ZT la A.length lk c),Z7 price,.slice ra L.length rc] w (kL w la A (TF A c price L))
theorem kE (V:World)(a:Option Addr)(n k:Nat)(c:Int)(r:X6):∃ Va V2 V3,V.alloc (.cells (ZT none 0 0 0) 30)=Va/\V.heap.size<Va.heap.size /\
  (Instr.storeAt 30 (Z5 V.heap.size 0) (.agg (ZT a n k c))).run Tryz.prog (Va.alloc (.cells (ZE (YP 0)) 47))=.ok () V2 /\
  (Instr.storeAt 47 (Z5 Va.heap.size 0) (.agg (ZE r))).run Tryz.prog V2=.ok () V3 /\
  Below V.heap.size V V3/\Bx V3 V.heap.size (ZT a n k c) 30/\Bx V3 Va.heap.size (ZE r) 47:=by
 have hX1:Bx (V.alloc (.cells (ZT none 0 0 0) 30)) V.heap.size (ZT none 0 0 0) 30:=heap_alloc_last V _;have hb1:Below V.heap.size V (V.alloc (.cells (ZT none 0 0 0) 30)):=(Below.refl _ V).alloc (Nat.le_refl _) _;obtain⟨Va,tJ⟩:=ZQ (V.alloc (.cells (ZT none 0 0 0) 30));rw[tJ] at hX1 hb1;have hX2:Bx (Va.alloc (.cells (ZE (YP 0)) 47)) Va.heap.size (ZE (YP 0)) 47:=heap_alloc_last Va _;have hb2:Below Va.heap.size Va (Va.alloc (.cells (ZE (YP 0)) 47)):=(Below.refl _ Va).alloc (Nat.le_refl _) _;have hlt:=hX1.lt;obtain⟨hs1,hY1⟩:=ZC (a':=a) (n':=n) (k':=k) (c':=c) (hX1.below hX1.lt hb2);have hn:Va.heap.size≠V.heap.size:=by omega
 obtain⟨hs2,hY2⟩:=XL (q:=r) (hX2.but (But.setRow _ (ZT a n k c)) hn);exact⟨Va,_,_,tJ,hlt,hs1,hs2,(hb1.trans (hb2.mono hb1.size)).trans (((But.setRow _ _).1).trans ((But.setRow _ _).1.mono (Nat.le_of_lt hlt))),hY1.but (But.setRow _ _) hn.symm,hY2⟩
end Go.Proofs.YtfpnnmeblefkkaaGreatDoor.Lg
namespace Go.Proofs.YtfpnnmeblefkkaaGreatDoor.Lg
attribute [local irreducible] wpList wpQuiet
open Mo (YK YR Yl Yw)
open Go.RowKit
abbrev YT (x0 x1:Value)(a:Option Addr)(n k:Nat)(c:Int)(y0 y1 y2:Value)(p:Int):Array Value:=#[x0,x1,.slice a n k,Z7 c,y0,y1,y2,Z7 p]
theorem Bx.two {w:World}{g t:Nat}{cs:Array Value}(h:Bx w g cs t)(o:Nat)(x y:Value)(h0:cs[o]?=some x)(h1:cs[o+1]?=some y):w.rangeAt g o [x,y]:=fun j v hj=>by
 rw[cell_of_row w g _ _ _ (0,0) h];rcases j with _ | _ | j
 ·exact h0.trans hj
 ·exact h1.trans hj
 ·simp at hj
theorem CZ {w:World}{g:Nat}{x0 x1 y0 y1 y2:Value}{a:Option Addr}{n k:Nat}{c p:Int}(h:Bx w g (YT x0 x1 a n k c y0 y1 y2 p) 67):(Instr.loadAt 30 (Z5 g 2)).run Tryz.prog w=.ok (.agg (ZT a n k c)) w:=
 run_loadAt_mid w g 2 30 [.slice a n k,Z7 c] _ (Bx.two h 2 _ _ rfl rfl) Tryz.underlying30 rfl (by kernel_rfl)
theorem FB {w:World}{g:Nat}{x0 x1 y0 y1 y2:Value}{a:Option Addr}{n k:Nat}{c p:Int}(h:Bx w g (YT x0 x1 a n k c y0 y1 y2 p) 67):(Instr.loadAt 24 (Z5 g 7)).run Tryz.prog w=.ok (Z7 p) w:=h.ZR 7
theorem WT {w:World}{g:Nat}{x0 x1 y0 y1 y2:Value}{a:Option Addr}{n k:Nat}{c p:Int}(h:Bx w g (YT x0 x1 a n k c y0 y1 y2 p) 67):(Instr.loadAt 67 (Z5 g 0)).run Tryz.prog w=.ok (.agg (YT x0 x1 a n k c y0 y1 y2 p)) w:=
 run_loadAt_mid w g 0 67 (YT x0 x1 a n k c y0 y1 y2 p).toList _ (fun j v hv=>by
  rw[cell_of_row w g _ _ _ (0,0) h];simpa using hv) Tryz.underlying67 rfl (by kernel_rfl)
theorem WB {w:World}{g:Nat}{cs:Array Value}{x0 x1 y0 y1 y2:Value}{a:Option Addr}{n k:Nat}{c p:Int}(h:Bx w g cs 67)(hz:cs.size=8)(h1:(YT x0 x1 a n k c y0 y1 y2 p).all (·.oneCell')=true):(Instr.storeAt 67 (Z5 g 0) (.agg (YT x0 x1 a n k c y0 y1 y2 p))).run Tryz.prog w=.ok () (w.setRow g (YT x0 x1 a n k c y0 y1 y2 p))/\Bx (w.setRow g (YT x0 x1 a n k c y0 y1 y2 p)) g (YT x0 x1 a n k c y0 y1 y2 p) 67:=
 ⟨Yj h hz h1 (by kernel_rfl),h.set⟩
theorem tH {w:World}{g B:Nat}{w0:World}{x0 x1 y0 y1 y2:Value}{a a2:Option Addr}{n k n2 k2:Nat}{c c2 p:Int}(h:Bx w g (YT x0 x1 a n k c y0 y1 y2 p) 67)(hb:Below B w0 w)(hg:B<=g):∃ V2,(Instr.storeAt 30 (Z5 g 2) (.agg (ZT a2 n2 k2 c2))).run Tryz.prog w=.ok () V2/\Bx V2 g (YT x0 x1 a2 n2 k2 c2 y0 y1 y2 p) 67/\Below B w0 V2/\But g w V2:=by
 have hst:=run_storeAt_mid (P:=Tryz.prog) w g 2 30 (ZT a2 n2 k2 c2) (fun j hj=>by
  have hj4:j<2:=hj;refine⟨?_,frozen_of_row w g _ _ 67 h⟩;rw[cell_of_row w g _ _ 67 (0,0) h,Array.getElem?_eq_getElem (by show 2+j<8; omega)];rfl) (by kernel_rfl) (by simp[Value.oneCell'])
 exact⟨_,hst,(h.nY (i:=2) (.slice a2 n2 k2)).nY (i:=3) (Z7 c2),hb.trans (Rz hg _ _ _),Oz _ _ _⟩
theorem YG {w w':World}{g:Nat}{a:Option Addr}{cs:List Value}(h:Cs w a cs)(hb:But g w w')(hn:cs≠[]->∀ x,a=some x->x.block≠g):Cs w' a cs:=by
 cases cs with
 | nil=>exact Cs.nil _ _
 | cons v r=>exact h.but hb (hn (by simp))
theorem Vh {w:World}{a:Option Addr}{cs:List Value}(h:Cs w a cs)(hne:cs≠[]):∀ x,a=some x->x.block<w.heap.size:=fun x hx=>by
 obtain⟨b,off,e,hb,-⟩:=h 0 (cs[0]'(List.length_pos_iff.2 hne)) (List.getElem?_eq_getElem _);rw[hx] at e;cases e;exact hb
theorem yZ {la ad:Option Addr}{A B:List Ac}{W0 W1 g:Nat}(hbl:(ad=la/\A=B)∨∀ x,ad=some x->W1<=x.block)(ho:acc B≠[]->∀ x,la=some x->x.block<W0)(h0:W0<=g)(h1:g<W1):acc A≠[]->∀ x,ad=some x->x.block≠g:=fun hne x hx=>by
 rcases hbl with⟨rfl,e2⟩ | h9
 ·rw[e2] at hne;have:=ho hne x hx;omega
 ·have:=h9 x hx;omega
def aE6 (w:World)(x0 x1:Value)(la:Option Addr)(A:List Ac)(X:List Ac×Int)(p:Int)(e:Ending)(w':World):Prop:=∃ a k y0 y1 y2,e=.returned (.agg (YT x0 x1 a X.1.length k X.2 y0 y1 y2 p))/\(YT x0 x1 a X.1.length k X.2 y0 y1 y2 p).all (·.oneCell')=true/\Cs w' a (acc X.1)/\X.1.length<=k/\((a=la/\X.1=A)∨∀ x,a=some x->w.heap.size<=x.block)/\Below w.heap.size w w'
theorem y5 (B:List Ac)(c price:Int)(R:List Int)(x0 x1 y0 y1 y2:Value)(la ra:Option Addr)(lk rc:Nat)(w:World)(h1:(YT x0 x1 la B.length lk c y0 y1 y2 price).all (·.oneCell')=true)(hL:Cs w la (acc B))(hlk:B.length<=lk)(hq:MG B c)(hp:W64 price)(hR:Sl w ra rc R)(hrc:R.length<=rc)(h8:∀ y,y∈R->W8 y) :
  Calls Tryz.prog 36 #[.agg (YT x0 x1 la B.length lk c y0 y1 y2 price),.slice ra R.length rc] w (aE6 w x0 x1 la B (TF B c price R).1 price):=by
 obtain⟨hb0,hX2,Xy⟩:=Ym w (YT x0 x1 la B.length lk c y0 y1 y2 price) #[.slice none 0 0,Z7 0,.slice none 0 0,Z7 0,.slice none 0 0,Z7 0,ZY,Z7 0] 67 67;have CT:=fun V hl hr=>zi B c price R la ra lk rc V hl hlk (by have:=hq.n; omega) hq.cw hq.w hq.z hp hr hrc h8;have hL0:=hL.below hb0;have hR0:=ZP hR hb0;have HLB:=Z9 (Vh hL);have HO:=Z9 h1;generalize TF B c price R=X at *
 clear hL hR h8 h1;go_enter Tryz.func36,Tryz.ntmps36;go_upto_region 1 with fail;change Code.wp _ _ _ _ ((w.alloc (.cells (YT x0 x1 la B.length lk c y0 y1 y2 price) 67)).alloc (.cells #[.slice none 0 0,Z7 0,.slice none 0 0,Z7 0,.slice none 0 0,Z7 0,ZY,Z7 0] 67));generalize (w.alloc (.cells (YT x0 x1 la B.length lk c y0 y1 y2 price) 67)).alloc (.cells #[.slice none 0 0,Z7 0,.slice none 0 0,Z7 0,.slice none 0 0,Z7 0,ZY,Z7 0] 67)=W at *
 obtain⟨g2,hg2⟩:=ZQ w.heap.size;obtain⟨g4,hg4⟩:=ZQ (g2+1);have HB0:=Z9 hb0;rw[show w.heap.size+1=g4 by omega] at Xy;have HG:Hid (w.heap.size<=g2/\w.heap.size<=g4/\g2≠g4/\g4≠g2):=Z9 (by omega);rw[hg2] at hX2;simp only[hg2];simp only[hg4];have RU:=Z9 hX2;have Yh:=Z9 Xy;have CTW:=CT W hL0 hR0;clear hb0 hg2 hg4 hX2 Xy CT hL0 hR0;refine wl<|ZV (Z5 g2 2)<|ZL rfl ⟨g2,2,none⟩ (.agg (ZT la B.length lk c)) (CZ RU.out)<|ZV (Z5 g2 7)<|ZL rfl ⟨g2,7,none⟩ (Z7 price) (FB RU.out)<|ZV (.slice ra R.length rc) <|
  XI (fun v w'=>∃ ad k,v=.tuple #[.agg (ZT ad X.1.1.length k X.1.2),.agg (ZE X.2)]/\Cs w' ad (acc X.1.1)/\X.1.1.length<=k/\((ad=la/\X.1.1=B)∨∀ x,ad=some x->W.heap.size<=x.block)/\Below W.heap.size W w') (CTW.mono fun e w' q=>by obtain⟨ad,k,h1,h2⟩:=q; exact⟨_,h1,ad,k,rfl,h2⟩) (fun vv W1 hq=>?_)
 obtain⟨ad,k,rfl,hcs,hk,hbl,hb1⟩:=hq;obtain⟨V2,hst2,hY2,hb2,Uk⟩:=tH (a2:=ad) (n2:=X.1.1.length) (k2:=k) (c2:=X.1.2) (RU.out.below RU.out.lt hb1) (HB0.out.trans (hb1.mono HB0.out.size)) HG.out.1;have hcs2:=YG hcs Uk (yZ hbl HLB.out HG.out.1 RU.out.lt);refine U8 (.tuple #[.agg (ZT ad X.1.1.length k X.1.2),.agg (ZE X.2)]) (.agg (ZT ad X.1.1.length k X.1.2)) (.agg (ZE X.2)) (Z5 g2 2)<|Zk rfl (hst2)<|wn ?_;simp only[pu];have jX:=(Yh.out.below Yh.out.lt hb1).but Uk HG.out.2.2.2;have hone:(YT x0 x1 ad X.1.1.length k X.1.2 y0 y1 y2 price).all (·.oneCell')=true:=by have:=HO.out; simpa [Value.oneCell'] using this
 obtain⟨hst3,EU⟩:=WB jX rfl hone;have hb3:=ZU hb2 HG.out.2.1 (YT x0 x1 ad X.1.1.length k X.1.2 y0 y1 y2 price);have hcs3:=YG hcs2 (But.setRow (g:=g4) V2 (YT x0 x1 ad X.1.1.length k X.1.2 y0 y1 y2 price)) (yZ hbl HLB.out HG.out.2.1 Yh.out.lt);have HE:Hid (aE6 w x0 x1 la B X.1 price (.returned (.agg (YT x0 x1 ad X.1.1.length k X.1.2 y0 y1 y2 price))) (V2.setRow g4 (YT x0 x1 ad X.1.1.length k X.1.2 y0 y1 y2 price))):=Z9 ⟨ad,k,y0,y1,y2,rfl,hone,hcs3,hk,hbl.imp id (fun h9 x hx=>Nat.le_trans HB0.out.size (h9 x hx)),hb3⟩;generalize V2.setRow g4 (YT x0 x1 ad X.1.1.length k X.1.2 y0 y1 y2 price)=V3 at *
 clear hst2 hcs hbl hb1 Uk hcs2 jX hb2 hb3 hcs3;go_upto_region 2 with fail;refine wl<|ZL rfl ⟨g2,0,none⟩ (.agg (YT x0 x1 ad X.1.1.length k X.1.2 y0 y1 y2 price)) (WT hY2)<|Zk rfl (hst3)<|wn ?_;simp only[pu];go_wp2_with fail;exact bodyPost_ret (XU rfl (by kernel_rfl) (WT EU)) rfl HE.out
def bf (w:World)(X:List Ac×Int)(p:Int)(e:Ending)(w':World):Prop:=(X.2=0/\∃ a k,e=.returned (.tuple #[.agg (YT (.slice a X.1.length k) (Z7 0) a X.1.length k 0 (.slice none 0 0) (Z7 0) ZY p),Z8 0])/\Cs w' a (acc X.1)/\X.1.length<=k/\(∀ x,a=some x->w.heap.size<=x.block)/\Below w.heap.size w w') ∨
 (X.2≠0/\e=.returned (.tuple #[.agg #[.slice none 0 0,Z7 0,.slice none 0 0,Z7 0,.slice none 0 0,Z7 0,ZY,Z7 0],Z8 X.2])/\Below w.heap.size w w')
theorem jY (A:List Ac)(a:Option Addr)(k:Nat)(p:Int)(w:World)(hR:Cs w a (acc A))(hn:A.length<=4398046511104)(hw:Tz A)(hz:∀ x,x∈A->x.1.size<=140737488355328) :
  Calls Tryz.prog 33 #[.slice a A.length k,Z7 p] w (bf w (Q7 A) p):=by
 have hb0:Below w.heap.size w (w.alloc (.cells #[.slice none 0 0,Z7 0,.slice none 0 0,Z7 0,.slice none 0 0,Z7 0,ZY,Z7 0] 67)):=(Below.refl _ w).alloc (Nat.le_refl _) _;have hX0:Bx (w.alloc (.cells #[.slice none 0 0,Z7 0,.slice none 0 0,Z7 0,.slice none 0 0,Z7 0,ZY,Z7 0] 67)) w.heap.size #[.slice none 0 0,Z7 0,.slice none 0 0,Z7 0,.slice none 0 0,Z7 0,ZY,Z7 0] 67:=heap_alloc_last w _;have CG:=EH a k A (w.alloc (.cells #[.slice none 0 0,Z7 0,.slice none 0 0,Z7 0,.slice none 0 0,Z7 0,ZY,Z7 0] 67)) (hR.below hb0) hn hw hz;have e1:G6 A=((Q7 A).1,0,(Q7 A).2):=rfl;rw[e1] at CG;generalize Q7 A=X at *
 clear hR hn hw hz e1;go_enter Tryz.func33,Tryz.ntmps33;go_upto_region 1 with fail;change Code.wp _ _ _ _ (w.alloc (.cells #[.slice none 0 0,Z7 0,.slice none 0 0,Z7 0,.slice none 0 0,Z7 0,ZY,Z7 0] 67));generalize w.alloc (.cells #[.slice none 0 0,Z7 0,.slice none 0 0,Z7 0,.slice none 0 0,Z7 0,ZY,Z7 0] 67)=W at *
 obtain⟨g4,hg4⟩:=ZQ w.heap.size;have HB0:=Z9 hb0;have HG:Hid (w.heap.size<=g4):=Z9 (by omega);rw[hg4] at hX0;simp only[hg4];clear hb0 hg4;refine wl<|ZV (.slice a A.length k) <|
  XI (fun v w'=>∃ ad kk,v=.tuple #[.agg (ZT ad X.1.length kk 0),Z8 X.2]/\Zd w' W.heap.size (.slice ad X.1.length kk) X.1/\Below W.heap.size W w') (CG.mono fun e w' q=>by obtain⟨ad,kk,h1,h2⟩:=q; exact⟨_,h1,ad,kk,rfl,h2⟩) (fun vv W1 hq=>?_)
 obtain⟨ad,kk,rfl,hrow,hb1⟩:=hq;obtain⟨V2,hst2,hb2,hY2⟩:=Vk W1 ad X.1.length kk 0;refine Yr (.tuple #[.agg (ZT ad X.1.length kk 0),Z8 X.2]) (.agg (ZT ad X.1.length kk 0)) (Z8 X.2) ?_;refine Zy rfl (some 6) rfl (Z5 W1.heap.size 0) (W1.alloc (.cells (ZT none 0 0 0) 30)) (by kernel_rfl) ?_;refine Zk rfl (hst2)<|ZV (Z8 X.2)<|wn ?_;simp only[pu];obtain⟨g6,S9⟩:=ZQ W1.heap.size;have hb3:=hb1.trans (hb2.mono hb1.size);have hX2:=hX0.below hX0.lt hb3;have hrow2:=own_below hrow hb2;rw[S9] at hY2 hst2 ⊢;have hbw:=HB0.out.trans (hb3.mono HB0.out.size);clear CG hst2 hrow hb1 hb2 S9;by_cases he:X.2=0
 ·go_upto_region 2 with fail;refine wl<|ZV (Z8 X.2)<|ZM (YL rfl X.2 0 (decide_eq_true he))<|wn ?_;simp only[pu];obtain⟨hst3,EU⟩:=WB (x0:=.slice ad X.1.length kk) (x1:=Z7 0) (a:=ad) (n:=X.1.length) (k:=kk) (c:=0) (y0:=.slice none 0 0) (y1:=Z7 0) (y2:=ZY) (p:=p) hX2 rfl (by simp[Value.oneCell']);have hb4:=ZU hbw HG.out (YT (.slice ad X.1.length kk) (Z7 0) ad X.1.length kk 0 (.slice none 0 0) (Z7 0) ZY p);have hrow3:=Zo hrow2 (But.setRow (g:=g4) V2 (YT (.slice ad X.1.length kk) (Z7 0) ad X.1.length kk 0 (.slice none 0 0) (Z7 0) ZY p)) hX0.lt;obtain⟨a9,c9,e9,hcs,hk⟩:=Yd hrow3;simp only[Value.slice.injEq,true_and] at e9;obtain⟨rfl,rfl⟩:=e9;have HE:Hid (bf w X p (.returned (.tuple #[.agg (YT (.slice ad X.1.length kk) (Z7 0) ad X.1.length kk 0 (.slice none 0 0) (Z7 0) ZY p),Z8 0])) (V2.setRow g4 (YT (.slice ad X.1.length kk) (Z7 0) ad X.1.length kk 0 (.slice none 0 0) (Z7 0) ZY p))):=Z9 (.inl ⟨he,ad,kk,rfl,hcs,hk,fun x hx=>Nat.le_trans HB0.out.size (JK (A:=X.1) hrow3 x hx),hb4⟩);generalize V2.setRow g4 (YT (.slice ad X.1.length kk) (Z7 0) ad X.1.length kk 0 (.slice none 0 0) (Z7 0) ZY p)=V3 at *
  clear hX2 hb4 hrow2 hrow3 hcs;go_upto_region 4 with fail;refine wl<|ZL rfl ⟨g6,0,none⟩ (.agg (ZT ad X.1.length kk 0)) (ZO hY2)<|ZL rfl ⟨g6,0,none⟩ (.agg (ZT ad X.1.length kk 0)) (ZO hY2) <|
   ZB (Z7 p) (.agg (YT (.slice ad X.1.length kk) (Z7 0) ad X.1.length kk 0 (.slice none 0 0) (Z7 0) ZY p))<|Zk rfl (hst3)<|ZV (Z8 0)<|wn ?_
  simp only[pu];go_wp2_with fail;exact bodyPost_ret (ZN rfl (by kernel_rfl) (WT EU) rfl) rfl HE.out
 ·go_upto_region 2 with fail;refine wl<|ZV (Z8 X.2)<|ZM (YL rfl X.2 0 (decide_eq_false he))<|wn ?_;simp only[pu];obtain⟨hst3,EU⟩:=WB (x0:=.slice none 0 0) (x1:=Z7 0) (a:=none) (n:=0) (k:=0) (c:=0) (y0:=.slice none 0 0) (y1:=Z7 0) (y2:=ZY) (p:=0) hX2 rfl (by simp[Value.oneCell']);have hb4:=ZU hbw HG.out (YT (.slice none 0 0) (Z7 0) none 0 0 0 (.slice none 0 0) (Z7 0) ZY 0);have HE:Hid (bf w X p (.returned (.tuple #[.agg (YT (.slice none 0 0) (Z7 0) none 0 0 0 (.slice none 0 0) (Z7 0) ZY 0),Z8 X.2])) (V2.setRow g4 (YT (.slice none 0 0) (Z7 0) none 0 0 0 (.slice none 0 0) (Z7 0) ZY 0))):=Z9 (.inr ⟨he,rfl,hb4⟩);generalize V2.setRow g4 (YT (.slice none 0 0) (Z7 0) none 0 0 0 (.slice none 0 0) (Z7 0) ZY 0)=V3 at *
  clear hX2 hb4 hrow2;go_upto_region 3 with fail;refine wl<|ZB (.agg (YT (.slice none 0 0) (Z7 0) none 0 0 0 (.slice none 0 0) (Z7 0) ZY 0)) (Z8 X.2)<|Zk rfl (hst3)<|ZV (Z8 X.2)<|wn ?_;simp only[pu];go_wp2_with fail;exact bodyPost_ret (ZN rfl (by kernel_rfl) (WT EU) rfl) rfl HE.out
def FC (lo g g2 g3:Nat)(V:World)(x0 x1:Value):Prop:=∃ a k B c,x0=.slice a (List.length B) k/\x1=Z7 c/\Cs V a (acc B)/\B.length<=k/\MG B c/\(acc B≠[]->∀ x,a=some x->x.block≠g/\x.block≠g2/\x.block≠g3/\lo<=x.block)
theorem FC.below {lo g g2 g3:Nat}{V V2:World}{x0 x1:Value}(h:FC lo g g2 g3 V x0 x1)(hb:Below V.heap.size V V2):FC lo g g2 g3 V2 x0 x1:=by
 obtain⟨a,k,B,c,h1,h2,h3,h4⟩:=h;exact⟨a,k,B,c,h1,h2,h3.below hb,h4⟩
theorem FC.but {lo g g2 g3 q:Nat}{V V2:World}{x0 x1:Value}(h:FC lo g g2 g3 V x0 x1)(hb:But q V V2)(hq:q=g∨q=g2∨q=g3):FC lo g g2 g3 V2 x0 x1:=by
 obtain⟨a,k,B,c,h1,h2,h3,h4,h5,h6⟩:=h;refine⟨a,k,B,c,h1,h2,YG h3 hb (fun hne x hx=>?_),h4,h5,h6⟩;obtain⟨n1,n2,n3,-⟩:=h6 hne x hx;rcases hq with rfl | rfl | rfl <;> assumption
def PO (lo g g2 g3:Nat)(p:Int)(V:World)(v:Value):Prop:=∃ x0 x1 la lk y0 y1 y2 B cc,v=.agg (YT x0 x1 la (List.length B) lk cc y0 y1 y2 p)/\(YT x0 x1 la (List.length B) lk cc y0 y1 y2 p).all (·.oneCell')=true/\Cs V la (acc B)/\B.length<=lk/\MG B cc/\(acc B≠[]->∀ x,la=some x->x.block≠g/\x.block≠g2/\x.block≠g3/\lo<=x.block)/\FC lo g g2 g3 V x0 x1
theorem PO.but {lo g g2 g3 q:Nat}{p:Int}{V V2:World}{v:Value}(h:PO lo g g2 g3 p V v)(hb:But q V V2)(hq:q=g∨q=g2∨q=g3):PO lo g g2 g3 p V2 v:=by
 obtain⟨x0,x1,la,lk,y0,y1,y2,B,cc,h1,h2,h3,h4,h5,h6,h7⟩:=h;refine⟨x0,x1,la,lk,y0,y1,y2,B,cc,h1,h2,YG h3 hb (fun hne x hx=>?_),h4,h5,h6,h7.but hb hq⟩;obtain⟨n1,n2,n3,-⟩:=h6 hne x hx;rcases hq with rfl | rfl | rfl <;> assumption
structure KA (w:World)(g g2 g3:Nat)(a:Option Addr)(c:Nat)(L:List Int)(k:Nat)(p:Int)(av:Array Value)(la:Option Addr)(B:List Ac)(b0 b3 b5 b6 b7 b8:Bool)(x30 x31:Value)(V:World):Prop where
 but:But g w V
 ns:NS V g a c L (cond b6 (k+45) k)
 led:Cs V la (acc B)
 y7:Bx V g2 #[.slice none 0 0,Z7 0,.slice none 0 0,Z7 0,.slice none 0 0,Z7 0,ZY,Z7 0] 67
 bx:b8=false->Bx V g3 av 67
 rw:b6=true->b7=false->∃ b d R,x30=.slice b (List.length R) d/\Rw V w.heap.size b d R
 ap:b7=true->PO w.heap.size g g2 g3 p V x31
 st:b8=true->∃ cs,x31=.agg cs/\Bx V g3 cs 67
 o7:b7=true->b6=true
 o8:b8=true->b0=true/\b3=true/\b5=true/\b7=true
 com:FC w.heap.size g g2 g3 V (av.getD 0 undef) (av.getD 1 undef)
section
variable {w : World} {g g2 g3 : Nat} {a : Option Addr} {c : Nat} {L : List Int} {k : Nat} {p : Int} {av : Array Value} {la : Option Addr} {B : List Ac} {b0 b3 b5 b6 b7 b8 : Bool} {x30 x31 : Value} {V : World}
theorem KA.n8 (h:KA w g g2 g3 a c L k p av la B b0 b3 b5 b6 b7 b8 x30 x31 V)(hf:b0=false∨b3=false∨b5=false∨b7=false):b8=false:=by
 cases b8
 ·rfl
 ·obtain⟨h0,h3,h5,h7⟩:=h.o8 rfl;rcases hf with e | e | e | e
  ·rw[e] at h0; cases h0
  ·rw[e] at h3; cases h3
  ·rw[e] at h5; cases h5
  ·rw[e] at h7; cases h7
theorem KA.up0 (h:KA w g g2 g3 a c L k p av la B b0 b3 b5 b6 b7 b8 x30 x31 V):KA w g g2 g3 a c L k p av la B true b3 b5 b6 b7 b8 x30 x31 V:={ h with o8:=fun e=>⟨rfl,(h.o8 e).2⟩ }
theorem KA.up3 (h:KA w g g2 g3 a c L k p av la B b0 b3 b5 b6 b7 b8 x30 x31 V):KA w g g2 g3 a c L k p av la B b0 true b5 b6 b7 b8 x30 x31 V:={ h with o8:=fun e=>⟨(h.o8 e).1,rfl,(h.o8 e).2.2⟩ }
theorem KA.up5 (h:KA w g g2 g3 a c L k p av la B b0 b3 b5 b6 b7 b8 x30 x31 V):KA w g g2 g3 a c L k p av la B b0 b3 true b6 b7 b8 x30 x31 V:={ h with o8:=fun e=>⟨(h.o8 e).1,(h.o8 e).2.1,rfl,(h.o8 e).2.2.2⟩ }
theorem KA.start (hb:But g w V)(hn:NS V g a c L k)(h3:Cs V la (acc B))(h2:Bx V g2 #[.slice none 0 0,Z7 0,.slice none 0 0,Z7 0,.slice none 0 0,Z7 0,ZY,Z7 0] 67)(h4:Bx V g3 av 67)(h5:FC w.heap.size g g2 g3 V (av.getD 0 undef) (av.getD 1 undef)):KA w g g2 g3 a c L k p av la B false false false false false false x30 x31 V.drew:=
 ⟨⟨hb.1.drew,hb.2⟩,hn,h3,h2,fun _=>h4,(fun e=>nomatch e),(fun e=>nomatch e),(fun e=>nomatch e),(fun e=>nomatch e),(fun e=>nomatch e),h5.below (Below.refl _ V).drew⟩
theorem ao2 {lo:Nat}{la2:Option Addr}{B2:List Ac}(QB:(la2=la/\B2=B)∨∀ x,la2=some x->V.heap.size<=x.block)(hB:acc B≠[]->∀ x,la=some x->x.block≠g/\x.block≠g2/\x.block≠g3/\lo<=x.block)(h1:g<V.heap.size)(h2:g2<V.heap.size)(h3:g3<V.heap.size)(h4:lo<=V.heap.size):acc B2≠[]->∀ x,la2=some x->x.block≠g/\x.block≠g2/\x.block≠g3/\lo<=x.block:=fun hne x hx=>by
 rcases QB with⟨rfl,e2⟩ | h9
 ·rw[e2] at hne;exact hB hne x hx
 ·have:=h9 x hx;omega
theorem KA.raw (h:KA w g g2 g3 a c L k p av la B b0 b3 b5 false b7 b8 x30 x31 V)(hg:g<w.heap.size)(h2:g2≠g)(h3:g3≠g)(hn:acc B≠[]->∀ x,la=some x->x.block≠g){V2:World}{b:Option Addr}{d:Nat}{R:List Int}(hr:Rw V2 w.heap.size b d R)(hns:NS V2 g a c L (k+45))(hb:But g V V2):KA w g g2 g3 a c L k p av la B b0 b3 b5 true b7 b8 (.slice b R.length d) x31 V2:=by
 obtain rfl:=ff h.o7 rfl;have e8:=h.n8 (.inr (.inr (.inr rfl)));subst e8;exact⟨h.but.trans hb,hns,YG h.led hb hn,h.y7.but hb h2,fun e=>(h.bx e).but hb h3,fun _ _=>⟨b,d,R,rfl,hr⟩,(fun e=>nomatch e),(fun e=>nomatch e),fun _=>rfl,(fun e=>nomatch e),h.com.but hb (.inl rfl)⟩
theorem KA.acp (h:KA w g g2 g3 a c L k p av la B b0 b3 b5 true false b8 x30 x31 V)(hg:g<w.heap.size){V2:World}{v:Value}(hv:PO w.heap.size g g2 g3 p V2 v)(hb:Below V.heap.size V V2):KA w g g2 g3 a c L k p av la B b0 b3 b5 true true b8 x30 v V2:=by
 have e8:=h.n8 (.inr (.inr (.inr rfl)));subst e8;exact⟨h.but.more (hb.mono h.but.1.size) (Nat.le_of_lt hg),h.ns.below hb,h.led.below hb,h.y7.below h.y7.lt hb,fun e=>(h.bx e).below (h.bx e).lt hb,(fun _ e=>nomatch e),fun _=>hv,(fun e=>nomatch e),fun _=>rfl,(fun e=>nomatch e),h.com.below hb⟩
theorem KA.store (h:KA w g g2 g3 a c L k p av la B true true true true true false x30 x31 V)(hg:g<w.heap.size)(h23:g2≠g3)(h3:w.heap.size<=g3)(hgg:g3≠g)(hsz:av.size=8)(hla:acc B≠[]->∀ x,la=some x->x.block≠g3)(ha:L≠[]->∀ x,a=some x->x.block<w.heap.size):∃ cs V2,x31=.agg cs/\(Instr.storeAt 67 (Z5 g3 0) (.agg cs)).run Tryz.prog V=.ok () V2/\KA w g g2 g3 a c L k p av la B true true true true true true x30 (.agg cs) V2:=by
 obtain⟨x0,x1,la2,lk,y0,y1,y2,B2,cc,rfl,h2,h3',h4⟩:=h.ap rfl;obtain⟨hst,hY⟩:=WB (h.bx rfl) hsz h2;have hbt:But g3 V (V.setRow g3 (YT x0 x1 la2 B2.length lk cc y0 y1 y2 p)):=But.setRow _ _;exact⟨_,_,rfl,hst,But.Sz h.but hbt h3 (by omega),h.ns.but hbt (by omega) (fun e x hx=>by have:=ha e x hx; omega),YG h.led hbt hla,h.y7.but hbt h23,(fun e=>nomatch e),(fun _ e=>nomatch e),fun _=>(show PO w.heap.size g g2 g3 p _ _ from(h.ap rfl).but hbt (.inr (.inr rfl))),fun _=>⟨_,rfl,hY⟩,fun _=>rfl,fun _=>⟨rfl,rfl,rfl,rfl⟩,h.com.but hbt (.inr (.inr rfl))⟩
end
theorem bg {ρ:Operand->Value}{o:Oper}{x:Operand}(ho:o.op=.convert 3 24 x)(a:Nat)(h1:a<=1000000)(hx:ρ x=Z8 a)(w:World):(execOp ρ o).run Tryz.prog w=.ok (.value (Z7 a)) w:=by
 have hw:IntKind.u64.wrap (a:Int)=a:=by rw[IntKind.wrap_u64]; omega
 unfold execOp;simp only[ho,hx];go_simp
theorem jZ {w:World}{A:List Ac}{v10:Nat}{e:Ending}{w':World}(hv:(v10:Int)<=3)(hw:Tz A)(q:bf w (Q7 A) v10 e w'):∃ v,e=.returned v/\(∃ x0 x1 la lk y0 y1 y2 B cc p ee,v=.tuple #[.agg (YT x0 x1 la (List.length B) lk cc y0 y1 y2 p),Z8 ee]/\(YT x0 x1 la (List.length B) lk cc y0 y1 y2 p).all (·.oneCell')=true/\Cs w' la (acc B)/\B.length<=lk/\MG B cc/\(acc B≠[]->∀ x,la=some x->w.heap.size<=x.block)/\0<=p/\p<=3/\Below w.heap.size w w'/\x0=.slice la (List.length B) lk/\x1=Z7 cc):=by
 rcases q with⟨h0,a,k,h1,h2,h3,h4,h5⟩ | ⟨h0,h1,h2⟩
 ·obtain⟨q1,q2⟩:=gG h0;exact⟨_,h1,_,_,a,k,_,_,_,(Q7 A).1,0,v10,0,rfl,by simp[Value.oneCell'],h2,h3,⟨q1,ah2 hw,Xd⟩,fun _=>h4,by omega,hv,h5,rfl,rfl⟩
 ·exact⟨_,h1,_,_,none,0,_,_,_,[],0,0,(Q7 A).2,rfl,by simp[Value.oneCell'],Cs.nil _ _,Nat.le_refl _,MG.nil,fun h=>absurd rfl h,by omega,by omega,h2,rfl,rfl⟩
def ao3 (w:World)(g:Nat)(a:Option Addr)(c:Nat)(L:List Int)(k:Nat)(e:Ending)(w':World):Prop:=∃ v p g2 g3,e=.returned v/\PO w.heap.size g g2 g3 p w' v/\0<=p/\p<=3/\NS w' g a c L (k+110)/\But g w w'
theorem ao4 {w:World}{g c k:Nat}{a:Option Addr}{L:List Int}(h:NS w g a c L k)(hl:L.length<=100000)(hk:k<=5000) :
  Calls Tryz.prog 22 #[Z5 g 0] w (ao3 w g a c L k):=by
 have hb0:Below w.heap.size w (w.alloc (.cells #[.slice none 0 0,Z7 0,.slice none 0 0,Z7 0,.slice none 0 0,Z7 0,ZY,Z7 0] 67)):=(Below.refl _ w).alloc (Nat.le_refl _) _;have hX0:Bx (w.alloc (.cells #[.slice none 0 0,Z7 0,.slice none 0 0,Z7 0,.slice none 0 0,Z7 0,ZY,Z7 0] 67)) w.heap.size #[.slice none 0 0,Z7 0,.slice none 0 0,Z7 0,.slice none 0 0,Z7 0,ZY,Z7 0] 67:=heap_alloc_last w _;have XA:=Z9 h.lt;have HAB:=Z9 (fun h1 x hx=>h.ab h1 x hx);have CA:=Ep (h.below hb0) hl (by omega:k<=10000);go_enter Tryz.func22,Tryz.ntmps22;go_upto_region 1 with fail;change Code.wp _ _ _ _ (w.alloc (.cells #[.slice none 0 0,Z7 0,.slice none 0 0,Z7 0,.slice none 0 0,Z7 0,ZY,Z7 0] 67));generalize w.alloc (.cells #[.slice none 0 0,Z7 0,.slice none 0 0,Z7 0,.slice none 0 0,Z7 0,ZY,Z7 0] 67)=W at *
 obtain⟨g2,hg2⟩:=ZQ w.heap.size;have HB0:=Z9 hb0;have HG2:Hid (w.heap.size<=g2/\g2<W.heap.size/\g<g2):=Z9 ⟨by omega,by have:=hX0.lt; omega,by have:=XA.out; omega⟩;rw[hg2] at hX0;simp only[hg2];have HX0:=Z9 hX0;clear hb0 hg2 h hX0;refine wl<|ZV (Z5 g 0) <|
  XI (fun v w'=>∃ ra rc A,v=.slice ra (List.length A) rc/\Zd w' W.heap.size (.slice ra A.length rc) A/\(∀ x,x∈A->AcQ x)/\A.length<=4/\NS w' g a c L (k+13)/\But g W w') (CA.mono fun e w' q=>by obtain⟨ra,rc,A,h1,h2⟩:=q; exact⟨_,h1,ra,rc,A,rfl,h2⟩) (fun vv W1 hq=>?_)
 obtain⟨ra,rc,A,rfl,hrow,hAq,hA4,oO,FH⟩:=hq;obtain⟨v10,aL0,CN⟩:=X5 oO hl (by omega) 3 (by decide) (by decide);refine ZV (Z5 g 0)<|YM (Z8 v10) (fun w'=>NS w' g a c L (k+13+1)/\But g W1 w') CN (fun W2 hq=>?_);obtain⟨Uz,Uk⟩:=hq;have hrow2:=Zo hrow Uk (by have:=HG2.out; omega);obtain⟨a9,c9,e9,hcs2,-⟩:=Yd hrow2;simp only[Value.slice.injEq,true_and] at e9;obtain⟨rfl,rfl⟩:=e9;have CI:=jY A ra rc v10 W2 hcs2 (by omega) (Hl fun x hx=>(hAq x hx).2) (fun x hx=>Nat.le_trans (hAq x hx).1.2 (by decide));refine YI (Z7 v10) (bg rfl v10 (by omega) (by kernel_rfl) _) <|
  XI (fun v w'=>∃ x0 x1 la lk y0 y1 y2 B cc p ee,v=.tuple #[.agg (YT x0 x1 la (List.length B) lk cc y0 y1 y2 p),Z8 ee]/\(YT x0 x1 la (List.length B) lk cc y0 y1 y2 p).all (·.oneCell')=true/\Cs w' la (acc B)/\B.length<=lk/\MG B cc/\(acc B≠[]->∀ x,la=some x->W2.heap.size<=x.block)/\0<=p/\p<=3/\Below W2.heap.size W2 w'/\x0=.slice la (List.length B) lk/\x1=Z7 cc) (CI.mono fun e w' q=>jZ (by omega) (Hl fun x hx=>(hAq x hx).2) q) (fun vv W3 hq=>?_)
 obtain⟨x0,x1,la,lk,y0,y1,y2,B,cc,p,ee,rfl,hone,hcs3,hlk,hlq,zI,hp0,hp3,hb3,hx0,hx1⟩:=hq;obtain⟨hst3,EU⟩:=WB (heap_alloc_last W3 _:Bx (W3.alloc (.cells #[.slice none 0 0,Z7 0,.slice none 0 0,Z7 0,.slice none 0 0,Z7 0,ZY,Z7 0] 67)) W3.heap.size _ 67) rfl hone;refine Yr (.tuple #[.agg (YT x0 x1 la B.length lk cc y0 y1 y2 p),Z8 ee]) (.agg (YT x0 x1 la B.length lk cc y0 y1 y2 p)) (Z8 ee) ?_;refine Zy rfl (some 3) rfl (Z5 W3.heap.size 0) (W3.alloc (.cells (#[.slice none 0 0,Z7 0,.slice none 0 0,Z7 0,.slice none 0 0,Z7 0,ZY,Z7 0]) 67)) (by kernel_rfl) ?_;refine Zk rfl (hst3)<|ZV (Z8 ee)<|wn ?_;simp only[pu];have TP:Below W3.heap.size W3 ((W3.alloc (.cells #[.slice none 0 0,Z7 0,.slice none 0 0,Z7 0,.slice none 0 0,Z7 0,ZY,Z7 0] 67)).setRow W3.heap.size (YT x0 x1 la B.length lk cc y0 y1 y2 p)):=ZU ((Below.refl _ W3).alloc (Nat.le_refl _) _) (Nat.le_refl _) _;generalize (W3.alloc (.cells #[.slice none 0 0,Z7 0,.slice none 0 0,Z7 0,.slice none 0 0,Z7 0,ZY,Z7 0] 67)).setRow W3.heap.size (YT x0 x1 la B.length lk cc y0 y1 y2 p)=V4 at *
 obtain⟨g3,hg3⟩:=ZQ W3.heap.size;have wE:=FH.trans Uk;have aO5:=wE.1.size;have hszW:W.heap.size<=W2.heap.size:=Nat.le_trans FH.1.size Uk.1.size;have aS4:=HG2.out;have Pn:=hb3.trans (TP.mono hb3.size);have HG3:Hid (g2<g3/\w.heap.size<=g3/\g3<V4.heap.size):=Z9 ⟨by have:=hb3.size; omega,by have:=hb3.size; omega,by have:=EU.lt; omega⟩;rw[hg3] at EU ⊢;have xQ:=Z9 (Uz.below Pn);have OM:=Z9 (((But.of_below HB0.out (Nat.le_of_lt XA.out)).trans wE).more (Pn.mono (by have:=HB0.out.size; omega)) (Nat.le_of_lt XA.out));have ao5:=Z9 (((HX0.out.but wE (by omega)).below (by omega:g2<W2.heap.size) Pn));have fH:Hid (PO w.heap.size g g2 g3 p V4 (.agg (YT x0 x1 la B.length lk cc y0 y1 y2 p))):=Z9 ⟨x0,x1,la,lk,y0,y1,y2,B,cc,rfl,hone,hcs3.below TP,hlk,hlq,(fun hne x hx=>by have h1:=zI hne x hx; have h2:=Vh hcs3 hne x hx; have h9:=HB0.out.size; omega),la,lk,B,cc,hx0,hx1,hcs3.below TP,hlk,hlq,fun hne x hx=>by have h1:=zI hne x hx; have h2:=Vh hcs3 hne x hx; have h9:=HB0.out.size; omega⟩;have Xr:=Z9 EU;have HP:Hid (0<=p/\p<=3):=Z9 ⟨hp0,hp3⟩;clear CA CN CI hrow oO FH Uz Uk hrow2 hcs2 hst3 EU TP Pn wE aO5 hszW hb3 zI hcs3 hAq hA4 hg3 HX0 HB0 hx0 hx1;obtain⟨q12,hq12⟩:=ZQ (Value.tuple #[.agg (YT x0 x1 la B.length lk cc y0 y1 y2 p),Z8 ee]);simp only[hq12];obtain⟨q13,Eu⟩:=ZQ (Value.agg (YT x0 x1 la B.length lk cc y0 y1 y2 p));have aE3:=Z9 Eu;rw[Eu] at fH;simp only[Eu];clear hq12 Eu hone hlk hlq;by_cases he:ee=0
 ·go_upto_region 2 with fail;refine wl<|ZV (Z8 ee)<|ZM (YL rfl ee 0 (decide_eq_true he))<|wn ?_;simp only[pu];obtain⟨v5,hv5,CN⟩:=X5 xQ.out hl (by omega) 3 (by decide) (by decide);go_upto_region 4 with fail;refine wl<|ZV (Z5 g 0)<|YM (Z8 v5) (fun w'=>NS w' g a c L (k+13+1+1)/\But g V4 w') CN (fun V5 hq=>?_);obtain⟨Jg,Xc⟩:=hq;refine ZV (Z8 v5)<|wn ?_;simp only[pu];have kP:=Z9 (OM.out.trans Xc);have aE4:Hid (NS V5 g a c L (k+15+45*(2-v5))):=Z9 (Jg.mono (by omega));have aE5:=Z9 (ao5.out.but Xc (by have:=HG2.out; omega));have kK:Hid (∃ cs,Bx V5 g3 cs 67/\cs.size=8/\PO w.heap.size g g2 g3 p V5 (.agg cs)):=Z9 ⟨_,Xr.out.but Xc (by have:=HG2.out; have:=HG3.out; omega),rfl,by rw[aE3.out]; exact fH.out.but Xc (.inl rfl)⟩;clear CN Jg Xc fH Xr xQ OM ao5;go_wp2_with fail;go_loopg [5] v5 (fun gg s5 wx=>∃ i:Nat,s5=Z8 i/\i<=2/\Hid (NS wx g a c L (k+15+45*(2-i)))/\Hid (But g w wx)/\Hid (Bx wx g2 #[.slice none 0 0,Z7 0,.slice none 0 0,Z7 0,.slice none 0 0,Z7 0,ZY,Z7 0] 67)/\Hid (∃ cs,Bx wx g3 cs 67/\cs.size=8/\PO w.heap.size g g2 g3 p wx (.agg cs))/\i=gg)
  case atStart=>exact⟨v5,rfl,by omega,aE4,kP,aE5,kK,rfl⟩
  case round=>
   clear aE4 kP aE5 kK;obtain⟨i,rfl,hi2,xQ,OM,RU,Xr,hgi⟩:=hrel;obtain⟨cs,hxc,hcz,hag⟩:=Xr.out;have HG:=Z9 hgi;clear Xr hgi;by_cases hlt:0<i
   ·obtain⟨x0,x1,la,lk,y0,y1,y2,B,cc,e0,hone,hcs,hlk,hlq,hbl,hcm⟩:=hag;simp only[Value.agg.injEq] at e0;subst e0;have HA:=Z9 hcs;go_upto_region 5 with fail;refine wl<|ZV (Z8 i)<|ZM (Zn rfl (i) (0) dT)<|wn ?_;simp only[pu];go_upto_region 7 with fail;have h0:KA w g g2 g3 a c L (k+15+45*(2-i)) p (YT x0 x1 la B.length lk cc y0 y1 y2 p) la B false false false false false false u30 u31 wr.drew:=KA.start OM.out xQ.out hcs RU.out hxc hcm;have HQ:=Z9 hlq;have uY:=Z9 hbl;have HON:=Z9 hone;have HWR:=Z9 (OM.out.1.size);clear hxc hcs hbl hone RU xQ OM hlq;refine Zw (fun listed YZ V=>∃ b0 b1 b2 b3 b4 b5 b6 b7 b8:Bool,∃ x30 x31:Value,listed=#[b0,b1,b2,b3,b4,b5,b6,b7,b8]/\YZ={ tmps:=#[Z5 g 0,undef,Z5 g2 0,Z5 g3 0,Z8 ee,Z8 i,q12,Z5 g 0,.slice ra A.length rc,Z5 g 0,Z8 v10,Z7 v10,q12,q13,Z8 ee,Z8 ee,ZY,undef,Z5 g 0,Z8 v5,Z8 i,ZW,u22,u23,(cond b0 (.agg (YT x0 x1 la B.length lk cc y0 y1 y2 p)) (u24)),(cond b1 (Z5 g 0) (u25)),(cond b2 (Z5 g3 2) (u26)),(cond b3 (.agg (ZT la B.length lk cc)) (u27)),(cond b4 (Z5 g3 7) (u28)),(cond b5 (Z7 p) (u29)),x30,x31,undef],defers:=[] }/\KA w g g2 g3 a c L (k+15+45*(2-i)) p (YT x0 x1 la B.length lk cc y0 y1 y2 p) la B b0 b3 b5 b6 b7 b8 x30 x31 V) (by kernel_rfl) (by kernel_rfl) ?_ ?_ ?_
    ·exact⟨_,_,_,_,_,_,_,_,_,_,_,rfl,rfl,h0⟩
    ·intro i9 listed YZ V hi9 hr hJ;obtain⟨b0,b1,b2,b3,b4,b5,b6,b7,b8,x30,x31,rfl,rfl,hF⟩:=hJ;have hi2:i9<9:=hi9;have hi3:i9=0∨i9=1∨i9=2∨i9=3∨i9=4∨i9=5∨i9=6∨i9=7∨i9=8:=(by omega);rcases hi3 with rfl | rfl | rfl | rfl | rfl | rfl | rfl | rfl | rfl
     ·obtain rfl:b0=false:=Z4 hr;obtain rfl:b8=false:=hF.n8 (.inl rfl);refine Zu rfl (by kernel_rfl) (some 24) rfl 67 (.tmp 3) rfl ⟨g3,0,none⟩ (.agg (YT x0 x1 la B.length lk cc y0 y1 y2 p)) (by kernel_rfl) (WT (hF.bx rfl)) ?_;exact⟨_,_,_,_,_,_,_,_,_,_,_,rfl,rfl,hF.up0⟩
     ·obtain rfl:b1=false:=Z4 hr;refine ZK rfl (by kernel_rfl) (some 25) rfl (Z5 g 0) V (by kernel_rfl) ?_;exact⟨_,_,_,_,_,_,_,_,_,_,_,rfl,rfl,hF⟩
     ·obtain rfl:b2=false:=Z4 hr;refine ZK rfl (by kernel_rfl) (some 26) rfl (Z5 g3 2) V (by kernel_rfl) ?_;exact⟨_,_,_,_,_,_,_,_,_,_,_,rfl,rfl,hF⟩
     ·obtain rfl:b3=false:=Z4 hr;obtain rfl:b2=true:=ZX hr 2;obtain rfl:b8=false:=hF.n8 (.inr (.inl rfl));refine Zu rfl (by kernel_rfl) (some 27) rfl 30 (.tmp 26) rfl ⟨g3,2,none⟩ (.agg (ZT la B.length lk cc)) (by kernel_rfl) (CZ (hF.bx rfl)) ?_;exact⟨_,_,_,_,_,_,_,_,_,_,_,rfl,rfl,hF.up3⟩
     ·obtain rfl:b4=false:=Z4 hr;refine ZK rfl (by kernel_rfl) (some 28) rfl (Z5 g3 7) V (by kernel_rfl) ?_;exact⟨_,_,_,_,_,_,_,_,_,_,_,rfl,rfl,hF⟩
     ·obtain rfl:b5=false:=Z4 hr;obtain rfl:b4=true:=ZX hr 4;obtain rfl:b8=false:=hF.n8 (.inr (.inr (.inl rfl)));refine Zu rfl (by kernel_rfl) (some 29) rfl 24 (.tmp 28) rfl ⟨g3,7,none⟩ (Z7 p) (by kernel_rfl) (FB (hF.bx rfl)) ?_;exact⟨_,_,_,_,_,_,_,_,_,_,_,rfl,rfl,hF.up5⟩
     ·obtain rfl:b6=false:=Z4 hr;obtain rfl:b1=true:=ZX hr 1;obtain rfl:b3=true:=ZX hr 3;obtain rfl:b5=true:=ZX hr 5;refine X8 rfl (by kernel_rfl) (some 30) rfl 37 #[Z5 g 0,.agg (ZT la B.length lk cc),Z7 p] (by kernel_rfl) ((kR (rc:=lk) (co:=cc) (p:=p) hF.ns hl (by simp only[cond_false]; omega) hF.led (fun hne x hx=>(uY.out hne x hx).1) HQ.out.q (by have:=HQ.out.n; omega)).mono fun e w' z=>?_);obtain⟨b,d,R,rfl,hr,hn,hb⟩:=z;exact⟨_,rfl,_,_,_,_,_,_,_,_,_,_,_,rfl,rfl,hF.raw XA.out (by have:=HG2.out; omega) (by have:=HG2.out; have:=HG3.out; omega) (fun hne x hx=>(uY.out hne x hx).1) (hr.base hF.but.1.size) hn hb⟩
     ·obtain rfl:b7=false:=Z4 hr;obtain rfl:b0=true:=ZX hr 0;obtain rfl:b6=true:=ZX hr 6;obtain⟨b,d,R,rfl,hr⟩:=hF.rw rfl rfl;refine X8 rfl (by kernel_rfl) (some 31) rfl 36 #[.agg (YT x0 x1 la B.length lk cc y0 y1 y2 p),.slice b R.length d] (by kernel_rfl) ((y5 B cc p R x0 x1 y0 y1 y2 la b lk d V HON.out hF.led hlk HQ.out ⟨HP.out.1,by have:=HP.out.2; omega⟩ hr.sl hr.le hr.b).mono fun e w' z=>?_);obtain⟨la2,iP,y0,y1,y2,rfl,ho2,hc2,hk2,QB,hb2⟩:=z;exact⟨_,rfl,_,_,_,_,_,_,_,_,_,_,_,rfl,rfl,hF.acp XA.out ⟨x0,x1,la2,iP,y0,y1,y2,_,_,rfl,ho2,hc2,hk2,HQ.out.tx ⟨HP.out.1,by have:=HP.out.2; omega⟩ hr.b,ao2 QB uY.out hF.ns.lt hF.y7.lt (hF.bx (hF.n8 (.inr (.inr (.inr rfl))))).lt hF.but.1.size,hF.com.below hb2⟩ hb2⟩
     ·obtain rfl:b8=false:=Z4 hr;obtain rfl:b7=true:=ZX hr 7;obtain rfl:b0=true:=ZX hr 0;obtain rfl:b3=true:=ZX hr 3;obtain rfl:b5=true:=ZX hr 5;obtain rfl:b6=true:=hF.o7 rfl;obtain⟨cs,V2,rfl,hst,hF2⟩:=hF.store XA.out (Nat.ne_of_lt HG3.out.1) HG3.out.2.1 (Nat.ne_of_gt (Nat.lt_trans HG2.out.2.2 HG3.out.1)) rfl (fun hne x hx=>(uY.out hne x hx).2.2.1) (fun h5 x hx=>HAB.out h5 x hx);refine YU rfl (by kernel_rfl) rfl 67 (.tmp 3) (.tmp 31) rfl (Z5 g3 0) (.agg cs) (by kernel_rfl) (by kernel_rfl) _ hst ?_;exact⟨_,_,_,_,_,_,_,_,_,_,_,rfl,rfl,hF2⟩
    ·intro YZ V hJ;obtain⟨b0,b1,b2,b3,b4,b5,b6,b7,b8,x30,x31,he,rfl,hF⟩:=hJ;have he:(#[true,true,true,true,true,true,true,true,true]:Array Bool)=#[b0,b1,b2,b3,b4,b5,b6,b7,b8]:=he;simp only[Array.mk.injEq,List.cons.injEq,and_true] at he;obtain⟨rfl,rfl,rfl,rfl,rfl,rfl,rfl,rfl,rfl⟩:=he;simp only[cond_true];obtain⟨cs2,rfl,hx2⟩:=hF.st rfl;have HN9:Hid (NS V g a c L (k+15+45*(2-(i-1)))):=Z9 (hF.ns.mono (show(k+15+45*(2-i))+45<=k+15+45*(2-(i-1)) by omega));have Zg:=Z9 hF.but;have aO6:=Z9 hF.y7;have aO7:Hid (∃ cs,Bx V g3 cs 67/\cs.size=8/\PO w.heap.size g g2 g3 p V (.agg cs)):=Z9 ⟨cs2,hx2,by obtain⟨q0,q1,q2,q3,q4,q5,q6,q7,q8,e9,-⟩:=hF.ap rfl; simp only[Value.agg.injEq] at e9; rw[e9]; rfl,hF.ap rfl⟩;clear hF hx2 h0;go_upto_region 6 with fail;refine wl<|ZV (Z8 i)<|Yn (Z8 (i-1:Nat)) (Q9 rfl i hlt (by omega))<|ZV (Z8 (i-1:Nat))<|wn ?_;simp only[pu];go_wp2_with fail;go_roundg (i-1)
     case measure=>have:=HG.out; omega
     case rel=>exact⟨i-1,rfl,by omega,HN9,Zg,aO6,aO7,rfl⟩
   ·go_upto_region 5 with fail;refine wl<|ZV (Z8 i)<|ZM (Zn rfl (i) (0) dF)<|wn ?_;simp only[pu];obtain⟨x0,x1,la,lk,y0,y1,y2,B,cc,e0,hone,hcs,hlk,hlq,hbl,hcm⟩:=hag;simp only[Value.agg.injEq] at e0;subst e0;obtain⟨UY,hY9⟩:=WB RU.out rfl hone;have Xa:But g2 wr (wr.setRow g2 (YT x0 x1 la B.length lk cc y0 y1 y2 p)):=But.setRow _ _;have HE:Hid (ao3 w g a c L k (.returned (.agg (YT x0 x1 la B.length lk cc y0 y1 y2 p))) (wr.setRow g2 (YT x0 x1 la B.length lk cc y0 y1 y2 p))):=Z9 ⟨_,p,g2,g3,rfl,(show PO w.heap.size g g2 g3 p _ _ from PO.but (V:=wr) ⟨x0,x1,la,lk,y0,y1,y2,B,cc,rfl,hone,hcs,hlk,hlq,hbl,hcm⟩ Xa (.inr (.inl rfl))),HP.out.1,HP.out.2,(xQ.out.but Xa HG2.out.2.2 (fun h5 x hx=>by have:=HAB.out h5 x hx; have:=HG2.out; omega)).mono (by omega),But.Sz OM.out Xa HG2.out.1 (Nat.le_of_lt HG2.out.2.2)⟩;generalize wr.setRow g2 (YT x0 x1 la B.length lk cc y0 y1 y2 p)=V9 at *
    clear Xa hcs;go_upto_region 8 with fail;refine wl<|ZL rfl ⟨g3,0,none⟩ (.agg (YT x0 x1 la B.length lk cc y0 y1 y2 p)) (WT hxc)<|Zk rfl (UY)<|wn ?_;simp only[pu];go_wp2_with fail;exact bodyPost_ret (XU rfl (by kernel_rfl) (WT hY9)) rfl HE.out
 ·go_upto_region 2 with fail;refine wl<|ZV (Z8 ee)<|ZM (YL rfl ee 0 (decide_eq_false he))<|wn ?_;simp only[pu];have hag:=fH.out;rw[<- aE3.out] at hag;have hxc:=Xr.out;obtain⟨cs0,hcs0⟩:=ZQ ((YT x0 x1 la B.length lk cc y0 y1 y2 p));rw[hcs0] at hag hxc;have RU:=ao5;obtain⟨x0,x1,la,lk,y0,y1,y2,B,cc,e0,hone,hcs,hlk,hlq,hbl,hcm⟩:=hag;simp only[Value.agg.injEq] at e0;subst e0;obtain⟨UY,hY9⟩:=WB RU.out rfl hone;have Xa:But g2 V4 (V4.setRow g2 (YT x0 x1 la B.length lk cc y0 y1 y2 p)):=But.setRow _ _;have HE:Hid (ao3 w g a c L k (.returned (.agg (YT x0 x1 la B.length lk cc y0 y1 y2 p))) (V4.setRow g2 (YT x0 x1 la B.length lk cc y0 y1 y2 p))):=Z9 ⟨_,p,g2,g3,rfl,(show PO w.heap.size g g2 g3 p _ _ from PO.but (V:=V4) ⟨x0,x1,la,lk,y0,y1,y2,B,cc,rfl,hone,hcs,hlk,hlq,hbl,hcm⟩ Xa (.inr (.inl rfl))),HP.out.1,HP.out.2,(xQ.out.but Xa HG2.out.2.2 (fun h5 x hx=>by have:=HAB.out h5 x hx; have:=HG2.out; omega)).mono (by omega),But.Sz OM.out Xa HG2.out.1 (Nat.le_of_lt HG2.out.2.2)⟩;generalize V4.setRow g2 (YT x0 x1 la B.length lk cc y0 y1 y2 p)=V9 at *
  clear Xa hcs;go_upto_region 3 with fail;refine wl<|ZL rfl ⟨g3,0,none⟩ (.agg (YT x0 x1 la B.length lk cc y0 y1 y2 p)) (WT hxc)<|Zk rfl (UY)<|wn ?_;simp only[pu];go_wp2_with fail;exact bodyPost_ret (XU rfl (by kernel_rfl) (WT hY9)) rfl HE.out
def bF (w:World)(X:List Ac×Int)(R:List X6)(e:Ending)(w':World):Prop:=∃ ad k v,e=.returned (.tuple #[.agg (ZT ad X.1.length k X.2),v])/\Cs w' ad (acc X.1)/\X.1.length<=k/\OU w' w.heap.size v R/\Below w.heap.size w w'
def TxQ (f:Nat):Prop:=∀ (A:List Ac) (c price:Int) (L:List Int) (la ra:Option Addr) (lk rc:Nat) (w:World),Cs w la (acc A)->A.length<=lk->A.length<=4398046511104->W64 c->Tz A->(∀ x,x∈A->x.1.size<=140737488355328)->W64 price->Sl w ra rc L->L.length<=rc->(∀ y,y∈L->W8 y) ->
 Calls Tryz.prog f #[.agg (ZT la A.length lk c),Z7 price,.slice ra L.length rc] w (kL w la A (TF A c price L))
theorem rtx:TxQ 26:=fun A c p L la ra lk rc w h1 h2 h3 h4 h5 h6 h7 h8 h9 h10=>zi A c p L la ra lk rc w h1 h2 h3 h4 h5 h6 h7 h8 h9 h10
theorem bD (A:List Ac)(c p:Int)(E:List Bs)(la ra:Option Addr)(lk rc:Nat)(w:World)(hL:Cs w la (acc A))(hlk:A.length<=lk)(hd:Bj A c)(hp:W64 p)(hE:AQ w ra E)(hn:E.length<=100000) :
  Calls Tryz.prog 12 #[.agg (ZT la A.length lk c),Z7 p,.slice ra E.length rc] w (bF w (Ye A c p (lsB E) E.length) (TI A c p (lsB E) E.length)):=by
 obtain⟨hb0,VJ,Ws⟩:=Ym w (ZT la A.length lk c) (ZT none 0 0 0) 30 30;have HC0:=Z9 (hL.below hb0);have Ui:=Z9 hn;have qU:=Z9 hp;have wI:=Z9 hE;have HRD:Hid (∀ j,j<=E.length->Bj (Ye A c p (lsB E) j).1 (Ye A c p (lsB E) j).2):=Z9 fun j hj=>hd.run hp hE.all j (by rw[Xe]; exact hj);have EW:Hid (∀ j,j<E.length->Ye A c p (lsB E) (j+1)=(TF (Ye A c p (lsB E) j).1 (Ye A c p (lsB E) j).2 p (Ti E j).2.2).1):=Z9 fun j hj=>by rw[UO (by rw[Xe]; exact hj),OW hj]
 have HRR:Hid (∀ j,j<E.length->TI A c p (lsB E) (j+1)=TI A c p (lsB E) j++[(TF (Ye A c p (lsB E) j).1 (Ye A c p (lsB E) j).2 p (Ti E j).2.2).2]):=Z9 fun j hj=>by rw[Qq]; unfold TB; rw[OW hj]
 have HRL:Hid (∀ j,(TI A c p (lsB E) j).length=j):=Z9 fun j=>JO _ _ _ _ j;have HR0:Hid (Ye A c p (lsB E) 0=(A,c)/\TI A c p (lsB E) 0=[]):=Z9 ⟨rfl,rfl⟩;have HON:=Z9 (Vh hL);generalize Ye A c p (lsB E)=U at *
 generalize TI A c p (lsB E)=Q at *
 clear hL hd hp hE;go_enter Tryz.func12,Tryz.ntmps12;go_upto_region 1 with fail;change Code.wp _ _ _ _ ((w.alloc (.cells (ZT la A.length lk c) 30)).alloc (.cells (ZT none 0 0 0) 30));generalize (w.alloc (.cells (ZT la A.length lk c) 30)).alloc (.cells (ZT none 0 0 0) 30)=W at *
 obtain⟨g3,hg3⟩:=ZQ w.heap.size;obtain⟨g6,S9⟩:=ZQ (g3+1);have HB0:=Z9 hb0;rw[hg3] at VJ;rw[show w.heap.size+1=g6 by omega] at Ws;have HG:Hid (w.heap.size<=g3/\w.heap.size<=g6/\g3≠g6/\g6≠g3/\w.heap.size<=W.heap.size):=Z9 ⟨by omega,by omega,by omega,by omega,hb0.size⟩;have pW:Hid (g3<W.heap.size/\g6<W.heap.size):=Z9 ⟨VJ.lt,Ws.lt⟩;have aE1:Hid (acc A≠[]->∀ x,la=some x->x.block≠g3/\x.block≠g6/\(Value.slice none 0 0).ownBlock≠some x.block):=Z9 fun h x hx=>by
  have:=HON.out h x hx;exact⟨by omega,by omega,fun z=>by cases z⟩
 simp only[hg3];simp only[S9];have Xr:=Z9 VJ;have Xx:=Z9 Ws;clear hb0 hg3 S9 VJ Ws HON;go_upto_region 1 with fail;refine wl<|ZV (.slice none 0 0)<|wn ?_;simp only[pu];go_upto_region 2 with fail;refine wl<|Yr (.slice ra E.length rc) (Z8 E.length) (Z8 0)<|wn ?_;simp only[pu];go_wp2_with fail;go_loopg [8,15] E.length (fun gg s8 s15 wx=>∃ (j:Nat) (v8:Value) (ad:Option Addr) (k:Nat),s8=v8/\s15=Z8 j/\j<=E.length/\(U j).1.length<=k/\Hid (Cs wx ad (acc (U j).1))/\Hid (acc (U j).1≠[]->∀ x,ad=some x->x.block≠g3/\x.block≠g6/\v8.ownBlock≠some x.block)/\Hid (Bx wx g3 (ZT ad (U j).1.length k (U j).2) 30)/\Hid (Bx wx g6 (ZT none 0 0 0) 30)/\Hid (OU wx W.heap.size v8 (Q j))/\Hid (Below w.heap.size w wx)/\Hid (W.heap.size<=wx.heap.size)/\E.length-j=gg)
 case atStart=>exact⟨0,_,la,lk,rfl,rfl,by omega,by rw[HR0.out.1]; exact hlk,by rw[HR0.out.1]; exact HC0,by rw[HR0.out.1]; exact aE1,by rw[HR0.out.1]; exact Xr,Xx,Z9 (by rw[HR0.out.2]; exact OU.nil _ _),HB0,Z9 (Nat.le_refl _),by omega⟩
 case round=>
  obtain⟨j,v8,ad,k,rfl,rfl,hj,hk,HC,Uh,HX,HZ,HR,HB,Gz,hg⟩:=hrel;clear HC0 aE1 Xr Xx HB0;have yB:=Ui.out;by_cases hlt:j<E.length
  ·obtain⟨b,off,rfl,hld⟩:=(wI.out.below HB.out).at hlt;have YD:=Z9 hld;have Dh:=HRD.out j hj;have wH:=NV hlt;have CT:=rtx (U j).1 (U j).2 p (Ti E j).2.2 ad (Ti E j).1 k (Ti E j).2.1 wr HC.out hk Dh.n Dh.cw Dh.w Dh.z qU.out (ZP (wI.out.sl _ wH) HB.out) (wI.out.le _ wH) (wI.out.b _ wH);have wG:=Z9 (EW.out j hlt);have HQS:=Z9 (HRR.out j hlt);have HQL:=Z9 (HRL.out j);generalize TF (U j).1 (U j).2 p (Ti E j).2.2=X at *
   generalize Ti E j=y at *
   have HG2:=Z9 hg;clear hld Dh wH hg;go_upto_region 3 with fail;refine wl<|ZM (Zr rfl (j) (E.length) dT)<|wn ?_;simp only[pu];go_upto_region 4 with fail;refine wl<|YI (Z5 b (off+j*1)) (FD b off E.length rc j hlt _ _ _ rfl (by kernel_rfl) (by kernel_rfl))<|ZL rfl ⟨b,off+j*1,none⟩ (.slice y.1 y.2.2.length y.2.1) (YD.out)<|ZV (.slice y.1 y.2.2.length y.2.1)<|wn ?_;simp only[pu];go_upto_region 5 with fail;refine wl<|ZL rfl ⟨g3,0,none⟩ (.agg (ZT ad (U j).1.length k (U j).2)) (ZO HX.out)<|ZB (Z7 p) (.slice y.1 y.2.2.length y.2.1) <|
    XI (fun v w'=>∃ aZ kZ,v=.tuple #[.agg (ZT aZ X.1.1.length kZ X.1.2),.agg (ZE X.2)]/\Cs w' aZ (acc X.1.1)/\X.1.1.length<=kZ/\((aZ=ad/\X.1.1=(U j).1)∨∀ x,aZ=some x->wr.heap.size<=x.block)/\Below wr.heap.size wr w') (CT.mono fun e w' q=>by obtain⟨aZ,kZ,h1,h2⟩:=q; exact⟨_,h1,aZ,kZ,rfl,h2⟩) (fun vv V2 hq=>?_)
   obtain⟨a2,k2,rfl,hct,hkt,hbl,hbt⟩:=hq;obtain⟨Va,Vb,Vc,tJ,hlt2,hs6,hs7,hb7,hx4,hx5⟩:=kE V2 a2 X.1.1.length k2 X.1.2 X.2;refine Yr (.tuple #[.agg (ZT a2 X.1.1.length k2 X.1.2),.agg (ZE X.2)]) (.agg (ZT a2 X.1.1.length k2 X.1.2)) (.agg (ZE X.2)) ?_;refine Zy rfl (some 11) rfl (Z5 V2.heap.size 0) (V2.alloc (.cells (ZT none 0 0 0) 30)) (by kernel_rfl) ?_;simp only[pu];rw[tJ];refine Zy rfl (some 12) rfl (Z5 Va.heap.size 0) (Va.alloc (.cells (ZE (YP 0)) 47)) (by kernel_rfl) ?_;refine Zk rfl (hs6)<|Zk rfl (hs7)<|wn ?_;obtain⟨g11,NW⟩:=ZQ V2.heap.size;obtain⟨g12,zh⟩:=ZQ Va.heap.size;have TP:=hbt.trans (hb7.mono hbt.size);have hsz:=Gz.out;have hsz2:=hbt.size;have hl12:g3<g12:=(by have:=pW.out.1; omega);rw[NW] at hx4 ⊢;rw[zh] at hx5 ⊢;have hcA:=hct.below hb7;have Sv:acc X.1.1≠[]->∀ x,a2=some x->x.block≠g3/\x.block≠g6/\u8.ownBlock≠some x.block:=fun hne x hx=>by
    rcases hbl with⟨e1,e2⟩ | h9
    ·rw[e1] at hx; rw[e2] at hne; exact Uh.out hne x hx
    ·have h10:=h9 x hx;have h11:=pW.out;exact⟨by omega,by omega,fun z=>by have:=(y8 HR.out _ z).2; omega⟩
   have P5:=HX.out.below HX.out.lt TP;have hZ7:=HZ.out.below HZ.out.lt TP;have hR7:=own_below HR.out TP;have MQ:=HB.out.trans (TP.mono HB.out.size);obtain⟨hst3,Wh⟩:=ZC (a':=a2) (n':=X.1.1.length) (k':=k2) (c':=X.1.2) P5;have Yk:But g3 Vc (Vc.setRow g3 (ZT a2 X.1.1.length k2 X.1.2)):=But.setRow (g:=g3) Vc (ZT a2 X.1.1.length k2 X.1.2);have I9:=YG hcA Yk (fun h x hx=>(Sv h x hx).1);have hZ8:=hZ7.but Yk HG.out.2.2.2.1;have qR:=Zo hR7 Yk pW.out.1;have Nb:=ZU MQ HG.out.1 (ZT a2 X.1.1.length k2 X.1.2);have hx8:=hx5.but Yk (by omega);have aE2:(Vc.setRow g3 (ZT a2 X.1.1.length k2 X.1.2)).heap.size=Vc.heap.size:=size_setRow _ _ _;have ao1:W.heap.size<=Vc.heap.size:=Nat.le_trans hsz TP.size;generalize Vc.setRow g3 (ZT a2 X.1.1.length k2 X.1.2)=V8 at *
   rw[<- aE2] at ao1;clear tJ hlt2 hs6 hs7 hct hbt hb7 hbl P5 hZ7 hR7 MQ Yk hcA TP aE2 hsz hsz2 NW zh hl12 CT YD;go_upto_region 6 with fail;refine wl<|ZL rfl ⟨g11,0,none⟩ (.agg (ZT a2 X.1.1.length k2 X.1.2)) (ZO hx4)<|Zk rfl (hst3)<|wn ?_;simp only[pu];clear hst3 hx4;obtain⟨ao,co,rfl,hro,-⟩:=Yd qR;have hbu:=Ia X.2 V8;obtain⟨a9,c9,V9,hap,hR9,XG,hgr,hob⟩:=Dc qR ao1 X.2 (by rw[HQL.out]; omega);have hC9:=JI I9 hgr (fun h x hx=>(Sv h x hx).2.2);have aO4:acc X.1.1≠[]->∀ x,a2=some x->x.block≠g3/\x.block≠g6/\(Value.slice a9 (Q j++[X.2]).length c9).ownBlock≠some x.block:=fun hne x hx=>⟨(Sv hne x hx).1,(Sv hne x hx).2.1,fun z=>by
    rcases hob _ z with h | h
    ·exact(Sv hne x hx).2.2 h
    ·have:=Vh I9 hne x hx; omega⟩
   obtain⟨gz,hgz⟩:=ZQ V8.heap.size;rw[hgz] at hbu hap;clear hgr hob I9 Sv;go_upto_region 7 with fail;refine wl<|ZV (.slice ao (Q j).length co)<|ZL rfl ⟨g12,0,none⟩ (.agg (ZE X.2)) (XY hx8) ?_;refine Zv (by kernel_rfl) (some 29) rfl 35 1 #[(0,.tmp 28)] rfl #[(0,.agg (ZE X.2))] (by kernel_rfl) (.slice (some ⟨gz,0,none⟩) 1 1) _ hbu ?_;refine Zh rfl (some 30) rfl 35 rfl (.tmp 27) (.tmp 29) 35 rfl (.slice ao (Q j).length co) (.slice (some ⟨gz,0,none⟩) 1 1) (.slice a9 (Q j++[X.2]).length c9) V9 (by kernel_rfl) (by kernel_rfl) hap ?_;refine ZV (.slice a9 (Q j++[X.2]).length c9)<|wn ?_;simp only[pu];clear hap hbu hx8 qR hro hgz;go_upto_region 8 with fail;refine wl<|Yn (Z8 (j+1:Nat)) (Zz rfl j 1 (by omega))<|ZV (Z8 (j+1:Nat))<|wn ?_;simp only[pu];go_wp2_with fail;go_roundg (E.length-(j+1))
   case measure=>have:=HG2.out; omega
   case rel=>exact⟨j+1,_,a2,k2,rfl,rfl,hlt,by rw[wG.out]; exact hkt,Z9 (by rw[wG.out]; exact hC9),Z9 (by rw[wG.out]; exact aO4),Z9 (by rw[wG.out]; exact Wh.below (by first | exact pW.out.1 | exact Wh.lt) XG),Z9 (hZ8.below (by first | exact pW.out.2 | exact hZ8.lt) XG),Z9 (by rw[HQS.out]; exact hR9),Z9 (Nb.trans (XG.mono HG.out.2.2.2.2)),Z9 (Nat.le_trans ao1 XG.size),rfl⟩
  ·obtain rfl:E.length=j:=(by omega);obtain⟨hst3,Wh⟩:=ZC (a':=ad) (n':=(U E.length).1.length) (k':=k) (c':=(U E.length).2) HZ.out;have Yk:=But.setRow (g:=g6) wr (ZT ad (U E.length).1.length k (U E.length).2);have qR:=Zo HR.out Yk pW.out.2;have Nb:=ZU HB.out HG.out.2.1 (ZT ad (U E.length).1.length k (U E.length).2);have I9:=YG HC.out Yk (fun h x hx=>(Uh.out h x hx).2.1);have HE:Hid (bF w (U E.length) (Q E.length) (.returned (.tuple #[.agg (ZT ad (U E.length).1.length k (U E.length).2),u8])) (wr.setRow g6 (ZT ad (U E.length).1.length k (U E.length).2))):=Z9 ⟨ad,k,_,rfl,I9,hk,own_base qR HG.out.2.2.2.2,Nb⟩;generalize wr.setRow g6 (ZT ad (U E.length).1.length k (U E.length).2)=V3 at *
   clear Yk qR Nb I9;go_upto_region 3 with fail;refine wl<|ZM (Zr rfl (E.length) (E.length) dF)<|wn ?_;simp only[pu];go_upto_region 9 with fail;refine wl<|ZL rfl ⟨g3,0,none⟩ (.agg (ZT ad (U E.length).1.length k (U E.length).2)) (ZO HX.out)<|ZV (u8)<|Zk rfl (hst3)<|ZV (u8)<|wn ?_;simp only[pu];go_wp2_with fail;exact bodyPost_ret (ZN rfl (by kernel_rfl) (ZO Wh) rfl) rfl HE.out
end Go.Proofs.YtfpnnmeblefkkaaGreatDoor.Lg
