/-
  Texts joined.
-/
import Derived.Test.YtfpnnmeblefkkaaGreatDoorD5
import Derived.Lib.ConvBytes
set_option maxRecDepth 100000
set_option maxHeartbeats 8000000
set_option linter.unusedSimpArgs false
set_option linter.unusedVariables false
namespace Go.Proofs.YtfpnnmeblefkkaaGreatDoor
attribute [local irreducible] wpList wpQuiet
open Go.RowKit
def zK (w:World)(B:Nat)(v:Value)(p:Zj×Value):Prop:=∃ a c,p.2=.slice a p.1.bytes.length c/\Sl w a c p.1.bytes/\∀ x,a=some x->B<=x.block/\x.block<w.heap.size/\v.ownBlock≠some x.block
def Yg (w:World)(B:Nat)(v:Value)(ps:List (Zj×Value)):Prop:=w.ownsRow B 77 4 v ps.length (row4 ps)/\∀ p,p∈ps->zK w B v p
theorem Yg.nil (w:World)(B:Nat):Yg w B (.slice none 0 0) []:=⟨World.ownsRow_nil _ _ _ _,fun p h=>by simp at h⟩
theorem zK.below {w w':World}{B:Nat}{v:Value}{p:Zj×Value}(h:zK w B v p)(hb:Below w.heap.size w w'):zK w' B v p:=by
 obtain⟨a,c,h1,h2,h3⟩:=h;exact⟨a,c,h1,ZP h2 hb,fun x hx=>⟨(h3 x hx).1,Nat.lt_of_lt_of_le (h3 x hx).2.1 hb.size,(h3 x hx).2.2⟩⟩
theorem Yg.below {w w':World}{B:Nat}{v:Value}{ps:List (Zj×Value)}(h:Yg w B v ps)(hb:Below w.heap.size w w'):Yg w' B v ps:=⟨own_below h.1 hb,fun p hp=>(h.2 p hp).below hb⟩
theorem Yg.form {w:World}{B:Nat}{v:Value}{ps:List (Zj×Value)}(h:Yg w B v ps):∃ a c,v=.slice a ps.length c/\ps.length<=c:=by
 rcases h.1.2 with⟨rfl,h0⟩ | ⟨g,cap,cur,rfl,_,_,hcap,_⟩
 ·exact⟨none,0,by rw[h0],by omega⟩
 ·exact⟨_,cap,rfl,hcap⟩
theorem Yg.fs {w:World}{B:Nat}{v:Value}{ps:List (Zj×Value)}(h:Yg w B v ps):∃ a c,v=.slice a ps.length c/\ps.length<=c/\Fs w a ps:=by
 obtain⟨a,c,rfl,hc⟩:=h.form;refine⟨a,c,rfl,hc,fun i p hi=>?_⟩;have hlt:i<ps.length:=(List.getElem?_eq_some_iff.1 hi).1;obtain⟨g,rfl,hg,hgl⟩:=Tv h.1 (by omega);obtain⟨ba,bc,hb,hs,-⟩:=h.2 p (List.mem_of_getElem? hi);refine⟨g,0,ba,bc,rfl,hb,hs,?_,?_,?_,?_⟩
 ·rw[h.1.cellAt _ (by omega),show 0+i*4=i*4+0 by omega,Vq ps i 0 p hi (by omega)];rfl
 ·rw[h.1.cellAt _ (by omega),show 0+i*4+1=i*4+1 by omega,Vq ps i 1 p hi (by omega)];rfl
 ·rw[h.1.cellAt _ (by omega),show 0+i*4+2=i*4+2 by omega,Vq ps i 2 p hi (by omega)];rfl
 ·rw[h.1.cellAt _ (by omega),show 0+i*4+3=i*4+3 by omega,Vq ps i 3 p hi (by omega)];simp only[cellsOf,List.getElem?_cons_succ,List.getElem?_cons_zero,hb]
theorem zK.but {w w':World}{B g:Nat}{v:Value}{p:Zj×Value}(h:zK w B v p)(hb:But g w w')(hg:g<B):zK w' B v p:=by
 obtain⟨a,c,h1,h2,h3⟩:=h;refine⟨a,c,h1,?_,fun x hx=>⟨(h3 x hx).1,Nat.lt_of_lt_of_le (h3 x hx).2.1 hb.1.size,(h3 x hx).2.2⟩⟩;rcases h2 with h2 | ⟨x,rfl,hx⟩
 ·exact .inl h2
 ·refine .inr ⟨x,rfl,fun k hk=>?_⟩;obtain⟨b,off,rfl,hc⟩:=hx k hk;have q:=(h3 _ rfl).1;exact⟨b,off,rfl,(World.cell?_of_block (a:=⟨b,off+k,none⟩) (hb.2 b (World.block_lt_of_cell? w _ hc) (by have:B<=b:=q; omega))).trans hc⟩
theorem Yg.but {w w':World}{B g:Nat}{v:Value}{ps:List (Zj×Value)}(h:Yg w B v ps)(hb:But g w w')(hg:g<B):Yg w' B v ps:=⟨Zo h.1 hb hg,fun p hp=>(h.2 p hp).but hb hg⟩
theorem zK.grown {w w':World}{B:Nat}{v v':Value}{p:Zj×Value}(h:zK w B v p)(hg:w.grownBy w' v.ownBlock)(hat:v'.ownBlock=v.ownBlock∨v'.ownBlock=some w.heap.size):zK w' B v' p:=by
 obtain⟨a,c,h1,h2,h3⟩:=h;refine⟨a,c,h1,?_,fun x hx=>⟨(h3 x hx).1,Nat.lt_of_lt_of_le (h3 x hx).2.1 hg.size,fun e=>?_⟩⟩
 ·rcases h2 with h2 | ⟨x,rfl,hx⟩
  ·exact .inl h2
  ·refine .inr ⟨x,rfl,fun k hk=>?_⟩;obtain⟨b,off,rfl,hc⟩:=hx k hk;exact⟨b,off,rfl,hg.cell hc fun e=>(h3 _ rfl).2.2 e.symm⟩
 ·rcases hat with h4 | h4
  ·exact(h3 x hx).2.2 (h4.symm.trans e)
  ·have h5:=h4.symm.trans e;have:=(h3 x hx).2.1;simp only[Option.some.injEq] at h5;omega
theorem zU {w:World}{B:Nat}{v:Value}{ps:List (Zj×Value)}(h:Yg w B v ps)(hB:B<=w.heap.size)(x:Zj)(b:Option Addr)(d:Nat)(hx:zK w B v (x,.slice b x.bytes.length d))(hl:ps.length<=100000) :
  ∃ v2 V2,(Builtin.append_ #[78,78] 78 #[v,.slice (some ⟨w.heap.size,0,none⟩) 1 1]).run Tryz.prog (w.alloc (.cells (XR x b d) 77))=.ok v2 V2/\Yg V2 B v2 (ps++[(x,.slice b x.bytes.length d)])/\Below B w V2:=by
 have hba:Below w.heap.size w (w.alloc (.cells (XR x b d) 77)):=(Below.refl _ w).alloc (Nat.le_refl _) _;have hO:=own_below h.1 hba;have hsz:(w.alloc (.cells (XR x b d) 77)).heap.size=w.heap.size+1:=by simp
 obtain⟨i0,hi,hz0,hz1,hz2⟩:=info_parts info25;obtain⟨v2,V2,hr,hO2,hg,-,hat⟩:=run_append_own_at (P:=Tryz.prog) (w.alloc (.cells (XR x b d) 77)) B 78 78 77 i0 _ 4 48 (by kernel_rfl) hi hz0 hz1 hz2 (by kernel_rfl) (by omega) v ps.length (row4 ps) hO ⟨w.heap.size,0,none⟩ 1 1 (cellsOf (x,.slice b x.bytes.length d)) rfl (fun j u hu=>by
  rw[Go.WideShapes.add_plain,cell_of_row _ w.heap.size (0+j) _ 77 (0,0) (heap_alloc_last w _),Nat.zero_add];simpa [cellsOf] using hu) (fun u hu=>by
  simp only[cellsOf,List.mem_cons,List.not_mem_nil,or_false] at hu;rcases hu with rfl | rfl | rfl | rfl <;> rfl) (by unfold maxLen; omega) (by omega) (by omega)
 refine⟨v2,V2,hr,⟨by rw[Ir,List.length_append]; exact hO2,fun p hp=>?_⟩,(hba.mono hB).trans ((Below.refl _ _).grown hg (by omega) fun j hj=>(hO.lt j hj).1)⟩;rcases List.mem_append.1 hp with hp | hp
 ·exact((h.2 p hp).below hba).grown hg hat
 ·obtain rfl:p=(x,.slice b x.bytes.length d):=by simpa using hp
  exact(hx.below hba).grown hg hat
def L8 (w:World)(B:Nat)(ps:List (Zj×Value))(X:List Zj)(e:Ending)(w':World):Prop:=∃ v qs,e=.returned v/\qs.map Prod.fst=ps.map Prod.fst++X/\Yg w' B v qs/\Below B w w'
theorem zK.non (w:World)(B:Nat)(v:Value)(x:Zj)(h:x.bytes=[]):zK w B v (x,.slice none x.bytes.length 0):=⟨none,0,rfl,.inl ⟨rfl,rfl,h⟩,fun y hy=>by cases hy⟩
theorem ML (v:Value)(ps:List (Zj×Value))(B:Nat)(k val:Int)(w:World)(h:Yg w B v ps)(hB:B<=w.heap.size)(hl:ps.length<=100000) :
  Calls Tryz.prog 63 #[v,Z8 k,Z7 val] w (L8 w B ps (if val=0 then [] else [⟨k,0,val,[]⟩])):=by
 by_cases h0:val=0
 ·rw[if_pos h0];have HE:=Z9 (⟨v,ps,rfl,by simp,h,Below.refl _ _⟩:L8 w B ps [] (.returned v) w);clear h;go_enter Tryz.func63,Tryz.ntmps63;go_upto_region 1 with fail;refine wl<|ZV (Z7 val)<|ZM (Tn rfl val (decide_eq_true h0))<|wn ?_;simp only[pu];go_upto_region 2 with fail;refine wl<|ZB (v) (v)<|wn ?_;simp only[pu];go_wp2_with fail;go_ret;exact HE.out
 ·rw[if_neg h0];obtain⟨v2,V2,hap,hr2,hb2⟩:=zU h hB ⟨k,0,val,[]⟩ none 0 (zK.non w B v _ rfl) hl;have HE:=Z9 (⟨v2,_,rfl,by simp,hr2,hb2⟩:L8 w B ps [⟨k,0,val,[]⟩] (.returned v2) V2);clear h hr2 hb2;go_enter Tryz.func63,Tryz.ntmps63;go_upto_region 1 with fail;refine wl<|ZV (Z7 val)<|ZM (Tn rfl val (decide_eq_false h0))<|wn ?_;simp only[pu];go_upto_region 3 with fail;refine wl<|U8 (v) (Z8 k) (Z7 val) (.agg (XR (⟨k,0,val,[]⟩:Zj) none 0)) ?_;refine Zv (by kernel_rfl) (some 14) rfl 78 1 #[(0,.tmp 13)] rfl #[(0,.agg (XR (⟨k,0,val,[]⟩:Zj) none 0))] (by kernel_rfl) (.slice (some ⟨w.heap.size,0,none⟩) 1 1) _ (J9 (⟨k,0,val,[]⟩:Zj) none 0 w) ?_;refine Zh rfl (some 15) rfl 78 rfl (.tmp 10) (.tmp 14) 78 rfl (v) (.slice (some ⟨w.heap.size,0,none⟩) 1 1) (v2) V2 (by kernel_rfl) (by kernel_rfl) hap ?_;refine ZV (v2)<|wn ?_;simp only[pu];clear hap;go_wp2_with fail;go_ret;exact HE.out
theorem Uf {ρ:Operand->Value}{o:Oper}{x y:Operand}(ho:o.op=.binOp .eql 9 x y 9)(a b:ByteArray){t:Bool}(ht:(a == b)=t)(hx:ρ x=.string a)(hy:ρ y=.string b)(w:World):(execOp ρ o).run Tryz.prog w=.ok (.value (.bool t)) w:=by
 have e:(a.toList == b.toList)=t:=by rw[<- beq_toListBytes]; exact ht
 unfold execOp;simp only[ho,hx,hy];go_simp
theorem dQ {s:ByteArray}(h:s.size=0):(s == (⟨#[]⟩:ByteArray))=true:=by
 have e:s=⟨#[]⟩:=ByteArray.ext (Array.eq_empty_of_size_eq_zero h);subst e;rfl
theorem mM {s:ByteArray}(h:s.size≠0):(s == (⟨#[]⟩:ByteArray))=false:=by
 rw[Bool.eq_false_iff];intro e;rw[beq_toListBytes] at e;have e2:=eq_of_beq e;rw[ByteArray.toList_eq,ByteArray.toList_eq] at e2;have e3:=congrArg List.length e2;exact h (by simpa using e3)
theorem ng {ρ:Operand->Value}{o:Oper}{x:Operand}(ho:o.op=.convert 9 54 x)(s:ByteArray)(hx:ρ x=.string s)(w:World):(execOp ρ o).run Tryz.prog w=.ok (.value (.slice (some ⟨w.heap.size,0,none⟩) s.size (grownCap w s.size 0 5))) (Lib.bytesWorld w 5 s):=by
 have h:=Lib.run_convert_string_bytes (P:=Tryz.prog) w 9 54 5 s Tryz.underlying9 Tryz.underlying54 Tryz.underlying5;unfold execOp;simp only[ho,hx,Sem.run_bind,h];rfl
theorem J8 (w:World)(s:ByteArray)(c:Nat):Below w.heap.size w (Lib.bytesWorld w 5 s)/\Sl (Lib.bytesWorld w 5 s) (some ⟨w.heap.size,0,none⟩) c (nums s)/\(Lib.bytesWorld w 5 s).heap.size=w.heap.size+1:=by
 refine⟨⟨rfl,rfl,rfl,by rw[Lib.bytesWorld_size]; omega,fun k hk=>Lib.bytesWorld_at_old w _ s k hk⟩,.inr ⟨_,rfl,fun k hk=>⟨w.heap.size,0,rfl,?_⟩⟩,Lib.bytesWorld_size w _ s⟩;rw[Zf] at hk;rw[Nat.zero_add,Lib.bytesWorld_cell w _ s k hk];unfold nums;simp[List.getD_eq_getElem?_getD,List.getElem?_map];cases h:s.data[k]? with
 | none=>
  rw[Array.getElem?_eq_none_iff] at h;exact absurd hk (by show ¬ k<s.data.size; omega)
 | some u=>simp
theorem D8 (v:Value)(ps:List (Zj×Value))(B:Nat)(k:Int)(s:ByteArray)(w:World)(h:Yg w B v ps)(hB:B<=w.heap.size)(hl:ps.length<=100000) :
  Calls Tryz.prog 62 #[v,Z8 k,.string s] w (L8 w B ps (if s.size=0 then [] else [⟨k,2,0,nums s⟩])):=by
 by_cases h0:s.size=0
 ·rw[if_pos h0];have HE:=Z9 (⟨v,ps,rfl,by simp,h,Below.refl _ _⟩:L8 w B ps [] (.returned v) w);have HQ:=dQ h0;clear h;go_enter Tryz.func62,Tryz.ntmps62;go_upto_region 1 with fail;refine wl<|ZV (.string s)<|Yn ZW (Uf rfl s ⟨#[]⟩ HQ)<|wn ?_;simp only[pu];go_upto_region 2 with fail;refine wl<|ZB (v) (v)<|wn ?_;simp only[pu];go_wp2_with fail;go_ret;exact HE.out
 ·rw[if_neg h0];obtain⟨hbw,hsl,hsz⟩:=J8 w s (grownCap w s.size 0 5);have HQ:=mM h0;have CV:=fun(ρ:Operand->Value) (o:Oper) (x:Operand) ho hx=>ng (ρ:=ρ) (o:=o) (x:=x) ho s hx w;generalize grownCap w s.size 0 5=d at *
  generalize Lib.bytesWorld w 5 s=W at *
  obtain⟨q,hq⟩:=ZQ w.heap.size;have aB2:zK W B v ((⟨k,2,0,nums s⟩:Zj),.slice (some ⟨q,0,none⟩) (nums s).length d):=⟨_,_,rfl,by rw[<- hq]; exact hsl,fun x hx=>by
   cases hx;refine⟨by show B<=q; omega,by show q<_; omega,fun e=>?_⟩;have h4:q<w.heap.size:=(h.1.lt _ e).2;omega⟩
  obtain⟨v2,V2,hap,hr2,hb2⟩:=zU (h.below hbw) (by omega) ⟨k,2,0,nums s⟩ (some ⟨q,0,none⟩) d aB2 hl;have HE:=Z9 (⟨v2,_,rfl,by simp,hr2,(hbw.mono hB).trans hb2⟩:L8 w B ps [⟨k,2,0,nums s⟩] (.returned v2) V2);rw[hq] at CV;rw[<- Zf s] at CV;clear h hr2 hb2 aB2 hsl hbw hsz hq;generalize nums s=L at *
  go_enter Tryz.func62,Tryz.ntmps62;go_upto_region 1 with fail;refine wl<|ZV (.string s)<|Yn ZY (Uf rfl s ⟨#[]⟩ HQ)<|wn ?_;simp only[pu];go_upto_region 3 with fail;refine wl<|Yr (v) (Z8 k) (.string s) ?_;refine O6 (by kernel_rfl) (some 13) rfl (.slice (some ⟨q,0,none⟩) L.length d) W (CV _ _ _ rfl (by kernel_rfl)) ?_;refine ZV (.agg (XR (⟨k,2,0,L⟩:Zj) (some ⟨q,0,none⟩) d)) ?_;refine Zv (by kernel_rfl) (some 15) rfl 78 1 #[(0,.tmp 14)] rfl #[(0,.agg (XR (⟨k,2,0,L⟩:Zj) (some ⟨q,0,none⟩) d))] (by kernel_rfl) (.slice (some ⟨W.heap.size,0,none⟩) 1 1) _ (J9 (⟨k,2,0,L⟩:Zj) (some ⟨q,0,none⟩) d W) ?_;refine Zh rfl (some 16) rfl 78 rfl (.tmp 10) (.tmp 15) 78 rfl (v) (.slice (some ⟨W.heap.size,0,none⟩) 1 1) (v2) V2 (by kernel_rfl) (by kernel_rfl) hap ?_;refine ZV (v2)<|wn ?_;simp only[pu];clear hap CV;go_wp2_with fail;go_ret;exact HE.out
end Go.Proofs.YtfpnnmeblefkkaaGreatDoor
namespace Go.Proofs.YtfpnnmeblefkkaaGreatDoor
open Go.RowKit
def WM:ByteArray:=⟨#[]⟩
theorem D5 {s:ByteArray}(h:s.size=0):s=WM:=ByteArray.ext (Array.eq_empty_of_size_eq_zero h)
def tF (k:Int)(s:ByteArray):List Zj:=if s.size=0 then [] else [⟨k,2,0,nums s⟩]
def nF (k v:Int):List Zj:=if v=0 then [] else [⟨k,0,v,[]⟩]
def Um (x:Tf):List Zj:=tF 1 x.1++nF 2 x.2
def Tq (x:Tf):Zj:=⟨6,2,0,msg (Um x)⟩
def Iz (t:YV):List Zj:=tF 1 t.snd++(nF 2 t.sq++(nF 3 t.Zx++(nF 4 t.Y8++(tF 5 t.memo++t.tr.map Tq))))
def form (t:YV):List Int:=msg (Iz t)
theorem J7 {k:Int}{s:ByteArray}(h:s.size=0):tF k s=[]:=if_pos h
theorem QF {k:Int}{s:ByteArray}(h:s.size≠0):tF k s=[⟨k,2,0,nums s⟩]:=if_neg h
theorem Oe (k:Int):nF k 0=[]:=rfl
theorem Tm {k v:Int}(h:v≠0):nF k v=[⟨k,0,v,[]⟩]:=if_neg h
theorem Qk:msg []=[]:=rfl
theorem WX (f:Zj)(r:List Zj):msg (f::r)=Yq f++msg r:=rfl
theorem zO (k:Int)(s:ByteArray):(msg (tF k s)).length<=20+s.size/\s.size<=(msg (tF k s)).length:=by
 by_cases h:s.size=0
 ·rw[J7 h,Qk];exact⟨by simp,by rw[h]; simp⟩
 ·rw[QF h,WX,Qk,List.append_nil];have a:=Gj ⟨k,2,0,nums s⟩;have b:=Vr k 2 0 (nums s);rw[Zf] at b;have c:(⟨k,2,0,nums s⟩:Zj).bytes.length=s.size:=Zf s;exact⟨by omega,b⟩
theorem Gi (k v:Int):(msg (nF k v)).length<=20:=by
 by_cases h:v=0
 ·subst h; rw[Oe,Qk]; simp
 ·rw[Tm h,WX,Qk,List.append_nil];have a:=Gj ⟨k,0,v,[]⟩;simpa using a
theorem Om (x:Tf):(msg (Um x)).length<=40+x.1.size/\x.1.size<=(msg (Um x)).length:=by
 unfold Um;rw[Ua,List.length_append];have a:=zO 1 x.1;have b:=Gi 2 x.2;omega
theorem dX (x:Tf):(Yq (Tq x)).length<=60+x.1.size/\60+x.1.size<=61*(Yq (Tq x)).length:=by
 have a:=Gj (Tq x);have b:=Vr 6 2 0 (msg (Um x));have b2:(msg (Um x)).length<=(Yq (Tq x)).length:=b;have c:=Om x;have d:=Wj (Tq x);have e:(Tq x).bytes.length=(msg (Um x)).length:=rfl;omega
def Jd:List Tf->Nat
 | []=>0
 | x::r=>60+x.1.size+Jd r
def Iw (t:YV):Nat:=100+t.snd.size+t.memo.size+Jd t.tr
theorem xC:∀ (A B:List Tf),Jd (A++B)=Jd A+Jd B
 | [],B=>by simp[Jd]
 | x::r,B=>by rw[List.cons_append,Jd,Jd,xC r B]; omega
theorem xH:∀ A:List Tf,60*A.length<=Jd A
 | []=>by simp[Jd]
 | x::r=>by have:=xH r; rw[Jd,List.length_cons]; omega
theorem xB {A:List Tf}{x:Tf}(h:x∈A):60+x.1.size<=Jd A:=by
 induction A with
 | nil=>cases h
 | cons y r ih=>
  rw[Jd];rcases List.mem_cons.1 h with rfl | h
  ·omega
  ·have:=ih h; omega
theorem xA:∀ A:List Tf,(msg (A.map Tq)).length<=Jd A/\Jd A<=61*(msg (A.map Tq)).length
 | []=>by simp[msg,Jd]
 | x::r=>by
  have a:=xA r;have b:=dX x;rw[List.map_cons,WX,List.length_append,Jd];omega
theorem Ot (t:YV):(form t).length<=Iw t/\Iw t<=100+61*(form t).length:=by
 unfold form Iz Iw;rw[Ua,Ua,Ua,Ua,Ua];simp only[List.length_append];have a:=zO 1 t.snd;have b:=Gi 2 t.sq;have c:=Gi 3 t.Zx;have d:=Gi 4 t.Y8;have e:=zO 5 t.memo;have f:=xA t.tr;omega
structure Bo (t:YV):Prop where
 sq:W64 t.sq
 Zx:W64 t.Zx
 Y8:W64 t.Y8
 am:∀ x,x∈t.tr->W64 x.2
 wt:Iw t<=800000
theorem Xd:W64 0:=⟨by decide,by decide⟩
theorem ak6 {k:Int}{s:ByteArray}(h1:1<=k)(h2:k<=536870911)(hs:s.size<=1000000):∀ f,f∈tF k s->Vf f/\f.num=k:=fun f hf=>by
 by_cases h:s.size=0
 ·rw[J7 h] at hf; cases hf
 ·rw[QF h,List.mem_singleton] at hf;subst hf;exact⟨⟨⟨h1,h2,.inr ⟨rfl,rfl⟩⟩,Xd,fun x hx=>uO s x hx,by rw[Zf]; exact hs⟩,rfl⟩
theorem dW {k v:Int}(h1:1<=k)(h2:k<=536870911)(hv:W64 v):∀ f,f∈nF k v->Vf f/\f.num=k:=fun f hf=>by
 by_cases h:v=0
 ·subst h; rw[Oe] at hf; cases hf
 ·rw[Tm h,List.mem_singleton] at hf;subst hf;exact⟨⟨⟨h1,h2,.inl ⟨rfl,rfl⟩⟩,hv,fun x (hx:x∈([]:List Int))=>(by cases hx),Nat.zero_le _⟩,rfl⟩
theorem UQ {P:List Zj}(h:∀ f,f∈P->Vf f):∀ x,x∈msg P->0<=x/\x<=255:=fun x hx=>by
 obtain⟨f,hf,hx⟩:=List.mem_flatMap.1 hx;exact zN f (h f hf) x hx
theorem Ec {x:Tf}(hs:x.1.size<=900000)(hv:W64 x.2):∀ f,f∈Um x->Vf f:=fun f hf=>by
 rcases List.mem_append.1 hf with hf | hf
 ·exact(ak6 (by decide) (by decide) (by omega) f hf).1
 ·exact(dW (by decide) (by decide) hv f hf).1
theorem aB1 {x:Tf}(hs:x.1.size<=900000)(hv:W64 x.2):Vf (Tq x):=⟨⟨by show(1:Int)<=6; decide,by show(6:Int)<=536870911; decide,.inr ⟨rfl,rfl⟩⟩,Xd,UQ (Ec hs hv),by have:=Om x; show(msg (Um x)).length<=1000000; omega⟩
theorem Bo.vf {t:YV}(h:Bo t):∀ f,f∈Iz t->Vf f:=fun f hf=>by
 have hw:=h.wt;unfold Iw at hw;unfold Iz at hf;simp only[List.mem_append] at hf;rcases hf with hf | hf | hf | hf | hf | hf
 ·exact(ak6 (by decide) (by decide) (by omega) f hf).1
 ·exact(dW (by decide) (by decide) h.sq f hf).1
 ·exact(dW (by decide) (by decide) h.Zx f hf).1
 ·exact(dW (by decide) (by decide) h.Y8 f hf).1
 ·exact(ak6 (by decide) (by decide) (by omega) f hf).1
 ·obtain⟨x,hx,rfl⟩:=List.mem_map.1 hf;have:=xB hx;exact aB1 (by omega) (h.am x hx)
theorem Bo.tr {t:YV}(h:Bo t){x:Tf}(hx:x∈t.tr):x.1.size<=800000/\W64 x.2:=by
 have hw:=h.wt;unfold Iw at hw;have:=xB hx;exact⟨by omega,h.am x hx⟩
theorem xu:∀ (P Q:List Zj),(∀ f,f∈P->Vf f)->(∀ f,f∈Q->Vf f)->msg P=msg Q->P=Q
 | [],[],_,_,_=>rfl
 | [],g::Q,_,_,h=>by
  have a:=congrArg List.length h;rw[WX,List.length_append,Qk,List.length_nil] at a;have:=Wj g;omega
 | f::P,[],_,_,h=>by
  have a:=congrArg List.length h;rw[WX,List.length_append,Qk,List.length_nil] at a;have:=Wj f;omega
 | f::P,g::Q,hP,hQ,h=>by
  rw[WX,WX] at h;have a:=Lj f (hP f (by simp)) (msg P);have b:=Lj g (hQ g (by simp)) (msg Q);rw[h,b] at a;simp only[Prod.mk.injEq] at a;have e:f=g:=a.1.symm;subst e;rw[xu P Q (fun x hx=>hP x (by simp[hx])) (fun x hx=>hQ x (by simp[hx])) (List.append_cancel_left h)]
theorem DZ {P:List Zj}(h:∀ f,f∈P->Vf f)(hn:P.length<=1024):YO (msg P)=(P,0,0):=by
 have:=DY P ((msg P).length+1) [] 0 h (by simpa using hn) (by show(msg P).length<_; omega);simpa [YO,msg] using this
theorem Ud {L:List Int}(hb:∀ x,x∈L->0<=x/\x<=255)(hl:L.length<=1000000):((YO L).1=[]/\(YO L).2.2≠0)∨(∃ P,YO L=(P,0,0)/\msg P=L/\∀ f,f∈P->Vf f):=by
 rcases mX (L.length+1) [] 0 L hb hl (by omega) with⟨e,j,h,he,-⟩ | ⟨G,h,hm,hv⟩
 ·left;unfold YO;rw[h];exact⟨rfl,he⟩
 ·right;exact⟨G,by unfold YO; rw[h]; simp,hm,hv⟩
theorem zZ (P:List Zj):2*P.length<=(msg P).length:=by
 induction P with
 | nil=>simp[msg]
 | cons f r ih=>
  have:=Wj f;rw[WX,List.length_append,List.length_cons];omega
def XD (k:Int):List Zj->ByteArray×List Zj
 | []=>(WM,[])
 | f::r=>if f.num=k/\f.kind=2/\f.bytes.length≠0 then (strOfNums f.bytes,r) else (WM,f::r)
def X0 (k:Int):List Zj->Int×List Zj
 | []=>(0,[])
 | f::r=>if f.num=k/\f.kind=0/\f.val≠0 then (f.val,r) else (0,f::r)
def Ro (f:Zj):Option Tf:=
 if f.kind=2/\f.num=6/\(YO f.bytes).2.2=0/\(X0 2 (XD 1 (YO f.bytes).1).2).2.length=0 then some ((XD 1 (YO f.bytes).1).1,(X0 2 (XD 1 (YO f.bytes).1).2).1) else none
def PU:List Zj->Option (List Tf)
 | []=>some []
 | f::r=>match Ro f with
  | none=>none
  | some x=>(PU r).map (x::·)
def xJ (l:List Zj):Option YV:=
 (PU (XD 5 (X0 4 (X0 3 (X0 2 (XD 1 l).2).2).2).2).2).map fun A=>
  ⟨(XD 1 l).1,(X0 2 (XD 1 l).2).1,(X0 3 (X0 2 (XD 1 l).2).2).1,(X0 4 (X0 3 (X0 2 (XD 1 l).2).2).2).1,(XD 5 (X0 4 (X0 3 (X0 2 (XD 1 l).2).2).2).2).1,A⟩
theorem Ol {k:Int}{f:Zj}{r:List Zj}(h:f.num=k/\f.kind=2/\f.bytes.length≠0):XD k (f::r)=(strOfNums f.bytes,r):=if_pos h
theorem Qm {k:Int}{f:Zj}{r:List Zj}(h:¬ (f.num=k/\f.kind=2/\f.bytes.length≠0)):XD k (f::r)=(WM,f::r):=if_neg h
theorem QG {k:Int}{f:Zj}{r:List Zj}(h:f.num=k/\f.kind=0/\f.val≠0):X0 k (f::r)=(f.val,r):=if_pos h
theorem Rq {k:Int}{f:Zj}{r:List Zj}(h:¬ (f.num=k/\f.kind=0/\f.val≠0)):X0 k (f::r)=(0,f::r):=if_neg h
theorem mW {L:List Int}(h:L.length≠0)(hb:∀ x,x∈L->0<=x/\x<=255):(strOfNums L).size≠0:=by
 rw[<- Zf,QI L (fun x hx=>hb x hx)];exact h
theorem Qj (k:Int)(l:List Zj)(h:∀ f,f∈l->Vf f):l=tF k (XD k l).1++(XD k l).2:=by
 cases l with
 | nil=>rfl
 | cons f r=>
  by_cases hc:f.num=k/\f.kind=2/\f.bytes.length≠0
  ·rw[Ol hc];obtain⟨h1,h2,h3⟩:=hc;have hv:=h f (by simp);have hb:=hv.2.2.1;simp only;rw[QF (mW h3 hb),QI _ (fun x hx=>hb x hx)];have hval:f.val=0:=by
    rcases hv.1.2.2 with a | a
    ·omega
    ·exact a.2
   obtain⟨n,kd,v,b⟩:=f;simp only at h1 h2 hval;subst h1 h2 hval;rfl
  ·rw[Qm hc]; rfl
theorem SG (k:Int)(l:List Zj)(h:∀ f,f∈l->Vf f):l=nF k (X0 k l).1++(X0 k l).2:=by
 cases l with
 | nil=>rfl
 | cons f r=>
  by_cases hc:f.num=k/\f.kind=0/\f.val≠0
  ·rw[QG hc];obtain⟨h1,h2,h3⟩:=hc;have hv:=h f (by simp);have hz:f.bytes=[]:=by
    rcases hv.1.2.2 with a | a
    ·exact List.eq_nil_of_length_eq_zero a.2
    ·omega
   simp only;rw[Tm h3];obtain⟨n,kd,v,b⟩:=f;simp only at h1 h2 hz;subst h1 h2 hz;rfl
  ·rw[Rq hc]; rfl
theorem Rn {k:Int}{l:List Zj}(h:∀ f,f∈l->Vf f):∀ f,f∈(XD k l).2->Vf f:=fun f hf=>h f (by rw[Qj k l h]; exact List.mem_append_right _ hf)
theorem Ql {k:Int}{l:List Zj}(h:∀ f,f∈l->Vf f):∀ f,f∈(X0 k l).2->Vf f:=fun f hf=>h f (by rw[SG k l h]; exact List.mem_append_right _ hf)
theorem Gh {k:Int}{l:List Zj}(h:∀ f,f∈l->Vf f):W64 (X0 k l).1:=by
 cases l with
 | nil=>exact Xd
 | cons f r=>
  by_cases hc:f.num=k/\f.kind=0/\f.val≠0
  ·rw[QG hc]; exact(h f (by simp)).2.1
  ·rw[Rq hc]; exact Xd
theorem uN {f:Zj}(hv:Vf f){x:Tf}(h:Ro f=some x):f=Tq x/\W64 x.2:=by
 unfold Ro at h
 split at h
 ·rename_i hc
  obtain⟨h1,h2,h3,h4⟩:=hc;simp only[Option.some.injEq] at h;have hb:=hv.2.2.1;rcases Ud hb hv.2.2.2 with⟨-,q⟩ | ⟨P,e,hm,hP⟩
  ·exact absurd h3 q
  ·rw[e] at h h4;simp only at h h4;have a:=Qj 1 P hP;have b:=SG 2 _ (Rn (k:=1) hP);rw[List.eq_nil_of_length_eq_zero h4,List.append_nil] at b;rw[b] at a;have hw:=Gh (k:=2) (Rn (k:=1) hP);subst h;refine⟨?_,hw⟩;have hval:f.val=0:=by
    rcases hv.1.2.2 with q | q
    ·omega
    ·exact q.2
   obtain⟨n,kd,v,bs⟩:=f;simp only at h1 h2 hval hm;subst h1 h2 hval;unfold Tq Um;rw[<- hm];congr 1;exact congrArg msg a
 ·cases h
theorem Iu:∀ {l:List Zj} (hv:∀ f,f∈l->Vf f) {A:List Tf},PU l=some A->l=A.map Tq/\∀ x,x∈A->W64 x.2
 | [],_,A,h=>by
  simp only[PU,Option.some.injEq] at h;subst h;exact⟨rfl,fun x hx=>by cases hx⟩
 | f::r,hv,A,h=>by
  unfold PU at h;cases e:Ro f with
  | none=>rw[e] at h; cases h
  | some x=>
   rw[e] at h;simp only[Option.map_eq_some_iff] at h;obtain⟨B,hB,rfl⟩:=h;obtain⟨e1,w1⟩:=uN (hv f (by simp)) e;obtain⟨e2,w2⟩:=Iu (fun g hg=>hv g (by simp[hg])) hB;refine⟨by rw[List.map_cons,<- e1,<- e2],fun y hy=>?_⟩;rcases List.mem_cons.1 hy with rfl | hy
   ·exact w1
   ·exact w2 y hy
theorem Kv {l:List Zj}(hv:∀ f,f∈l->Vf f){t:YV}(h:xJ l=some t):l=Iz t/\W64 t.sq/\W64 t.Zx/\W64 t.Y8/\∀ x,x∈t.tr->W64 x.2:=by
 unfold xJ at h;simp only[Option.map_eq_some_iff] at h;obtain⟨A,hA,rfl⟩:=h;have v1:=Rn (k:=1) hv;have v2:=Ql (k:=2) v1;have v3:=Ql (k:=3) v2;have v4:=Ql (k:=4) v3;have v5:=Rn (k:=5) v4;obtain⟨e6,w6⟩:=Iu v5 hA;refine⟨?_,Gh v1,Gh v2,Gh v3,w6⟩;unfold Iz;simp only;rw[<- e6,<- Qj 5 _ v4,<- SG 4 _ v3,<- SG 3 _ v2,<- SG 2 _ v1,<- Qj 1 _ hv]
def dV (k:Int)(l:List Zj):Prop:=∀ f,f∈l->k<f.num
theorem Nl {k:Int}{s:ByteArray}{r:List Zj}(h:dV k r):XD k (tF k s++r)=(s,r):=by
 by_cases h0:s.size=0
 ·rw[J7 h0,D5 h0];cases r with
  | nil=>rfl
  | cons f r=>
   have:=h f (by simp);exact Qm (by omega)
 ·rw[QF h0,List.singleton_append,Ol (f:=⟨k,2,0,nums s⟩) ⟨rfl,rfl,by show(nums s).length≠0; rw[Zf]; exact h0⟩];show(strOfNums (nums s),r)=_;rw[SH]
theorem Qi {k v:Int}{r:List Zj}(h:dV k r):X0 k (nF k v++r)=(v,r):=by
 by_cases h0:v=0
 ·subst h0;rw[Oe];cases r with
  | nil=>rfl
  | cons f r=>
   have:=h f (by simp);exact Rq (by omega)
 ·rw[Tm h0,List.singleton_append,QG (f:=⟨k,0,v,[]⟩) ⟨rfl,rfl,h0⟩]
theorem dU {j k:Int}{s:ByteArray}{r:List Zj}(h:j<k)(hr:dV j r):dV j (tF k s++r):=fun f hf=>by
 rcases List.mem_append.1 hf with hf | hf
 ·by_cases h0:s.size=0
  ·rw[J7 h0] at hf; cases hf
  ·rw[QF h0,List.mem_singleton] at hf;subst hf;exact h
 ·exact hr f hf
theorem zM {j k v:Int}{r:List Zj}(h:j<k)(hr:dV j r):dV j (nF k v++r):=fun f hf=>by
 rcases List.mem_append.1 hf with hf | hf
 ·by_cases h0:v=0
  ·subst h0; rw[Oe] at hf; cases hf
  ·rw[Tm h0,List.mem_singleton] at hf;subst hf;exact h
 ·exact hr f hf
theorem Oc {j:Int}(h:j<6)(A:List Tf):dV j (A.map Tq):=fun f hf=>by
 obtain⟨x,-,rfl⟩:=List.mem_map.1 hf;exact h
theorem mV (j:Int):dV j []:=fun f hf=>by cases hf
theorem xq {x:Tf}(hs:x.1.size<=900000)(hv:W64 x.2):YO (msg (Um x))=(Um x,0,0):=by
 refine DZ (Ec hs hv) ?_;unfold Um tF nF;rw[List.length_append]
 split <;> split <;> simp
theorem dS {x:Tf}(hs:x.1.size<=900000)(hv:W64 x.2):Ro (Tq x)=some x:=by
 have e:(Tq x).bytes=msg (Um x):=rfl;unfold Ro;rw[e,xq hs hv];have a:XD 1 (Um x)=(x.1,nF 2 x.2):=by
  have q:dV 1 (nF 2 x.2):=by
   have:=zM (j:=1) (k:=2) (v:=x.2) (by decide) (mV 1);rwa [List.append_nil] at this
  exact Nl q
 have b:X0 2 (nF 2 x.2)=(x.2,[]):=by
  have:=Qi (k:=2) (v:=x.2) (mV 2);rwa [List.append_nil] at this
 simp only[a,b];rw[if_pos ⟨rfl,rfl,trivial,rfl⟩]
theorem DW:∀ (A:List Tf),(∀ x,x∈A->x.1.size<=900000/\W64 x.2)->PU (A.map Tq)=some A
 | [],_=>rfl
 | x::r,h=>by
  have:=h x (by simp);rw[List.map_cons,PU,dS this.1 this.2,DW r (fun y hy=>h y (by simp[hy]))];rfl
theorem DV {t:YV}(h:Bo t):xJ (Iz t)=some t:=by
 have g6:=Oc (j:=5) (by decide) t.tr;have e1:XD 1 (Iz t)=(t.snd,nF 2 t.sq++(nF 3 t.Zx++(nF 4 t.Y8++(tF 5 t.memo++t.tr.map Tq)))):=Nl (zM (by decide) (zM (by decide) (zM (by decide) (dU (by decide) (Oc (by decide) _)))));have e2:X0 2 (nF 2 t.sq++(nF 3 t.Zx++(nF 4 t.Y8++(tF 5 t.memo++t.tr.map Tq))))=(t.sq,nF 3 t.Zx++(nF 4 t.Y8++(tF 5 t.memo++t.tr.map Tq))):=Qi (zM (by decide) (zM (by decide) (dU (by decide) (Oc (by decide) _))));have e3:X0 3 (nF 3 t.Zx++(nF 4 t.Y8++(tF 5 t.memo++t.tr.map Tq)))=(t.Zx,nF 4 t.Y8++(tF 5 t.memo++t.tr.map Tq)):=Qi (zM (by decide) (dU (by decide) (Oc (by decide) _)));have e4:X0 4 (nF 4 t.Y8++(tF 5 t.memo++t.tr.map Tq))=(t.Y8,tF 5 t.memo++t.tr.map Tq):=Qi (dU (by decide) (Oc (by decide) _));have e5:XD 5 (tF 5 t.memo++t.tr.map Tq)=(t.memo,t.tr.map Tq):=Nl g6;have e6:=DW t.tr (fun x hx=>by have:=h.tr hx; exact⟨by omega,this.2⟩);unfold xJ;simp only[e1,e2,e3,e4,e5,e6,Option.map_some]
def zX:YV:=⟨WM,0,0,0,WM,[]⟩
def Vs:Tf->List Zj->Option Tf
 | x,[]=>some x
 | x,f::r=>if f.num=1/\f.kind=2 then Vs (strOfNums f.bytes,x.2) r else if f.num=2/\f.kind=0 then Vs (x.1,f.val) r else none
def Eh (b:List Int):Option Tf:=match Vs (WM,0) (YO b).1 with
 | none=>none
 | some x=>if (YO b).2.2=0/\msg (Um x)=b then some x else none
def PX (t:YV)(f:Zj):Option YV:=
 if f.num=1/\f.kind=2 then some { t with snd:=strOfNums f.bytes } else if f.num=2/\f.kind=0 then some { t with sq:=f.val } else if f.num=3/\f.kind=0 then some { t with Zx:=f.val } else if f.num=4/\f.kind=0 then some { t with Y8:=f.val } else if f.num=5/\f.kind=2 then some { t with memo:=strOfNums f.bytes } else if f.num=6/\f.kind=2 then (Eh f.bytes).map fun x=>{ t with tr:=t.tr++[x] } else none
def Pz:YV->List Zj->Option YV
 | t,[]=>some t
 | t,f::r=>match PX t f with
  | none=>none
  | some u=>Pz u r
theorem Wq (t:YV)(f:Zj)(r:List Zj):Pz t (f::r)=(PX t f).bind fun u=>Pz u r:=by
 rw[Pz];cases PX t f <;> rfl
theorem dR {x:Tf}:Vs (WM,0) (Um x)=some x:=by
 unfold Um;by_cases h:x.1.size=0
 ·rw[J7 h,List.nil_append];by_cases h0:x.2=0
  ·rw[h0,Oe];show some (WM,(0:Int))=some x;rw[<- D5 h,<- h0]
  ·rw[Tm h0,Vs,if_neg (fun h=>absurd h.1 (show ¬ (2:Int)=1 by decide)),if_pos ⟨rfl,rfl⟩,Vs];show some (WM,x.2)=some x;rw[<- D5 h]
 ·rw[QF h,List.singleton_append,Vs,if_pos ⟨rfl,rfl⟩];simp only[SH];by_cases h0:x.2=0
  ·rw[h0,Oe,Vs,<- h0]
  ·rw[Tm h0,Vs,if_neg (fun h=>absurd h.1 (show ¬ (2:Int)=1 by decide)),if_pos ⟨rfl,rfl⟩,Vs]
theorem ak7 {x:Tf}(hs:x.1.size<=900000)(hv:W64 x.2):Eh (msg (Um x))=some x:=by
 unfold Eh;rw[xq hs hv];simp only[dR];rw[if_pos ⟨trivial,trivial⟩]
theorem xg:∀ (A:List Tf) (t:YV),(∀ x,x∈A->x.1.size<=900000/\W64 x.2)->Pz t (A.map Tq)=some { t with tr:=t.tr++A }
 | [],t,_=>by simp[Pz]
 | x::r,t,h=>by
  have hx:=h x (by simp);have e:PX t (Tq x)=some { t with tr:=t.tr++[x] }:=by
   unfold PX;rw[if_neg (by show ¬ ((6:Int)=1/\_); omega),if_neg (by show ¬ ((6:Int)=2/\_); omega),if_neg (by show ¬ ((6:Int)=3/\_); omega),if_neg (by show ¬ ((6:Int)=4/\_); omega),if_neg (by show ¬ ((6:Int)=5/\_); omega),if_pos ⟨rfl,rfl⟩];show(Eh (msg (Um x))).map _=_;rw[ak7 hx.1 hx.2];rfl
  rw[List.map_cons,Wq,e,Option.bind_some,xg r _ (fun y hy=>h y (by simp[hy]))];simp
theorem ak8 {t:YV}(h:t.snd=WM)(s:ByteArray)(r:List Zj):Pz t (tF 1 s++r)=Pz { t with snd:=s } r:=by
 by_cases h0:s.size=0
 ·rw[J7 h0,D5 h0,List.nil_append,<- h]
 ·rw[QF h0,List.singleton_append,Wq];unfold PX;rw[if_pos ⟨rfl,rfl⟩];simp only[SH,Option.bind_some]
theorem ak9 {t:YV}(h:t.memo=WM)(s:ByteArray)(r:List Zj):Pz t (tF 5 s++r)=Pz { t with memo:=s } r:=by
 by_cases h0:s.size=0
 ·rw[J7 h0,D5 h0,List.nil_append,<- h]
 ·rw[QF h0,List.singleton_append,Wq];unfold PX;simp only[SH];rfl
theorem al0 {t:YV}(h:t.sq=0)(v:Int)(r:List Zj):Pz t (nF 2 v++r)=Pz { t with sq:=v } r:=by
 by_cases h0:v=0
 ·rw[h0,Oe,List.nil_append,<- h]
 ·rw[Tm h0,List.singleton_append,Wq];rfl
theorem al1 {t:YV}(h:t.Zx=0)(v:Int)(r:List Zj):Pz t (nF 3 v++r)=Pz { t with Zx:=v } r:=by
 by_cases h0:v=0
 ·rw[h0,Oe,List.nil_append,<- h]
 ·rw[Tm h0,List.singleton_append,Wq];rfl
theorem al3 {t:YV}(h:t.Y8=0)(v:Int)(r:List Zj):Pz t (nF 4 v++r)=Pz { t with Y8:=v } r:=by
 by_cases h0:v=0
 ·rw[h0,Oe,List.nil_append,<- h]
 ·rw[Tm h0,List.singleton_append,Wq];rfl
theorem mQ {t:YV}(h:Bo t):Pz zX (Iz t)=some t:=by
 unfold Iz;rw[ak8 rfl,al0 rfl,al1 rfl,al3 rfl,ak9 rfl,xg _ _ (fun x hx=>by have:=h.tr hx; exact⟨by omega,this.2⟩)];rfl
def bkF:List Zj->Nat
 | []=>0
 | f::r=>60+f.bytes.length+bkF r
theorem wZ:∀ P:List Zj,bkF P<=61*(msg P).length
 | []=>by simp[bkF]
 | f::r=>by
  have a:=wZ r;have b:=Wj f;have c:=Vr f.num f.kind f.val f.bytes;have c2:f.bytes.length<=(Yq f).length:=c;rw[bkF,WX,List.length_append];omega
theorem mP {b:List Int}{x:Tf}(hb:∀ y,y∈b->0<=y/\y<=255)(hl:b.length<=1000000)(h:Eh b=some x):msg (Um x)=b/\W64 x.2:=by
 unfold Eh at h;have key:∀ (l:List Zj) (y:Tf),(∀ f,f∈l->Vf f)->W64 y.2->Vs y l=some x->W64 x.2:=by
  intro l;induction l with
  | nil=>
   intro y _ hy e;simp only[Vs,Option.some.injEq] at e;rw[<- e]; exact hy
  | cons f r ih=>
   intro y hv hy e;rw[Vs] at e
   split at e
   ·exact ih (strOfNums f.bytes,y.2) (fun g hg=>hv g (by simp[hg])) hy e
   ·split at e
    ·exact ih (y.1,f.val) (fun g hg=>hv g (by simp[hg])) (hv f (by simp)).2.1 e
    ·cases e
 rcases Ud hb hl with⟨e0,q⟩ | ⟨P,e0,hm,hP⟩
 ·rw[e0] at h;simp only[Vs] at h;rw[if_neg (fun h=>q h.1)] at h;cases h
 ·rw[e0] at h;simp only at h;cases e:Vs (WM,0) P with
  | none=>rw[e] at h; cases h
  | some y=>
   rw[e] at h;simp only at h
   split at h
   ·rename_i hc
    simp only[Option.some.injEq] at h;subst h;exact⟨hc.2,key P (WM,0) hP Xd e⟩
   ·cases h
structure Red (t:YV)(n:Nat):Prop where
 sq:W64 t.sq
 Zx:W64 t.Zx
 Y8:W64 t.Y8
 am:∀ x,x∈t.tr->W64 x.2
 wt:Iw t<=100+n
theorem Red.zero:Red zX 0:=⟨Xd,Xd,Xd,fun x (hx:x∈([]:List Tf))=>(by cases hx),Nat.le_refl _⟩
theorem Ed (L:List Int)(h:∀ x,x∈L->0<=x/\x<=255):(strOfNums L).size=L.length:=by
 rw[<- Zf,QI L (fun x hx=>h x hx)]
theorem Red.step {t u:YV}{n:Nat}{f:Zj}(h:Red t n)(hv:Vf f)(e:PX t f=some u):Red u (n+(60+f.bytes.length)):=by
 obtain⟨h1,h2,h3,h4,h5⟩:=h;have hs:=Ed f.bytes hv.2.2.1;unfold Iw at h5;unfold PX at e
 split at e
 ·simp only[Option.some.injEq] at e;subst e;exact⟨h1,h2,h3,h4,by unfold Iw; simp only; omega⟩
 split at e
 ·simp only[Option.some.injEq] at e;subst e;exact⟨hv.2.1,h2,h3,h4,by unfold Iw; simp only; omega⟩
 split at e
 ·simp only[Option.some.injEq] at e;subst e;exact⟨h1,hv.2.1,h3,h4,by unfold Iw; simp only; omega⟩
 split at e
 ·simp only[Option.some.injEq] at e;subst e;exact⟨h1,h2,hv.2.1,h4,by unfold Iw; simp only; omega⟩
 split at e
 ·simp only[Option.some.injEq] at e;subst e;exact⟨h1,h2,h3,h4,by unfold Iw; simp only; omega⟩
 split at e
 ·simp only[Option.map_eq_some_iff] at e;obtain⟨x,hx,rfl⟩:=e;obtain⟨hm,hw⟩:=mP hv.2.2.1 hv.2.2.2 hx;have hl:=Om x;rw[hm] at hl;refine⟨h1,h2,h3,fun y hy=>?_,?_⟩
  ·rcases List.mem_append.1 hy with hy | hy
   ·exact h4 y hy
   ·rw[List.mem_singleton] at hy;subst hy;exact hw
  ·unfold Iw;simp only[xC,Jd];omega
 ·cases e
theorem Red.all:∀ (l:List Zj) (t u:YV) (n:Nat),Red t n->(∀ f,f∈l->Vf f)->Pz t l=some u->Red u (n+bkF l)
 | [],t,u,n,h,_,e=>by
  simp only[Pz,Option.some.injEq] at e;subst e;exact h
 | f::r,t,u,n,h,hv,e=>by
  rw[Wq] at e;cases e2:PX t f with
  | none=>rw[e2] at e; cases e
  | some v=>
   rw[e2,Option.bind_some] at e;have:=Red.all r v u _ (h.step (hv f (by simp)) e2) (fun g hg=>hv g (by simp[hg])) e;rw[bkF];exact⟨this.sq,this.Zx,this.Y8,this.am,by have:=this.wt; omega⟩
theorem oH {l:List Zj}{u:YV}(hv:∀ f,f∈l->Vf f)(hl:(msg l).length<=4096)(h:Pz zX l=some u):Bo u:=by
 have a:=Red.all l zX u 0 Red.zero hv h;have b:=wZ l;exact⟨a.sq,a.Zx,a.Y8,a.am,by have:=a.wt; omega⟩
theorem az0 {l:List Zj}(hv:∀ f,f∈l->Vf f)(hl:(msg l).length<=4096):xJ l=(Pz zX l).bind fun t=>if form t=msg l then some t else none:=by
 cases e:xJ l with
 | some t=>
  obtain⟨h1,h2,h3,h4,h5⟩:=Kv hv e;have hok:Bo t:=⟨h2,h3,h4,h5,by
   have:=(Ot t).2;have e2:(form t).length=(msg l).length:=(by rw[h1]; rfl);omega⟩
  rw[h1,mQ hok,Option.bind_some,if_pos (show form t=msg (Iz t) from rfl)]
 | none=>
  cases e2:Pz zX l with
  | none=>rfl
  | some t=>
   rw[Option.bind_some];have hok:=oH hv hl e2;by_cases hf:form t=msg l
   ·exfalso;have:=xu _ _ hok.vf hv hf;rw[<- this,DV hok] at e;cases e
   ·rw[if_neg hf]
def Zc (L:List Int):YV×Int:=
 if 4096<L.length then (zX,3) else if (YO L).2.2≠0 then (zX,4) else match xJ (YO L).1 with
 | none=>(zX,4)
 | some t=>if Xv t=0 then (t,0) else (zX,Xv t)
def QX (t:YV):List Int×Int:=if Xv t≠0 then ([],Xv t) else if 4096<(form t).length then ([],3) else (form t,0)
theorem Gg {L:List Int}{t:YV}(hb:∀ x,x∈L->0<=x/\x<=255)(h:Zc L=(t,0)):Xv t=0/\form t=L/\Bo t/\L.length<=4096:=by
 unfold Zc at h
 split at h
 ·simp at h
 rename_i hlen
 split at h
 ·simp at h
 rename_i hfl
 have hfl:(YO L).2.2=0:=by simpa using hfl
 rcases Ud hb (by omega) with⟨-,q⟩ | ⟨P,e0,hm,hP⟩
 ·exact absurd hfl q
 rw[e0] at h;cases e:xJ P with
 | none=>simp[e] at h
 | some u=>
  simp only[e] at h
  split at h
  ·rename_i hval
   simp only[Prod.mk.injEq,and_true] at h;subst h;obtain⟨h1,h2,h3,h4,h5⟩:=Kv hP e;have hf:form u=L:=(by unfold form; rw[<- h1]; exact hm);refine⟨hval,hf,⟨h2,h3,h4,h5,?_⟩,by omega⟩;have:=(Ot u).2;rw[hf] at this;omega
  ·rename_i hval
   simp only[Prod.mk.injEq] at h;exact absurd h.2 hval
theorem iJ {t:YV}(h:Bo t)(hv:Xv t=0)(hl:(form t).length<=4096)(hn:t.tr.length<=1000):Zc (form t)=(t,0):=by
 have hc:(Iz t).length<=1024:=by
  have q1:∀ k s,(tF k s).length<=1:=fun k s=>by unfold tF; split <;> simp
  have q2:∀ k v,(nF k v).length<=1:=fun k s=>by unfold nF; split <;> simp
  unfold Iz;simp only[List.length_append,List.length_map];have a:=q1 1 t.snd;have b:=q2 2 t.sq;have c:=q2 3 t.Zx;have d:=q2 4 t.Y8;have e:=q1 5 t.memo;omega
 have e:=DZ h.vf hc;unfold Zc;rw[if_neg (by omega)];show(if (YO (msg (Iz t))).2.2≠0 then _ else _)=_;unfold form;rw[e,if_neg (by simp)];simp only[DV h];rw[if_pos hv]
theorem Em {L:List Int}(h:4096<L.length):Zc L=(zX,3):=by unfold Zc; rw[if_pos h]
theorem oJ {L:List Int}(h:L.length<=4096)(h2:(YO L).2.2≠0):Zc L=(zX,4):=by unfold Zc; rw[if_neg (by omega),if_pos h2]
theorem J6 {L:List Int}(h:isName L=true):L.length<=20:=by
 unfold isName at h;simp at h;exact h.2.2
theorem DU:∀ (n i:Nat) (L:List Int) (m:Nat),L.length-i<=n->runs L i=some m->L.length<=i+4*m
 | 0,i,L,m,h,e=>by omega
 | n+1,i,L,m,h,e=>by
  by_cases hi:i<L.length
  ·by_cases hk:runK L i=0
   ·rw[DT hi hk] at e; cases e
   ·rw[SN hi hk] at e;simp only[Option.map_eq_some_iff] at e;obtain⟨q,hq,rfl⟩:=e;have:=DU n (i+runK L i) L q (by omega) hq;have:=Gl L i;omega
  ·omega
theorem zL {L:List Int}(h:X7 L=true):L.length<=256:=by
 unfold X7 at h;cases e:runs L 0 with
 | none=>rw[e] at h; cases h
 | some n=>
  rw[e] at h;have:=DU L.length 0 L n (by omega) e;have h2:n<=64:=by simpa using h
  omega
theorem DR:∀ {A:List Tf},RQ A=0->∀ x,x∈A->x.1.size<=20
 | [],_,x,hx=>by cases hx
 | y::r,h,x,hx=>by
  unfold RQ at h
  split at h
  ·omega
  rename_i hn
  split at h
  ·omega
  rcases List.mem_cons.1 hx with rfl | hx
  ·have:=J6 (by simpa using hn:isName (nums x.1)=true);rwa [Zf] at this
  ·exact DR h x hx
theorem mO:∀ (A:List Tf) (k:Nat),(∀ x,x∈A->x.1.size<=k)->Jd A<=A.length*(60+k)
 | [],k,_=>by simp[Jd]
 | x::r,k,h=>by
  have a:=mO r k (fun y hy=>h y (by simp[hy]));have b:=h x (by simp);rw[Jd,List.length_cons,Nat.add_mul];omega
theorem val_ok {t:YV}(h:Xv t=0)(h1:W64 t.sq)(h2:W64 t.Zx)(h3:W64 t.Y8)(h4:∀ x,x∈t.tr->W64 x.2):Bo t/\Iw t<=2000/\t.tr.length<=16:=by
 unfold Xv at h
 split at h
 ·omega
 rename_i a1
 split at h
 ·omega
 split at h
 ·omega
 rename_i a3
 split at h
 ·omega
 rename_i a4
 have b1:=J6 (by simpa using a1:isName (nums t.snd)=true);have b2:=zL (by simpa using a3:X7 (nums t.memo)=true);rw[Zf] at b1 b2;have b3:=mO t.tr 20 (DR h);have b4:t.tr.length*80<=16*80:=Nat.mul_le_mul_right _ (by omega);have:Iw t<=2000:=by unfold Iw; omega
 exact⟨⟨h1,h2,h3,h4,by omega⟩,this,by omega⟩
end Go.Proofs.YtfpnnmeblefkkaaGreatDoor
namespace Go.Proofs.YtfpnnmeblefkkaaGreatDoor
attribute [local irreducible] wpList wpQuiet
open Go.RowKit
theorem ny (c:Int)(w:World):Calls Tryz.prog 127 #[.int .u8 c] w fun e w'=>e=.returned (.bool (Px c))/\w=w':=by
 have hcl:(97<=c/\c<=122)∨(48<=c/\c<=57)∨c=45∨122<c∨(57<c/\c<97)∨(c<48/\c≠45):=by omega
 rcases hcl with hc | hc | hc | hc | hc | hc
 ·have HE:Px c=true:=by
   simp only[Px,Bool.or_eq_true,Bool.and_eq_true,decide_eq_true_eq]; omega
  rw[HE];go_enter Tryz.func127,Tryz.ntmps127;go_upto_region 1 with fail;refine wl<|ZV (.int .u8 c)<|ZM (WV rfl (97) (c) dT)<|ZB ZW (.int .u8 c)<|ZM (WV rfl (c) (122) dT) <|
   Y0 ZW ZW undef undef undef undef<|Y0 undef undef ZW ZW undef undef<|ZB ZW ZW<|wn ?_
  simp only[pu];go_wp2_with fail;go_ret;exact⟨rfl,rfl⟩
 ·have HE:Px c=true:=by
   simp only[Px,Bool.or_eq_true,Bool.and_eq_true,decide_eq_true_eq]; omega
  rw[HE];go_enter Tryz.func127,Tryz.ntmps127;go_upto_region 1 with fail;refine wl<|ZV (.int .u8 c)<|ZM (WV rfl (97) (c) dF)<|Y0 ZY undef undef ZY ZY (.int .u8 c) <|
   ZM (WV rfl (48) (c) dT)<|ZB ZW (.int .u8 c)<|ZM (WV rfl (c) (57) dT) <|
   Y0 ZW ZW ZW undef undef ZW<|ZV ZW<|wn ?_
  simp only[pu];go_wp2_with fail;go_ret;exact⟨rfl,rfl⟩
 ·have HE:Px c=true:=by
   simp only[Px,Bool.or_eq_true,Bool.and_eq_true,decide_eq_true_eq]; omega
  rw[HE];go_enter Tryz.func127,Tryz.ntmps127;go_upto_region 1 with fail;refine wl<|ZV (.int .u8 c)<|ZM (WV rfl (97) (c) dF)<|Y0 ZY undef undef ZY ZY (.int .u8 c) <|
   ZM (WV rfl (48) (c) dF)<|Y0 ZY undef undef ZY ZY ZY<|ZV (.int .u8 c) <|
   ZM (XH rfl (c) (45) dT)<|ZB ZW ZW<|wn ?_
  simp only[pu];go_wp2_with fail;go_ret;exact⟨rfl,rfl⟩
 ·have HE:Px c=false:=by
   rw[Bool.eq_false_iff]; simp only[ne_eq,Px,Bool.or_eq_true,Bool.and_eq_true,decide_eq_true_eq]; omega
  rw[HE];go_enter Tryz.func127,Tryz.ntmps127;go_upto_region 1 with fail;refine wl<|ZV (.int .u8 c)<|ZM (WV rfl (97) (c) dT)<|ZB ZW (.int .u8 c)<|ZM (WV rfl (c) (122) dF) <|
   Yr ZY ZY (.int .u8 c)<|ZM (WV rfl (48) (c) dT)<|ZB ZW (.int .u8 c)<|ZM (WV rfl (c) (57) dF) <|
   U8 ZY ZY ZY (.int .u8 c)<|ZM (XH rfl (c) (45) dF)<|ZB ZY ZY<|wn ?_
  simp only[pu];go_wp2_with fail;go_ret;exact⟨rfl,rfl⟩
 ·have HE:Px c=false:=by
   rw[Bool.eq_false_iff]; simp only[ne_eq,Px,Bool.or_eq_true,Bool.and_eq_true,decide_eq_true_eq]; omega
  rw[HE];go_enter Tryz.func127,Tryz.ntmps127;go_upto_region 1 with fail;refine wl<|ZV (.int .u8 c)<|ZM (WV rfl (97) (c) dF)<|Y0 ZY undef undef ZY ZY (.int .u8 c) <|
   ZM (WV rfl (48) (c) dT)<|ZB ZW (.int .u8 c)<|ZM (WV rfl (c) (57) dF) <|
   U8 ZY ZY ZY (.int .u8 c)<|ZM (XH rfl (c) (45) dF)<|ZB ZY ZY<|wn ?_
  simp only[pu];go_wp2_with fail;go_ret;exact⟨rfl,rfl⟩
 ·have HE:Px c=false:=by
   rw[Bool.eq_false_iff]; simp only[ne_eq,Px,Bool.or_eq_true,Bool.and_eq_true,decide_eq_true_eq]; omega
  rw[HE];go_enter Tryz.func127,Tryz.ntmps127;go_upto_region 1 with fail;refine wl<|ZV (.int .u8 c)<|ZM (WV rfl (97) (c) dF)<|Y0 ZY undef undef ZY ZY (.int .u8 c) <|
   ZM (WV rfl (48) (c) dF)<|Y0 ZY undef undef ZY ZY ZY<|ZV (.int .u8 c) <|
   ZM (XH rfl (c) (45) dF)<|ZB ZY ZY<|wn ?_
  simp only[pu];go_wp2_with fail;go_ret;exact⟨rfl,rfl⟩
theorem ni (b off n c k:Nat)(hk:k<n)(V:World)(ρ:Operand->Value)(o:Oper){x y:Operand}(ho:o.op=.indexAddr 54 x y)(hx:ρ x=.slice (some ⟨b,off,none⟩) n c)(hy:ρ y=Z8 k):(execOp ρ o).run Tryz.prog V=.ok (.value (Z5 b (off+k))) V:=by
 have hs:(sizeOf (Tryz.prog.elem 54)).run Tryz.prog V=.ok 1 V:=by kernel_rfl
 have hlm:(k:Int)<(n:Int):=by omega
 unfold execOp;simp only[ho,hx,hy];go_simp
theorem uP {s:ByteArray}(h:s.size=0∨20<s.size):isName (nums s)=false:=by
 unfold isName;rw[Zf];rcases h with h | h
 ·rw[h]; simp
 ·rw[show decide (s.size<=20)=false from decide_eq_false (by omega)]; simp
theorem OG (s:ByteArray)(w:World):Calls Tryz.prog 100 #[.string s] w fun e w'=>e=.returned (.bool (isName (nums s)))/\Below w.heap.size w w':=by
 have zQ:=Z9 (@uP s);obtain⟨n,hn⟩:=ZQ s.size;rw[hn] at zQ;rcases (show n=0∨20<n∨(1<=n/\n<=20) by omega) with hc | hc | hc
 ·rw[zQ.out (.inl hc)];clear zQ;go_enter Tryz.func100,Tryz.ntmps100;go_upto_region 1 with fail;refine wl<|ZV (.string s)<|YI (Z8 n) (by rw[<- hn]; kernel_rfl)<|ZM (Zr rfl (n) (1) dT)<|Rf ZW undef undef undef ZW<|wn ?_;simp only[pu];go_upto_region 2 with fail;refine wl<|ZV ZY<|wn ?_;simp only[pu];go_wp2_with fail;go_ret;exact⟨rfl,Below.refl _ _⟩
 ·rw[zQ.out (.inr hc)];clear zQ;go_enter Tryz.func100,Tryz.ntmps100;go_upto_region 1 with fail;refine wl<|ZV (.string s)<|YI (Z8 n) (by rw[<- hn]; kernel_rfl)<|ZM (Zr rfl (n) (1) dF)<|ZB ZY (.string s)<|YI (Z8 n) (by rw[<- hn]; kernel_rfl) <|
   ZM (Zn rfl (n) (20) dT)<|ZV ZW<|wn ?_
  simp only[pu];go_upto_region 2 with fail;refine wl<|ZV ZY<|wn ?_;simp only[pu];go_wp2_with fail;go_ret;exact⟨rfl,Below.refl _ _⟩
 ·obtain⟨hbw,hsl,hsz⟩:=J8 w s (grownCap w s.size 0 5);have CV:=fun(ρ:Operand->Value) (o:Oper) (x:Operand) ho hx=>ng (ρ:=ρ) (o:=o) (x:=x) ho s hx w;generalize grownCap w s.size 0 5=d at *
  generalize Lib.bytesWorld w 5 s=W at *
  obtain⟨q,hq⟩:=ZQ w.heap.size;have HB:=Z9 hbw;rw[hq] at CV hsl;rw[hn] at CV;have HL:=Z9 (Zf s);obtain⟨L,hL⟩:=ZQ (nums s);rw[hL] at HL hsl ⊢;have HS:=Z9 hsl;have uQ:=Z9 (fun i (h:i<L.length)=>mZ h);have mY:=Z9 (@xE L);clear hbw hsl hsz zQ hL;go_enter Tryz.func100,Tryz.ntmps100;go_upto_region 1 with fail;refine wl<|ZV (.string s)<|YI (Z8 n) (by rw[<- hn]; kernel_rfl)<|ZM (Zr rfl (n) (1) dF)<|ZB ZY (.string s)<|YI (Z8 n) (by rw[<- hn]; kernel_rfl) <|
   ZM (Zn rfl (n) (20) dF)<|ZV ZY<|wn ?_
  simp only[pu];go_upto_region 3 with fail;refine wl<|ZV (.string s) ?_;refine O6 (by kernel_rfl) (some 14) rfl (.slice (some ⟨q,0,none⟩) n d) W (CV _ _ _ rfl (by kernel_rfl)) ?_;refine ZB (Z8 n) (Z8 0)<|wn ?_;simp only[pu];clear CV;go_wp2_with fail;go_loopg [16] n (fun gg s16 wx=>∃ i:Nat,s16=Z8 i/\i<=n/\(∀ j,j<i->Px (L.getD j 0)=true)/\wx=W/\n-i=gg)
  case atStart=>exact⟨0,rfl,by omega,fun j hj=>by omega,rfl,by omega⟩
  case round=>
   obtain⟨i,rfl,hi,hyes,rfl,hg⟩:=hrel;by_cases hlt:i<n
   ·have HG:Hid (n-(i+1)=gk-1/\0<gk/\i+1<=n):=Z9 ⟨by omega,by omega,by omega⟩;have hil:i<L.length:=(by rw[HL.out,hn]; omega);obtain⟨b,off,e1,-,hcell⟩:=Oq HS.out hil;simp only[Option.some.injEq,Addr.mk.injEq,and_true] at e1;obtain⟨rfl,rfl⟩:=e1;have hno:=uQ.out i hil;obtain⟨c,hc⟩:=ZQ (L.getD i 0);rw[hc] at hcell hno;have Gm:Hid (Px c=true->∀ j,j<i+1->Px (L.getD j 0)=true):=Z9 fun hb j hj=>by
     by_cases e:j=i
     ·rw[e,hc]; exact hb
     ·exact hyes j (by omega)
    have HNE:Hid (Px c=false->isName L=false):=Z9 hno;have CI:=ny c wr;clear hc hyes hg hno hil;generalize Px c=tb at *
    go_upto_region 4 with fail;refine wl<|ZM (Zr rfl (i) (n) dT)<|wn ?_;simp only[pu];go_upto_region 5 with fail;refine wl<|YI (Z5 q (0+i)) (ni q 0 n d i hlt _ _ _ rfl (by kernel_rfl) (by kernel_rfl))<|ZL rfl ⟨q,0+i,none⟩ (.int .u8 c) (Yz hcell (by kernel_rfl))<|ZV (.int .u8 c)<|wn ?_;simp only[pu];go_upto_region 6 with fail;cases tb
    ·refine wl<|ZV (.int .u8 c)<|YM ZY (fun w'=>wr=w') (CI) (fun V9 VK=>?_);subst VK;refine ZV ZW<|wn ?_;simp only[pu];have HE:=Z9 (HNE.out rfl);clear HNE Gm CI hcell;go_upto_region 7 with fail;refine wl<|ZV ZY<|wn ?_;simp only[pu];go_wp2_with fail;go_ret;rw[HE.out];exact⟨rfl,HB.out⟩
    ·refine wl<|ZV (.int .u8 c)<|YM ZW (fun w'=>wr=w') (CI) (fun V9 VK=>?_);subst VK;refine ZV ZY<|wn ?_;simp only[pu];have HY2:=Z9 (Gm.out rfl);clear HNE Gm CI hcell;go_upto_region 8 with fail;refine wl<|Yn (Z8 (i+1:Nat)) (Zz rfl i 1 (by omega))<|ZV (Z8 (i+1:Nat))<|wn ?_;simp only[pu];go_wp2_with fail;go_roundg (gk-1)
     case measure=>have:=HG.out; omega
     case rel=>exact⟨i+1,rfl,HG.out.2.2,HY2.out,rfl,HG.out.1⟩
   ·have hall:=mY.out (fun j hj=>hyes j (by rw[HL.out,hn] at hj; omega));have HV:Hid (isName L=true):=Z9 (by unfold isName; rw[hall,HL.out,hn,decide_eq_true hc.1,decide_eq_true hc.2]; rfl);clear hyes hall hg uQ mY;go_upto_region 4 with fail;refine wl<|ZM (Zr rfl (i) (n) dF)<|wn ?_;simp only[pu];go_upto_region 9 with fail;refine wl<|ZV ZW<|wn ?_;simp only[pu];go_wp2_with fail;go_ret;rw[HV.out];exact⟨rfl,HB.out⟩
end Go.Proofs.YtfpnnmeblefkkaaGreatDoor
