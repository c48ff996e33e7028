/-
  Texts joined.
-/
import Derived.Test.YtnhlpahoomcgnaaGreatJ10
set_option maxRecDepth 100000
set_option maxHeartbeats 8000000
set_option linter.unusedSimpArgs false
set_option linter.unusedVariables false
namespace Go.Proofs.YtnhlpahoomcgnaaGreat
open Go.RowKit
theorem infoSt:(Tryz.prog.info? 9).map (fun i=>(i.zero,i.size,i.bytes))=some (some (.string ByteArray.empty),1,16):=by kernel_rfl
theorem Hl (b off n c k:Nat)(hk:k<n)(V:World)(ρ:Operand->Value)(o:Oper){x y:Operand}(ho:o.op=.indexAddr 112 x y)(hx:ρ x=.slice (some ⟨b,off,none⟩) n c)(hy:ρ y=Z8 k):(execOp ρ o).run Tryz.prog V=.ok (.value (Z5 b (off+k))) V:=by
 have hs:(sizeOf (Tryz.prog.elem 112)).run Tryz.prog V=.ok 1 V:=by kernel_rfl
 have hlm:(k:Int)<(n:Int):=by omega
 unfold execOp;simp only[ho,hx,hy];go_simp
def strs (S:List ByteArray):List Value:=S.map Value.string
theorem ji {S:List ByteArray}{k:Nat}(h:k<S.length):(strs S)[k]?=some (.string (S.getD k WE)):=by
 unfold strs;rw[List.getElem?_map,List.getElem?_eq_getElem h,List.getD_eq_getElem?_getD,List.getElem?_eq_getElem h];rfl
theorem Ld {w:World}{g t:Nat}{S:List ByteArray}(h:Bx w g (strs S).toArray t){k:Nat}(hk:k<S.length):(Instr.loadAt 9 (Z5 g (0+k))).run Tryz.prog w=.ok (.string (S.getD k WE)) w:=by
 rw[Nat.zero_add];exact Bx.load h (i:=k) (by rw[List.getElem?_toArray]; exact ji hk) (by kernel_rfl)
def UY:ByteArray:=⟨#[97,110,110]⟩
def Tm:ByteArray:=⟨#[98,111,98]⟩
theorem ar6:isName (nums UY)=true:=by decide +kernel
theorem ar7:isName (nums Tm)=true:=by decide +kernel
theorem jV:XZ (nums WE)=true:=MF (OZ (by decide +kernel)) (by decide)
theorem k_w (n:Int)(h:0<=n/\n<=1000):W64 n:=⟨h.1,by omega⟩
end Go.Proofs.YtnhlpahoomcgnaaGreat
namespace Go.Proofs.YtnhlpahoomcgnaaGreat
attribute [local irreducible] wpList wpQuiet
open Go.RowKit
def NS (w:World)(g:Nat)(a:Option Addr)(c:Nat)(L:List Int)(k:Nat):Prop:=∃ N:Nat,N<=k/\Bx w g #[.slice a L.length c,Z8 N] 74/\Cs w a (XL L)/\(L≠[]->∀ x,a=some x->x.block≠g)
theorem NS.below {w w':World}{g c k:Nat}{a:Option Addr}{L:List Int}(h:NS w g a c L k)(hb:Below w.heap.size w w'):NS w' g a c L k:=by
 obtain⟨N,h1,h2,h3,h4⟩:=h;exact⟨N,h1,h2.below h2.lt hb,h3.below hb,h4⟩
theorem O1 {w w':World}{g:Nat}{a:Option Addr}{L:List Int}(h:Cs w a (XL L))(hb:But g w w')(hn:L≠[]->∀ x,a=some x->x.block≠g):Cs w' a (XL L):=by
 cases L with
 | nil=>exact Cs.nil _ _
 | cons x r=>exact h.but hb (hn (by simp))
theorem NS.but {w w':World}{g q c k:Nat}{a:Option Addr}{L:List Int}(h:NS w g a c L k)(hb:But q w w')(hq:g<q)(ha:L≠[]->∀ x,a=some x->x.block<q):NS w' g a c L k:=by
 obtain⟨N,h1,h2,h3,h4⟩:=h;exact⟨N,h1,h2.but hb (by omega),O1 h3 hb (fun h5 x hx=>by have:=ha h5 x hx; omega),h4⟩
theorem NS.mono {w:World}{g c k k2:Nat}{a:Option Addr}{L:List Int}(h:NS w g a c L k)(hk:k<=k2):NS w g a c L k2:=by
 obtain⟨N,h1,h2⟩:=h;exact⟨N,Nat.le_trans h1 hk,h2⟩
theorem NS.lt {w:World}{g c k:Nat}{a:Option Addr}{L:List Int}(h:NS w g a c L k):g<w.heap.size:=by
 obtain⟨N,-,h2,-⟩:=h;exact h2.lt
def NxO (w:World)(g:Nat)(a:Option Addr)(c:Nat)(L:List Int)(k:Nat)(n:Int)(e:Ending)(w':World):Prop:=∃ v:Nat,e=.returned (Z8 v)/\(v:Int)<n/\NS w' g a c L (k+1)/\But g w w'
theorem X4 {w:World}{g c k:Nat}{a:Option Addr}{L:List Int}(h:NS w g a c L k)(hl:L.length<=100000)(hk:k<=100000)(n:Int)(hn:0<n)(hn2:n<=1000000):Calls Tryz.prog 18 #[Z5 g 0,Z8 n] w (NxO w g a c L k n):=by
 obtain⟨N,h1,h2,h3,h4⟩:=h;refine(yR g L a c N n w h2 h3 hl (by omega) hn hn2).mono fun e w' q=>?_;obtain⟨q1,q2,q3⟩:=q;have hp:=EY (L.getD N 0) n hn;refine⟨(pl (L.getD N 0) n).toNat,by rw[q1]; congr 2; omega,by omega,⟨N+1,by omega,q3,O1 h3 q2 h4,h4⟩,q2⟩
def DrO (w:World)(g:Nat)(a:Option Addr)(c:Nat)(L:List Int)(k:Nat)(Q:ByteArray->Prop)(e:Ending)(w':World):Prop:=∃ s,e=.returned (.string s)/\Q s/\NS w' g a c L (k+1)/\But g w w'
def nms:List ByteArray:=[⟨#[97,110,110]⟩,⟨#[98,111,98]⟩,⟨#[101,118,101]⟩,⟨#[122,111,101]⟩,⟨#[110,101,119]⟩,⟨#[120,45,49]⟩]
def kT:List ByteArray:=[⟨#[]⟩,⟨#[]⟩,⟨#[]⟩,⟨#[114,101,110,116]⟩,⟨#[195,169,228,184,150]⟩,⟨#[97,10,98]⟩,⟨#[116,104,97,110,107,115,32,102,111,114,32,97,108,108,32,116,104,101,32,102,105,115,104,44,32,97,110,100,32,102,111,114,32,116,104,101,32,99,104,105,112,115]⟩]
def wY (s:ByteArray):Prop:=isName (nums s)=true/\s.size<=20
def MmQ (s:ByteArray):Prop:=XZ (nums s)=true/\s.size<=60
theorem ag0 (k:Nat)(h:k<6):wY (nms.getD k WE):=by
 rcases (show k=0∨k=1∨k=2∨k=3∨k=4∨k=5 by omega) with rfl | rfl | rfl | rfl | rfl | rfl <;> exact⟨by decide +kernel,by decide⟩
theorem Lc {L:List Int}(h:∀ j,L.getD j 0<128):∀ (n i:Nat),L.length-i=n->i<=L.length->runs L i=some n
 | 0,i,h1,h2=>OZ (by omega)
 | n+1,i,h1,h2=>by
  have hk:runK L i=1:=by unfold runK runN; rw[if_pos (h i)]
  rw[Tc (by omega) (by rw[hk]; decide),hk,Lc h n (i+1) (by omega) (by omega)];rfl
theorem La {s:ByteArray}(h:(nums s).all (fun x=>decide (x<128))=true)(hl:s.size<=64):XZ (nums s)=true:=by
 refine MF (Lc (fun j=>?_) (nums s).length 0 (by omega) (by omega)) (by rw[Zd]; exact hl);by_cases hj:j<(nums s).length
 ·rw[getD_lt _ _ _ hj];have:=List.all_eq_true.1 h _ (List.getElem_mem hj);simpa using this
 ·rw[List.getD_eq_getElem?_getD,List.getElem?_eq_none (by omega)]
  decide
theorem qL:XZ (nums (⟨#[195,169,228,184,150]⟩:ByteArray))=true:=by
 have hl:(nums (⟨#[195,169,228,184,150]⟩:ByteArray)).length=5:=by decide +kernel
 have h0:runK (nums (⟨#[195,169,228,184,150]⟩:ByteArray)) 0=2:=by decide +kernel
 have h2:runK (nums (⟨#[195,169,228,184,150]⟩:ByteArray)) 2=3:=by decide +kernel
 have r:runs (nums (⟨#[195,169,228,184,150]⟩:ByteArray)) 0=some 2:=by
  rw[Tc (by rw[hl]; decide) (by rw[h0]; decide),h0,Tc (by rw[hl]; decide) (by rw[h2]; decide),h2,OZ (by rw[hl]; decide)];rfl
 exact MF r (by decide)
theorem ag1 (k:Nat)(h:k<7):MmQ (kT.getD k WE):=by
 rcases (show k=0∨k=1∨k=2∨k=3∨k=4∨k=5∨k=6 by omega) with rfl | rfl | rfl | rfl | rfl | rfl | rfl
 ·exact⟨jV,by decide⟩
 ·exact⟨jV,by decide⟩
 ·exact⟨jV,by decide⟩
 ·exact⟨La (by decide +kernel) (by decide),by decide⟩
 ·exact⟨qL,by decide⟩
 ·exact⟨La (by decide +kernel) (by decide),by decide⟩
 ·exact⟨La (by decide +kernel) (by decide),by decide⟩
theorem wO (V:World):(Instr.buildSlice 112 6 #[(0,.string ⟨#[97,110,110]⟩),(1,.string ⟨#[98,111,98]⟩),(2,.string ⟨#[101,118,101]⟩),(3,.string ⟨#[122,111,101]⟩),(4,.string ⟨#[110,101,119]⟩),(5,.string ⟨#[120,45,49]⟩)]).run Tryz.prog V=.ok (.slice (some ⟨V.heap.size,0,none⟩) 6 6) (V.alloc (.cells (strs nms).toArray 9)):=by
 obtain⟨i0,hi,hz0,hz1,hz2⟩:=info_parts infoSt;refine run_buildSlice V 112 9 6 _ (strs nms).toArray i0 _ Tryz.underlying112 hi hz0 (by rw[hz1]; omega) (by rw[hz1]; omega) ?_;rw[hz1];kernel_rfl
theorem yS {w:World}{g c k:Nat}{a:Option Addr}{L:List Int}(h:NS w g a c L k)(hl:L.length<=100000)(hk:k<=100000):Calls Tryz.prog 46 #[Z5 g 0] w (DrO w g a c L k wY):=by
 have hbd:=wO w;have hbx:Bx (w.alloc (.cells (strs nms).toArray 9)) w.heap.size (strs nms).toArray 9:=heap_alloc_last w _;have hbw:Below w.heap.size w (w.alloc (.cells (strs nms).toArray 9)):=(Below.refl _ w).alloc (Nat.le_refl _) _;have hgl:=h.lt;have hns:=h.below hbw;generalize w.alloc (.cells (strs nms).toArray 9)=V1 at *
 have CX:=X4 hns hl hk 6 (by decide) (by decide);have Ii:=Z9 ag0;have HLE:Hid (nms.length=6):=Z9 rfl;have HDO:Hid (∀ w' q,q<6->NS w' g a c L (k+1)->But g w w'->DrO w g a c L k wY (.returned (.string (nms.getD q WE))) w'):=Z9 fun w' q hq h1 h2=>⟨_,rfl,Ii.out q hq,h1,h2⟩;generalize nms=S at *
 obtain⟨g1,hg1⟩:=ZR w.heap.size;have HB:=Z9 (But.of_below hbw (Nat.le_of_lt hgl));have HG:Hid (g<g1):=Z9 (by omega);rw[hg1] at hbx hbd;clear hns hbw hgl hg1 h;go_enter Tryz.func46,Tryz.ntmps46;go_upto_region 1 with fail;apply wp_region_lit;refine Zr (by kernel_rfl) (some 3) rfl 112 6 #[(0,.const (.string ⟨#[97,110,110]⟩)),(1,.const (.string ⟨#[98,111,98]⟩)),(2,.const (.string ⟨#[101,118,101]⟩)),(3,.const (.string ⟨#[122,111,101]⟩)),(4,.const (.string ⟨#[110,101,119]⟩)),(5,.const (.string ⟨#[120,45,49]⟩))] rfl #[(0,.string ⟨#[97,110,110]⟩),(1,.string ⟨#[98,111,98]⟩),(2,.string ⟨#[101,118,101]⟩),(3,.string ⟨#[122,111,101]⟩),(4,.string ⟨#[110,101,119]⟩),(5,.string ⟨#[120,45,49]⟩)] (by kernel_rfl) (.slice (some ⟨g1,0,none⟩) 6 6) _ hbd ?_;refine ZV (Z5 g 0)<|Yi (fun v w'=>∃ q:Nat,v=Z8 q/\(q:Int)<6/\NS w' g a c L (k+1)/\But g V1 w') (CX.mono fun e w' z=>by obtain⟨q,h1,h2⟩:=z; exact⟨_,h1,q,rfl,h2⟩) (fun v5 V2 hq=>?_);obtain⟨q,rfl,hq1,Ur,BJ⟩:=hq;have hq2:q<6:=by omega
 have hbx2:=hbx.but BJ (by have:=HG.out; omega);refine YG (Z5 g1 (0+q)) (Hl g1 0 6 6 q hq2 _ _ _ rfl (by kernel_rfl) (by kernel_rfl))<|ZL rfl ⟨g1,0+q,none⟩ (.string (S.getD q WE)) (Ld hbx2 (k:=q) (by rw[HLE.out]; exact hq2))<|ZV (.string (S.getD q WE))<|wn ?_;simp only[pu];have HE:=Z9 (HDO.out V2 q hq2 Ur (HB.out.trans BJ));clear HDO Ur BJ hbx2 hbx CX hbd;go_wp2_with fail;go_ret;exact HE.out
theorem wM (V:World):(Instr.buildSlice 112 7 #[(0,.string ⟨#[]⟩),(1,.string ⟨#[]⟩),(2,.string ⟨#[]⟩),(3,.string ⟨#[114,101,110,116]⟩),(4,.string ⟨#[195,169,228,184,150]⟩),(5,.string ⟨#[97,10,98]⟩),(6,.string ⟨#[116,104,97,110,107,115,32,102,111,114,32,97,108,108,32,116,104,101,32,102,105,115,104,44,32,97,110,100,32,102,111,114,32,116,104,101,32,99,104,105,112,115]⟩)]).run Tryz.prog V=.ok (.slice (some ⟨V.heap.size,0,none⟩) 7 7) (V.alloc (.cells (strs kT).toArray 9)):=by
 obtain⟨i0,hi,hz0,hz1,hz2⟩:=info_parts infoSt;refine run_buildSlice V 112 9 7 _ (strs kT).toArray i0 _ Tryz.underlying112 hi hz0 (by rw[hz1]; omega) (by rw[hz1]; omega) ?_;rw[hz1];kernel_rfl
theorem jr {w:World}{g c k:Nat}{a:Option Addr}{L:List Int}(h:NS w g a c L k)(hl:L.length<=100000)(hk:k<=100000):Calls Tryz.prog 47 #[Z5 g 0] w (DrO w g a c L k MmQ):=by
 have hbd:=wM w;have hbx:Bx (w.alloc (.cells (strs kT).toArray 9)) w.heap.size (strs kT).toArray 9:=heap_alloc_last w _;have hbw:Below w.heap.size w (w.alloc (.cells (strs kT).toArray 9)):=(Below.refl _ w).alloc (Nat.le_refl _) _;have hgl:=h.lt;have hns:=h.below hbw;generalize w.alloc (.cells (strs kT).toArray 9)=V1 at *
 have CX:=X4 hns hl hk 7 (by decide) (by decide);have Ii:=Z9 ag1;have HLE:Hid (kT.length=7):=Z9 rfl;have HDO:Hid (∀ w' q,q<7->NS w' g a c L (k+1)->But g w w'->DrO w g a c L k MmQ (.returned (.string (kT.getD q WE))) w'):=Z9 fun w' q hq h1 h2=>⟨_,rfl,Ii.out q hq,h1,h2⟩;generalize kT=S at *
 obtain⟨g1,hg1⟩:=ZR w.heap.size;have HB:=Z9 (But.of_below hbw (Nat.le_of_lt hgl));have HG:Hid (g<g1):=Z9 (by omega);rw[hg1] at hbx hbd;clear hns hbw hgl hg1 h;go_enter Tryz.func47,Tryz.ntmps47;go_upto_region 1 with fail;apply wp_region_lit;refine Zr (by kernel_rfl) (some 3) rfl 112 7 #[(0,.const (.string ⟨#[]⟩)),(1,.const (.string ⟨#[]⟩)),(2,.const (.string ⟨#[]⟩)),(3,.const (.string ⟨#[114,101,110,116]⟩)),(4,.const (.string ⟨#[195,169,228,184,150]⟩)),(5,.const (.string ⟨#[97,10,98]⟩)),(6,.const (.string ⟨#[116,104,97,110,107,115,32,102,111,114,32,97,108,108,32,116,104,101,32,102,105,115,104,44,32,97,110,100,32,102,111,114,32,116,104,101,32,99,104,105,112,115]⟩))] rfl #[(0,.string ⟨#[]⟩),(1,.string ⟨#[]⟩),(2,.string ⟨#[]⟩),(3,.string ⟨#[114,101,110,116]⟩),(4,.string ⟨#[195,169,228,184,150]⟩),(5,.string ⟨#[97,10,98]⟩),(6,.string ⟨#[116,104,97,110,107,115,32,102,111,114,32,97,108,108,32,116,104,101,32,102,105,115,104,44,32,97,110,100,32,102,111,114,32,116,104,101,32,99,104,105,112,115]⟩)] (by kernel_rfl) (.slice (some ⟨g1,0,none⟩) 7 7) _ hbd ?_;refine ZV (Z5 g 0)<|Yi (fun v w'=>∃ q:Nat,v=Z8 q/\(q:Int)<7/\NS w' g a c L (k+1)/\But g V1 w') (CX.mono fun e w' z=>by obtain⟨q,h1,h2⟩:=z; exact⟨_,h1,q,rfl,h2⟩) (fun v5 V2 hq=>?_);obtain⟨q,rfl,hq1,Ur,BJ⟩:=hq;have hq2:q<7:=by omega
 have hbx2:=hbx.but BJ (by have:=HG.out; omega);refine YG (Z5 g1 (0+q)) (Hl g1 0 7 7 q hq2 _ _ _ rfl (by kernel_rfl) (by kernel_rfl))<|ZL rfl ⟨g1,0+q,none⟩ (.string (S.getD q WE)) (Ld hbx2 (k:=q) (by rw[HLE.out]; exact hq2))<|ZV (.string (S.getD q WE))<|wn ?_;simp only[pu];have HE:=Z9 (HDO.out V2 q hq2 Ur (HB.out.trans BJ));clear HDO Ur BJ hbx2 hbx CX hbd;go_wp2_with fail;go_ret;exact HE.out
abbrev Ac:=ByteArray×Int×Int
def acl (x:Ac):List Value:=[.string x.1,Z4 x.2.1,Z4 x.2.2]
abbrev Zq (x:Ac):Array Value:=#[.string x.1,Z4 x.2.1,Z4 x.2.2]
def acc (A:List Ac):List Value:=A.flatMap acl
def WA:Ac:=(WE,0,0)
def aQ (x:Ac):Prop:=wY x.1/\W64 x.2.1/\W64 x.2.2
theorem Si:(Tryz.prog.info? 60).map (fun i=>(i.zero,i.size,i.bytes))=some (some (.agg #[.string ByteArray.empty,Z4 0,Z4 0]),3,32):=by kernel_rfl
theorem VW:∀ A:List Ac,(acc A).length=A.length*3
  | []=>rfl
  | x::r=>by
    have:=VW r;show(acl x++acc r).length=_;rw[List.length_append,this,List.length_cons];show 3+_=_;omega
def aca (A:List Ac)(j:Nat):Ac:=A.getD j (WE,0,0)
theorem UK {A:List Ac}{j:Nat}(h:j<A.length):aca A j∈A:=by
  have:aca A j=A[j]:=getD_lt A j _ h;rw[this]; exact List.getElem_mem h
theorem qQ:∀ (A:List Ac) (k:Nat),k<A.length->(acc A)[k*3]?=some (.string (aca A k).1)/\(acc A)[k*3+1]?=some (Z4 (aca A k).2.1)/\(acc A)[k*3+2]?=some (Z4 (aca A k).2.2)
  | [],k,h=>absurd h (by simp)
  | x::r,0,h=>⟨rfl,rfl,rfl⟩
  | x::r,k+1,h=>by
    have:=qQ r k (by simpa using h);have e:∀ q,(acc (x::r))[q+3]?=(acc r)[q]?:=fun q=>rfl;rw[show(k+1)*3=k*3+3 by omega,show k*3+3+1=(k*3+1)+3 by omega,show k*3+3+2=(k*3+2)+3 by omega,e,e,e];exact this
theorem Yv {w:World}{a:Option Addr}{A:List Ac}(h:Cs w a (acc A)){k:Nat}(hk:k<A.length):∃ b off,a=some ⟨b,off,none⟩/\b<w.heap.size/\w.rangeAt b (off+k*3) (acl (aca A k)):=by
  obtain⟨h0,h1,h2⟩:=qQ A k hk;obtain⟨b,off,rfl,hb,c0⟩:=h _ _ h0;obtain⟨b1,o1,e1,-,c1⟩:=h _ _ h1;obtain⟨b2,o2,e2,-,c2⟩:=h _ _ h2;simp only[Option.some.injEq,Addr.mk.injEq,and_true] at e1 e2;obtain⟨rfl,rfl⟩:=e1;obtain⟨rfl,rfl⟩:=e2;refine⟨b,off,rfl,hb,fun j v hj=>?_⟩;have hj2:j<3:=by
    have:=(List.getElem?_eq_some_iff.1 hj).1;simpa [acl] using this
  rcases (show j=0∨j=1∨j=2 by omega) with rfl | rfl | rfl
  · simp[acl] at hj; rw[<- hj]; exact c0
  · simp[acl] at hj; rw[<- hj,Nat.add_assoc]; exact c1
  · simp[acl] at hj; rw[<- hj,Nat.add_assoc]; exact c2
theorem XM {w:World}{b o:Nat}{x:Ac}(h:w.rangeAt b o (acl x)):(Instr.loadAt 60 (Z5 b o)).run Tryz.prog w=.ok (.agg (Zq x)) w:=
  run_loadAt_mid w b o 60 (acl x) _ h Tryz.underlying60 rfl (by kernel_rfl)
theorem Za {w:World}{g k:Nat}{x:Ac}(h:Bx w g (Zq x) k):(Instr.loadAt 60 (Z5 g 0)).run Tryz.prog w=.ok (.agg (Zq x)) w:=
  XM fun j v hv=>by
    rw[cell_of_row w g _ _ _ (0,0) h];simpa [acl] using hv
theorem XI {w:World}{g:Nat}{x y:Ac}(h:Bx w g (Zq x) 60):(Instr.storeAt 60 (Z5 g 0) (.agg (Zq y))).run Tryz.prog w=.ok () (w.setRow g (Zq y))/\Bx (w.setRow g (Zq y)) g (Zq y) 60:=
  ⟨Ya h rfl (by simp[Value.oneCell']) (by kernel_rfl),h.set⟩
theorem YC (b off n c k:Nat)(hk:k<n)(V:World)(ρ:Operand->Value)(o:Oper){x y:Operand}(ho:o.op=.indexAddr 26 x y)(hx:ρ x=.slice (some ⟨b,off,none⟩) n c)(hy:ρ y=Z8 k):(execOp ρ o).run Tryz.prog V=.ok (.value (Z5 b (off+k*3))) V:=by
  have hs:(sizeOf (Tryz.prog.elem 26)).run Tryz.prog V=.ok 3 V:=by kernel_rfl
  have hlm:(k:Int)<(n:Int):=by omega
  unfold execOp;simp only[ho,hx,hy];go_simp
theorem Tn (x:Ac)(V:World):(Instr.buildSlice 26 1 #[(0,.agg (Zq x))]).run Tryz.prog V=.ok (.slice (some ⟨V.heap.size,0,none⟩) 1 1) (V.alloc (.cells (Zq x) 60)):=by
  obtain⟨i0,hi,hz0,hz1,hz2⟩:=info_parts Si;refine run_buildSlice V 26 60 1 _ (Zq x) i0 _ Tryz.underlying26 hi hz0 (by rw[hz1]; omega) (by rw[hz1]; omega) ?_;rw[hz1];kernel_rfl
def Zi (w:World)(B:Nat)(v:Value)(A:List Ac):Prop:=w.ownsRow B 60 3 v A.length (acc A)
theorem Zi.cs {w:World}{B:Nat}{v:Value}{A:List Ac}(h:Zi w B v A):∃ a c,v=.slice a A.length c/\Cs w a (acc A)/\A.length<=c:=Yq h
theorem yQ {w:World}{B:Nat}{v:Value}{A:List Ac}(h:Zi w B v A)(hB:B<=w.heap.size)(x:Ac)(hl:A.length<=100000) :
    ∃ a c V2,(Builtin.append_ #[26,26] 26 #[v,.slice (some ⟨w.heap.size,0,none⟩) 1 1]).run Tryz.prog (w.alloc (.cells (Zq x) 60))=.ok (.slice a (A++[x]).length c) V2/\Zi V2 B (.slice a (A++[x]).length c) (A++[x])/\Below B w V2:=by
  have hb:Below w.heap.size w (w.alloc (.cells (Zq x) 60)):=(Below.refl _ w).alloc (Nat.le_refl _) _;have hO:=own_below h hb;have hc:Cs (w.alloc (.cells (Zq x) 60)) (some ⟨w.heap.size,0,none⟩) (acl x):=Cs.block (t:=60) (fr:=(0,0)) (heap_alloc_last w _);obtain⟨v2,V2,hr,hO2,hb2,-⟩:=Og (P:=Tryz.prog) (t:=26) (m:=1) Tryz.underlying26 Si (by kernel_rfl) (by omega) (by omega) hO (some ⟨w.heap.size,0,none⟩) 1 (acl x) hc rfl (fun u hu=>by
    simp only[acl,List.mem_cons,List.not_mem_nil,or_false] at hu;rcases hu with rfl | rfl | rfl <;> rfl) (by simp; omega) hl (by omega)
  have e:acc (A++[x])=acc A++acl x:=by unfold acc; rw[List.flatMap_append]; simp
  have hO3:Zi V2 B v2 (A++[x]):=by unfold Zi; rw[e,List.length_append]; exact hO2
  obtain⟨a,c,rfl,-,-⟩:=hO3.cs;exact⟨a,c,V2,hr,hO3,(hb.mono hB).trans hb2⟩
def UR (S:List Int):List Value:=S.map (Value.int .u64)
theorem yZ:(Tryz.prog.info? 27).map (fun i=>(i.zero,i.size,i.bytes))=some (some (Z4 0),1,8):=by kernel_rfl
theorem EW {w:World}{g t:Nat}{S:List Int}(h:Bx w g (UR S).toArray t){k:Nat}(hk:k<S.length):(Instr.loadAt 27 (Z5 g (0+k))).run Tryz.prog w=.ok (Z4 (S.getD k 0)) w:=by
  rw[Nat.zero_add];refine Bx.load h (i:=k) ?_ (by kernel_rfl);rw[List.getElem?_toArray];unfold UR;rw[List.getElem?_map,List.getElem?_eq_getElem hk,List.getD_eq_getElem?_getD,List.getElem?_eq_getElem hk];rfl
theorem yP (b off n c k:Nat)(hk:k<n)(V:World)(ρ:Operand->Value)(o:Oper){x y:Operand}(ho:o.op=.indexAddr 113 x y)(hx:ρ x=.slice (some ⟨b,off,none⟩) n c)(hy:ρ y=Z8 k):(execOp ρ o).run Tryz.prog V=.ok (.value (Z5 b (off+k))) V:=by
  have hs:(sizeOf (Tryz.prog.elem 113)).run Tryz.prog V=.ok 1 V:=by kernel_rfl
  have hlm:(k:Int)<(n:Int):=by omega
  unfold execOp;simp only[ho,hx,hy];go_simp
def Hq:List Int:=[100000,5000,700,0,1099511627776]
def Oa:List Int:=[5,18446744073709551615,18446744073709551614]
theorem aw1 (k:Nat):W64 (Hq.getD k 0):=by
  match k with
  | 0 | 1 | 2 | 3 | 4=>exact⟨by decide,by decide⟩
  | k+5=>exact⟨by simp[Hq],by simp[Hq]⟩
theorem aw2 (k:Nat):W64 (Oa.getD k 0):=by
  match k with
  | 0 | 1 | 2=>exact⟨by decide,by decide⟩
  | k+3=>exact⟨by simp[Oa],by simp[Oa]⟩
def nm4:List ByteArray:=[⟨#[97,110,110]⟩,⟨#[98,111,98]⟩,⟨#[101,118,101]⟩,⟨#[122,111,101]⟩]
theorem af8 (k:Nat)(h:k<4):wY (nm4.getD k WE):=by
  rcases (show k=0∨k=1∨k=2∨k=3 by omega) with rfl | rfl | rfl | rfl <;> exact⟨by decide +kernel,by decide⟩
theorem wS (V:World):(Instr.buildSlice 112 4 #[(0,.string ⟨#[97,110,110]⟩),(1,.string ⟨#[98,111,98]⟩),(2,.string ⟨#[101,118,101]⟩),(3,.string ⟨#[122,111,101]⟩)]).run Tryz.prog V=.ok (.slice (some ⟨V.heap.size,0,none⟩) 4 4) (V.alloc (.cells (strs nm4).toArray 9)):=by
  obtain⟨i0,hi,hz0,hz1,hz2⟩:=info_parts infoSt;refine run_buildSlice V 112 9 4 _ (strs nm4).toArray i0 _ Tryz.underlying112 hi hz0 (by rw[hz1]; omega) (by rw[hz1]; omega) ?_;rw[hz1];kernel_rfl
theorem wQ (V:World):(Instr.buildSlice 113 5 #[(0,Z4 100000),(1,Z4 5000),(2,Z4 700),(3,Z4 0),(4,Z4 1099511627776)]).run Tryz.prog V=.ok (.slice (some ⟨V.heap.size,0,none⟩) 5 5) (V.alloc (.cells (UR Hq).toArray 27)):=by
  obtain⟨i0,hi,hz0,hz1,hz2⟩:=info_parts yZ;refine run_buildSlice V 113 27 5 _ (UR Hq).toArray i0 _ Tryz.underlying113 hi hz0 (by rw[hz1]; omega) (by rw[hz1]; omega) ?_;rw[hz1];kernel_rfl
theorem wP (V:World):(Instr.buildSlice 113 3 #[(0,Z4 5),(1,Z4 18446744073709551615),(2,Z4 18446744073709551614)]).run Tryz.prog V=.ok (.slice (some ⟨V.heap.size,0,none⟩) 3 3) (V.alloc (.cells (UR Oa).toArray 27)):=by
  obtain⟨i0,hi,hz0,hz1,hz2⟩:=info_parts yZ;refine run_buildSlice V 113 27 3 _ (UR Oa).toArray i0 _ Tryz.underlying113 hi hz0 (by rw[hz1]; omega) (by rw[hz1]; omega) ?_;rw[hz1];kernel_rfl
theorem NS.ab {w:World}{g c k:Nat}{a:Option Addr}{L:List Int}(h:NS w g a c L k)(hL:L≠[])(x:Addr)(hx:a=some x):x.block<w.heap.size:=by
  obtain⟨N,-,-,h3,-⟩:=h;obtain⟨b,off,e,hb,-⟩:=qP h3 (k:=0) (List.length_pos_iff.2 hL);rw[hx] at e;cases e;exact hb
theorem NS.af9 {w w' W:World}{g q c k:Nat}{a:Option Addr}{L:List Int}(h:NS w g a c L k)(hb:But q w w')(hq:W.heap.size<=q)(hg:g<W.heap.size)(ha:L≠[]->∀ x,a=some x->x.block<W.heap.size):NS w' g a c L k:=
  h.but hb (by omega) (fun h1 x hx=>Nat.lt_of_lt_of_le (ha h1 x hx) hq)
structure KC (W:World)(g:Nat)(a:Option Addr)(c:Nat)(L:List Int)(k i:Nat)(b0 b2 b4 b6 b7 b8 b9 b10 b11:Bool)(x12 x14 x16 x18 x19 x20 x21 x5:Value)(V:World):Prop where
  o11:b11=true->b10=true
  o12:b11=true->b9=true
  bt:But g W V
  ns:NS V g a c L (k+1)
  n0:b6=false->NS V g a c L k
  f12:b0=true->∃ q,x12=.slice (some ⟨q,0,none⟩) 4 4/\W.heap.size<=q/\Bx V q (strs nm4).toArray 9
  f14:b2=true->∃ q,x14=Z5 q (0+i)/\W.heap.size<=q/\Bx V q (strs nm4).toArray 9
  f16:b4=true->∃ q,x16=.slice (some ⟨q,0,none⟩) 5 5/\W.heap.size<=q/\Bx V q (UR Hq).toArray 27
  f18:b6=true->∃ v:Nat,v<5/\x18=Z8 v
  f19:b7=true->∃ q v,v<5/\x19=Z5 q (0+v)/\W.heap.size<=q/\Bx V q (UR Hq).toArray 27
  f20:b8=true->∃ m,W64 m/\x20=Z4 m
  f21:b9=true->∃ m,W64 m/\x21=.agg (Zq (nm4.getD i WE,m,0))
  f5:b10=true->b11=false->∃ q,x5=Z5 q 0/\W.heap.size<=q/\Bx V q (Zq WA) 60
  d5:b11=true->∃ q m,W64 m/\x5=Z5 q 0/\W.heap.size<=q/\Bx V q (Zq (nm4.getD i WE,m,0)) 60
section
variable {W : World} {g c k i : Nat} {a : Option Addr} {L : List Int} {b0 b2 b4 b6 b7 b8 b9 b10 b11 : Bool} {x12 x14 x16 x18 x19 x20 x21 x5 : Value} {V : World}
theorem KC.to (h:KC W g a c L k i b0 b2 b4 b6 b7 b8 b9 b10 b11 x12 x14 x16 x18 x19 x20 x21 x5 V){V2:World}(hbt:But g V V2)(hns:NS V2 g a c L (k+1))(hn0:b6=false->NS V2 g a c L k)(hg:g<W.heap.size):KC W g a c L k i b0 b2 b4 b6 b7 b8 b9 b10 b11 x12 x14 x16 x18 x19 x20 x21 x5 V2:=
  ⟨h.o11,h.o12,h.bt.trans hbt,hns,hn0,
   fun e=>by obtain⟨q,h1,h2,h3⟩:=h.f12 e; exact⟨q,h1,h2,h3.but hbt (by omega)⟩,
   fun e=>by obtain⟨q,h1,h2,h3⟩:=h.f14 e; exact⟨q,h1,h2,h3.but hbt (by omega)⟩,
   fun e=>by obtain⟨q,h1,h2,h3⟩:=h.f16 e; exact⟨q,h1,h2,h3.but hbt (by omega)⟩,
   h.f18,
   fun e=>by obtain⟨q,v,h0,h1,h2,h3⟩:=h.f19 e; exact⟨q,v,h0,h1,h2,h3.but hbt (by omega)⟩,
   h.f20,h.f21,
   fun e e2=>by obtain⟨q,h1,h2,h3⟩:=h.f5 e e2; exact⟨q,h1,h2,h3.but hbt (by omega)⟩,
   fun e=>by obtain⟨q,m,h0,h1,h2,h3⟩:=h.d5 e; exact⟨q,m,h0,h1,h2,h3.but hbt (by omega)⟩⟩
theorem KC.al (h:KC W g a c L k i b0 b2 b4 b6 b7 b8 b9 b10 b11 x12 x14 x16 x18 x19 x20 x21 x5 V)(hg:g<W.heap.size)(o:Obj):KC W g a c L k i b0 b2 b4 b6 b7 b8 b9 b10 b11 x12 x14 x16 x18 x19 x20 x21 x5 (V.alloc o):=by
  have hb:Below V.heap.size V (V.alloc o):=(Below.refl _ V).alloc (Nat.le_refl _) _;exact h.to (But.of_below hb (Nat.le_of_lt h.ns.lt)) (h.ns.below hb) (fun e=>(h.n0 e).below hb) hg
theorem KC.s6 (h:KC W g a c L k i b0 b2 b4 false b7 b8 b9 b10 b11 x12 x14 x16 x18 x19 x20 x21 x5 V){V2:World}{v:Nat}(hv:(v:Int)<5)(hns:NS V2 g a c L (k+1))(hbt:But g V V2)(hg:g<W.heap.size):KC W g a c L k i b0 b2 b4 true b7 b8 b9 b10 b11 x12 x14 x16 (Z8 v) x19 x20 x21 x5 V2:=by
  exact⟨h.o11,h.o12,h.bt.trans hbt,hns,(fun e=>nomatch e),
   fun e=>by obtain⟨q,h1,h2,h3⟩:=h.f12 e; exact⟨q,h1,h2,h3.but hbt (by omega)⟩,
   fun e=>by obtain⟨q,h1,h2,h3⟩:=h.f14 e; exact⟨q,h1,h2,h3.but hbt (by omega)⟩,
   fun e=>by obtain⟨q,h1,h2,h3⟩:=h.f16 e; exact⟨q,h1,h2,h3.but hbt (by omega)⟩,
   fun _=>⟨v,by omega,rfl⟩,
   fun e=>by obtain⟨q,v,h0,h1,h2,h3⟩:=h.f19 e; exact⟨q,v,h0,h1,h2,h3.but hbt (by omega)⟩,
   h.f20,h.f21,
   fun e e2=>by obtain⟨q,h1,h2,h3⟩:=h.f5 e e2; exact⟨q,h1,h2,h3.but hbt (by omega)⟩,
   fun e=>by obtain⟨q,m,h0,h1,h2,h3⟩:=h.d5 e; exact⟨q,m,h0,h1,h2,h3.but hbt (by omega)⟩⟩
end
theorem KC.s11 {W:World}{g c k i:Nat}{a:Option Addr}{L:List Int}{b0 b2 b4 b6 b7 b8:Bool}{x12 x14 x16 x18 x19 x20 x21:Value}{V:World}{q:Nat}{m:Int}(h:KC W g a c L k i b0 b2 b4 b6 b7 b8 true true false x12 x14 x16 x18 x19 x20 x21 (Z5 q 0) V)(hq1:W.heap.size<=q)(hq2:Bx V q (Zq WA) 60)(hm:W64 m)(hg:g<W.heap.size)(ha:L≠[]->∀ x,a=some x->x.block<W.heap.size)(hZ:Bx (V.setRow q (Zq (nm4.getD i WE,m,0))) q (Zq (nm4.getD i WE,m,0)) 60):KC W g a c L k i b0 b2 b4 b6 b7 b8 true true true x12 x14 x16 x18 x19 x20 x21 (Z5 q 0) (V.setRow q (Zq (nm4.getD i WE,m,0))):=by
  have hbt:But q V (V.setRow q (Zq (nm4.getD i WE,m,0))):=But.setRow V _;have hne:∀ {q2:Nat} {cs:Array Value} {ty:Nat},Bx V q2 cs ty->ty≠60->q2≠q:=fun hb hty e=>by
    subst e;unfold Bx at hb hq2;rw[hb] at hq2;simp only[Option.some.injEq,Obj.cells.injEq] at hq2;exact hty hq2.2.1
  exact⟨fun _=>rfl,fun _=>rfl,⟨ZQ h.bt.1 (by omega) _,fun k2 hk hn=>(hbt.2 k2 (Nat.lt_of_lt_of_le hk h.bt.1.size) (by omega)).trans (h.bt.2 k2 hk hn)⟩,h.ns.af9 hbt hq1 hg ha,fun e=>(h.n0 e).af9 hbt hq1 hg ha,
   fun e=>by obtain⟨q2,h1,h2,h3⟩:=h.f12 e; exact⟨q2,h1,h2,h3.but hbt (hne h3 (by decide))⟩,
   fun e=>by obtain⟨q2,h1,h2,h3⟩:=h.f14 e; exact⟨q2,h1,h2,h3.but hbt (hne h3 (by decide))⟩,
   fun e=>by obtain⟨q2,h1,h2,h3⟩:=h.f16 e; exact⟨q2,h1,h2,h3.but hbt (hne h3 (by decide))⟩,
   h.f18,
   fun e=>by obtain⟨q2,v,h0,h1,h2,h3⟩:=h.f19 e; exact⟨q2,v,h0,h1,h2,h3.but hbt (hne h3 (by decide))⟩,
   h.f20,h.f21,(fun _ e=>nomatch e),fun _=>⟨q,m,hm,rfl,hq1,hZ⟩⟩
theorem sub_one {ρ:Operand->Value}{o:Oper}{x:Operand}(ho:o.op=.binOp .sub 3 x (.const (Z8 1)) 3)(m:Nat)(hm:m<=1000000)(hx:ρ x=Z8 m)(w:World)(hρ:ρ (.const (Z8 1))=Z8 1:=by rfl):(execOp ρ o).run Tryz.prog w=.ok (.value (Z8 ((m:Int)-1))) w:=by
  have hw:IntKind.i64.wrap ((m:Int)-1)=(m:Int)-1:=by rw[IntKind.wrap_i64]; omega
  unfold execOp;simp only[ho,hx,hρ];go_simp
theorem qO {w w':World}{g B:Nat}{v:Value}{A:List Ac}(h:Zi w B v A)(hb:But g w w')(hg:g<B)(hs:B<=w.heap.size):Zi w' B v A:=Zt h hb hg
theorem But.more2 {g:Nat}{a b c:World}(h:But g a b)(hb:Below a.heap.size b c)(hg:g<a.heap.size):But g a c:=h.more hb (Nat.le_of_lt hg)
theorem Hr {w V V2:World}{g c k:Nat}{a:Option Addr}{L:List Int}(h:NS V g a c L k)(hb:Below w.heap.size V V2)(hg:g<w.heap.size)(ha:L≠[]->∀ x,a=some x->x.block<w.heap.size):NS V2 g a c L k:=by
  obtain⟨N,h1,h2,h3,h4⟩:=h;refine⟨N,h1,h2.below hg hb,?_,h4⟩;cases L with
  | nil=>exact Cs.nil _ _
  | cons x r=>
    intro j v hj;obtain⟨b,off,rfl,hb2,hc⟩:=h3 j v hj;have hlt:=ha (by simp) _ rfl;exact⟨b,off,rfl,Nat.lt_of_lt_of_le hb2 hb.size,(hb.cell (p:=⟨b,off+j,none⟩) hlt).trans hc⟩
theorem Ob {W V V2:World}{g q:Nat}(h:But g W V)(hb:But q V V2)(hq:W.heap.size<=q)(hg:g<=q:=by omega):But g W V2:=⟨h.1.trans (hb.1.mono hg),fun k hk hn=>(hb.2 k (Nat.lt_of_lt_of_le hk h.1.size) (by omega)).trans (h.2 k hk hn)⟩
theorem yO {w:World}{B k d:Nat}{p:Option Addr}{A:List Ac}(h:Zi w B (.slice p k d) A):A.length=k:=by
  obtain⟨a,c,e,-,-⟩:=h.cs;simp only[Value.slice.injEq] at e;exact e.2.1.symm
def AcO (w:World)(g:Nat)(a:Option Addr)(c:Nat)(L:List Int)(k:Nat)(e:Ending)(w':World):Prop:=∃ ra rc A,e=.returned (.slice ra (List.length A) rc)/\Zi w' w.heap.size (.slice ra A.length rc) A/\(∀ x,x∈A->aQ x)/\A.length<=4/\NS w' g a c L (k+13)/\But g w w'
theorem EU {w:World}{g c k:Nat}{a:Option Addr}{L:List Int}(h:NS w g a c L k)(hl:L.length<=100000)(hk:k<=10000):Calls Tryz.prog 45 #[Z5 g 0] w (AcO w g a c L k):=by
  have HL:=Z9 hl;have HKK:=Z9 hk;have HG:=Z9 h.lt;have HAB:=Z9 (fun h1 x hx=>h.ab h1 x hx);have CX:=X4 h hl (by omega) 4 (by decide) (by decide);have HQ4:=Z9 af8;clear h hl hk;go_enter Tryz.func45,Tryz.ntmps45;go_upto_region 1 with fail;refine wl<|ZV (.slice none 0 0)<|wn ?_;simp only[pu];go_upto_region 2 with fail;refine wl<|ZV (Z5 g 0)<|Yi (fun v w'=>∃ q:Nat,v=Z8 q/\(q:Int)<4/\NS w' g a c L (k+1)/\But g w w') ((CX).mono fun e w' z=>by obtain⟨q,h1,h2⟩:=z; exact⟨_,h1,q,rfl,h2⟩) (fun vv V1 hq=>?_);obtain⟨v1,rfl,hv1,qN,aG⟩:=hq;refine ZV (Z8 v1)<|wn ?_;simp only[pu];have jq:=Z9 qN;have HB1:=Z9 aG;clear qN aG CX;have aO2:v1<4:=by omega
  go_wp2_with fail;go_loopg [3,4] (v1+1) (fun gg s3 s4 wx=>∃ (z:Int) (p3:Option Addr) (k3 d3:Nat) (A:List Ac),s3=.slice p3 k3 d3/\s4=Z8 z/\-1<=z/\z<=3/\(A.length:Int)+z<=3/\Hid (Zi wx w.heap.size (.slice p3 k3 d3) A)/\Hid (∀ x,x∈A->aQ x)/\Hid (NS wx g a c L (k+1+3*A.length))/\Hid (But g w wx)/\((gg:Nat):Int)=z+1)
  case atStart=>exact⟨v1,none,0,0,[],rfl,rfl,by omega,by omega,by simp only[List.length_nil]; omega,Z9 (World.ownsRow_nil _ _ _ _),Z9 (fun x hx=>by cases hx),jq,HB1,by omega⟩
  case round=>
    obtain⟨z,p3,k3,d3,A,rfl,rfl,hz1,hz2,hal,HR,HQ,HN,HB,hg⟩:=hrel;clear jq HB1;by_cases hlt:0<=z
    · skip
      obtain⟨i,rfl⟩:∃ i:Nat,z=i:=⟨z.toNat,by omega⟩;have hi4:i<4:=(by omega);have HG2:Hid (gk=i+1/\i+A.length<=3):=Z9 ⟨by omega,by omega⟩;obtain⟨kk,hkk⟩:=ZR (k+1+3*A.length);have Ju:Hid (kk=k+1+3*A.length/\kk<=20000):=Z9 ⟨hkk.symm,by have:=HKK.out; omega⟩;rw[hkk] at HN;have Xn:Hid (g<wr.heap.size):=Z9 HN.out.lt;have Ho:Hid (w.heap.size<=wr.heap.size):=Z9 HB.out.1.size;have aw3:=Z9 (fun h1 x hx=>HN.out.ab h1 x hx);have CX5:∀ V,NS V g a c L kk->Calls Tryz.prog 18 #[Z5 g 0,Z8 5] V (NxO V g a c L kk 5):=fun V hV=>X4 hV HL.out (by have:=Ju.out.2; omega) 5 (by decide) (by decide);have h0:KC wr g a c L kk i false false false false false false false false false u12 u14 u16 u18 u19 u20 u21 u5 wr.drew:=⟨(fun h=>nomatch h),(fun h=>nomatch h),⟨(Below.refl _ _).drew,fun _ _ _=>rfl⟩,(NS.mono (w:=wr.drew) HN.out (Nat.le_succ _)),fun _=>HN.out,(fun h=>nomatch h),(fun h=>nomatch h),(fun h=>nomatch h),(fun h=>nomatch h),(fun h=>nomatch h),(fun h=>nomatch h),(fun h=>nomatch h),(fun h=>nomatch h),(fun h=>nomatch h)⟩;clear hkk hz1 hz2 hal hg HN;go_upto_region 3 with fail;refine wl<|ZV (Z8 i)<|ZJ (UQ rfl (i) (0) dT)<|wn ?_;simp only[pu];go_upto_region 5 with fail;refine Zw (fun listed ZG V=>∃ b0 b1 b2 b3 b4 b5 b6 b7 b8 b9 b10 b11:Bool,∃ x12 x14 x16 x18 x19 x20 x21 x5:Value,listed=#[b0,b1,b2,b3,b4,b5,b6,b7,b8,b9,b10,b11]/\ZG={ tmps:=#[Z5 g 0,undef,.slice none 0 0,.slice p3 k3 d3,Z8 i,x5,Z5 g 0,Z8 v1,Z8 i,ZW,u10,u11,x12,(cond b1 (Z8 i) (u13)),x14,(cond b3 (.string (nm4.getD i WE)) (u15)),x16,(cond b5 (Z5 g 0) (u17)),x18,x19,x20,x21,u22,u23,u24,u25,u26,u27,u28,u29,u30,u31,u32,u33,u34,undef],defers:=[] }/\KC wr g a c L kk i b0 b2 b4 b6 b7 b8 b9 b10 b11 x12 x14 x16 x18 x19 x20 x21 x5 V) (by kernel_rfl) (by kernel_rfl) ?_ ?_ ?_
      · exact⟨_,_,_,_,_,_,_,_,_,_,_,_,_,_,_,_,_,_,_,_,rfl,rfl,h0⟩
      · intro i9 listed ZG V hi9 hr hJ;obtain⟨b0,b1,b2,b3,b4,b5,b6,b7,b8,b9,b10,b11,x12,x14,x16,x18,x19,x20,x21,x5,rfl,rfl,hF⟩:=hJ;have hi2:i9<12:=hi9;have hi3:i9=0∨i9=1∨i9=2∨i9=3∨i9=4∨i9=5∨i9=6∨i9=7∨i9=8∨i9=9∨i9=10∨i9=11:=(by omega);rcases hi3 with rfl | rfl | rfl | rfl | rfl | rfl | rfl | rfl | rfl | rfl | rfl | rfl
        · obtain rfl:b0=false:=Z7 hr;refine Vk rfl (by kernel_rfl) (some 12) rfl 112 4 #[(0,.const (.string ⟨#[97,110,110]⟩)),(1,.const (.string ⟨#[98,111,98]⟩)),(2,.const (.string ⟨#[101,118,101]⟩)),(3,.const (.string ⟨#[122,111,101]⟩))] rfl #[(0,.string ⟨#[97,110,110]⟩),(1,.string ⟨#[98,111,98]⟩),(2,.string ⟨#[101,118,101]⟩),(3,.string ⟨#[122,111,101]⟩)] (by kernel_rfl) (.slice (some ⟨V.heap.size,0,none⟩) 4 4) _ (wS V) ?_;have hF2:=hF.al Xn.out (.cells (strs nm4).toArray 9);exact⟨_,_,_,_,_,_,_,_,_,_,_,_,_,_,_,_,_,_,_,_,rfl,rfl,{ hF2 with f12:=fun _=>⟨_,rfl,hF.bt.1.size,heap_alloc_last V _⟩ }⟩
        · obtain rfl:b1=false:=Z7 hr;refine ZT rfl (by kernel_rfl) (some 13) rfl (Z8 i) V (by kernel_rfl) ?_;exact⟨_,_,_,_,_,_,_,_,_,_,_,_,_,_,_,_,_,_,_,_,rfl,rfl,hF⟩
        · obtain rfl:b2=false:=Z7 hr;obtain rfl:b0=true:=ZX hr 0;obtain rfl:b1=true:=ZX hr 1;obtain⟨q,rfl,hq1,hq2⟩:=hF.f12 rfl;refine ZT rfl (by kernel_rfl) (some 14) rfl (Z5 q (0+i)) V (Hl q 0 4 4 i hi4 _ _ _ rfl (by kernel_rfl) (by kernel_rfl)) ?_;exact⟨_,_,_,_,_,_,_,_,_,_,_,_,_,_,_,_,_,_,_,_,rfl,rfl,{ hF with f14:=fun _=>⟨q,rfl,hq1,hq2⟩ }⟩
        · obtain rfl:b3=false:=Z7 hr;obtain rfl:b2=true:=ZX hr 2;obtain⟨q,rfl,hq1,hq2⟩:=hF.f14 rfl;refine ZE rfl (by kernel_rfl) (some 15) rfl 9 (.tmp 14) rfl ⟨q,0+i,none⟩ (.string (nm4.getD i WE)) (by kernel_rfl) (Ld hq2 (k:=i) hi4) ?_;exact⟨_,_,_,_,_,_,_,_,_,_,_,_,_,_,_,_,_,_,_,_,rfl,rfl,hF⟩
        · obtain rfl:b4=false:=Z7 hr;refine Vk rfl (by kernel_rfl) (some 16) rfl 113 5 #[(0,.const (Z4 100000)),(1,.const (Z4 5000)),(2,.const (Z4 700)),(3,.const (Z4 0)),(4,.const (Z4 1099511627776))] rfl #[(0,Z4 100000),(1,Z4 5000),(2,Z4 700),(3,Z4 0),(4,Z4 1099511627776)] (by kernel_rfl) (.slice (some ⟨V.heap.size,0,none⟩) 5 5) _ (wQ V) ?_;have hF2:=hF.al Xn.out (.cells (UR Hq).toArray 27);exact⟨_,_,_,_,_,_,_,_,_,_,_,_,_,_,_,_,_,_,_,_,rfl,rfl,{ hF2 with f16:=fun _=>⟨_,rfl,hF.bt.1.size,heap_alloc_last V _⟩ }⟩
        · obtain rfl:b5=false:=Z7 hr;refine ZT rfl (by kernel_rfl) (some 17) rfl (Z5 g 0) V (by kernel_rfl) ?_;exact⟨_,_,_,_,_,_,_,_,_,_,_,_,_,_,_,_,_,_,_,_,rfl,rfl,hF⟩
        · obtain rfl:b6=false:=Z7 hr;obtain rfl:b5=true:=ZX hr 5;refine Zc rfl (by kernel_rfl) (some 18) rfl 18 #[Z5 g 0,Z8 5] (by kernel_rfl) ((CX5 V (hF.n0 rfl)).mono ?_);rintro e V2 ⟨v,rfl,hv,hns,hbt⟩;exact⟨_,rfl,_,_,_,_,_,_,_,_,_,_,_,_,_,_,_,_,_,_,_,_,rfl,rfl,hF.s6 hv hns hbt Xn.out⟩
        · obtain rfl:b7=false:=Z7 hr;obtain rfl:b4=true:=ZX hr 4;obtain rfl:b6=true:=ZX hr 6;obtain⟨q,rfl,hq1,hq2⟩:=hF.f16 rfl;obtain⟨v,hv,rfl⟩:=hF.f18 rfl;refine ZT rfl (by kernel_rfl) (some 19) rfl (Z5 q (0+v)) V (yP q 0 5 5 v hv _ _ _ rfl (by kernel_rfl) (by kernel_rfl)) ?_;exact⟨_,_,_,_,_,_,_,_,_,_,_,_,_,_,_,_,_,_,_,_,rfl,rfl,{ hF with f19:=fun _=>⟨q,v,hv,rfl,hq1,hq2⟩ }⟩
        · obtain rfl:b8=false:=Z7 hr;obtain rfl:b7=true:=ZX hr 7;obtain⟨q,v,hv,rfl,hq1,hq2⟩:=hF.f19 rfl;refine ZE rfl (by kernel_rfl) (some 20) rfl 27 (.tmp 19) rfl ⟨q,0+v,none⟩ (Z4 (Hq.getD v 0)) (by kernel_rfl) (EW hq2 (k:=v) hv) ?_;exact⟨_,_,_,_,_,_,_,_,_,_,_,_,_,_,_,_,_,_,_,_,rfl,rfl,{ hF with f20:=fun _=>⟨_,aw1 v,rfl⟩ }⟩
        · obtain rfl:b9=false:=Z7 hr;obtain rfl:b3=true:=ZX hr 3;obtain rfl:b8=true:=ZX hr 8;obtain⟨m,hm,rfl⟩:=hF.f20 rfl;refine ZT rfl (by kernel_rfl) (some 21) rfl (.agg (Zq ((nm4.getD i WE),m,0))) V (by kernel_rfl) ?_;exact⟨_,_,_,_,_,_,_,_,_,_,_,_,_,_,_,_,_,_,_,_,rfl,rfl,{ hF with o12:=fun _=>rfl,f21:=fun _=>⟨m,hm,rfl⟩ }⟩
        · obtain rfl:b10=false:=Z7 hr;have h11:=ff hF.o11 rfl;subst h11;refine ZT rfl (by kernel_rfl) (some 5) rfl (Z5 V.heap.size 0) (V.alloc (.cells (Zq WA) 60)) (by kernel_rfl) ?_;have hF2:=hF.al Xn.out (.cells (Zq WA) 60);exact⟨_,_,_,_,_,_,_,_,_,_,_,_,_,_,_,_,_,_,_,_,rfl,rfl,{ hF2 with o11:=(fun h=>nomatch h),f5:=fun _ _=>⟨_,rfl,hF.bt.1.size,heap_alloc_last V _⟩,d5:=(fun h=>nomatch h) }⟩
        · obtain rfl:b11=false:=Z7 hr;obtain rfl:b10=true:=ZX hr 10;obtain rfl:b9=true:=ZX hr 9;obtain⟨q,rfl,hq1,hq2⟩:=hF.f5 rfl rfl;obtain⟨m,hm,rfl⟩:=hF.f21 rfl;obtain⟨hst,hZ⟩:=XI (y:=((nm4.getD i WE),m,0)) hq2;refine Zf rfl (by kernel_rfl) rfl 60 (.tmp 5) (.tmp 21) rfl (Z5 q 0) (.agg (Zq ((nm4.getD i WE),m,0))) (by kernel_rfl) (by kernel_rfl) _ hst ?_;exact⟨_,_,_,_,_,_,_,_,_,_,_,_,_,_,_,_,_,_,_,_,rfl,rfl,hF.s11 hq1 hq2 hm Xn.out aw3.out hZ⟩
      · intro ZG V hJ;obtain⟨b0,b1,b2,b3,b4,b5,b6,b7,b8,b9,b10,b11,x12,x14,x16,x18,x19,x20,x21,x5,he,rfl,hF⟩:=hJ;have he:(#[true,true,true,true,true,true,true,true,true,true,true,true]:Array Bool)=#[b0,b1,b2,b3,b4,b5,b6,b7,b8,b9,b10,b11]:=he;simp only[Array.mk.injEq,List.cons.injEq,and_true] at he;obtain⟨rfl,rfl,rfl,rfl,rfl,rfl,rfl,rfl,rfl,rfl,rfl,rfl⟩:=he;simp only[cond_true];obtain⟨q,m,hm,rfl,hq1,hbx⟩:=hF.d5 rfl;have JD:=hF.ns;have Xp:=hF.bt;have hnm:=HQ4.out i hi4;generalize nm4.getD i WE=nm at *
        clear hF h0 CX5;go_upto_region 6 with fail;refine wl<|ZV (Z5 g 0) <|
          Yi (fun v w'=>∃ q:Nat,v=Z8 q/\(q:Int)<6/\NS w' g a c L ((kk+1)+1)/\But g V w') ((X4 JD HL.out (by have:=Ju.out.2; omega) 6 (by decide) (by decide)).mono fun e w' z=>by obtain⟨q,h1,h2⟩:=z; exact⟨_,h1,q,rfl,h2⟩) (fun vv V6 hq=>?_)
        obtain⟨v6,rfl,hv6,CO,qM⟩:=hq;simp only[pu];have WX:=hbx.but qM (by have:=Xn.out; omega);have Pz:=Z9 (Xp.trans qM);have FW:=Z9 CO;clear JD Xp hbx qM CO;by_cases hv0:v6=0
        · skip
          subst hv0;refine ZJ (ZB rfl ((0:Nat)) (0) (decide_eq_true (rfl)))<|wn ?_;simp only[pu];have hbs:=wP V6;have hbq:Bx (V6.alloc (.cells (UR Oa).toArray 27)) V6.heap.size (UR Oa).toArray 27:=heap_alloc_last V6 _;have hbw:Below V6.heap.size V6 (V6.alloc (.cells (UR Oa).toArray 27)):=(Below.refl _ V6).alloc (Nat.le_refl _) _;have ET:=WX.below WX.lt hbw;have hn7:=FW.out.below hbw;have Ih:=But.of_below hbw (Nat.le_of_lt FW.out.lt);have aw4:V6.heap.size≠g:=(by have:=FW.out.lt; omega);have aI0:V6.heap.size≠q:=(by have:=WX.lt; omega);generalize V6.alloc (.cells (UR Oa).toArray 27)=V65 at *
          have CX3:=X4 hn7 HL.out (by have:=Ju.out.2; omega) 3 (by decide) (by decide);obtain⟨g7,RF⟩:=ZR V6.heap.size;rw[RF] at hbq hbs aw4 aI0;go_upto_region 7 with fail;apply wp_region_lit;refine Zr (by kernel_rfl) (some 25) rfl 113 3 #[(0,.const (Z4 5)),(1,.const (Z4 18446744073709551615)),(2,.const (Z4 18446744073709551614))] rfl #[(0,Z4 5),(1,Z4 18446744073709551615),(2,Z4 18446744073709551614)] (by kernel_rfl) (.slice (some ⟨g7,0,none⟩) 3 3) _ hbs ?_;refine ZV (Z5 g 0)<|Yi (fun v w'=>∃ q:Nat,v=Z8 q/\(q:Int)<3/\NS w' g a c L ((kk+1+1)+1)/\But g V65 w') ((CX3).mono fun e w' z=>by obtain⟨q,h1,h2⟩:=z; exact⟨_,h1,q,rfl,h2⟩) (fun vv V7 hq=>?_);obtain⟨v7,rfl,hv7,aw5,XH⟩:=hq;have aw6:=hbq.but XH aw4;have Rz:=ET.but XH (by have:=Xn.out; omega);have aw7:v7<3:=(by omega);obtain⟨V8,XK,Wy,-,XT⟩:=Zn (i:=2) (ty:=27) (v:=Z4 (Oa.getD v7 0)) (cs':=Zq (nm,m,Oa.getD v7 0)) (w0:=V7) (B:=q) Rz (Below.refl _ _) (Nat.le_refl _) (by show 2<3; decide) rfl (by kernel_rfl) rfl;refine YG (Z5 g7 (0+v7)) (yP g7 0 3 3 v7 aw7 _ _ _ rfl (by kernel_rfl) (by kernel_rfl))<|ZL rfl ⟨g7,0+v7,none⟩ (Z4 (Oa.getD v7 0)) (EW aw6 (k:=v7) aw7)<|ZV (Z5 q 2)<|Zu rfl (XK)<|wn ?_;simp only[pu];have hsq:=aw2 v7;generalize Oa.getD v7 0=sq at *
          have ES:=Z9 (Ob (Pz.out.trans (Ih.trans XH)) XT hq1 (by have:=Xn.out; omega));have HN8:=Z9 ((aw5.af9 XT hq1 Xn.out aw3.out));clear hbs hbq hbw ET hn7 Ih CX3 aw6 Rz XK XT XH aw5 Pz FW;obtain⟨a7,c7,V9,hap,Rx,Yb⟩:=yQ (w:=V8) (qO HR.out ES.out HG.out Ho.out) (Nat.le_trans Ho.out ES.out.1.size) (nm,m,sq) (by have:=HG2.out; omega);have kD:=Z9 Rx;have Zl:=Z9 ((HB.out.trans ES.out).more2 Yb HG.out);have HQ9:Hid (∀ x,x∈A++[(nm,m,sq)]->aQ x):=Z9 (fun x hx=>by
            rcases List.mem_append.1 hx with hx | hx
            · exact HQ.out x hx
            · rw[List.mem_singleton] at hx;subst hx;exact⟨hnm,hm,hsq⟩)
          have HN9:=Z9 (Hr HN8.out Yb HG.out HAB.out);have xq:Hid (A.length<(A++[(nm,m,sq)]).length/\(A++[(nm,m,sq)]).length=A.length+1):=Z9 (by rw[List.length_append]; exact⟨Nat.lt_succ_self _,rfl⟩);have hbd:=Tn (nm,m,sq) V8;go_upto_region 8 with fail;refine wl<|ZV (.slice p3 k3 d3)<|ZL rfl ⟨q,0,none⟩ (.agg (Zq (nm,m,sq))) (Za Wy) ?_;refine Zr (by kernel_rfl) (some 33) rfl 26 1 #[(0,.tmp 32)] rfl #[(0,.agg (Zq (nm,m,sq)))] (by kernel_rfl) (.slice (some ⟨V8.heap.size,0,none⟩) 1 1) _ hbd ?_;refine Zh rfl (some 34) rfl 26 rfl (.tmp 31) (.tmp 33) 26 rfl (.slice p3 k3 d3) (.slice (some ⟨V8.heap.size,0,none⟩) 1 1) (.slice a7 (A++[(nm,m,sq)]).length c7) V9 (by kernel_rfl) (by kernel_rfl) hap ?_;refine ZV (.slice a7 (A++[(nm,m,sq)]).length c7)<|wn ?_;simp only[pu];clear hap hbd Rx Yb;go_upto_region 4 with fail;refine wl<|ZV (Z8 i)<|YG (Z8 ((i:Int)-1)) (sub_one rfl i (by omega) (by kernel_rfl) _)<|ZV (Z8 ((i:Int)-1))<|wn ?_;simp only[pu];go_wp2_with fail;go_roundg i
          case measure=>have:=HG2.out; omega
          case rel=>exact⟨(i:Int)-1,a7,_,c7,A++[(nm,m,sq)],rfl,rfl,by omega,by omega,by have:=HG2.out; have:=xq.out.2; omega,kD,HQ9,Z9 (HN9.out.mono (by have:=Ju.out.1; have:=xq.out.2; omega)),Zl,by omega⟩
        · skip
          refine ZJ (ZB rfl (v6) (0) dF)<|wn ?_;simp only[pu];have hsq:W64 0:=Xq;obtain⟨a7,c7,V9,hap,Rx,Yb⟩:=yQ (w:=V6) (qO HR.out Pz.out HG.out Ho.out) (Nat.le_trans Ho.out Pz.out.1.size) (nm,m,0) (by have:=HG2.out; omega);have kD:=Z9 Rx;have Zl:=Z9 ((HB.out.trans Pz.out).more2 Yb HG.out);have HQ9:Hid (∀ x,x∈A++[(nm,m,0)]->aQ x):=Z9 (fun x hx=>by
            rcases List.mem_append.1 hx with hx | hx
            · exact HQ.out x hx
            · rw[List.mem_singleton] at hx;subst hx;exact⟨hnm,hm,hsq⟩)
          have HN9:=Z9 (Hr FW.out Yb HG.out HAB.out);have xq:Hid (A.length<(A++[(nm,m,0)]).length/\(A++[(nm,m,0)]).length=A.length+1):=Z9 (by rw[List.length_append]; exact⟨Nat.lt_succ_self _,rfl⟩);have hbd:=Tn (nm,m,0) V6;go_upto_region 8 with fail;refine wl<|ZV (.slice p3 k3 d3)<|ZL rfl ⟨q,0,none⟩ (.agg (Zq (nm,m,0))) (Za WX) ?_;refine Zr (by kernel_rfl) (some 33) rfl 26 1 #[(0,.tmp 32)] rfl #[(0,.agg (Zq (nm,m,0)))] (by kernel_rfl) (.slice (some ⟨V6.heap.size,0,none⟩) 1 1) _ hbd ?_;refine Zh rfl (some 34) rfl 26 rfl (.tmp 31) (.tmp 33) 26 rfl (.slice p3 k3 d3) (.slice (some ⟨V6.heap.size,0,none⟩) 1 1) (.slice a7 (A++[(nm,m,0)]).length c7) V9 (by kernel_rfl) (by kernel_rfl) hap ?_;refine ZV (.slice a7 (A++[(nm,m,0)]).length c7)<|wn ?_;simp only[pu];clear hap hbd Rx Yb;go_upto_region 4 with fail;refine wl<|ZV (Z8 i)<|YG (Z8 ((i:Int)-1)) (sub_one rfl i (by omega) (by kernel_rfl) _)<|ZV (Z8 ((i:Int)-1))<|wn ?_;simp only[pu];go_wp2_with fail;go_roundg i
          case measure=>have:=HG2.out; omega
          case rel=>exact⟨(i:Int)-1,a7,_,c7,A++[(nm,m,0)],rfl,rfl,by omega,by omega,by have:=HG2.out; have:=xq.out.2; omega,kD,HQ9,Z9 (HN9.out.mono (by have:=Ju.out.1; have:=xq.out.2; omega)),Zl,by omega⟩
    · skip
      have HE:=Z9 (⟨p3,d3,A,by rw[yO HR.out],by rw[yO HR.out]; exact HR.out,HQ.out,by omega,HN.out.mono (by omega),HB.out⟩:AcO w g a c L k (.returned (.slice p3 k3 d3)) wr);clear HR HQ HN HB hg;go_upto_region 3 with fail;refine wl<|ZV (Z8 z)<|ZJ (UQ rfl (z) (0) dF)<|wn ?_;simp only[pu];go_upto_region 9 with fail;refine wl<|ZA (.slice p3 k3 d3) (.slice p3 k3 d3)<|wn ?_;simp only[pu];go_wp2_with fail;go_ret;exact HE.out
end Go.Proofs.YtnhlpahoomcgnaaGreat
namespace Go.Proofs.YtnhlpahoomcgnaaGreat
open Go.RowKit
def O4 (w:World)(g:Nat)(a:Option Addr)(c:Nat)(L:List Int)(N:Nat):Prop:=Bx w g #[.slice a L.length c,Z8 N] 74/\Cs w a (XL L)/\(L≠[]->∀ x,a=some x->x.block≠g)
theorem O4.ns {w:World}{g c N k:Nat}{a:Option Addr}{L:List Int}(h:O4 w g a c L N)(hk:N<=k):NS w g a c L k:=⟨N,hk,h⟩
theorem O4.below {w w':World}{g c N:Nat}{a:Option Addr}{L:List Int}(h:O4 w g a c L N)(hb:Below w.heap.size w w'):O4 w' g a c L N:=⟨h.1.below h.1.lt hb,h.2.1.below hb,h.2.2⟩
theorem O4.but {w w':World}{g q c N:Nat}{a:Option Addr}{L:List Int}(h:O4 w g a c L N)(hb:But q w w')(hq:g≠q)(ha:L≠[]->∀ x,a=some x->x.block<q):O4 w' g a c L N:=
  ⟨h.1.but hb hq,O1 h.2.1 hb (fun h5 x hx=>by have:=ha h5 x hx; omega),h.2.2⟩
theorem Xi {w:World}{g c N v:Nat}{a:Option Addr}{L:List Int}(h:O4 w g a c L N)(hl:L.length<=100000)(hN:N<=100000)(n:Int)(hn:0<n)(hn2:n<=1000000)(hv:pl (L.getD N 0) n=v):Calls Tryz.prog 18 #[Z5 g 0,Z8 n] w fun e w'=>e=.returned (Z8 v)/\O4 w' g a c L (N+1)/\But g w w':=
  (yR g L a c N n w h.1 h.2.1 hl hN hn hn2).mono fun e w' q=>⟨by rw[q.1,hv],⟨q.2.2,O1 h.2.1 q.2.1 h.2.2,h.2.2⟩,q.2.1⟩
theorem Uo (L:List Int)(N:Nat)(n:Int)(hn:0<n):∃ v:Nat,pl (L.getD N 0) n=v/\(v:Int)<n:=by
  have:=EY (L.getD N 0) n hn;exact⟨(pl (L.getD N 0) n).toNat,by omega,by omega⟩
theorem W64.wrap (x:Int):W64 (IntKind.u64.wrap x):=by
  have e:IntKind.u64.wrap x=x % 18446744073709551616:=by rw[IntKind.wrap_u64]
  rw[e];exact⟨by omega,by omega⟩
section
variable {ρ : Operand -> Value} {o : Oper} {x y : Operand}
theorem Vm (ho:o.op=.convert 3 27 x)(a:Int)(h0:0<=a)(h1:a<=1000000)(hx:ρ x=Z8 a)(w:World):(execOp ρ o).run Tryz.prog w=.ok (.value (Z4 a)) w:=by
  have hw:IntKind.u64.wrap a=a:=by rw[IntKind.wrap_u64]; omega
  unfold execOp;simp only[ho,hx];go_simp
theorem ae8 (ho:o.op=.binOp .mul 27 x y 27)(a b:Int)(h0:0<=a*b)(h1:a*b<=1000000000)(hx:ρ x=Z4 a)(hy:ρ y=Z4 b)(w:World):(execOp ρ o).run Tryz.prog w=.ok (.value (Z4 (a*b))) w:=by
  have hw:IntKind.u64.wrap (a*b)=a*b:=by rw[IntKind.wrap_u64]; omega
  unfold execOp;simp only[ho,hx,hy];go_simp
theorem qZ (ho:o.op=.binOp .add 27 x y 27)(a b:Int)(h0:0<=a+b)(h1:a+b<=1000000000)(hx:ρ x=Z4 a)(hy:ρ y=Z4 b)(w:World):(execOp ρ o).run Tryz.prog w=.ok (.value (Z4 (a+b))) w:=by
  have hw:IntKind.u64.wrap (a+b)=a+b:=by rw[IntKind.wrap_u64]; omega
  unfold execOp;simp only[ho,hx,hy];go_simp
theorem qW (ho:o.op=.binOp .mul 27 x y 27)(a b:Int)(hx:ρ x=Z4 a)(hy:ρ y=Z4 b)(w:World):(execOp ρ o).run Tryz.prog w=.ok (.value (Z4 (IntKind.u64.wrap (a*b)))) w:=by
  unfold execOp;simp only[ho,hx,hy];go_simp
theorem af0 (ho:o.op=.binOp .add 27 x y 27)(a b:Int)(hx:ρ x=Z4 a)(hy:ρ y=Z4 b)(w:World):(execOp ρ o).run Tryz.prog w=.ok (.value (Z4 (IntKind.u64.wrap (a+b)))) w:=by
  unfold execOp;simp only[ho,hx,hy];go_simp
end
structure GQ (x:Y8):Prop where
  snd:wY x.snd
  sq:W64 x.sq
  Zp:150<=x.Zp/\x.Zp<=1000
  YZ:W64 x.YZ
  memo:MmQ x.memo
  tr:∀ y,y∈x.tr->wY y.1/\0<y.2/\W64 y.2
theorem GQ.b {x:Y8}(h:GQ x):TxB x:=⟨h.sq,⟨by have:=h.Zp; omega,by have:=h.Zp; omega⟩,h.YZ,fun y hy=>(h.tr y hy).2.2,by have:=h.snd.2; omega,by have:=h.memo.2; omega,fun y hy=>by have:=(h.tr y hy).1.2; omega⟩
structure St (w:World)(g:Nat)(a:Option Addr)(c:Nat)(L:List Int)(N:Nat)(g4 g6 g7:Nat)(ra:Option Addr)(rc:Nat)(A:List Ac)(co:Int)(B7:Nat)(x:Y8)(a2:Option Addr)(c2:Nat)(V:World):Prop where
  bt:But g w V
  ns:O4 V g a c L N
  row:Cs V ra (acc A)
  b4:Bx V g4 #[.slice ra A.length rc,Z4 co] 29
  b6:Bx V g6 (Zx zX none 0) 67
  b7:Bx V g7 (Zx x a2 c2) 67
  rt:Yj V B7 (.slice a2 x.tr.length c2) x.tr
  sz:B7<=V.heap.size
structure Ly (w:World)(g:Nat)(a:Option Addr)(L:List Int)(g4 g6 g7:Nat)(ra:Option Addr)(A:List Ac)(B7:Nat):Prop where
  hg:g<w.heap.size
  h4:w.heap.size<=g4
  h6:w.heap.size<=g6
  h7:w.heap.size<=g7
  n46:g4≠g6
  n47:g4≠g7
  n67:g6≠g7
  l4:g4<B7
  l6:g6<B7
  l7:g7<B7
  ab:L≠[]->∀ x,a=some x->x.block<w.heap.size
  rb:acc A≠[]->∀ x,ra=some x->x.block<w.heap.size/\x.block≠g
section
variable {w : World} {g : Nat} {a : Option Addr} {c : Nat} {L : List Int} {N g4 g6 g7 : Nat} {ra : Option Addr} {rc : Nat} {A : List Ac} {co : Int} {B7 : Nat} {x : Y8} {a2 : Option Addr} {c2 : Nat} {V : World}
theorem RY {V V2:World}{a:Option Addr}{cs:List Value}(h:Cs V a cs)(hs:V.heap.size<=V2.heap.size)(hk:cs≠[]->∀ x,a=some x->V2.heap[x.block]?=V.heap[x.block]?):Cs V2 a cs:=fun j v hj=>by
  obtain⟨b,off,rfl,hb,hc⟩:=h j v hj;have hne:cs≠[]:=by intro e; rw[e] at hj; simp at hj
  exact⟨b,off,rfl,Nat.lt_of_lt_of_le hb hs,(World.cell?_of_block (a:=⟨b,off+j,none⟩) (hk hne ⟨b,off,none⟩ rfl)).trans hc⟩
theorem St.below (h:St w g a c L N g4 g6 g7 ra rc A co B7 x a2 c2 V){V2:World}(hb:Below V.heap.size V V2):St w g a c L N g4 g6 g7 ra rc A co B7 x a2 c2 V2:=
  ⟨h.bt.trans (But.of_below hb (Nat.le_of_lt h.ns.1.lt)),h.ns.below hb,h.row.below hb,h.b4.below h.b4.lt hb,h.b6.below h.b6.lt hb,h.b7.below h.b7.lt hb,h.rt.below hb,Nat.le_trans h.sz hb.size⟩
theorem St.call (h:St w g a c L N g4 g6 g7 ra rc A co B7 x a2 c2 V)(ly:Ly w g a L g4 g6 g7 ra A B7){V2:World}{N2:Nat}(hns:O4 V2 g a c L N2)(hb:But g V V2):St w g a c L N2 g4 g6 g7 ra rc A co B7 x a2 c2 V2:=
  have h1:=ly.hg;have h2:=ly.h4;have h3:=ly.h6;have h4:=ly.h7;have h5:=ly.l7
  ⟨h.bt.trans hb,hns,RY h.row hb.1.size (fun hn y hy=>hb.2 _ (Nat.lt_of_lt_of_le (ly.rb hn y hy).1 h.bt.1.size) (ly.rb hn y hy).2),h.b4.but hb (by omega),h.b6.but hb (by omega),h.b7.but hb (by omega),h.rt.but hb (by omega),Nat.le_trans h.sz hb.1.size⟩
theorem St.set (h:St w g a c L N g4 g6 g7 ra rc A co B7 x a2 c2 V)(ly:Ly w g a L g4 g6 g7 ra A B7){V2:World}{x':Y8}(hb:But g7 V V2)(hx:Bx V2 g7 (Zx x' a2 c2) 67)(ht:x'.tr=x.tr):St w g a c L N g4 g6 g7 ra rc A co B7 x' a2 c2 V2:=
  have h1:=ly.hg;have h4:=ly.h7
  ⟨Ob h.bt hb h4 (by omega),h.ns.but hb (by omega) (fun hl y hy=>Nat.lt_of_lt_of_le (ly.ab hl y hy) h4),RY h.row hb.1.size (fun hn y hy=>hb.2 _ (Nat.lt_of_lt_of_le (ly.rb hn y hy).1 h.bt.1.size) (by have:=(ly.rb hn y hy).1; omega)),h.b4.but hb ly.n47,h.b6.but hb ly.n67,hx,by rw[ht]; exact h.rt.but hb ly.l7,Nat.le_trans h.sz hb.1.size⟩
theorem St.far (h:St w g a c L N g4 g6 g7 ra rc A co B7 x a2 c2 V)(ly:Ly w g a L g4 g6 g7 ra A B7){V2:World}(hw:w.heap.size<=B7)(hb:Below B7 V V2):But g w V2/\O4 V2 g a c L N/\Cs V2 ra (acc A)/\Bx V2 g4 #[.slice ra A.length rc,Z4 co] 29/\Bx V2 g6 (Zx zX none 0) 67/\Bx V2 g7 (Zx x a2 c2) 67/\B7<=V2.heap.size:=
  have h1:=ly.hg
  ⟨h.bt.more (hb.mono hw) (Nat.le_of_lt h1),⟨h.ns.1.below (by omega) hb,by
    obtain⟨_,_,_,q,_⟩:=Hr (w:=w) (h.ns.ns (Nat.le_refl _)) (hb.mono hw) h1 ly.ab;exact q,h.ns.2.2⟩,RY h.row hb.size (fun hn y hy=>hb.block _ (Nat.lt_of_lt_of_le (ly.rb hn y hy).1 hw)),h.b4.below ly.l4 hb,h.b6.below ly.l6 hb,h.b7.below ly.l7 hb,Nat.le_trans h.sz hb.size⟩
end
theorem YB {fn:Func}{tmps:Array Value}{w:World}{p g ty:Nat}{v:Value}(hr:fn.results=#[.cell p ty])(h2:tmps.getD p undef=Z5 g 0)(hl:(Instr.loadAt ty (Z5 g 0)).run Tryz.prog w=.ok v w):(results fn tmps).run Tryz.prog w=.ok v w:=by
  unfold results;rw[hr];have h2':tmps[p]?.getD undef=Z5 g 0:=by simpa using h2
  have hl':=hl;simp only[Instr.loadAt,Instr.sureAddr,Sem.run_bind,Sem.run_pure,Result.andThen_ok] at hl';simp[h2',asAddr,hl',Result.andThen]
structure K4 (w:World)(g:Nat)(a:Option Addr)(c:Nat)(L:List Int)(N:Nat)(g4 g6 g7:Nat)(ra:Option Addr)(rc:Nat)(A:List Ac)(co:Int)(B7:Nat)(x:Y8)(W:World)(y:Ac)(b4 b7 b8:Bool)(x9:Value)(V:World):Prop where
  o8:b8=true->b7=true
  ws:W.heap.size<=V.heap.size
  st:St w g a c L (N+b4.toNat) g4 g6 g7 ra rc A co B7 x none 0 V
  f9:b7=true->b8=false->∃ q,x9=Z5 q 0/\W.heap.size<=q/\Bx V q (Zq WA) 60
  d9:b8=true->∃ q,x9=Z5 q 0/\W.heap.size<=q/\Bx V q (Zq y) 60
section
variable {w : World} {g : Nat} {a : Option Addr} {c : Nat} {L : List Int} {N g4 g6 g7 : Nat} {ra : Option Addr} {rc : Nat} {A : List Ac} {co : Int} {B7 : Nat} {x : Y8} {W : World} {y : Ac} {b4 b7 b8 : Bool} {x9 : Value} {V : World}
theorem K4.s4 (h:K4 w g a c L N g4 g6 g7 ra rc A co B7 x W y false b7 b8 x9 V)(ly:Ly w g a L g4 g6 g7 ra A B7)(hg:g<W.heap.size){V2:World}(hns:O4 V2 g a c L (N+1))(hb:But g V V2):K4 w g a c L N g4 g6 g7 ra rc A co B7 x W y true b7 b8 x9 V2:=
  ⟨h.o8,Nat.le_trans h.ws hb.1.size,h.st.call ly hns hb,
   fun e1 e2=>by obtain⟨q,h1,h2,h3⟩:=h.f9 e1 e2; exact⟨q,h1,h2,h3.but hb (by omega)⟩,
   fun e1=>by obtain⟨q,h1,h2,h3⟩:=h.d9 e1; exact⟨q,h1,h2,h3.but hb (by omega)⟩⟩
theorem K4.s7 (h:K4 w g a c L N g4 g6 g7 ra rc A co B7 x W y b4 false b8 x9 V):K4 w g a c L N g4 g6 g7 ra rc A co B7 x W y b4 true b8 (Z5 V.heap.size 0) (V.alloc (.cells (Zq WA) 60)):=by
  have h8:=ff h.o8 rfl;subst h8;have hb:Below V.heap.size V (V.alloc (.cells (Zq WA) 60)):=(Below.refl _ V).alloc (Nat.le_refl _) _;exact⟨(fun e=>nomatch e),Nat.le_trans h.ws hb.size,h.st.below hb,fun _ _=>⟨_,rfl,h.ws,heap_alloc_last V _⟩,(fun e=>nomatch e)⟩
theorem K4.s8 (h:K4 w g a c L N g4 g6 g7 ra rc A co B7 x W y b4 true false x9 V)(ly:Ly w g a L g4 g6 g7 ra A B7)(hw:w.heap.size<=W.heap.size)(hB:B7<=W.heap.size):∃ q V2,x9=Z5 q 0/\(Instr.storeAt 60 (Z5 q 0) (.agg (Zq y))).run Tryz.prog V=.ok () V2/\K4 w g a c L N g4 g6 g7 ra rc A co B7 x W y b4 true true (Z5 q 0) V2:=by
  obtain⟨q,rfl,hq,hx⟩:=h.f9 rfl rfl;obtain⟨hst,hZ⟩:=XI (y:=y) hx;have hbt:But q V (V.setRow q (Zq y)):=But.setRow V _;have l4:=ly.l4;have l6:=ly.l6;have l7:=ly.l7;have lg:=ly.hg;refine⟨q,_,rfl,hst,fun _=>rfl,Nat.le_trans h.ws hbt.1.size,?_,(fun _ e=>nomatch e),fun _=>⟨q,rfl,hq,hZ⟩⟩;have s:=h.st;have hrt:Yj (V.setRow q (Zq y)) B7 (.slice none x.tr.length 0) x.tr:=by
    have e:=s.rt;unfold Yj at *
    refine⟨e.1,?_⟩;rcases e.2 with h0 | ⟨gg,cap,cur,ev,-⟩
    · exact .inl h0
    · simp only[Value.slice.injEq] at ev;cases ev.1
  exact⟨Ob s.bt hbt (Nat.le_trans hw hq) (by omega),s.ns.but hbt (by omega) (fun hl z hz=>by have:=ly.ab hl z hz; omega),RY s.row hbt.1.size (fun hn z hz=>hbt.2 _ (Nat.lt_of_lt_of_le (ly.rb hn z hz).1 s.bt.1.size) (by have:=(ly.rb hn z hz).1; omega)),s.b4.but hbt (by omega),s.b6.but hbt (by omega),s.b7.but hbt (by omega),hrt,Nat.le_trans s.sz hbt.1.size⟩
end
def K5 (w:World)(g:Nat)(a:Option Addr)(c:Nat)(L:List Int)(N:Nat)(g4 g6 g7:Nat)(ra:Option Addr)(rc:Nat)(A:List Ac)(co:Int)(B7:Nat)(x:Y8)(y:Ac)(q:Nat)(b5 b7:Bool)(V:World):Prop:=
  St w g a c L N g4 g6 g7 ra rc A co B7 ⟨cond b5 y.1 x.snd,cond b7 y.2.2 x.sq,x.Zp,x.YZ,x.memo,x.tr⟩ none 0 V/\Bx V q (Zq y) 60
def K7 (w:World)(g:Nat)(a:Option Addr)(c:Nat)(L:List Int)(N:Nat)(g4 g6 g7:Nat)(ra:Option Addr)(rc:Nat)(A:List Ac)(co:Int)(B7:Nat)(x:Y8)(sq YZ:Int)(b3 b7:Bool)(V:World):Prop:=
  St w g a c L (N+b3.toNat) g4 g6 g7 ra rc A co B7 ⟨x.snd,cond b7 sq x.sq,x.Zp,cond b7 YZ x.YZ,x.memo,x.tr⟩ none 0 V
def at1 (w:World)(g:Nat)(a:Option Addr)(c:Nat)(L:List Int)(k:Nat)(e:Ending)(w':World):Prop:=∃ x a2 c2,e=.returned (.agg (Zx x a2 c2))/\Yj w' w.heap.size (.slice a2 x.tr.length c2) x.tr/\GQ x/\1<=x.tr.length/\x.tr.length<=3/\NS w' g a c L (k+40)/\But g w w'
end Go.Proofs.YtnhlpahoomcgnaaGreat
