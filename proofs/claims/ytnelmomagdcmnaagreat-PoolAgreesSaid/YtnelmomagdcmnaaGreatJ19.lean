/-
  Texts joined.
-/
import Derived.Test.YtnelmomagdcmnaaGreatJ18
set_option maxRecDepth 100000
set_option maxHeartbeats 8000000
set_option linter.unusedSimpArgs false
set_option linter.unusedVariables false
namespace Go.Proofs.YtnelmomagdcmnaaGreat.Ex
attribute [local irreducible] wpList wpQuiet
open Go.RowKit
def XJ (x y:Int):Int:=if x<y then -1 else if y<x then 1 else 0
def cp2 (a b:Eo):Int:=if XJ a.1 b.1=0 then XJ a.2 b.2 else XJ a.1 b.1
theorem zH {x y:Int}:XJ x y<0↔x<y:=by
 unfold XJ
 split
 ·omega
 ·split <;> omega
theorem Uy {x y:Int}:XJ x y=0↔x=y:=by
 unfold XJ
 split
 ·omega
 ·split <;> omega
theorem af5 (a b:Eo):decide (cp2 a b<0)=Qh a b:=by
 unfold cp2;rw[Bool.eq_iff_iff,decide_eq_true_iff,Qs];by_cases h:XJ a.1 b.1=0
 ·rw[if_pos h,zH];rw[Uy] at h;omega
 ·rw[if_neg h,zH];rw[Uy] at h;omega
def Oj:List Int->Int
 | []=>0
 | x::r=>if x=0 then Oj r else x
theorem BK (L:List Int)(k:Nat)(h:k<L.length):Oj (L.drop k)=if L.getD k 0=0 then Oj (L.drop (k+1)) else L.getD k 0:=by
 rw[List.drop_eq_getElem_cons h,getD_lt L k 0 h];rfl
theorem aw0 (a b:Eo):Oj [XJ a.1 b.1,XJ a.2 b.2]=cp2 a b:=by
 unfold cp2 Oj Oj Oj;by_cases h:XJ a.1 b.1=0
 ·rw[if_pos h,if_pos h];by_cases h2:XJ a.2 b.2=0
  ·rw[if_pos h2,h2]
  ·rw[if_neg h2]
 ·rw[if_neg h,if_neg h]
def Xy (A:List Eo)(j:Nat):Eo:=A.getD j VB
def Vm (A:List Eo)(q:Eo):Bool:=decide (Zw A q<A.length/\cp2 (Xy A (Zw A q)) q=0)
def Ew (A:List Eo):Prop:=∀ i j,i<j->j<A.length->Qh (Xy A i) (Xy A j)=true
theorem jA {A:List Eo}(h:UQ A):Ew A:=fun i j hij hj=>by
 have:=List.pairwise_iff_getElem.1 h i j (by omega) hj hij;unfold Xy;rwa [getD_lt A i VB (by omega),getD_lt A j VB hj]
theorem QN {w:World}{a:Option Addr}{L:List Eo}(h:Cs w a (encs L)){i:Nat}(hi:i<L.length):∃ b off,a=some ⟨b,off,none⟩/\b<w.heap.size/\w.rangeAt b (off+i*2) (Yc (Xy L i)):=uH h hi
theorem MF {A:List Eo}{j:Nat}(h:j<A.length):Xy A j∈A:=by unfold Xy; rw[getD_lt A j VB h]; exact List.getElem_mem h
theorem qx {A:List Eo}{i:Nat}(hi:i<=A.length){q:Eo}(h1:∀ t,t<i->Qh (Xy A t) q=true)(h2:∀ t,i<=t->t<A.length->Qh (Xy A t) q=false):i=Zw A q:=by
 have hA:∀ e∈A.take i,Qh e q=true:=fun e he=>by
  obtain⟨t,ht,rfl⟩:=List.mem_take_iff_getElem.1 he;have:=h1 t (by omega);unfold Xy at this;rwa [getD_lt A t VB (by omega)] at this
 have hB:∀ e∈A.drop i,Qh e q=false:=fun e he=>by
  obtain⟨t,ht,rfl⟩:=List.mem_drop_iff_getElem.1 he;have h3:=h2 (i+t) (by omega) (by omega);unfold Xy at h3;rwa [getD_lt A (i+t) VB (by omega)] at h3
 conv=>rhs; rw[<- List.take_append_drop i A]
 rw[PE hA hB,List.length_take]; omega
theorem qh (x y:Eo)(w:World):Below w.heap.size w ((w.alloc (.cells (ZO x) 174)).alloc (.cells (ZO y) 174))/\Bx ((w.alloc (.cells (ZO x) 174)).alloc (.cells (ZO y) 174)) w.heap.size (ZO x) 174/\Bx ((w.alloc (.cells (ZO x) 174)).alloc (.cells (ZO y) 174)) (w.heap.size+1) (ZO y) 174:=by
 have hs:(w.alloc (.cells (ZO x) 174)).heap.size=w.heap.size+1:=by simp
 refine⟨((Below.refl _ w).alloc (Nat.le_refl _) _).alloc (by rw[hs]; omega) _,?_,?_⟩
 ·have h0:Bx (w.alloc (.cells (ZO x) 174)) w.heap.size (ZO x) 174:=heap_alloc_last w _;exact h0.below h0.lt ((Below.refl _ _).alloc (Nat.le_refl _) _)
 ·have h1:=heap_alloc_last (w.alloc (.cells (ZO x) 174)) (.cells (ZO y) 174);rw[hs] at h1;exact h1
theorem jg (a b:Int)(w:World):(Instr.buildSlice 22 2 #[(0,Z9 a),(1,Z9 b)]).run Tryz.prog w=.ok (.slice (some ⟨w.heap.size,0,none⟩) 2 2) (w.alloc (.cells (ZJ [a,b]).toArray 3)):=by
 obtain⟨i0,hi,hz0,hz1,hz2⟩:=info_parts OB;refine run_buildSlice w 22 3 2 _ (ZJ [a,b]).toArray i0 _ Tryz.underlying22 hi hz0 (by rw[hz1]; omega) (by rw[hz1]; omega) ?_;rw[hz1];kernel_rfl
theorem GZ {ρ:Operand->Value}{o:Oper}{x:Operand}(ho:o.op=.convert 3 185 x)(a:Nat)(h:a<=9223372036854775807)(hx:ρ x=Z9 a)(w:World):(execOp ρ o).run Tryz.prog w=.ok (.value (ZV a)) w:=by
 have e:IntKind.u64.wrap (a:Int)=a:=by rw[IntKind.wrap_u64]; omega
 unfold execOp;simp only[ho,hx];go_simp
theorem GY {ρ:Operand->Value}{o:Oper}{x:Operand}(ho:o.op=.convert 185 3 x)(a:Nat)(h:a<=9223372036854775807)(hx:ρ x=ZV a)(w:World):(execOp ρ o).run Tryz.prog w=.ok (.value (Z9 a)) w:=by
 have e:IntKind.i64.wrap (a:Int)=a:=by rw[IntKind.wrap_i64]; omega
 unfold execOp;simp only[ho,hx];go_simp
theorem BF {ρ:Operand->Value}{o:Oper}{x y:Operand}(ho:o.op=.binOp .shr 185 x y 185)(a:Nat)(h:a<=9223372036854775807)(hx:ρ x=ZV a)(hy:ρ y=ZV 1)(w:World):(execOp ρ o).run Tryz.prog w=.ok (.value (ZV (a / 2:Nat))) w:=by
 unfold execOp;simp only[ho,hx,hy];go_simp
theorem Ep (x:Int)(w:World):Calls Tryz.prog 143 #[Z9 x] w fun e w'=>e=.returned ZY/\w=w':=by
 go_enter Tryz.func143,Tryz.ntmps143;go_upto_region 1 with fail;refine wl<|ZB (Z9 x) (Z9 x)<|Zg (VQ rfl x x (decide_eq_false (fun h=>h rfl)))<|ZQ ZY<|wn ?_;simp only[pu];go_wp2_with fail;go_ret;exact⟨rfl,rfl⟩
theorem zJ (a b:Int)(w:World):Calls Tryz.prog 107 #[Z9 a,Z9 b] w fun e w'=>e=.returned (Z9 (XJ a b))/\w=w':=by
 have C1:=Ep a w;have C2:=Ep b w;obtain⟨q,hq⟩:=ZR (XJ a b);have HQ:Hid ((a<b->q=-1)/\(¬ a<b->b<a->q=1)/\(¬ a<b->¬ b<a->q=0)):=Z8 ⟨fun h=>by rw[<- hq]; exact if_pos h,fun h h2=>by rw[<- hq]; unfold XJ; rw[if_neg h,if_pos h2],fun h h2=>by rw[<- hq]; unfold XJ; rw[if_neg h,if_neg h2]⟩;rw[hq];clear hq;go_enter Tryz.func107,Tryz.ntmps107;go_upto_region 1 with fail;refine wl<|ZQ (Z9 a)<|YD ZY (fun w'=>w=w') (C1) (fun V9 XZ=>?_);subst XZ;refine ZQ ZY<|wn ?_;simp only[pu];go_upto_region 2 with fail;refine wl<|ZQ (Z9 b)<|YD ZY (fun w'=>w=w') (C2) (fun V9 XZ=>?_);subst XZ;refine ZQ ZY<|wn ?_;simp only[pu];clear C1 C2;go_upto_region 3 with fail;refine wl<|ZQ ZY<|wn ?_;simp only[pu];go_upto_region 7 with fail;refine wl<|ZQ ZY<|wn ?_;simp only[pu];by_cases h1:a<b
 ·obtain rfl:=HQ.out.1 h1;go_upto_region 9 with fail;refine wl<|ZB (Z9 a) (Z9 b)<|Zg (ZG rfl a b (decide_eq_true h1))<|wn ?_;simp only[pu];go_upto_region 10 with fail;refine wl<|ZQ (Z9 (-1))<|wn ?_;simp only[pu];go_wp2_with fail;go_ret;exact⟨rfl,rfl⟩
 ·go_upto_region 9 with fail;refine wl<|ZB (Z9 a) (Z9 b)<|Zg (ZG rfl a b (decide_eq_false h1))<|wn ?_;simp only[pu];by_cases h2:b<a
  ·obtain rfl:=HQ.out.2.1 h1 h2;go_upto_region 11 with fail;refine wl<|ZB (Z9 a) (Z9 b)<|Zg (YO rfl a b (decide_eq_true h2))<|wn ?_;simp only[pu];go_upto_region 12 with fail;refine wl<|ZQ (Z9 1)<|wn ?_;simp only[pu];go_wp2_with fail;go_ret;exact⟨rfl,rfl⟩
  ·obtain rfl:=HQ.out.2.2 h1 h2;go_upto_region 11 with fail;refine wl<|ZB (Z9 a) (Z9 b)<|Zg (YO rfl a b (decide_eq_false h2))<|wn ?_;simp only[pu];go_upto_region 13 with fail;refine wl<|ZQ (Z9 0)<|wn ?_;simp only[pu];go_wp2_with fail;go_ret;exact⟨rfl,rfl⟩
theorem BL (L:List Int)(gb c:Nat)(w:World)(hl:L.length<=1000)(hX:Cs w (some ⟨gb,0,none⟩) (ZJ L)):Calls Tryz.prog 105 #[.slice (some ⟨gb,0,none⟩) L.length c] w fun e w'=>e=.returned (Z9 (Oj L))/\w=w':=by
 have HR:=Z8 (show Oj (L.drop 0)=Oj L from rfl);have HC:=Z8 hX;have HA:Hid (∀ i,i<L.length->Oj (L.drop i)=if L.getD i 0=0 then Oj (L.drop (i+1)) else L.getD i 0):=Z8 fun i hi=>BK L i hi;have HD:Hid (Oj (L.drop L.length)=0):=Z8 (by rw[List.drop_length]; rfl);generalize Oj L=R at *
 obtain⟨n,hn⟩:=ZR L.length;have HN:=Z8 hn;rw[hn] at hl HA HD ⊢;clear hn hX;go_enter Tryz.func105,Tryz.ntmps105;go_upto_region 1 with fail;refine wl<|ZQ (Z9 0)<|wn ?_;simp only[pu];go_upto_region 2 with fail;refine wl<|YX (.slice (some ⟨gb,0,none⟩) n c) (Z9 n) (Z9 0)<|wn ?_;simp only[pu];go_wp2_with fail;go_loopg [8] n (fun gg s8 wx=>∃ i:Nat,s8=Z9 i/\i<=n/\Hid (Oj (L.drop i)=R)/\w=wx/\n-i=gg)
 case atStart=>exact⟨0,rfl,by omega,HR,rfl,rfl⟩
 case round=>
  obtain⟨i,rfl,hi,hR,rfl,hg⟩:=hrel;have WH:=Z8 hg;clear hg;by_cases hlt:i<n
  ·obtain⟨b,off,e2,hbb,hrx⟩:=PU HC.out (k:=i) (by rw[HN.out]; exact hlt);simp only[Option.some.injEq,Addr.mk.injEq,and_true] at e2;obtain⟨rfl,rfl⟩:=e2;have hR1:=hR.out;rw[HA.out i hlt] at hR1;generalize L.getD i 0=x at *
   have HR1:=Z8 hR1;have HX:=Z8 hrx;clear hR1 hR hrx;go_upto_region 3 with fail;refine wl<|Zg (ZG rfl (i) (n) dT)<|wn ?_;simp only[pu];go_upto_region 4 with fail;refine wl<|Za (Z7 gb (0+i)) (Wn gb 0 n c i hlt _ _ _ rfl (by kernel_rfl) (by kernel_rfl))<|ZC rfl ⟨gb,0+i,none⟩ (Z9 x) (XH HX.out (by kernel_rfl))<|ZQ (Z9 x)<|wn ?_;simp only[pu];by_cases hx0:x=0
   ·have hR2:=HR1.out;rw[if_pos hx0] at hR2;have HR2:=Z8 hR2;clear hR2 HR1 HX;go_upto_region 5 with fail;refine wl<|ZB (Z9 x) (Z9 0)<|Zg (VQ rfl x 0 (decide_eq_false (fun h=>h hx0)))<|wn ?_;simp only[pu];clear hx0;go_upto_region 7 with fail;refine wl<|Za (Z9 (i+1:Nat)) (add_one rfl i (by omega) (by kernel_rfl) _)<|ZQ (Z9 (i+1:Nat))<|wn ?_;simp only[pu];go_wp2_with fail;go_roundg (n-(i+1))
    case measure=>have:=WH.out; omega
    case rel=>exact⟨i+1,rfl,by omega,HR2,rfl,rfl⟩
   ·have hR2:=HR1.out;rw[if_neg hx0] at hR2;have HR2:=Z8 hR2;clear hR2 HR1 HX;go_upto_region 5 with fail;refine wl<|ZB (Z9 x) (Z9 0)<|Zg (VQ rfl x 0 (decide_eq_true hx0))<|wn ?_;simp only[pu];have HX0:=Z8 hx0;clear hx0;go_upto_region 6 with fail;refine wl<|ZB (Z9 x) (Z9 x)<|wn ?_;simp only[pu];go_wp2_with fail;go_ret;exact⟨by rw[HR2.out]; rfl,rfl⟩
  ·obtain rfl:i=n:=(by omega);have hR1:=hR.out;rw[HD.out] at hR1;have HR1:=Z8 hR1;clear hR1 hR;go_upto_region 3 with fail;refine wl<|Zg (ZG rfl (i) (i) dF)<|wn ?_;simp only[pu];go_upto_region 8 with fail;refine wl<|ZB (Z9 0) (Z9 0)<|wn ?_;simp only[pu];go_wp2_with fail;go_ret;exact⟨by rw[<- HR1.out]; rfl,rfl⟩
theorem NC (x y:Eo)(w:World):Calls Tryz.prog 118 #[.agg (ZO x),.agg (ZO y)] w fun e w'=>e=.returned (Z9 (cp2 x y))/\Below w.heap.size w w':=by
 have HF:=Z8 (aw0 x y);generalize cp2 x y=R at *
 obtain⟨hg,h1,h2⟩:=qh x y w;obtain⟨W,hW⟩:=ZR ((w.alloc (.cells (ZO x) 174)).alloc (.cells (ZO y) 174));rw[hW] at hg h1 h2;obtain⟨g0,e0⟩:=ZR w.heap.size;rw[e0] at h1 h2;go_enter Tryz.func118,Tryz.ntmps118;go_upto_region 1 with fail;have HG:=Z8 hg;clear e0 hg hW;refine ZP (C:=fun U=>Below W.heap.size W U) 10 (by kernel_rfl) (by kernel_rfl) ((Below.refl _ W).drew) ?_;simp only[List.take_succ_cons,List.take_zero,List.drop_succ_cons,List.drop_zero];refine gy (Z7 g0 0)<|Zx rfl ⟨g0,0,none⟩ (Z9 x.1) (fun U hU=>(h1.below h1.lt hU).ZM 0)<|gy (Z7 (g0+1) 0) <|
   Zx rfl ⟨g0+1,0,none⟩ (Z9 y.1) (fun U hU=>(h2.below h2.lt hU).ZM 0) ?_
 refine ZA (by kernel_rfl) (some 9) rfl 107 #[Z9 x.1,Z9 y.1] (Z9 (XJ x.1 y.1)) (fun U hU=>by kernel_rfl) (fun U hU=>(zJ x.1 y.1 U).mono fun e w2 q=>⟨q.1,q.2 ▸ hU⟩) ?_;refine gy (Z7 g0 1)<|Zx rfl ⟨g0,1,none⟩ (Z9 x.2) (fun U hU=>(h1.below h1.lt hU).ZM 1)<|gy (Z7 (g0+1) 1) <|
   Zx rfl ⟨g0+1,1,none⟩ (Z9 y.2) (fun U hU=>(h2.below h2.lt hU).ZM 1) ?_
 refine ZA (by kernel_rfl) (some 14) rfl 107 #[Z9 x.2,Z9 y.2] (Z9 (XJ x.2 y.2)) (fun U hU=>by kernel_rfl) (fun U hU=>(zJ x.2 y.2 U).mono fun e w2 q=>⟨q.1,q.2 ▸ hU⟩) ?_;simp only[pu];apply wpQuiet_nil;intro V hV;have HV:=Z8 (HG.out.trans (hV.mono HG.out.size));clear hV h1 h2;obtain⟨V2,hV2⟩:=ZR (V.alloc (.cells (ZJ [XJ x.1 y.1,XJ x.2 y.2]).toArray 3));have hbd:=jg (XJ x.1 y.1) (XJ x.2 y.2) V;have CS:Cs V2 (some ⟨V.heap.size,0,none⟩) (ZJ [XJ x.1 y.1,XJ x.2 y.2]):=Cs.block (by rw[<- hV2]; exact heap_alloc_last V _);have HV2:Hid (Below w.heap.size w V2):=Z8 (HV.out.trans (by rw[<- hV2]; exact(Below.refl _ V).alloc HV.out.size _));rw[hV2] at hbd;have CO:=BL [XJ x.1 y.1,XJ x.2 y.2] V.heap.size 2 V2 (by simp) CS;rw[HF.out] at CO;clear CS hV2 HF HV;refine Zm (by kernel_rfl) (some 15) rfl 22 2 #[(0,.tmp 9),(1,.tmp 14)] rfl #[(0,Z9 (XJ x.1 y.1)),(1,Z9 (XJ x.2 y.2))] (by kernel_rfl) (.slice (some ⟨V.heap.size,0,none⟩) 2 2) _ hbd ?_;refine YD (Z9 R) (fun w9=>V2=w9) CO (fun w9 h9=>?_);simp only[pu];subst h9;refine ZQ (Z9 R)<|wn ?_;simp only[pu];clear CO hbd;go_wp2_with fail;go_ret;exact⟨rfl,HV2.out⟩
theorem ae5 (a:Option Addr)(k:Nat)(A:List Eo)(q:Eo)(w:World)(hR0:Cs w a (encs A))(hs:Ew A)(hn:A.length<=1000000) :
  Calls Tryz.prog 117 #[.slice a A.length k,.agg (ZO q),.func (.func 118) #[] #[]] w fun e w'=>e=.returned (.tuple #[Z9 (Zw A q),.bool (Vm A q)])/\Below w.heap.size w w':=by
 have hb0:Below w.heap.size w (w.alloc (.cells (ZO q) 174)):=(Below.refl _ w).alloc (Nat.le_refl _) _;have hX0:Bx (w.alloc (.cells (ZO q) 174)) w.heap.size (ZO q) 174:=heap_alloc_last w _;obtain⟨W,hW⟩:=ZR (w.alloc (.cells (ZO q) 174));rw[hW] at hb0 hX0;have HA:=Z8 (hR0.below hb0);have HX0:=Z8 hX0;have Af:=Z8 (fun i=>af5 (Xy A i) q);have HS:=Z8 hs;obtain⟨n,hnn⟩:=ZR A.length;have HN:=Z8 hnn;have fZ:Hid (n<=1000000):=Z8 (by omega);obtain⟨lL,qw⟩:=ZR (Zw A q);have nO:Hid (∀ i,i<=n->(∀ t,t<i->Qh (Xy A t) q=true)->(∀ t,i<=t->t<n->Qh (Xy A t) q=false)->i=lL):=Z8 fun i h1 h2 h3=>by
  rw[<- qw];exact qx (by omega) h2 (fun t h4 h5=>h3 t h4 (by omega))
 have HWB:=Z8 hb0;obtain⟨fF,nM⟩:=ZR (Vm A q);have FT:Hid (fF=decide (lL<n/\cp2 (Xy A lL) q=0)):=Z8 (by rw[<- nM,<- qw,<- hnn]; rfl);rw[hnn,qw,nM];obtain⟨g4,hg4⟩:=ZR w.heap.size;rw[hg4] at HX0;have zT:=Z8 hg4;clear qw nM hR0 hs hn hnn hb0 hX0;go_enter Tryz.func117,Tryz.ntmps117;go_upto_region 1 with fail;clear hW hg4;refine wl<|YX (.slice a n k) (Z9 n) (Z9 n)<|wn ?_;simp only[pu];go_upto_region 2 with fail;refine wl<|YX (Z9 n) (Z9 0) (Z9 n)<|wn ?_;simp only[pu];go_wp2_with fail;go_loopg [9,10] n (fun gg s9 s10 wx=>∃ i j:Nat,s9=Z9 i/\s10=Z9 j/\i<=j/\j<=n/\Hid ((∀ t,t<i->Qh (Xy A t) q=true)/\(∀ t,j<=t->t<n->Qh (Xy A t) q=false))/\Hid (Below W.heap.size W wx)/\j-i=gg)
 case atStart=>exact⟨0,n,rfl,rfl,by omega,by omega,Z8 ⟨fun t h=>by omega,fun t h h2=>by omega⟩,Z8 (Below.refl _ _),by omega⟩
 case round=>
  obtain⟨i,j,rfl,rfl,hij,hjn,HO,HB,hg⟩:=hrel;have OZ:=fZ.out;by_cases hlt:i<j
  ·go_upto_region 3 with fail;refine wl<|ZB (Z9 i) (Z9 j)<|Zg (ZG rfl (i) (j) dT)<|wn ?_;simp only[pu];go_upto_region 4 with fail;refine wl<|ZB (Z9 i) (Z9 j)<|Yd (Z9 (i+j:Nat)) (Yk rfl i j (by omega))<|Za (ZV (i+j:Nat)) (GZ rfl (i+j) (by omega) (by kernel_rfl) _) <|
    Yd (ZV ((i+j) / 2:Nat)) (BF rfl (i+j) (by omega))<|Za (Z9 ((i+j) / 2:Nat)) (GY rfl ((i+j) / 2) (by omega) (by kernel_rfl) _)<|ZQ (Z9 ((i+j) / 2:Nat))<|wn ?_
   simp only[pu];obtain⟨h,hh⟩:=ZR ((i+j) / 2);have HH:Hid (i<=h/\h<j):=Z8 (by omega);have hhn:h<n:=(by have:=HH.out; omega);rw[hh];clear hh;obtain⟨b,off,rfl,-,hrx⟩:=QN (HA.out.below HB.out) (i:=h) (by rw[HN.out]; exact hhn);have xM:=HX0.out.below HX0.out.lt HB.out;have hl1:=Af.out h;generalize hy:Xy A h=y at *
   obtain⟨r,hr⟩:=ZR (cp2 y q);have HR:=Z8 hr;rw[hr] at hl1;have HY:=Z8 hy;have HG:=Z8 hg;clear hr hy hg;go_upto_region 5 with fail;by_cases hqq:r<0
   ·rw[decide_eq_true hqq] at hl1;refine ZT (C:=fun U=>Below wr.heap.size wr U) (by kernel_rfl) (by kernel_rfl) ((Below.refl _ wr).drew) ?_;refine gy (.func (.func 118) #[] #[])<|gy (.slice (some ⟨b,off,none⟩) n k)<|gy (Z9 h)<|Ze (Z7 b (off+h*2)) (fun U hU=>Zo b off n k h hhn U _ _ rfl (by kernel_rfl) (by kernel_rfl)) <|
      Zx rfl ⟨b,off+h*2,none⟩ (.agg (ZO y)) (fun U hU=>ZE (ZF hrx hU))<|Zx rfl ⟨g4,0,none⟩ (.agg (ZO q)) (fun U hU=>Td (xM.below xM.lt hU)) ?_
    refine ZA (by kernel_rfl) (some 30) rfl 118 #[.agg (ZO y),.agg (ZO q)] (Z9 r) (fun U hU=>by kernel_rfl) (fun U hU=>(NC y q U).mono fun e w2 z=>⟨by rw[z.1,HR.out],hU.trans (z.2.mono hU.size)⟩) ?_;refine Ze ZX (fun U hU=>ZG rfl r 0 (decide_eq_true hqq) (by kernel_rfl) (by kernel_rfl) U) ?_;simp only[pu];apply wpQuiet_nil;intro V9 XZ;have UK:=Z8 (HB.out.trans (XZ.mono HB.out.size));clear XZ HB hrx xM hqq;have JI:Hid ((∀ t,t<h+1->Qh (Xy A t) q=true)/\(∀ t,j<=t->t<n->Qh (Xy A t) q=false)):=Z8 ⟨fun t ht=>(by rcases Nat.lt_or_ge t h with h7 | h7; exact uG (HS.out t h h7 (by rw[HN.out]; exact hhn)) (by rw[HY.out]; exact hl1.symm); have e7:t=h:=(by omega); rw[e7,HY.out]; exact hl1.symm),HO.out.2⟩;go_upto_region 6 with fail;refine wl<|ZQ (Z9 h)<|Yd (Z9 (h+1:Nat)) (Yk rfl h 1 (by omega))<|ZQ (Z9 (h+1:Nat))<|wn ?_;simp only[pu];clear HO hl1;go_wp2_with fail;go_roundg (j-(h+1))
    case measure=>have:=HG.out; have:=HH.out; omega
    case rel=>exact⟨h+1,j,rfl,rfl,by have:=HH.out; omega,hjn,JI,UK,rfl⟩
   ·rw[decide_eq_false hqq] at hl1;refine ZT (C:=fun U=>Below wr.heap.size wr U) (by kernel_rfl) (by kernel_rfl) ((Below.refl _ wr).drew) ?_;refine gy (.func (.func 118) #[] #[])<|gy (.slice (some ⟨b,off,none⟩) n k)<|gy (Z9 h)<|Ze (Z7 b (off+h*2)) (fun U hU=>Zo b off n k h hhn U _ _ rfl (by kernel_rfl) (by kernel_rfl)) <|
      Zx rfl ⟨b,off+h*2,none⟩ (.agg (ZO y)) (fun U hU=>ZE (ZF hrx hU))<|Zx rfl ⟨g4,0,none⟩ (.agg (ZO q)) (fun U hU=>Td (xM.below xM.lt hU)) ?_
    refine ZA (by kernel_rfl) (some 30) rfl 118 #[.agg (ZO y),.agg (ZO q)] (Z9 r) (fun U hU=>by kernel_rfl) (fun U hU=>(NC y q U).mono fun e w2 z=>⟨by rw[z.1,HR.out],hU.trans (z.2.mono hU.size)⟩) ?_;refine Ze ZY (fun U hU=>ZG rfl r 0 (decide_eq_false hqq) (by kernel_rfl) (by kernel_rfl) U) ?_;simp only[pu];apply wpQuiet_nil;intro V9 XZ;have UK:=Z8 (HB.out.trans (XZ.mono HB.out.size));clear XZ HB hrx xM hqq;have JI:Hid ((∀ t,t<i->Qh (Xy A t) q=true)/\(∀ t,h<=t->t<n->Qh (Xy A t) q=false)):=Z8 ⟨HO.out.1,fun t ht htn=>(by have h0:Qh (Xy A h) q=false:=(by rw[HY.out]; exact hl1.symm); rcases Nat.lt_or_ge h t with h7 | h7; have h8:=HS.out h t h7 (by rw[HN.out]; exact htn); by_cases h9:Qh (Xy A t) q=true; rw[uG h8 h9] at h0; cases h0; simpa using h9; have e7:t=h:=(by omega); rw[e7]; exact h0)⟩;go_upto_region 7 with fail;refine wl<|ZB (Z9 h) (Z9 h)<|wn ?_;simp only[pu];clear HO hl1;go_wp2_with fail;go_roundg (h-i)
    case measure=>have:=HG.out; have:=HH.out; omega
    case rel=>exact⟨i,h,rfl,rfl,by have:=HH.out; omega,by have:=HH.out; omega,JI,UK,rfl⟩
  ·obtain rfl:i=j:=(by omega);have hil:=nO.out i hjn HO.out.1 HO.out.2;have nK:=FT.out;rw[<- hil] at nK;clear FT;subst hil;clear HO nO hg hij;by_cases hin:i<n
   ·obtain⟨b,off,rfl,-,hrx⟩:=QN (HA.out.below HB.out) (i:=i) (by rw[HN.out]; exact hin);have xM:=HX0.out.below HX0.out.lt HB.out;generalize Xy A i=y at *
    obtain⟨r,hr⟩:=ZR (cp2 y q);have HR:=Z8 hr;have ht:decide (r=0)=fF:=(by rw[nK,hr,decide_eq_decide]; exact⟨fun h=>⟨hin,h⟩,fun h=>h.2⟩);have HT:=Z8 ht;clear hr ht nK Af;go_upto_region 3 with fail;refine wl<|ZB (Z9 i) (Z9 i)<|Zg (ZG rfl (i) (i) dF)<|wn ?_;simp only[pu];go_upto_region 8 with fail;refine ZT (C:=fun U=>Below wr.heap.size wr U) (by kernel_rfl) (by kernel_rfl) ((Below.refl _ wr).drew) ?_;refine gy (Z9 i)<|gy (Z9 i)<|gy (Z9 n)<|Ze ZX (fun U hU=>ZG rfl i n dT (by kernel_rfl) (by kernel_rfl) U)<|gy ZX<|gy (.func (.func 118) #[] #[])<|gy (.slice (some ⟨b,off,none⟩) n k)<|gy (Z9 i) <|
      Ze (Z7 b (off+i*2)) (fun U hU=>Zo b off n k i hin U _ _ rfl (by kernel_rfl) (by kernel_rfl))<|Zx rfl ⟨b,off+i*2,none⟩ (.agg (ZO y)) (fun U hU=>ZE (ZF hrx hU)) <|
      Zx rfl ⟨g4,0,none⟩ (.agg (ZO q)) (fun U hU=>Td (xM.below xM.lt hU)) ?_
    refine ZA (by kernel_rfl) (some 46) rfl 118 #[.agg (ZO y),.agg (ZO q)] (Z9 r) (fun U hU=>by kernel_rfl) (fun U hU=>(NC y q U).mono fun e w2 z=>⟨by rw[z.1,HR.out],hU.trans (z.2.mono hU.size)⟩) ?_;refine Ze (.bool fF) (fun U hU=>XY rfl r 0 HT.out (by kernel_rfl) (by kernel_rfl) U)<|gy (.bool fF)<|gy (Z9 i)<|gy (.bool fF) ?_;simp only[pu];apply wpQuiet_nil;intro V9 XZ;have UK:=Z8 (HWB.out.trans ((HB.out.trans (XZ.mono HB.out.size)).mono HWB.out.size));clear XZ HB hrx xM HR HT;go_wp2_with fail;go_ret2;exact⟨rfl,UK.out⟩
   ·rw[decide_eq_false (fun h=>hin h.1)] at nK;subst nK;go_upto_region 3 with fail;refine wl<|ZB (Z9 i) (Z9 i)<|Zg (ZG rfl (i) (i) dF)<|wn ?_;simp only[pu];go_upto_region 8 with fail;refine ZT (C:=fun U=>Below wr.heap.size wr U) (by kernel_rfl) (by kernel_rfl) ((Below.refl _ wr).drew) ?_;refine gy (Z9 i)<|gy (Z9 i)<|gy (Z9 n)<|Ze ZY (fun U hU=>ZG rfl i n dF (by kernel_rfl) (by kernel_rfl) U)<|gy ZY<|Zh<|Zh<|Zh<|Zh<|Zh<|Zh<|Zh<|Zh<|gy ZY<|gy (Z9 i)<|gy ZY ?_;simp only[pu];apply wpQuiet_nil;intro V9 XZ;have UK:=Z8 (HWB.out.trans ((HB.out.trans (XZ.mono HB.out.size)).mono HWB.out.size));clear XZ HB;go_wp2_with fail;go_ret2;exact⟨rfl,UK.out⟩
theorem MB {w:World}{B:Nat}{v:Value}{E:List Eo}(h:Zz w B v E)(hs:UQ E)(hl:E.length<=1000000)(q:Eo):Calls Tryz.prog 117 #[v,.agg (ZO q),.func (.func 118) #[] #[]] w fun e w'=>e=.returned (.tuple #[Z9 (Zw E q),.bool (Vm E q)])/\Below w.heap.size w w':=by
 obtain⟨a,c,rfl,h1,-⟩:=h.cs;exact ae5 a c E q w h1 (jA hs) hl
end Go.Proofs.YtnelmomagdcmnaaGreat.Ex
