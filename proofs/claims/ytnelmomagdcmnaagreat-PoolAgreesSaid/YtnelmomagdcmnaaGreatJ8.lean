/-
  Texts joined.
-/
import Derived.Test.YtnelmomagdcmnaaGreatJ7
set_option maxRecDepth 100000
set_option maxHeartbeats 8000000
set_option linter.unusedSimpArgs false
set_option linter.unusedVariables false
namespace Go.Proofs.YtnelmomagdcmnaaGreat
attribute [local irreducible] wpList wpQuiet
open Go.RowKit
theorem AV {w:World}{a:Option Addr}{c:Nat}{X:List (En×Ad)}(h:Xr w a X)(hl:X.length<=100000)(hr:Yl (lE X)<=40000000):Calls Tryz.prog 39 #[.slice a X.length c] w fun e w'=>e=.returned (Z9 (Yl (lE X)))/\Below w.heap.size w w':=by
 have QY:Hid (∀ V,Below w.heap.size w V->∀ i,i<X.length->∃ b off,a=some ⟨b,off,none⟩/\V.rangeAt b (off+i*41) (Nw (X.getD i Yr))):=Z8 fun V hV i hi=>by
  obtain⟨b,off,h1,-,h2⟩:=(h.below hV).rg hi;exact⟨b,off,h1,h2⟩
 have HL:=RI X;have O6:=YH X;generalize lE X=L at *
 have HSZ:Hid (∀ i,Yl (L.take i)<=40000000):=Z8 fun i=>Nat.le_trans (Az (List.take_sublist i L)) hr;have HKX:Hid (∀ i,i<X.length->(L.getD i Zp)=(X.getD i Yr).1):=Z8 HL;obtain⟨n,hn⟩:=ZR X.length;rw[hn] at QY O6 HKX hl ⊢;have HN:=Z8 hl;have Oc:=Z8 O6;have HST:=Z8 (Below.refl w.heap.size w);clear h hn HL O6 hl hr;go_enter Tryz.func39,Tryz.ntmps39;go_upto_region 1 with fail;refine wl<|ZQ (Z9 0)<|wn ?_;simp only[pu];go_upto_region 2 with fail;refine wl<|YX (.slice a n c) (Z9 n) (Z9 0)<|wn ?_;simp only[pu];go_wp2_with fail;go_loopg [3,8] n (fun gg s3 s8 wx=>∃ (i:Nat),s8=Z9 i/\s3=Z9 (Yl (L.take i))/\i<=n/\gg+i=n/\Hid (Below w.heap.size w wx))
 case atStart=>exact⟨0,rfl,rfl,by omega,by omega,HST⟩
 case round=>
  obtain⟨i,rfl,rfl,hin,hg,HR⟩:=hrel;clear HST;obtain⟨cn,hcn⟩:=ZR (Yl (L.take i));have HCN:=Z8 hcn;rw[hcn];have WH:Hid (gk+i=n):=Z8 hg;clear hg hcn;by_cases hlt:i<n
  ·obtain⟨b,off,hbb,hrg⟩:=QY.out wr HR.out i hlt;obtain rfl:=hbb;have hkx:=HKX.out i hlt;obtain⟨x,hx⟩:=ZR (X.getD i Yr);rw[hx] at hrg hkx;obtain⟨V2,hst2,hb2,Zc⟩:=Zk (c:=ZO Zp YE) (c':=ZO x.1 x.2) (ty:=52) wr rfl (YW _ _) (by kernel_rfl);have HR2:=Z8 (HR.out.trans (hb2.mono HR.out.size));have hs:=tJ L i (by have:=Oc.out; omega);have hsz:=HSZ.out (i+1);rw[HCN.out,hkx] at hs;have HS:=Z8 hs;have HZ:Hid (cn+x.1.raw.length<=40000000):=Z8 (by omega);clear hx hkx HR hs hsz;go_upto_region 3 with fail;refine wl<|Zg (ZG rfl (i) (n) dT)<|wn ?_;simp only[pu];go_upto_region 4 with fail;refine wl<|Za (Z7 b (off+i*41)) (Zo b off n c i hlt _ _ _ rfl (by kernel_rfl) (by kernel_rfl))<|ZC rfl ⟨b,off+i*41,none⟩ (.agg (ZO x.1 x.2)) (ZE hrg) ?_;refine Zj rfl (some 5) rfl (Z7 wr.heap.size 0) (wr.alloc (.cells (ZO Zp YE) 52)) (by kernel_rfl) ?_;refine Yb rfl (hst2)<|wn ?_;obtain⟨g5,hg5⟩:=ZR wr.heap.size;rw[hg5] at Zc ⊢;clear hst2 hb2 hrg hg5;go_upto_region 5 with fail;refine wl<|ZB (Z9 cn) (Z7 g5 32)<|ZC rfl ⟨g5,32,none⟩ (.slice x.2.ra x.1.raw.length x.2.rc) (ZN (ZU Zc) (j:=32) rfl (by kernel_rfl))<|ZQ (Z9 x.1.raw.length) <|
    Yd (Z9 ((cn:Int)+x.1.raw.length)) (W9 rfl cn x.1.raw.length (by have:=HZ.out; omega))<|ZQ (Z9 ((cn:Int)+x.1.raw.length))<|wn ?_
   simp only[pu];clear Zc;go_upto_region 6 with fail;refine wl<|Za (Z9 (i+1:Nat)) (add_one rfl i (by have:=HN.out; omega) (by kernel_rfl) _)<|ZQ (Z9 (i+1:Nat))<|wn ?_;simp only[pu];go_wp2_with fail;go_roundg (n-(i+1))
   case measure=>have:=WH.out; omega
   case rel=>exact⟨i+1,rfl,by rw[HS.out]; rfl,by omega,by omega,HR2⟩
  ·obtain rfl:i=n:=(by omega);go_upto_region 3 with fail;refine wl<|Zg (ZG rfl (i) (i) dF)<|wn ?_;simp only[pu];have hcn:=HCN.out;rw[List.take_of_length_le (by have:=Oc.out; omega)] at hcn;have HE:Hid ((cn:Int)=(Yl L:Int)):=Z8 (by rw[hcn]);clear hcn;go_upto_region 7 with fail;refine wl<|ZB (Z9 cn) (Z9 cn)<|wn ?_;simp only[pu];go_wp2_with fail;go_ret;exact⟨congrArg (fun q=>Ending.returned (Value.int .i64 q)) HE.out,HR.out⟩
def EBs (L:List En):Prop:=∀ i,i<L.length->II (L.getD i Zp)
theorem yD {w:World}{a a2:Option Addr}{c c2:Nat}{X Y:List (En×Ad)}(h:Xr w a X)(h2:Xr w a2 Y)(he:lE X=lE Y)(hl:X.length<=100000)(hB:EBs (lE X)):Calls Tryz.prog 11 #[.slice a X.length c,.slice a2 Y.length c2] w fun e w'=>e=.returned ZX/\Below w.heap.size w w':=by
 have hxy:X.length=Y.length:=by rw[<- YH X,he,YH]
 have lS:Hid (∀ V,Below w.heap.size w V->∀ i,i<X.length->∃ b off b2 off2,a=some ⟨b,off,none⟩/\a2=some ⟨b2,off2,none⟩/\V.rangeAt b (off+i*41) (Nw (X.getD i Yr))/\V.rangeAt b2 (off2+i*41) (Nw (Y.getD i Yr)) /\
   (X.getD i Yr).1=(Y.getD i Yr).1/\II (X.getD i Yr).1/\Vh V (X.getD i Yr).1 (X.getD i Yr).2/\Vh V (Y.getD i Yr).1 (Y.getD i Yr).2):=Z8 fun V hV i hi=>by
  obtain⟨b,off,h1,-,h3⟩:=(h.below hV).rg hi;obtain⟨b2,off2,h4,-,h5⟩:=(h2.below hV).rg (i:=i) (by omega);have e1:=RI X i hi;have e2:=RI Y i (by omega);have e3:=hB i (by rw[YH]; exact hi);rw[e1] at e3;exact⟨b,off,b2,off2,h1,h4,h3,h5,by rw[<- e1,<- e2,he],e3,(h.below hV).en i hi,(h2.below hV).en i (by omega)⟩
 obtain⟨n,hn⟩:=ZR X.length;rw[<- hxy];rw[hn] at lS hl ⊢;have HN:=Z8 hl;clear h h2 he hl hB hxy hn;go_enter Tryz.func11,Tryz.ntmps11;go_upto_region 1 with fail;refine wl<|Qc (.slice a n c) (Z9 n) (.slice a2 n c2) (Z9 n)<|Zg (VQ rfl (n) (n) (decide_eq_false (fun h=>h rfl)))<|wn ?_;simp only[pu];go_upto_region 3 with fail;refine wl<|YX (.slice a n c) (Z9 n) (Z9 0)<|wn ?_;simp only[pu];go_wp2_with fail;go_loopg [13] n (fun gg s13 wx=>∃ (i:Nat),s13=Z9 i/\i<=n/\gg+i=n/\Hid (Below w.heap.size w wx))
 case atStart=>exact⟨0,rfl,by omega,by omega,Z8 (Below.refl _ _)⟩
 case round=>
  obtain⟨i,rfl,hin,hg,HR⟩:=hrel;have WH:Hid (gk+i=n):=Z8 hg;clear hg;by_cases hlt:i<n
  ·obtain⟨b,off,b2,off2,hq1,hq2,-,-,-,-,-,-⟩:=lS.out wr HR.out i hlt;obtain rfl:=hq1;obtain rfl:=hq2;have HRX:Hid (∀ U,Below wr.heap.size wr U->U.rangeAt b (off+i*41) (Nw (X.getD i Yr))/\U.rangeAt b2 (off2+i*41) (Nw (Y.getD i Yr))/\(X.getD i Yr).1=(Y.getD i Yr).1/\II (X.getD i Yr).1/\Vh U (X.getD i Yr).1 (X.getD i Yr).2/\Vh U (Y.getD i Yr).1 (Y.getD i Yr).2):=Z8 fun U hU=>by
    obtain⟨b',off',b2',ay0,e1,e2,r1,r2,r3,r4,r5,r6⟩:=lS.out U (HR.out.trans (hU.mono HR.out.size)) i hlt;cases e1;cases e2;exact⟨r1,r2,r3,r4,r5,r6⟩
   generalize X.getD i Yr=x at *
   generalize Y.getD i Yr=y at *
   obtain⟨e1,d1⟩:=x;obtain⟨e2,d2⟩:=y;obtain rfl:e1=e2:=(HRX.out wr (Below.refl _ _)).2.2.1;have CS:=fun U (hU:Below wr.heap.size wr U)=>Hw (HRX.out U hU).2.2.2.2.1 (HRX.out U hU).2.2.2.2.2 (HRX.out U hU).2.2.2.1;go_upto_region 4 with fail;refine wl<|Zg (ZG rfl (i) (n) dT)<|wn ?_;simp only[pu];go_upto_region 5 with fail;refine wl<|ZB (Z9 i) (Z9 i)<|wn ?_;simp only[pu];go_upto_region 6 with fail;refine ZT (C:=fun U=>Below wr.heap.size wr U) (by kernel_rfl) (by kernel_rfl) ((Below.refl _ wr).drew) ?_;refine gy (.slice (some ⟨b,off,none⟩) n c)<|gy (Z9 i)<|Ze (Z7 b (off+i*41)) (fun U hU=>Zo b off n c i hlt U _ _ rfl (by kernel_rfl) (by kernel_rfl))<|Zx rfl ⟨b,off+i*41,none⟩ (.agg (ZO e1 d1)) (fun U hU=>ZE (HRX.out U hU).1) <|
     gy (.slice (some ⟨b2,off2,none⟩) n c2)<|gy (Z9 i)<|Ze (Z7 b2 (off2+i*41)) (fun U hU=>Zo b2 off2 n c2 i hlt U _ _ rfl (by kernel_rfl) (by kernel_rfl))<|Zx rfl ⟨b2,off2+i*41,none⟩ (.agg (ZO e1 d2)) (fun U hU=>ZE (HRX.out U hU).2.1) ?_
   refine ZA (by kernel_rfl) (some 24) rfl 23 #[.agg (ZO e1 d1),.agg (ZO e1 d2)] ZX (fun U hU=>by kernel_rfl) (fun U hU=>(CS U hU).mono fun e w2 z=>⟨z.1,hU.trans (z.2.mono hU.size)⟩) ?_;refine gy ZY ?_;simp only[pu];apply wpQuiet_nil;intro V3 TN;have HR2:=Z8 (HR.out.trans (TN.mono HR.out.size));clear TN HR CS HRX;go_upto_region 8 with fail;refine wl<|Za (Z9 (i+1:Nat)) (add_one rfl i (by have:=HN.out; omega) (by kernel_rfl) _)<|ZQ (Z9 (i+1:Nat))<|wn ?_;simp only[pu];go_wp2_with fail;go_roundg (n-(i+1))
   case measure=>have:=WH.out; omega
   case rel=>exact⟨i+1,rfl,by omega,by omega,HR2⟩
  ·obtain rfl:i=n:=(by omega);go_upto_region 4 with fail;refine wl<|Zg (ZG rfl (i) (i) dF)<|wn ?_;simp only[pu];go_upto_region 9 with fail;refine wl<|ZQ ZX<|wn ?_;simp only[pu];go_wp2_with fail;go_ret;exact⟨rfl,HR.out⟩
end Go.Proofs.YtnelmomagdcmnaaGreat
namespace Go.Proofs.YtnelmomagdcmnaaGreat
open Go.RowKit
theorem Aj {w:World}{B e s n n2 c:Nat}{a:Option Addr}{xs:List Value}(h:w.ownsRow B e s (.slice a n c) n2 xs){ys:List Value}{k:Nat}(hk:rb a ys k):B<=k:=by
 obtain⟨-,x,hx,rfl⟩:=hk;exact(h.lt x.block (by rw[hx]; rfl)).1
theorem ZF {w w':World}{b o:Nat}{cs:List Value}(h:w.rangeAt b o cs)(hb:Below w.heap.size w w'):w'.rangeAt b o cs:=fun j v hv=>by
 have:=h j v hv;exact(hb.cell (p:=⟨b,o+j,none⟩) (World.block_lt_of_cell? w _ this)).trans this
section
variable {P : Program} {t e s bytes : Nat} {z : Value}
theorem Q5 (hu:P.underlying t=some (.slice e))(hinfo:(P.info? e).map (fun i=>(i.zero,i.size,i.bytes))=some (some z,s,bytes))(hzs:z.cells.size=s)(hs:0<s)(hby:bytes<=1000)
  {w:World} {B n m:Nat} {v:Value} {xs:List Value} (hO:w.ownsRow B e s v n xs) (pa:Option Addr) (cp:Nat) (ys:List Value) (hP:Cs w pa ys) (hl:ys.length=m*s) (h1:∀ u∈ys,u.oneCell'=true) (hB:B<=w.heap.size) (hn:n<=100000) (hm:m<=100000) :
  ∃ v' w',(Builtin.append_ #[t,t] t #[v,.slice pa m cp]).run P w=.ok v' w'/\w'.ownsRow B e s v' (n+m) (xs++ys)/\Below B w w'/\w.grownBy w' v.ownBlock/\(v'.ownBlock=v.ownBlock∨v'.ownBlock=some w.heap.size):=by
 obtain⟨i0,hi,hz0,hz1,hz2⟩:=info_parts hinfo;by_cases hy:ys=[]
 ·subst hy;obtain rfl:m=0:=by
   rcases Nat.eq_zero_or_pos m with h | h
   ·exact h
   ·have:=Nat.mul_pos h hs;rw[<- hl] at this;simp at this
  cases pa with
  | none=>
   refine⟨v,w,?_,by simpa using hO,Below.refl _ _,World.grownBy.refl w _,.inl rfl⟩;rcases hO.2 with⟨rfl,h0⟩ | ⟨g,cap,cur,rfl,_,_,hnc,_⟩
   ·simp[Builtin.append_,run_underlying hu,sizeOf,typeInfo,hi,Builtin.lenOf,Builtin.firstCells]
   ·simp[Builtin.append_,run_underlying hu,sizeOf,typeInfo,hi,Builtin.lenOf,Builtin.firstCells,hnc,storeCells]
  | some x=>
   obtain⟨v',w',hr,h2,h3,-,h4⟩:=run_append_own_at (P:=P) w B t t e i0 z s bytes hu hi hz0 hz1 hz2 hzs hs v n xs hO x 0 cp [] (by simp) (fun j u h=>by simp at h) (by simp) (by unfold maxLen; omega) (by have:=Nat.mul_le_mul (show n+0<=100000 by omega) hby; omega) hB;exact⟨v',w',hr,h2,(Below.refl _ w).grown h3 hB (fun j hj=>(hO.lt j hj).1),h3,h4⟩
 ·obtain⟨y,hy0⟩:∃ y,ys[0]?=some y:=by
   cases ys with
   | nil=>exact absurd rfl hy
   | cons y r=>exact⟨y,rfl⟩
  obtain⟨b,off,rfl,-⟩:=hP 0 y hy0;have hcells:∀ j u,ys[j]?=some u->w.cell? ((⟨b,off,none⟩:Addr).add j)=some u:=fun j u hu=>by
   obtain⟨b2,off2,e2,-,hc⟩:=hP j u hu;simp only[Option.some.injEq,Addr.mk.injEq,and_true] at e2;obtain⟨rfl,rfl⟩:=e2;rw[Addr.add_mid];exact hc
  obtain⟨v',w',hr,h2,h3,-,h4⟩:=run_append_own_at (P:=P) w B t t e i0 z s bytes hu hi hz0 hz1 hz2 hzs hs v n xs hO ⟨b,off,none⟩ m cp ys hl hcells h1 (by unfold maxLen; omega) (by have:=Nat.mul_le_mul (show n+m<=200000 by omega) hby; omega) hB;exact⟨v',w',hr,h2,(Below.refl _ w).grown h3 hB (fun j hj=>(hO.lt j hj).1),h3,h4⟩
end
theorem IJ:(Tryz.prog.info? 52).map (fun i=>(i.zero,i.size,i.bytes))=some (some (.agg (ZO Zp YE)),41,144):=by kernel_rfl
theorem kK (L:List (En×Ad)):∀ u∈QE L,u.oneCell'=true:=NV Nw kJ L
theorem kH (A B:List (En×Ad)):QE (A++B)=QE A++QE B:=List.flatMap_append
theorem SY (L:List (En×Ad))(k:Nat):(QE L).take (k*41)=QE (L.take k):=UO Nw Ur L k
theorem SX (L:List (En×Ad))(k:Nat):(QE L).drop (k*41)=QE (L.drop k):=Uh Nw Ur L k
theorem Vr (x:En×Ad)(V:World):(Instr.buildSlice 29 1 #[(0,.agg (ZO x.1 x.2))]).run Tryz.prog V=.ok (.slice (some ⟨V.heap.size,0,none⟩) 1 1) (V.alloc (.cells (ZO x.1 x.2) 52)):=by
  obtain⟨i0,hi,hz0,hz1,hz2⟩:=info_parts IJ;refine run_buildSlice V 29 52 1 _ (ZO x.1 x.2) i0 _ Tryz.underlying29 hi hz0 (by rw[hz1]; omega) (by rw[hz1]; omega) ?_;rw[hz1];kernel_rfl
theorem QV (w:World):(Instr.buildSlice 29 0 #[]).run Tryz.prog w=.ok (.slice (some ⟨w.heap.size,0,none⟩) 0 0) (w.alloc (.cells #[] 52)):=yJ Tryz.underlying29 IJ w
theorem UM (a:Option Addr)(n c k:Nat)(w:World)(h:k<=c):(Instr.slice 29 (.slice a n c) none (some (Z9 (k:Int))) none).run Tryz.prog w=.ok (.slice a k c) w:=Ib (s:=41) (by kernel_rfl) (fun w=>by kernel_rfl) a n c k w h
theorem Wx (a:Option Addr)(n c k:Nat)(w:World)(h:k<=n):(Instr.slice 29 (.slice a n c) (some (Z9 (k:Int))) none none).run Tryz.prog w=.ok (.slice (Zb 41 a c k) (n-k) (c-k)) w:=KW (s:=41) (by kernel_rfl) (fun w=>by kernel_rfl) a n c k w h
def YR (w:World)(B:Nat)(v:Value)(L:List (En×Ad)):Prop:=w.ownsRow B 52 41 v L.length (QE L)
theorem YR.cs {w:World}{B:Nat}{v:Value}{L:List (En×Ad)}(h:YR w B v L):∃ a c,v=.slice a L.length c/\Cs w a (QE L)/\L.length<=c:=Yy h
theorem vP {w:World}{B:Nat}{v:Value}{A:List (En×Ad)}(h:YR w B v A)(hB:B<=w.heap.size)(pa:Option Addr)(n cp:Nat)(M:List (En×Ad))(hM:Cs w pa (QE M))(hn:M.length=n)(hl:A.length<=100000)(hm:n<=100000) :
    ∃ v' w',(Builtin.append_ #[29,29] 29 #[v,.slice pa n cp]).run Tryz.prog w=.ok v' w'/\YR w' B v' (A++M)/\Below B w w'/\w.grownBy w' v.ownBlock/\(v'.ownBlock=v.ownBlock∨v'.ownBlock=some w.heap.size):=by
  subst hn;obtain⟨v',w',h1,h2,h3⟩:=Q5 (P:=Tryz.prog) (t:=29) (m:=M.length) Tryz.underlying29 IJ (by kernel_rfl) (by omega) (by omega) h pa cp (QE M) hM (Sr M) (kK M) hB hl hm;refine⟨v',w',h1,?_,h3⟩;unfold YR;rw[kH,List.length_append];exact h2
def Row (V0 V:World)(x:Value)(L:List (En×Ad)):Prop:=V.ownsRow V0.heap.size 52 41 x L.length (QE L)
theorem Row.below {V0 V V2:World}{x:Value}{L:List (En×Ad)}(h:Row V0 V x L)(hb:Below V.heap.size V V2):Row V0 V2 x L:=own_below h hb
theorem Row.app {V0 V:World}{x:Value}{L:List (En×Ad)}(h:Row V0 V x L)(hV:V0.heap.size<=V.heap.size)(pa:Option Addr)(m cp:Nat)(P:List (En×Ad))(hP:Cs V pa (QE P))(hm:P.length=m)(hl:L.length<=100000)(hp:m<=100000) :
    ∃ v V2,(Builtin.append_ #[29,29] 29 #[x,.slice pa m cp]).run Tryz.prog V=.ok v V2/\Row V0 V2 v (L++P)/\Below V0.heap.size V V2/\V.grownBy V2 x.ownBlock/\(v.ownBlock=x.ownBlock∨v.ownBlock=some V.heap.size):=vP h hV pa m cp P hP hm hl hp
structure CH (V0:World)(k:En×Ad)(L1 L2 L3:List (En×Ad))(b0 b1 b2 b3 bk:Bool)(x0 x1 x2 x3 xk:Value)(V:World):Prop where
  bel:Below V0.heap.size V0 V
  r0:b0=true->b1=false->Row V0 V x0 []
  r1:b1=true->b2=false->Row V0 V x1 L1
  r2:b2=true->b3=false->Row V0 V x2 L2
  r3:b3=true->Row V0 V x3 L3
  c1:b1=true->b0=true
  c2:b2=true->b1=true
  c3:b3=true->b2=true
  kx:bk=true->∃ g,xk=.slice (some ⟨g,0,none⟩) 1 1/\Bx V g (ZO k.1 k.2) 52/\(b0=true->b1=false->x0.ownBlock≠some g)/\(b1=true->b2=false->x1.ownBlock≠some g)/\(b2=true->b3=false->x2.ownBlock≠some g)
section
variable {V0 V V2 : World} {k : En × Ad} {L1 L2 L3 : List (En × Ad)} {b0 b1 b2 b3 bk : Bool} {x0 x1 x2 x3 xk v : Value}
theorem Row.ne {x:Value}{L:List (En×Ad)}(h:Row V0 V x L):x.ownBlock≠some V.heap.size:=fun e=>Nat.lt_irrefl _ (h.lt _ e).2
theorem CH.nil (h:CH V0 k L1 L2 L3 false false false false bk x0 x1 x2 x3 xk V):CH V0 k L1 L2 L3 true false false false bk (.slice (some ⟨V.heap.size,0,none⟩) 0 0) x1 x2 x3 xk (V.alloc (.cells #[] 52)):=
  have hb:Below V.heap.size V (V.alloc (.cells #[] 52)):=(Below.refl _ V).alloc (Nat.le_refl _) _
  { bel:=h.bel.trans (hb.mono h.bel.size),r0:=fun _ _=>own_base (lF V 52 41) h.bel.size,r1:=fun h1=>(by cases h1),r2:=fun h1=>(by cases h1),r3:=fun h1=>(by cases h1),c1:=fun h1=>(by cases h1),c2:=fun h1=>(by cases h1),c3:=fun h1=>(by cases h1)
    kx:=fun hk=>by
      obtain⟨g,e,hx,-⟩:=h.kx hk;exact⟨g,e,hx.below hx.lt hb,fun _ _ e2=>by have:=hx.lt; simp only[Value.ownBlock,Option.some.injEq] at e2; omega,fun h1=>(by cases h1),fun h1=>(by cases h1)⟩ }
theorem CH.key (h:CH V0 k L1 L2 L3 b0 b1 b2 b3 false x0 x1 x2 x3 xk V):CH V0 k L1 L2 L3 b0 b1 b2 b3 true x0 x1 x2 x3 (.slice (some ⟨V.heap.size,0,none⟩) 1 1) (V.alloc (.cells (ZO k.1 k.2) 52)):=
  have hb:Below V.heap.size V (V.alloc (.cells (ZO k.1 k.2) 52)):=(Below.refl _ V).alloc (Nat.le_refl _) _
  { bel:=h.bel.trans (hb.mono h.bel.size),r0:=fun h1 h2=>(h.r0 h1 h2).below hb,r1:=fun h1 h2=>(h.r1 h1 h2).below hb,r2:=fun h1 h2=>(h.r2 h1 h2).below hb,r3:=fun h1=>(h.r3 h1).below hb,c1:=h.c1,c2:=h.c2,c3:=h.c3
    kx:=fun _=>⟨V.heap.size,rfl,heap_alloc_last V _,fun h1 h2=>(h.r0 h1 h2).ne,fun h1 h2=>(h.r1 h1 h2).ne,fun h1 h2=>(h.r2 h1 h2).ne⟩ }
theorem Kw {g:Nat}{x y:Value}(hx:Bx V g (ZO k.1 k.2) 52)(hn:x.ownBlock≠some g)(hg:V.grownBy V2 x.ownBlock)(hat:y.ownBlock=x.ownBlock∨y.ownBlock=some V.heap.size):Bx V2 g (ZO k.1 k.2) 52/\y.ownBlock≠some g:=
  ⟨(hg.block g hx.lt (Ne.symm hn)).trans hx,fun e=>hat.elim (fun h=>hn (h.symm.trans e)) fun h=>by
    have h2:=h.symm.trans e;have:=hx.lt;simp only[Option.some.injEq] at h2;omega⟩
theorem CH.one (h:CH V0 k L1 L2 L3 true false false false bk x0 x1 x2 x3 xk V)(hO:Row V0 V2 v L1)(hb:Below V0.heap.size V V2)(hg:V.grownBy V2 x0.ownBlock)(hat:v.ownBlock=x0.ownBlock∨v.ownBlock=some V.heap.size):CH V0 k L1 L2 L3 true true false false bk x0 v x2 x3 xk V2:=
  { bel:=h.bel.trans hb,r0:=fun _ h1=>(by cases h1),r1:=fun _ _=>hO,r2:=fun h1=>(by cases h1),r3:=fun h1=>(by cases h1),c1:=fun _=>rfl,c2:=fun h1=>(by cases h1),c3:=fun h1=>(by cases h1)
    kx:=fun hk=>by
      obtain⟨g,e,hx,h0,-⟩:=h.kx hk;obtain⟨h1,h2⟩:=Kw hx (h0 rfl rfl) hg hat;exact⟨g,e,h1,fun _ h3=>(by cases h3),fun _ _=>h2,fun h3=>(by cases h3)⟩ }
theorem CH.two (h:CH V0 k L1 L2 L3 b0 true false false bk x0 x1 x2 x3 xk V)(hO:Row V0 V2 v L2)(hb:Below V0.heap.size V V2)(hg:V.grownBy V2 x1.ownBlock)(hat:v.ownBlock=x1.ownBlock∨v.ownBlock=some V.heap.size):CH V0 k L1 L2 L3 b0 true true false bk x0 x1 v x3 xk V2:=
  { bel:=h.bel.trans hb,r0:=fun _ h1=>(by cases h1),r1:=fun _ h1=>(by cases h1),r2:=fun _ _=>hO,r3:=fun h1=>(by cases h1),c1:=h.c1,c2:=fun _=>rfl,c3:=fun h1=>(by cases h1)
    kx:=fun hk=>by
      obtain⟨g,e,hx,-,h0,-⟩:=h.kx hk;obtain⟨h1,h2⟩:=Kw hx (h0 rfl rfl) hg hat;exact⟨g,e,h1,fun _ h3=>(by cases h3),fun _ h3=>(by cases h3),fun _ _=>h2⟩ }
theorem CH.three (h:CH V0 k L1 L2 L3 b0 b1 true false bk x0 x1 x2 x3 xk V)(hO:Row V0 V2 v L3)(hb:Below V0.heap.size V V2)(hg:V.grownBy V2 x2.ownBlock)(hat:v.ownBlock=x2.ownBlock∨v.ownBlock=some V.heap.size):CH V0 k L1 L2 L3 b0 b1 true true bk x0 x1 x2 v xk V2:=
  have hb1:=h.c2 rfl
  { bel:=h.bel.trans hb,r0:=fun _ h1=>(by rw[hb1] at h1; cases h1),r1:=fun _ h1=>(by cases h1),r2:=fun _ h1=>(by cases h1),r3:=fun _=>hO,c1:=h.c1,c2:=h.c2,c3:=fun _=>rfl
    kx:=fun hk=>by
      obtain⟨g,e,hx,-,-,h0⟩:=h.kx hk;obtain⟨h1,h2⟩:=Kw hx (h0 rfl rfl) hg hat;exact⟨g,e,h1,fun _ h3=>(by rw[hb1] at h3; cases h3),fun _ h3=>(by cases h3),fun _ h3=>(by cases h3)⟩ }
theorem CH.start (V0:World)(k:En×Ad)(L1 L2 L3:List (En×Ad))(x0 x1 x2 x3 xk:Value):CH V0 k L1 L2 L3 false false false false false x0 x1 x2 x3 xk { V0 with drawn:=V0.drawn+1 }:=
  { bel:=(Below.refl _ V0).drew,r0:=fun h1=>(by cases h1),r1:=fun h1=>(by cases h1),r2:=fun h1=>(by cases h1),r3:=fun h1=>(by cases h1),c1:=fun h1=>(by cases h1),c2:=fun h1=>(by cases h1),c3:=fun h1=>(by cases h1),kx:=fun h1=>(by cases h1) }
end
theorem KC {w:World}{X:List (En×Ad)}(h:∀ i,i<X.length->Vh w (X.getD i Yr).1 (X.getD i Yr).2):∀ x∈X,Vh w x.1 x.2:=fun x hx=>by
  obtain⟨i,hi,rfl⟩:=List.getElem_of_mem hx;have:=h i hi;rwa [List.getD_eq_getElem?_getD,List.getElem?_eq_getElem hi] at this
theorem Cm {w:World}{X:List (En×Ad)}(h:∀ x∈X,Vh w x.1 x.2):∀ i,i<X.length->Vh w (X.getD i Yr).1 (X.getD i Yr).2:=fun i hi=>by
  rw[List.getD_eq_getElem?_getD,List.getElem?_eq_getElem hi];exact h _ (List.getElem_mem hi)
def Jk (w:World)(X:List (En×Ad))(v:Value)(w':World):Prop:=∃ a c,v=.slice a X.length c/\Xr w' a X/\X.length<=c/\(∀ k,rb a (QE X) k->w.heap.size<=k)/\Below w.heap.size w w'
theorem Jk.new {w V:World}{X:List (En×Ad)}{v:Value}(h:YR V w.heap.size v X)(he:∀ x∈X,Vh w x.1 x.2)(hb:Below w.heap.size w V):Jk w X v V:=by
  obtain⟨a,c,rfl,h1,h2⟩:=h.cs;exact⟨a,c,rfl,⟨h1,Cm fun x hx=>(he x hx).below hb⟩,h2,fun k hk=>Aj h hk,hb⟩
theorem yE {w:World}{a:Option Addr}{c:Nat}{X:List (En×Ad)}(h:Xr w a X)(hcc:X.length<=c)(hl:X.length<=100000)(i:Nat)(hi:i<X.length):Calls Tryz.prog 70 #[.slice a X.length c,Z9 i] w fun e w'=>∃ v,e=.returned v/\Jk w (X.take i++X.drop (i+1)) v w':=by
  have HMR:=Z8 (fun V (hV:Below w.heap.size w V)=>(h.below hV).cs);have WO:Hid (∀ V v,Below w.heap.size w V->YR V w.heap.size v (X.take i++X.drop (i+1))->∃ u,Ending.returned v=.returned u/\Jk w (X.take i++X.drop (i+1)) u V):=Z8 fun V v hV hv=>⟨v,rfl,Jk.new hv (fun x hx=>KC h.en x (by
    rcases List.mem_append.1 hx with h1 | h1
    · exact List.mem_of_mem_take h1
    · exact List.mem_of_mem_drop h1)) hV⟩
  obtain⟨n,hn⟩:=ZR X.length;have HN:=Z8 hn;have NQ:Hid ((X.take i).length=i):=Z8 (by rw[List.length_take]; omega);have DW:Hid ((X.drop (i+1)).length=n-(i+1)):=Z8 (by rw[List.length_drop]; omega);obtain⟨PO,Yi⟩:=ZR (Jk w (X.take i++X.drop (i+1)));rw[Yi] at WO ⊢;rw[hn] at hcc hl hi ⊢;have h0:=CH.start w Yr (X.take i) (X.take i++X.drop (i+1)) [] undef undef undef undef undef;clear h hn Yi;go_enter Tryz.func70,Tryz.ntmps70;go_upto_region 1 with fail;refine ZK (fun listed ZH V=>∃ b0 b1 b2 b3 b4 b5 b6 b7 b8 b9 b10:Bool,∃ x5 x9 x14:Value,listed=#[b0,b1,b2,b3,b4,b5,b6,b7,b8,b9,b10]/\ZH={ tmps:=#[.slice a n c,Z9 i,undef,undef,(cond b10 (x14) (.slice none 0 0)),x5,(cond b1 (.slice a n c) undef),(cond b2 (Z9 i) undef),(cond b3 (.slice a i c) undef),x9,(cond b5 (.slice a n c) undef),(cond b6 (Z9 i) undef),(cond b7 (Z9 ((i+1:Nat):Int)) undef),(cond b8 (.slice (Zb 41 a c (i+1)) (n-(i+1)) (c-(i+1))) undef),x14],defers:=[] }/\CH w Yr (X.take i) (X.take i++X.drop (i+1)) [] b0 b4 b9 false false x5 x9 x14 undef undef V/\(b10=true->b9=true)) (by kernel_rfl) (by kernel_rfl) ?_ ?_ ?_
  · exact⟨_,_,_,_,_,_,_,_,_,_,_,_,_,_,rfl,rfl,h0,fun h=>(by cases h)⟩
  · intro i9 listed ZH V hi9 hr hJ;obtain⟨b0,b1,b2,b3,b4,b5,b6,b7,b8,b9,b10,x5,x9,x14,rfl,rfl,hF,hA⟩:=hJ;have hi2:i9<11:=hi9;have hi3:i9=0∨i9=1∨i9=2∨i9=3∨i9=4∨i9=5∨i9=6∨i9=7∨i9=8∨i9=9∨i9=10:=(by omega);rcases hi3 with rfl | rfl | rfl | rfl | rfl | rfl | rfl | rfl | rfl | rfl | rfl
    · obtain rfl:b0=false:=Z5 hr;obtain rfl:b4=false:=(by cases b4; rfl; exact absurd (hF.c1 rfl) (by decide));obtain rfl:b9=false:=(by cases b9; rfl; exact absurd (hF.c2 rfl) (by decide));refine Yz rfl (by kernel_rfl) (some 5) rfl 29 0 #[] rfl #[] (by kernel_rfl) (.slice (some ⟨V.heap.size,0,none⟩) 0 0) _ (QV V) ?_;exact⟨_,_,_,_,_,_,_,_,_,_,_,_,_,_,rfl,rfl,hF.nil,hA⟩
    · obtain rfl:b1=false:=Z5 hr;refine ZW rfl (by kernel_rfl) (some 6) rfl (.slice a n c) V (by kernel_rfl) ?_;exact⟨_,_,_,_,_,_,_,_,_,_,_,_,_,_,rfl,rfl,hF,hA⟩
    · obtain rfl:b2=false:=Z5 hr;refine ZW rfl (by kernel_rfl) (some 7) rfl (Z9 i) V (by kernel_rfl) ?_;exact⟨_,_,_,_,_,_,_,_,_,_,_,_,_,_,rfl,rfl,hF,hA⟩
    · obtain rfl:b3=false:=Z5 hr;obtain rfl:b1=true:=Z4 hr 1;obtain rfl:b2=true:=Z4 hr 2;refine WB rfl (by kernel_rfl) (some 8) rfl 29 (.tmp 6) (.tmp 7) rfl (.slice a n c) (Z9 (i:Int)) (.slice a i c) (by kernel_rfl) (by kernel_rfl) (UM a n c i V (by omega)) ?_;exact⟨_,_,_,_,_,_,_,_,_,_,_,_,_,_,rfl,rfl,hF,hA⟩
    · obtain rfl:b4=false:=Z5 hr;obtain rfl:b0=true:=Z4 hr 0;obtain rfl:b3=true:=Z4 hr 3;obtain rfl:b9=false:=(by cases b9; rfl; exact absurd (hF.c2 rfl) (by decide));have hO:=hF.r0 rfl rfl;obtain⟨v,V2,hap,hO2,hb2,hg2,X0⟩:=hO.app hF.bel.size a i c (X.take i) (by rw[<- SY]; exact(HMR.out _ hF.bel).take _) NQ.out (by simp) (by omega);refine Zf rfl (by kernel_rfl) (some 9) rfl 29 rfl (.tmp 5) (.tmp 8) 29 rfl x5 (.slice a i c) v V2 (by kernel_rfl) (by kernel_rfl) hap ?_;exact⟨true,b1,b2,true,true,b5,b6,b7,b8,false,b10,x5,v,x14,rfl,rfl,hF.one (by rw[List.nil_append] at hO2; exact hO2) hb2 hg2 X0,hA⟩
    · obtain rfl:b5=false:=Z5 hr;refine ZW rfl (by kernel_rfl) (some 10) rfl (.slice a n c) V (by kernel_rfl) ?_;exact⟨_,_,_,_,_,_,_,_,_,_,_,_,_,_,rfl,rfl,hF,hA⟩
    · obtain rfl:b6=false:=Z5 hr;refine ZW rfl (by kernel_rfl) (some 11) rfl (Z9 i) V (by kernel_rfl) ?_;exact⟨_,_,_,_,_,_,_,_,_,_,_,_,_,_,rfl,rfl,hF,hA⟩
    · obtain rfl:b7=false:=Z5 hr;obtain rfl:b6=true:=Z4 hr 6;refine ZW rfl (by kernel_rfl) (some 12) rfl (Z9 ((i+1:Nat):Int)) V (add_one rfl i (by omega) (by kernel_rfl) V) ?_;exact⟨_,_,_,_,_,_,_,_,_,_,_,_,_,_,rfl,rfl,hF,hA⟩
    · obtain rfl:b8=false:=Z5 hr;obtain rfl:b5=true:=Z4 hr 5;obtain rfl:b7=true:=Z4 hr 7;refine Xq rfl (by kernel_rfl) (some 13) rfl 29 (.tmp 10) (.tmp 12) rfl (.slice a n c) (Z9 (((i+1):Nat):Int)) (.slice (Zb 41 a c (i+1)) (n-(i+1)) (c-(i+1))) (by kernel_rfl) (by kernel_rfl) (Wx a n c ((i+1)) V (by omega)) ?_;exact⟨_,_,_,_,_,_,_,_,_,_,_,_,_,_,rfl,rfl,hF,hA⟩
    · obtain rfl:b9=false:=Z5 hr;obtain rfl:b4=true:=Z4 hr 4;obtain rfl:b8=true:=Z4 hr 8;obtain rfl:b10=false:=(by cases b10; rfl; exact absurd (hA rfl) (by decide));have hO:=hF.r1 rfl rfl;obtain⟨v,V2,hap,hO2,hb2,hg2,X0⟩:=hO.app hF.bel.size (Zb 41 a c (i+1)) (n-(i+1)) (c-(i+1)) (X.drop (i+1)) (by rw[<- SX]; exact(HMR.out _ hF.bel).from 41 c (i+1) (by rw[Sr,HN.out]; omega)) DW.out (by rw[NQ.out]; omega) (by omega);refine Zf rfl (by kernel_rfl) (some 14) rfl 29 rfl (.tmp 9) (.tmp 13) 29 rfl x9 (.slice (Zb 41 a c (i+1)) (n-(i+1)) (c-(i+1))) v V2 (by kernel_rfl) (by kernel_rfl) hap ?_;exact⟨b0,b1,b2,b3,true,b5,b6,b7,true,true,false,x5,x9,v,rfl,rfl,hF.two hO2 hb2 hg2 X0,fun h=>(by cases h)⟩
    · obtain rfl:b10=false:=Z5 hr;obtain rfl:b9=true:=Z4 hr 9;refine ZW rfl (by kernel_rfl) (some 4) rfl (x14) V (by kernel_rfl) ?_;exact⟨_,_,_,_,_,_,_,_,_,_,_,_,_,_,rfl,rfl,hF,fun _=>rfl⟩
  · intro ZH V hJ;obtain⟨b0,b1,b2,b3,b4,b5,b6,b7,b8,b9,b10,x5,x9,x14,he,rfl,hF,hA⟩:=hJ;have he:(#[true,true,true,true,true,true,true,true,true,true,true]:Array Bool)=#[b0,b1,b2,b3,b4,b5,b6,b7,b8,b9,b10]:=he;simp only[Array.mk.injEq,List.cons.injEq,and_true] at he;obtain⟨rfl,rfl,rfl,rfl,rfl,rfl,rfl,rfl,rfl,rfl,rfl⟩:=he;simp only[cond_true];have hO:=hF.r2 rfl rfl;have HE:=Z8 (WO.out V x14 hF.bel hO);clear hF h0 hO HMR WO;go_wp2_with fail;go_ret;exact HE.out
end Go.Proofs.YtnelmomagdcmnaaGreat
namespace Go.Proofs.YtnelmomagdcmnaaGreat
attribute [local irreducible] wpList wpQuiet
open Go.RowKit
abbrev Zu (c:List Int):Array Value:=#[Z9 (c.getD 0 0),Z9 (c.getD 1 0),Z9 (c.getD 2 0),Z9 (c.getD 3 0),Z9 (c.getD 4 0),Z9 (c.getD 5 0),.bool (decide (c.getD 6 0=1)),Z9 (c.getD 7 0),Z9 (c.getD 8 0),ZV (c.getD 9 0),Z9 (c.getD 10 0),Z9 (c.getD 11 0)]
abbrev Y0 (c:List Int)(a:Option Addr)(n cp:Nat):Array Value:=#[Z9 (c.getD 0 0),Z9 (c.getD 1 0),Z9 (c.getD 2 0),Z9 (c.getD 3 0),Z9 (c.getD 4 0),Z9 (c.getD 5 0),.bool (decide (c.getD 6 0=1)),Z9 (c.getD 7 0),Z9 (c.getD 8 0),ZV (c.getD 9 0),Z9 (c.getD 10 0),Z9 (c.getD 11 0),.slice a n cp]
theorem YA {w:World}{g k:Nat}{c:List Int}{a:Option Addr}{n cp:Nat}(h:Bx w g (Y0 c a n cp) k):(Instr.loadAt 31 (Z7 g 0)).run Tryz.prog w=.ok (.agg (Y0 c a n cp)) w:=run_loadAt_mid w g 0 31 (Y0 c a n cp).toList _ (ZU (cs:=(Y0 c a n cp).toList) h) Tryz.underlying31 rfl (by kernel_rfl)
theorem MJ {w:World}{g k:Nat}{c:List Int}{a:Option Addr}{n cp:Nat}(h:Bx w g (Y0 c a n cp) k):(Instr.loadAt 25 (Z7 g 0)).run Tryz.prog w=.ok (.agg (Zu c)) w:=run_loadAt_mid w g 0 25 (Zu c).toList _ (fun j v hv=>(ZU (cs:=(Zu c).toList++[.slice a n cp]) h) j v (by rw[List.getElem?_append_left (List.getElem?_eq_some_iff.1 hv).1]; exact hv)) Tryz.underlying25 rfl (by kernel_rfl)
def Xc (X:List (En×Ad))(k:Nat->Int):List (En×Ad):=X.take (Vs k (lE X))++X.drop (Vs k (lE X)+1)
theorem I4 (X:List (En×Ad))(k:Nat->Int):lE (Xc X k)=PX (lE X) k:=by
 unfold Xc PX lE;rw[List.map_append,List.map_take,List.map_drop]
def mZ (w:World)(a:Option Addr)(X Y:List (En×Ad))(c:List Int)(q:Value)(e:Ending)(w':World):Prop:=∃ a2 c2,e=.returned (.tuple #[.agg (Y0 c a2 Y.length c2),q])/\Xr w' a2 Y/\Y.length<=c2/\(∀ k,rb a2 (QE Y) k->rb a (QE X) k∨w.heap.size<=k)/\Below w.heap.size w w'
structure KM (w:World)(c:List Int)(a:Option Addr)(n cp g2 g4:Nat)(Y:List (En×Ad))(b5 b6 b7:Bool)(x y:Value)(V:World):Prop where
 bel:Below w.heap.size w V
 b2:Bx V g2 (Y0 c a n cp) 31
 b4:∃ cs,cs.size=13/\Bx V g4 cs 31
 o6:b6=true->b5=true
 o7:b7=true->b6=true
 cal:b5=true->∃ a2 c2,x=.slice a2 Y.length c2/\Y.length<=c2/\Xr V a2 Y/\(∀ k,xA a2 Y k->k≠g4)/\(∀ k,rb a2 (QE Y) k->w.heap.size<=k)/\(b6=true->y=.agg (Y0 c a2 Y.length c2))/\(b7=true->Bx V g4 (Y0 c a2 Y.length c2) 31)
section
variable {w V V2 : World} {c : List Int} {a : Option Addr} {n cp g2 g4 : Nat} {Y : List (En × Ad)} {b5 b6 b7 : Bool} {x y v : Value}
theorem KM.start (hb:Below w.heap.size w V)(h2:Bx V g2 (Y0 c a n cp) 31){cs:Array Value}(hz:cs.size=13)(h4:Bx V g4 cs 31)(x y:Value):KM w c a n cp g2 g4 Y false false false x y V.drew:=
 ⟨hb.drew,h2.below h2.lt (Below.refl _ V).drew,⟨cs,hz,h4.below h4.lt (Below.refl _ V).drew⟩,fun h=>by(cases h),fun h=>by(cases h),fun h=>by(cases h)⟩
theorem KM.n5 (h:KM w c a n cp g2 g4 Y false b6 b7 x y V):b6=false/\b7=false:=by
 obtain rfl:=O7 h.o6 rfl;obtain rfl:=O7 h.o7 rfl;exact⟨rfl,rfl⟩
theorem KM.s5 (h:KM w c a n cp g2 g4 Y false false false x y V)(hx:Jk V Y v V2)(hw:w.heap.size<=g4)(he:∀ i,i<Y.length->∀ k,EB (Y.getD i Yr).1 (Y.getD i Yr).2 k->k<w.heap.size):KM w c a n cp g2 g4 Y true false false v y V2:=by
 obtain⟨a2,c2,rfl,h1,h2,h3,h4⟩:=hx;obtain⟨cs,hz,hb4⟩:=h.b4;have hs:=h.bel.size;have hl:=hb4.lt;refine⟨h.bel.trans (h4.mono hs),h.b2.below h.b2.lt h4,⟨cs,hz,hb4.below hl h4⟩,fun _=>rfl,fun q=>by(cases q),fun _=>⟨a2,c2,rfl,h2,h1,fun k hk=>?_,fun k hk=>by have:=h3 k hk; omega,fun q=>by(cases q),fun q=>by(cases q)⟩⟩;rcases hk with hk | ⟨i,hi,hk⟩
 ·have:=h3 k hk; omega
 ·have:=he i hi k hk; omega
theorem KM.n6 (h:KM w c a n cp g2 g4 Y true false b7 x y V):b7=false:=O7 h.o7 rfl
theorem KM.s6 (h:KM w c a n cp g2 g4 Y true false false x y V):∃ a2 c2,x=.slice a2 Y.length c2/\KM w c a n cp g2 g4 Y true true false x (.agg (Y0 c a2 Y.length c2)) V:=by
 obtain⟨a2,c2,e1,h1,h2,h3,h4,-,-⟩:=h.cal rfl;exact⟨a2,c2,e1,{ h with o6:=fun _=>rfl,o7:=fun q=>by(cases q),cal:=fun _=>⟨a2,c2,e1,h1,h2,h3,h4,fun _=>rfl,fun q=>by(cases q)⟩ }⟩
theorem KM.s7 (h:KM w c a n cp g2 g4 Y true true false x y V)(h24:g2≠g4)(hw:w.heap.size<=g4):∃ a2 c2 V2,x=.slice a2 Y.length c2/\y=.agg (Y0 c a2 Y.length c2)/\(Instr.storeAt 31 (Z7 g4 0) y).run Tryz.prog V=.ok () V2/\KM w c a n cp g2 g4 Y true true true x y V2:=by
 obtain⟨a2,c2,e1,h1,h2,h3,h4,h5,-⟩:=h.cal rfl;obtain⟨cs,hz,hb4⟩:=h.b4;have e2:=h5 rfl;obtain⟨V2,hst,hX,hbt⟩:=st_all (cs':=Y0 c a2 Y.length c2) (ty:=31) hb4 (by rw[hz]; rfl) (by kernel_rfl) (by kernel_rfl);refine⟨a2,c2,V2,e1,e2,by rw[e2]; exact hst,h.bel.trans (hbt.1.mono hw),h.b2.but hbt h24,⟨_,rfl,hX⟩,fun _=>rfl,fun _=>rfl,fun _=>⟨a2,c2,e1,h1,h2.same fun k hk=>hbt.2 k (h2.lt k hk) (h3 k hk),h3,h4,fun _=>e2,fun _=>hX⟩⟩
end
theorem EP {ρ:Operand->Value}{o:Oper}{x y:Operand}(ho:o.op=.build 31 #[(0,x),(1,y)])(c:List Int)(a:Option Addr)(n cp:Nat)(hx:ρ x=.agg (Zu c))(hy:ρ y=.slice a n cp)(w:World):(execOp ρ o).run Tryz.prog w=.ok (.value (.agg (Y0 c a n cp))) w:=by
 unfold execOp;simp only[ho,hx,hy];go_simp
theorem F9 {w:World}{a:Option Addr}{cp:Nat}{X:List (En×Ad)}(h:Xr w a X)(hcc:X.length<=cp)(hl:X.length<=100000)(c:List Int)(k:Nat->Int):Calls Tryz.prog 37 #[.agg (Y0 c a X.length cp),.agg (Zv k)] w (mZ w a X (Xc X k) c (.bool (XP (lE X) k))):=by
 have HOLD:Hid (∀ V,Below w.heap.size w V->¬ Vs k (lE X)<X.length->mZ w a X (Xc X k) c (.bool (XP (lE X) k)) (.returned (.tuple #[.agg (Y0 c a X.length cp),ZY])) V):=Z8 fun V hV hn=>by
  have e1:Xc X k=X:=by unfold Xc; rw[List.take_of_length_le (by omega),List.drop_of_length_le (by omega),List.append_nil]
  have e2:XP (lE X) k=false:=by unfold XP; rw[YH]; exact decide_eq_false hn
  rw[e1,e2];exact⟨a,cp,rfl,h.below hV,hcc,fun k hk=>.inl hk,hV⟩
 have WO:Hid (∀ V a2 c2,Below w.heap.size w V->Vs k (lE X)<X.length->Xr V a2 (Xc X k)->(Xc X k).length<=c2->(∀ k',rb a2 (QE (Xc X k)) k'->w.heap.size<=k')->mZ w a X (Xc X k) c (.bool (XP (lE X) k)) (.returned (.tuple #[.agg (Y0 c a2 (Xc X k).length c2),ZX])) V):=Z8 fun V a2 c2 hV hn h1 h2 h3=>by
  have e2:XP (lE X) k=true:=by unfold XP; rw[YH]; exact decide_eq_true hn
  rw[e2];exact⟨a2,c2,rfl,h1,h2,fun k hk=>.inr (h3 k hk),hV⟩
 have CA:=Z8 fun V (hV:Below w.heap.size w V)=>r_at (c:=cp) (h.below hV) hl k;have CW:=Z8 fun V (hV:Below w.heap.size w V) (hi:Vs k (lE X)<X.length)=>yE (h.below hV) hcc hl (Vs k (lE X)) hi;have Nb:Hid (∀ i,i<(Xc X k).length->∀ k',EB ((Xc X k).getD i Yr).1 ((Xc X k).getD i Yr).2 k'->k'<w.heap.size):=Z8 fun i hi k' hk=>by
  have hm:(Xc X k).getD i Yr∈Xc X k:=by rw[List.getD_eq_getElem?_getD,List.getElem?_eq_getElem hi]; exact List.getElem_mem hi
  have hx:(Xc X k).getD i Yr∈X:=by
   unfold Xc at hm;rcases List.mem_append.1 hm with h1 | h1
   ·exact List.mem_of_mem_take h1
   ·exact List.mem_of_mem_drop h1
  exact(KC h.en _ hx).lt k' hk
 have kL:Hid (Vs k (lE X)<X.length->DV k (lE X)=((Vs k (lE X):Nat):Int)):=Z8 fun hi=>by unfold DV; rw[if_pos (by rw[YH]; exact hi)]
 have HAN:Hid (¬ Vs k (lE X)<X.length->DV k (lE X)=-1):=Z8 fun hi=>by unfold DV; rw[if_neg (by rw[YH]; exact hi)]
 rw[show X.take (Vs k (lE X))++X.drop (Vs k (lE X)+1)=Xc X k from rfl] at CW;obtain⟨j,hj⟩:=ZR (Vs k (lE X));rw[hj] at HOLD WO CW kL HAN;obtain⟨Y,hY⟩:=ZR (Xc X k);rw[hY] at HOLD WO CW Nb ⊢;obtain⟨PO,Yi⟩:=ZR (mZ w a X Y c (.bool (XP (lE X) k)));rw[Yi] at HOLD WO ⊢;obtain⟨av,hav⟩:=ZR (DV k (lE X));rw[hav] at CA kL HAN;obtain⟨n,hn⟩:=ZR X.length;rw[hn] at HOLD WO CA CW kL HAN ⊢;clear h hcc hl hj hY Yi hav hn;go_enter Tryz.func37,Tryz.ntmps37;go_upto_region 1 with fail;change Code.wp _ _ _ _ (((w.alloc (.cells (Y0 c a n cp) 31)).alloc (.cells (Zv k) 38)).alloc (.cells (#[Z9 0,Z9 0,Z9 0,Z9 0,Z9 0,Z9 0,ZY,Z9 0,Z9 0,ZV 0,Z9 0,Z9 0,.slice none 0 0]) 31));have Zd:Below w.heap.size w (w.alloc (.cells (Y0 c a n cp) 31)):=(Below.refl _ w).alloc (Nat.le_refl _) _;have hX2:Bx (w.alloc (.cells (Y0 c a n cp) 31)) w.heap.size (Y0 c a n cp) 31:=heap_alloc_last w _;have Yg:(w.alloc (.cells (Y0 c a n cp) 31)).heap.size=w.heap.size+1:=by simp
 generalize w.alloc (.cells (Y0 c a n cp) 31)=YP at *
 have XE:Below w.heap.size w (YP.alloc (.cells (Zv k) 38)):=Zd.alloc Zd.size _;have hX2:=hX2.below hX2.lt ((Below.refl _ YP).alloc (Nat.le_refl _) (.cells (Zv k) 38));have Zr:Bx (YP.alloc (.cells (Zv k) 38)) YP.heap.size (Zv k) 38:=heap_alloc_last YP _;have Vg:(YP.alloc (.cells (Zv k) 38)).heap.size=YP.heap.size+1:=by simp
 generalize YP.alloc (.cells (Zv k) 38)=JE at *
 have tZ:Below w.heap.size w (JE.alloc (.cells (#[Z9 0,Z9 0,Z9 0,Z9 0,Z9 0,Z9 0,ZY,Z9 0,Z9 0,ZV 0,Z9 0,Z9 0,.slice none 0 0]) 31)):=XE.alloc XE.size _;have hX2:=hX2.below hX2.lt ((Below.refl _ JE).alloc (Nat.le_refl _) (.cells (#[Z9 0,Z9 0,Z9 0,Z9 0,Z9 0,Z9 0,ZY,Z9 0,Z9 0,ZV 0,Z9 0,Z9 0,.slice none 0 0]) 31));have Zr:=Zr.below Zr.lt ((Below.refl _ JE).alloc (Nat.le_refl _) (.cells (#[Z9 0,Z9 0,Z9 0,Z9 0,Z9 0,Z9 0,ZY,Z9 0,Z9 0,ZV 0,Z9 0,Z9 0,.slice none 0 0]) 31));have Xu:Bx (JE.alloc (.cells (#[Z9 0,Z9 0,Z9 0,Z9 0,Z9 0,Z9 0,ZY,Z9 0,Z9 0,ZV 0,Z9 0,Z9 0,.slice none 0 0]) 31)) JE.heap.size (#[Z9 0,Z9 0,Z9 0,Z9 0,Z9 0,Z9 0,ZY,Z9 0,Z9 0,ZV 0,Z9 0,Z9 0,.slice none 0 0]) 31:=heap_alloc_last JE _;have aa9:(JE.alloc (.cells (#[Z9 0,Z9 0,Z9 0,Z9 0,Z9 0,Z9 0,ZY,Z9 0,Z9 0,ZV 0,Z9 0,Z9 0,.slice none 0 0]) 31)).heap.size=JE.heap.size+1:=by simp
 generalize JE.alloc (.cells (#[Z9 0,Z9 0,Z9 0,Z9 0,Z9 0,Z9 0,ZY,Z9 0,Z9 0,ZV 0,Z9 0,Z9 0,.slice none 0 0]) 31)=W at *
 obtain⟨g2,hg2⟩:=ZR w.heap.size;rw[hg2] at hX2;obtain⟨g3,hg3⟩:=ZR YP.heap.size;rw[hg3] at Zr;obtain⟨g4,hg4⟩:=ZR JE.heap.size;rw[hg4] at Xu;have hq1:w.heap.size+1=g3:=by omega
 have hq2:w.heap.size+2=g4:=by omega
 have Xm:Hid (g2=w.heap.size+0/\g3=w.heap.size+1/\g4=w.heap.size+2/\W.heap.size=w.heap.size+3):=Z8 ⟨by omega,by omega,by omega,by omega⟩;have HB:=Z8 tZ;simp only[hg2];try simp only[show g2+1=g3 by omega]
 try simp only[show g3+1=g4 by omega]
 clear Zd Yg hg2 XE Vg hg3 tZ aa9 hg4 hq1 hq2;have EU:=CA.out W HB.out;refine wl<|ZQ (Z7 g2 12)<|ZC rfl ⟨g2,12,none⟩ (.slice a n cp) (hX2.ZM 12)<|ZC rfl ⟨g3,0,none⟩ (.agg (Zv k)) (UZ Zr)<|YD (Z9 av) (fun w'=>Below W.heap.size W w') (EU) (fun V2 hV2=>?_);refine ZQ (Z9 av)<|wn ?_;simp only[pu];have Yt:=hX2.below hX2.lt hV2;have WU:=Xu.below Xu.lt hV2;have HB2:=Z8 (HB.out.trans (hV2.mono HB.out.size));have HG:=Z8 (show g2≠g4/\w.heap.size<=g4 by have:=Xm.out; omega);clear hX2 Zr Xu hV2 EU Xm CA;by_cases hj:j<n
 ·have hav:=kL.out hj;subst hav;have HJ:=Z8 hj;have CW2:=Z8 fun V hV=>CW.out V hV hj;go_upto_region 2 with fail;refine wl<|ZQ (Z9 j)<|Zg (ZG rfl (j:Int) 0 dF)<|wn ?_;simp only[pu];have h0:=KM.start (Y:=Y) HB2.out Yt (cs:=#[Z9 0,Z9 0,Z9 0,Z9 0,Z9 0,Z9 0,ZY,Z9 0,Z9 0,ZV 0,Z9 0,Z9 0,.slice none 0 0]) rfl WU undef undef;clear Yt WU kL HAN HOLD CW;go_upto_region 4 with fail;refine ZK (fun listed ZH V=>∃ b0 b1 b2 b3 b4 b5 b6 b7 b8:Bool,∃ x19 x20:Value,listed=#[b0,b1,b2,b3,b4,b5,b6,b7,b8]/\ZH={ tmps:=#[.agg (Y0 c a n cp),.agg (Zv k),Z7 g2 0,Z7 g3 0,Z7 g4 0,(cond b8 ZX ZY),Z9 j,Z7 g2 12,.slice a n cp,.agg (Zv k),Z9 j,Z9 j,ZY,undef,(cond b0 (Z7 g2 0) undef),(cond b1 (.agg (Zu c)) undef),(cond b2 (Z7 g2 12) undef),(cond b3 (.slice a n cp) undef),(cond b4 (Z9 j) undef),x19,x20],defers:=[] }/\KM w c a n cp g2 g4 Y b5 b6 b7 x19 x20 V) (by kernel_rfl) (by kernel_rfl) ?_ ?_ ?_
  ·exact⟨_,_,_,_,_,_,_,_,_,_,_,rfl,rfl,h0⟩
  ·intro i9 listed ZH V hi9 hr hJ;obtain⟨b0,b1,b2,b3,b4,b5,b6,b7,b8,x19,x20,rfl,rfl,hF⟩:=hJ;have hi2:i9<9:=hi9;have hi3:i9=0∨i9=1∨i9=2∨i9=3∨i9=4∨i9=5∨i9=6∨i9=7∨i9=8:=(by omega);rcases hi3 with rfl | rfl | rfl | rfl | rfl | rfl | rfl | rfl | rfl
   ·obtain rfl:b0=false:=Z5 hr;refine ZW rfl (by kernel_rfl) (some 14) rfl (Z7 g2 0) V (by kernel_rfl) ?_;exact⟨_,_,_,_,_,_,_,_,_,_,_,rfl,rfl,hF⟩
   ·obtain rfl:b1=false:=Z5 hr;obtain rfl:b0=true:=Z4 hr 0;refine ZI rfl (by kernel_rfl) (some 15) rfl 25 (.tmp 14) rfl ⟨g2,0,none⟩ (.agg (Zu c)) (by kernel_rfl) (MJ hF.b2) ?_;exact⟨_,_,_,_,_,_,_,_,_,_,_,rfl,rfl,hF⟩
   ·obtain rfl:b2=false:=Z5 hr;refine ZW rfl (by kernel_rfl) (some 16) rfl (Z7 g2 12) V (by kernel_rfl) ?_;exact⟨_,_,_,_,_,_,_,_,_,_,_,rfl,rfl,hF⟩
   ·obtain rfl:b3=false:=Z5 hr;obtain rfl:b2=true:=Z4 hr 2;refine ZI rfl (by kernel_rfl) (some 17) rfl 29 (.tmp 16) rfl ⟨g2,12,none⟩ (.slice a n cp) (by kernel_rfl) (hF.b2.ZM 12) ?_;exact⟨_,_,_,_,_,_,_,_,_,_,_,rfl,rfl,hF⟩
   ·obtain rfl:b4=false:=Z5 hr;refine ZW rfl (by kernel_rfl) (some 18) rfl (Z9 j) V (by kernel_rfl) ?_;exact⟨_,_,_,_,_,_,_,_,_,_,_,rfl,rfl,hF⟩
   ·obtain rfl:b5=false:=Z5 hr;obtain rfl:b3=true:=Z4 hr 3;obtain rfl:b4=true:=Z4 hr 4;obtain⟨rfl,rfl⟩:=hF.n5;refine Zl rfl (by kernel_rfl) (some 19) rfl 70 #[.slice a n cp,Z9 j] (by kernel_rfl) ((CW2.out V hF.bel).mono fun e9 V9 MR=>?_);obtain⟨v9,rfl,hx9⟩:=MR;refine⟨_,rfl,?_⟩;exact⟨_,_,_,_,_,_,_,_,_,_,_,rfl,rfl,hF.s5 hx9 HG.out.2 Nb.out⟩
   ·obtain rfl:b6=false:=Z5 hr;obtain rfl:b1=true:=Z4 hr 1;obtain rfl:b5=true:=Z4 hr 5;obtain rfl:=hF.n6;obtain⟨a9,c9,rfl,Qj⟩:=hF.s6;refine ZW rfl (by kernel_rfl) (some 20) rfl (.agg (Y0 c a9 Y.length c9)) V (EP rfl c a9 Y.length c9 (by kernel_rfl) (by kernel_rfl) _) ?_;exact⟨_,_,_,_,_,_,_,_,_,_,_,rfl,rfl,Qj⟩
   ·obtain rfl:b7=false:=Z5 hr;obtain rfl:b6=true:=Z4 hr 6;obtain rfl:b5=true:=hF.o6 rfl;obtain⟨a9,c9,V9,rfl,rfl,YM,Qj⟩:=hF.s7 HG.out.1 HG.out.2;refine YL rfl (by kernel_rfl) rfl 31 (.tmp 4) (.tmp 20) rfl (Z7 g4 0) (.agg (Y0 c a9 Y.length c9)) (by kernel_rfl) (by kernel_rfl) V9 YM ?_;exact⟨_,_,_,_,_,_,_,_,_,_,_,rfl,rfl,Qj⟩
   ·obtain rfl:b8=false:=Z5 hr;refine ZW rfl (by kernel_rfl) (some 5) rfl ZX V (by kernel_rfl) ?_;exact⟨_,_,_,_,_,_,_,_,_,_,_,rfl,rfl,hF⟩
  ·intro ZH V hJ;obtain⟨b0,b1,b2,b3,b4,b5,b6,b7,b8,x19,x20,he,rfl,hF⟩:=hJ;have he:(#[true,true,true,true,true,true,true,true,true]:Array Bool)=#[b0,b1,b2,b3,b4,b5,b6,b7,b8]:=he;simp only[Array.mk.injEq,List.cons.injEq,and_true] at he;obtain⟨rfl,rfl,rfl,rfl,rfl,rfl,rfl,rfl,rfl⟩:=he;simp only[cond_true];obtain⟨a9,c9,-,h1,h2,-,h3,-,h4⟩:=hF.cal rfl;have HL:=Z8 (YA (h4 rfl));have HE:=Z8 (WO.out V a9 c9 hF.bel HJ.out h2 h1 h3);clear hF h1 h2 h3 h4 h0 WO CW2 Nb;go_wp2_with fail;exact bodyPost_ret (Yh rfl (by kernel_rfl) HL.out (by kernel_rfl)) rfl HE.out
 ·have hav:=HAN.out hj;subst hav;obtain⟨V3,hst3,Zc,Ya⟩:=st_all (cs':=Y0 c a n cp) (ty:=31) WU rfl (by kernel_rfl) (by kernel_rfl);have HE:=Z8 (HOLD.out V3 (HB2.out.trans (Ya.1.mono HG.out.2)) hj);have HL:=Z8 (YA Zc);clear WU Zc Ya kL HAN WO HOLD CW Nb;go_upto_region 2 with fail;refine wl<|ZQ (Z9 (-1))<|Zg (ZG rfl (-1) 0 dT)<|wn ?_;simp only[pu];go_upto_region 3 with fail;refine wl<|ZC rfl ⟨g2,0,none⟩ (.agg (Y0 c a n cp)) (YA Yt)<|Yb rfl (hst3)<|ZQ ZY<|wn ?_;simp only[pu];clear hst3 Yt;go_wp2_with fail;exact bodyPost_ret (Yh rfl (by kernel_rfl) HL.out (by kernel_rfl)) rfl HE.out
end Go.Proofs.YtnelmomagdcmnaaGreat
