/-
  Texts joined.
-/
import Derived.Test.YtnelmomagdcmnaaGreatD6
set_option maxRecDepth 100000
set_option maxHeartbeats 8000000
set_option linter.unusedSimpArgs false
set_option linter.unusedVariables false
namespace Go.Proofs.YtnelmomagdcmnaaGreat
attribute [local irreducible] wpList wpQuiet
open Go.RowKit
theorem LC:∀ (A B:List Int),A.length=B.length->((List.range A.length).all fun i=>A.getD i 0 == B.getD i 0)=(A == B)
 | [],[],_=>rfl
 | x::xs,y::ys,h=>by
  have ih:=LC xs ys (by simpa using h);rw[List.length_cons,List.range_succ_eq_map,List.all_cons,List.all_map];simp only[List.getD_cons_zero,Function.comp_def,List.getD_cons_succ,ih];simp[List.cons_beq_cons]
 | [],_::_,h=>by simp at h
 | _::_,[],h=>by simp at h
theorem EF {P:Program}(w:World)(d t e n:Nat)(ht:P.underlying t=some (.array n e))(he:P.underlying e=some (.int .u8))(hsz:∀ w,(sizeOf e).run P w=.ok 1 w)(A B:List Int)(hx:A.length=n)(hy:B.length=n) :
  (Op.equalIn (d+2) t (.agg (Vg A)) (.agg (Vg B))).run P w=.ok (A == B) w:=by
 rw[<- LC A B (hx.trans hy.symm),hx,List.range_eq_range',Op.equalIn];simp only[Sem.run_bind,run_underlying ht,Result.andThen_ok,hsz,Std.Legacy.Range.forIn_eq_forIn_range',Std.Legacy.Range.size,Nat.sub_zero,Nat.add_sub_cancel,Nat.div_one];have hl:∀ i∈List.range' 0 n 1,i<n:=fun i hi=>by simpa using(List.mem_range'_1.1 hi).2
 generalize List.range' 0 n 1=l at hl ⊢;induction l with
 | nil=>simp
 | cons i l ih=>
  have hi:i<n:=hl i (by simp);have px:(part e (Vg A) (i*1)).run P w=.ok (.int .u8 (A.getD i 0)) w:=by
   simp[part,isAgg,run_underlying he,List.getD,List.getElem?_eq_getElem (show i<A.length by omega)]
  have py:(part e (Vg B) (i*1)).run P w=.ok (.int .u8 (B.getD i 0)) w:=by
   simp[part,isAgg,run_underlying he,List.getD,List.getElem?_eq_getElem (show i<B.length by omega)]
  have pe:(Op.equalIn (d+1) e (.int .u8 (A.getD i 0)) (.int .u8 (B.getD i 0))).run P w=.ok (A.getD i 0 == B.getD i 0) w:=run_equalIn_int w d e .u8 .u8 _ _ he;simp only[List.forIn_cons,Sem.run_bind,px,py,pe,Result.andThen_ok,List.all_cons];cases hb:(A.getD i 0 == B.getD i 0)
  ·simp
  ·simp only[Bool.not_true,Bool.false_eq_true,if_false,Sem.run_pure,Result.andThen_ok,Bool.true_and];exact ih fun j hj=>hl j (by simp[hj])
theorem Jf (A B:List Int)(hA:A.length=32)(hB:B.length=32)(w:World):(Op.equalIn 10000 38 (.agg (Vg A)) (.agg (Vg B))).run Tryz.prog w=.ok (A == B) w:=
 EF w 9998 38 5 32 (by kernel_rfl) Tryz.underlying5 (fun w=>by kernel_rfl) A B hA hB
theorem Lu:Tryz.prog.eqGuardType Tryz.prog.depth 38=false:=by kernel_rfl
theorem uH {ρ:Operand->Value}{o:Oper}{x y:Operand}(ho:o.op=.binOp .eql 38 x y 38)(A B:List Int)(hA:A.length=32)(hB:B.length=32)(hx:ρ x=.agg (Vg A))(hy:ρ y=.agg (Vg B))(w:World) :
  (execOp ρ o).run Tryz.prog w=.ok (.value (.bool (A == B))) w:=by
 have h1:=Jf A B hA hB w;have h2:=Lu;unfold execOp;simp only[ho,hx,hy];simp[h1,h2,go_sem]
theorem Tv (s:ByteArray):(s == s)=true:=by
 rw[beq_toListBytes];exact beq_self_eq_true _
theorem uG {ρ:Operand->Value}{o:Oper}{x y:Operand}(ho:o.op=.binOp .eql 38 x y 38)(k:Nat->Int)(hx:ρ x=.agg (Y4 k))(hy:ρ y=.agg (Y4 k))(w:World):(execOp ρ o).run Tryz.prog w=.ok (.value ZT) w:=by
 have e:Y4 k=Vg ((List.range 32).map k):=rfl;rw[e] at hx hy;have:=uH ho ((List.range 32).map k) ((List.range 32).map k) (by simp) (by simp) hx hy w;rwa [beq_self_eq_true] at this
theorem Hg {w:World}{a a2:Option Addr}{c c2:Nat}{L:List Int}(h1:Cs w a (ZM L))(h2:Cs w a2 (ZM L))(hl:L.length<=100000):Calls Tryz.prog 49 #[.slice a L.length c,.slice a2 L.length c2] w fun e w'=>e=.returned ZT/\Below w.heap.size w w':=by
 have HA:Hid (∀ V,Below w.heap.size w V->∀ i,i<L.length->∃ b off b2 off2,a=some ⟨b,off,none⟩/\a2=some ⟨b2,off2,none⟩/\V.cell? ⟨b,off+i,none⟩=some (Z9 (L.getD i 0))/\V.cell? ⟨b2,off2+i,none⟩=some (Z9 (L.getD i 0))):=Z8 fun V hV i hi=>by
  obtain⟨b,off,e1,-,c1⟩:=Uk (h1.below hV) hi;obtain⟨b2,off2,e2,-,c2⟩:=Uk (h2.below hV) hi;exact⟨b,off,b2,off2,e1,e2,c1,c2⟩
 obtain⟨n,hn⟩:=ZR L.length;rw[hn] at HA hl ⊢;have HL:=Z8 hl;clear h1 h2 hn hl;go_enter Tryz.func49,Tryz.ntmps49;go_upto_region 1 with fail;refine wl<|MR (.slice a n c) (Z9 n) (.slice a2 n c2) (Z9 n)<|YF (Qs rfl (n) (n) (decide_eq_false (fun h=>h rfl)))<|wn ?_;simp only[pu];go_upto_region 3 with fail;refine wl<|YU (.slice a n c) (Z9 n) (Z9 0)<|wn ?_;simp only[pu];go_wp2_with fail;go_loopg [13] n (fun gg s13 wx=>∃ (i:Nat),s13=Z9 i/\i<=n/\gg+i=n/\Hid (Below w.heap.size w wx))
 case atStart=>exact⟨0,rfl,by omega,by omega,Z8 (Below.refl _ _)⟩
 case round=>
  obtain⟨i,rfl,hin,hg,HR⟩:=hrel;have PN:Hid (gk+i=n):=Z8 hg;clear hg;by_cases hlt:i<n
  ·obtain⟨b,off,b2,off2,hq1,hq2,hc1,hc2⟩:=HA.out wr HR.out i hlt;obtain rfl:=hq1;obtain rfl:=hq2;generalize L.getD i 0=v at *
   go_upto_region 4 with fail;refine wl<|YF (Zv rfl (i) (n) dT)<|wn ?_;simp only[pu];go_upto_region 5 with fail;refine wl<|ZA (Z9 i) (Z9 i)<|wn ?_;simp only[pu];go_upto_region 6 with fail;refine ZU (C:=fun U=>Below wr.heap.size wr U) (by kernel_rfl) (by kernel_rfl) ((Below.refl _ wr).drew) ?_;refine gy (.slice (some ⟨b,off,none⟩) n c)<|gy (Z9 i)<|Yz (Z7 b (off+i)) (fun U hU=>XQ b off n c i hlt U _ _ rfl (by kernel_rfl) (by kernel_rfl)) <|
     Zj rfl ⟨b,off+i,none⟩ (Z9 v) (fun U hU=>Zc ((hU.cell (p:=⟨b,off+i,none⟩) (World.block_lt_of_cell? wr _ hc1)).trans hc1) (by kernel_rfl))<|gy (.slice (some ⟨b2,off2,none⟩) n c2)<|gy (Z9 i) <|
     Yz (Z7 b2 (off2+i)) (fun U hU=>XQ b2 off2 n c2 i hlt U _ _ rfl (by kernel_rfl) (by kernel_rfl)) <|
     Zj rfl ⟨b2,off2+i,none⟩ (Z9 v) (fun U hU=>Zc ((hU.cell (p:=⟨b2,off2+i,none⟩) (World.block_lt_of_cell? wr _ hc2)).trans hc2) (by kernel_rfl))<|Yz ZW (fun U hU=>Qs rfl (v) (v) (decide_eq_false (fun h=>h rfl)) (by kernel_rfl) (by kernel_rfl) U) ?_
   simp only[pu];apply wpQuiet_nil;intro V3 UJ;have HR2:=Z8 (HR.out.trans (UJ.mono HR.out.size));clear UJ hc1 hc2 HR;go_upto_region 8 with fail;refine wl<|YT (Z9 (i+1:Nat)) (add_one rfl i (by have:=HL.out; omega) (by kernel_rfl) _)<|ZN (Z9 (i+1:Nat))<|wn ?_;simp only[pu];go_wp2_with fail;go_roundg (n-(i+1))
   case measure=>have:=PN.out; omega
   case rel=>exact⟨i+1,rfl,by omega,by omega,HR2⟩
  ·obtain rfl:i=n:=(by omega);go_upto_region 4 with fail;refine wl<|YF (Zv rfl (i) (i) dF)<|wn ?_;simp only[pu];go_wp2_with fail;go_ret;exact⟨rfl,HR.out⟩
theorem ED {w:World}{e:En}{d d2:Ad}(h1:Vl w e d)(h2:Vl w e d2)(hE:Bv e):Calls Tryz.prog 23 #[.agg (ZQ e d),.agg (ZQ e d2)] w fun r w'=>r=.returned ZT/\Below w.heap.size w w':=by
 have hX2:Bx (w.alloc (.cells (ZQ e d) 52)) w.heap.size (ZQ e d) 52:=heap_alloc_last w _;have hs1:(w.alloc (.cells (ZQ e d) 52)).heap.size=w.heap.size+1:=by simp
 have hb1:Below w.heap.size w (w.alloc (.cells (ZQ e d) 52)):=(Below.refl _ w).alloc (Nat.le_refl _) _;obtain⟨W1,hW1⟩:=ZR (w.alloc (.cells (ZQ e d) 52));rw[hW1] at hX2 hs1 hb1;have hb0:Below w.heap.size w (W1.alloc (.cells (ZQ e d2) 52)):=hb1.alloc hb1.size _;have RG:Bx (W1.alloc (.cells (ZQ e d2) 52)) w.heap.size (ZQ e d) 52:=hX2.below hX2.lt ((Below.refl _ W1).alloc (Nat.le_refl _) _);have SA:Bx (W1.alloc (.cells (ZQ e d2) 52)) W1.heap.size (ZQ e d2) 52:=heap_alloc_last W1 _;obtain⟨W,hW⟩:=ZR (W1.alloc (.cells (ZQ e d2) 52));rw[hW] at RG SA hb0;rw[hs1] at SA;obtain⟨g2,hg2⟩:=ZR w.heap.size;obtain⟨g3,hg3⟩:=ZR (g2+1);rw[show w.heap.size+1=g3 by omega] at SA;rw[hg2] at RG;have hg4:W1.heap.size=g3:=by omega
 have HB:=Z8 hb0;have hI1:=h1.below hb0;have hI2:=h2.below hb0;have CB:=Hf d.ra d.rc d2.ra d2.rc e.raw W hI1.r hI2.r;have CI:=Hg (c:=d.pc) (c2:=d2.pc) hI1.p hI2.p (by have:=hE.2; omega);have HW1:=Z8 hW1;have HW:=Z8 hW;have HG2:=Z8 hg2;have zX:=Z8 hg3;clear h1 h2 hE hX2 hs1 hb1 hb0 hg2 hg3 hI1 hI2 hW1 hW hg4;go_enter Tryz.func23,Tryz.ntmps23;go_upto_region 1 with fail;rw[HW1.out,HW.out];rw[HG2.out,zX.out];refine wl<|ZN (Z7 g2 0)<|Zq rfl ⟨g2,0,none⟩ (.agg (Y4 e.k)) (Xg (ZV RG))<|ZN (Z7 g3 0)<|Zq rfl ⟨g3,0,none⟩ (.agg (Y4 e.k)) (Xg (ZV SA)) <|
  Yb ZT (uG rfl e.k)<|ZA ZT (Z7 g2 32)<|Zq rfl ⟨g2,32,none⟩ (.slice d.ra e.raw.length d.rc) (ZK (ZV RG) (j:=32) rfl (by kernel_rfl))<|ZN (Z7 g3 32) <|
  Zq rfl ⟨g3,32,none⟩ (.slice d2.ra e.raw.length d2.rc) (ZK (ZV SA) (j:=32) rfl (by kernel_rfl))<|Yd ZT (fun w'=>W=w') (CB) (fun V9 X9=>?_)
 subst X9;refine YU ZT ZT (Z7 g2 33)<|Zq rfl ⟨g2,33,none⟩ (.string e.snd) (ZK (ZV RG) (j:=33) rfl (by kernel_rfl))<|ZN (Z7 g3 33) <|
  Zq rfl ⟨g3,33,none⟩ (.string e.snd) (ZK (ZV SA) (j:=33) rfl (by kernel_rfl))<|Yb ZT (l9 rfl e.snd e.snd (Tv _))<|YU ZT ZT (Z7 g2 34) <|
  Zq rfl ⟨g2,34,none⟩ (ZY e.sq) (ZK (ZV RG) (j:=34) rfl (by kernel_rfl))<|ZN (Z7 g3 34)<|Zq rfl ⟨g3,34,none⟩ (ZY e.sq) (ZK (ZV SA) (j:=34) rfl (by kernel_rfl)) <|
  YF (QX rfl e.sq e.sq (decide_eq_true rfl))<|YU ZT ZT (Z7 g2 35)<|Zq rfl ⟨g2,35,none⟩ (ZY e.qx) (ZK (ZV RG) (j:=35) rfl (by kernel_rfl)) <|
  ZN (Z7 g3 35)<|Zq rfl ⟨g3,35,none⟩ (ZY e.qx) (ZK (ZV SA) (j:=35) rfl (by kernel_rfl))<|YF (QX rfl e.qx e.qx (decide_eq_true rfl)) <|
  YU ZT ZT (Z7 g2 36)<|Zq rfl ⟨g2,36,none⟩ (ZY e.pri) (ZK (ZV RG) (j:=36) rfl (by kernel_rfl))<|ZN (Z7 g3 36) <|
  Zq rfl ⟨g3,36,none⟩ (ZY e.pri) (ZK (ZV SA) (j:=36) rfl (by kernel_rfl))<|YF (QX rfl e.pri e.pri (decide_eq_true rfl))<|YU ZT ZT (Z7 g2 37) <|
  Zq rfl ⟨g2,37,none⟩ (Z9 e.ht) (ZK (ZV RG) (j:=37) rfl (by kernel_rfl))<|ZN (Z7 g3 37)<|Zq rfl ⟨g3,37,none⟩ (Z9 e.ht) (ZK (ZV SA) (j:=37) rfl (by kernel_rfl)) <|
  YF (YA rfl e.ht e.ht (decide_eq_true rfl))<|YU ZT ZT (Z7 g2 38)<|Zq rfl ⟨g2,38,none⟩ (Z9 e.tm) (ZK (ZV RG) (j:=38) rfl (by kernel_rfl)) <|
  ZN (Z7 g3 38)<|Zq rfl ⟨g3,38,none⟩ (Z9 e.tm) (ZK (ZV SA) (j:=38) rfl (by kernel_rfl))<|YF (YA rfl e.tm e.tm (decide_eq_true rfl)) <|
  YU ZT ZT (Z7 g2 39)<|Zq rfl ⟨g2,39,none⟩ (Z9 e.od) (ZK (ZV RG) (j:=39) rfl (by kernel_rfl))<|ZN (Z7 g3 39) <|
  Zq rfl ⟨g3,39,none⟩ (Z9 e.od) (ZK (ZV SA) (j:=39) rfl (by kernel_rfl))<|YF (YA rfl e.od e.od (decide_eq_true rfl))<|YU ZT ZT (Z7 g2 40) <|
  Zq rfl ⟨g2,40,none⟩ (.slice d.pa e.Y6.length d.pc) (ZK (ZV RG) (j:=40) rfl (by kernel_rfl))<|ZN (Z7 g3 40)<|Zq rfl ⟨g3,40,none⟩ (.slice d2.pa e.Y6.length d2.pc) (ZK (ZV SA) (j:=40) rfl (by kernel_rfl)) <|
  Yd ZT (fun w'=>Below W.heap.size W w') (CI) (fun V2 hV2=>?_)
 refine ZA ZT ZT<|wn ?_;simp only[pu];have HE:=HB.out.trans (hV2.mono HB.out.size);go_wp2_with fail;go_ret;exact⟨rfl,HE⟩
theorem infoSt:(Tryz.prog.info? 9).map (fun i=>(i.zero,i.size,i.bytes))=some (some (.string ByteArray.empty),1,16):=by kernel_rfl
theorem zQ (b off n c k:Nat)(hk:k<n)(V:World)(ρ:Operand->Value)(o:Oper){x y:Operand}(ho:o.op=.indexAddr 40 x y)(hx:ρ x=.slice (some ⟨b,off,none⟩) n c)(hy:ρ y=Z9 k):(execOp ρ o).run Tryz.prog V=.ok (.value (Z7 b (off+k))) V:=by
 have hs:(sizeOf (Tryz.prog.elem 40)).run Tryz.prog V=.ok 1 V:=by kernel_rfl
 have hlm:(k:Int)<(n:Int):=by omega
 unfold execOp;simp only[ho,hx,hy];go_simp
def strs (S:List ByteArray):List Value:=S.map Value.string
theorem zO {S:List ByteArray}{k:Nat}(h:k<S.length):(strs S)[k]?=some (.string (S.getD k (⟨#[]⟩:ByteArray))):=by
 unfold strs;rw[List.getElem?_map,List.getElem?_eq_getElem h,List.getD_eq_getElem?_getD,List.getElem?_eq_getElem h];rfl
theorem EG {w:World}{g t:Nat}{S:List ByteArray}(h:Bx w g (strs S).toArray t){k:Nat}(hk:k<S.length):(Instr.loadAt 9 (Z7 g (0+k))).run Tryz.prog w=.ok (.string (S.getD k (⟨#[]⟩:ByteArray))) w:=by
 rw[Nat.zero_add];exact Bx.load h (i:=k) (by rw[List.getElem?_toArray]; exact zO hk) (by kernel_rfl)
def Nm (w:World)(g:Nat)(a:Option Addr)(c:Nat)(L:List Int)(N:Nat):Prop:=Bx w g #[.slice a L.length c,Z9 N] 66/\Cs w a (ZM L)/\(L≠[]->∀ x,a=some x->x.block<g)
section
variable {w w' : World} {g c N q : Nat} {a : Option Addr} {L : List Int}
theorem Nm.lt (h:Nm w g a c L N):g<w.heap.size:=h.1.lt
theorem Nm.below (h:Nm w g a c L N)(hb:Below w.heap.size w w'):Nm w' g a c L N:=⟨h.1.below h.1.lt hb,h.2.1.below hb,h.2.2⟩
theorem Rf {cs:List Value}(h:Cs w a cs)(hb:But q w w')(hn:cs≠[]->∀ x,a=some x->x.block≠q):Cs w' a cs:=by
 cases cs with
 | nil=>exact Cs.nil _ _
 | cons x r=>exact h.but hb (hn (by simp))
theorem OU (h:ZM L≠[]):L≠[]:=fun e=>h (by rw[e]; rfl)
theorem Nm.but (h:Nm w g a c L N)(hb:But q w w')(hq:g<q):Nm w' g a c L N:=⟨h.1.but hb (by omega),Rf h.2.1 hb (fun hn x hx=>by have:=h.2.2 (OU hn) x hx; omega),h.2.2⟩
theorem Nm.low (h:Nm w g a c L N){B:Nat}(hb:Below B w w')(hg:g<B):Nm w' g a c L N:=⟨h.1.below hg hb,Rh h.2.1 fun k hk=>hb.block k (by obtain⟨hn,x,hx,rfl⟩:=hk; have:=h.2.2 (OU hn) x hx; omega),h.2.2⟩
theorem Nm.VQ {B:Nat}{S:Nat->Prop}(h:Nm w g a c L N)(hb:ZP B S w w')(hg:g<B):Nm w' g a c L N:=h.low hb.1 hg
theorem nx (h:Nm w g a c L N)(hl:L.length<=100000)(hN:N<=100000)(n:Int)(hn:0<n)(hn2:n<=1000000):Calls Tryz.prog 30 #[Z7 g 0,Z9 n] w fun e w'=>(∃ v:Nat,e=.returned (Z9 v)/\(v:Int)<n/\(v:Int)=pl (L.getD N 0) n)/\Nm w' g a c L (N+1)/\But g w w':=
 (AX g L a c N n w h.1 h.2.1 hl hN hn hn2).mono fun e w' z=>by
  have hp:=LY (L.getD N 0) n hn;obtain⟨z1,z2,z3⟩:=z;have hv:((pl (L.getD N 0) n).toNat:Int)=pl (L.getD N 0) n:=by omega
  exact⟨⟨(pl (L.getD N 0) n).toNat,by rw[z1,hv],by omega,hv⟩,⟨z3,Rf h.2.1 z2 (fun hn x hx=>by have:=h.2.2 (OU hn) x hx; omega),h.2.2⟩,z2⟩
end
def nms:List ByteArray:=[⟨#[97,110,110]⟩,⟨#[98,111,98]⟩,⟨#[101,118,101]⟩,⟨#[122,111,101]⟩,⟨#[110,101,119]⟩,⟨#[120,45,49]⟩]
theorem Hl (V:World):(Instr.buildSlice 40 6 #[(0,.string ⟨#[97,110,110]⟩),(1,.string ⟨#[98,111,98]⟩),(2,.string ⟨#[101,118,101]⟩),(3,.string ⟨#[122,111,101]⟩),(4,.string ⟨#[110,101,119]⟩),(5,.string ⟨#[120,45,49]⟩)]).run Tryz.prog V=.ok (.slice (some ⟨V.heap.size,0,none⟩) 6 6) (V.alloc (.cells (strs nms).toArray 9)):=by
 obtain⟨i0,hi,hz0,hz1,hz2⟩:=info_parts infoSt;refine run_buildSlice V 40 9 6 _ (strs nms).toArray i0 _ Tryz.underlying40 hi hz0 (by rw[hz1]; omega) (by rw[hz1]; omega) ?_;rw[hz1];kernel_rfl
theorem zU {w:World}{g c N:Nat}{a:Option Addr}{L:List Int}(h:Nm w g a c L N)(hl:L.length<=100000)(hN:N<=100000):Calls Tryz.prog 64 #[Z7 g 0] w fun e w'=>∃ s,e=.returned (.string s)/\s∈nms/\Nm w' g a c L (N+1)/\But g w w':=by
 have hbd:=Hl w;have hbx:Bx (w.alloc (.cells (strs nms).toArray 9)) w.heap.size (strs nms).toArray 9:=heap_alloc_last w _;have hbw:Below w.heap.size w (w.alloc (.cells (strs nms).toArray 9)):=(Below.refl _ w).alloc (Nat.le_refl _) _;have hgl:=h.lt;have hns:=h.below hbw;generalize w.alloc (.cells (strs nms).toArray 9)=V1 at *
 have dM:Hid (nms.length=6):=Z8 rfl;have dJ:Hid (∀ v,v<6->nms.getD v (⟨#[]⟩:ByteArray)∈nms):=Z8 fun v hv=>by
  rw[List.getD_eq_getElem?_getD,List.getElem?_eq_getElem (show v<nms.length from hv)];exact List.getElem_mem _
 generalize nms=S at *
 have HL:=Z8 hl;have MP:=Z8 hN;obtain⟨g1,hg1⟩:=ZR w.heap.size;have HB:=Z8 (But.of_below hbw (Nat.le_of_lt hgl));have HG:Hid (g<g1):=Z8 (by omega);rw[hg1] at hbx hbd;clear hbw hgl hg1 h hl hN;go_enter Tryz.func64,Tryz.ntmps64;go_upto_region 1 with fail;apply wp_region_lit;refine YM (by kernel_rfl) (some 3) rfl 40 6 #[(0,.const (.string ⟨#[97,110,110]⟩)),(1,.const (.string ⟨#[98,111,98]⟩)),(2,.const (.string ⟨#[101,118,101]⟩)),(3,.const (.string ⟨#[122,111,101]⟩)),(4,.const (.string ⟨#[110,101,119]⟩)),(5,.const (.string ⟨#[120,45,49]⟩))] rfl #[(0,.string ⟨#[97,110,110]⟩),(1,.string ⟨#[98,111,98]⟩),(2,.string ⟨#[101,118,101]⟩),(3,.string ⟨#[122,111,101]⟩),(4,.string ⟨#[110,101,119]⟩),(5,.string ⟨#[120,45,49]⟩)] (by kernel_rfl) (.slice (some ⟨g1,0,none⟩) 6 6) _ hbd ?_;refine ZN (Z7 g 0) <|
  Vx (fun v w'=>∃ q:Nat,v=Z9 q/\(q:Int)<6/\Nm w' g a c L (N+1)/\But g V1 w') ((nx hns HL.out (by have:=MP.out; omega) 6 (by first | decide | omega) (by first | decide | omega)).mono fun e w' z=>by obtain⟨⟨q,h1,h2,-⟩,h3,h4⟩:=z; exact⟨_,h1,q,rfl,h2,h3,h4⟩) (fun vv V2 hq=>?_)
 obtain⟨v1,rfl,hv1,Hr,Uz⟩:=hq;have hq2:v1<6:=by omega
 have hbx2:=hbx.but Uz (by have:=HG.out; omega);refine YT (Z7 g1 (0+v1)) (zQ g1 0 6 6 v1 hq2 _ _ _ rfl (by kernel_rfl) (by kernel_rfl))<|Zq rfl ⟨g1,0+v1,none⟩ (.string (S.getD v1 ⟨#[]⟩)) (EG hbx2 (k:=v1) (by rw[dM.out]; exact hq2))<|ZN (.string (S.getD v1 ⟨#[]⟩))<|wn ?_;simp only[pu];have HE:=Z8 (HB.out.trans Uz);have HNS:=Z8 Hr;clear Uz Hr hbx hbx2 hbd hns;go_wp2_with fail;go_ret;exact⟨_,rfl,dJ.out v1 hq2,HNS.out,HE.out⟩
theorem uJ (L:List Int)(h:L.length=32):(Vg L)=Y4 (fun i=>L.getD i 0):=by
 have e:(List.range 32).map (fun i=>L.getD i 0)=L:=by
  apply List.ext_getElem (by simp[h]);intro i h1 h2;rw[List.getElem_map,List.getElem_range,getD_lt _ _ _ h2]
 show _=Vg ((List.range 32).map (fun i=>L.getD i 0));rw[e]
theorem EM (L:List Int):(ND L).length=32:=by
 unfold ND;exact Tt _ _
theorem zZ (w:World)(n:Nat)(hn:n<=100000):∃ w1,(Instr.makeSlice 50 (Z9 (n:Int)) (Z9 (n:Int))).run Tryz.prog w=.ok (.slice (some ⟨w.heap.size,0,none⟩) n n) w1/\w1.ownsRow w.heap.size 5 1 (.slice (some ⟨w.heap.size,0,none⟩) n n) n (Zp (List.replicate n 0))/\Below w.heap.size w w1:=by
 obtain⟨i0,hi,hz0,hz1,hz2⟩:=info_parts info5;obtain⟨w1,hr,hO,hg⟩:=run_makeSlice_full (P:=Tryz.prog) w w.heap.size 50 5 i0 _ 1 Tryz.underlying50 hi hz0 hz1 .i64 .i64 n (by omega) (by rw[hz2]; omega) (by unfold maxLen; omega) (Nat.le_refl _);refine⟨w1,hr,?_,hg.os,hg.tape,hg.output,hg.size,fun k hk=>hg.block k hk (by simp)⟩;have e:(madeCells (Value.int .u8 0).cells (n*1)).toList=Zp (List.replicate n (0:Int)):=by
  rw[Nat.mul_one];show(madeCells #[Value.int .u8 0] n).toList=_;rw[toList_madeCells_one];unfold Zp;rw[List.map_replicate]
 rw[<- e];exact hO
theorem EL {w:World}{B b n c i:Nat}{M:List Int}(h:w.ownsRow B 5 1 (.slice (some ⟨b,0,none⟩) n c) n (Zp M))(hi:i<n)(v:Int):∃ V2,(Instr.storeAt 5 (Z7 b (0+i)) (.int .u8 v)).run Tryz.prog w=.ok () V2/\V2.ownsRow B 5 1 (.slice (some ⟨b,0,none⟩) n c) n (Zp (M.set i v))/\But b w V2:=by
 obtain⟨cur,hcur,hsz,-,-⟩:=YJ h;have hl:=h.1;rw[Nat.zero_add];refine⟨_,Zh hcur (by omega) rfl (by kernel_rfl),?_,But.setCell w i _⟩;have h2:=XD h i (.int .u8 v) (by rw[hl]; omega);unfold Zp at h2 ⊢;rw[List.map_set];exact h2
structure Er (w:World)(g:Nat)(a:Option Addr)(c:Nat)(L:List Int)(g2 g3 n N:Nat)(M:List Int)(V:World):Prop where
 nm:Nm V g a c L N
 but:But g w V
 b2:Bx V g2 (ZQ Zf YW) 52
 row:V.ownsRow w.heap.size 5 1 (.slice (some ⟨g3,0,none⟩) n n) n (Zp M)
 ml:M.length=n
 w8:∀ x,x∈M->W8 x
structure Es (w:World)(g:Nat)(a:Option Addr)(c:Nat)(L:List Int)(g2 g5 B5 N:Nat)(E:En)(d:Ad)(V:World):Prop where
 nm:Nm V g a c L N
 but:But g w V
 b2:Bx V g2 (ZQ Zf YW) 52
 er:V.ownsRow w.heap.size 5 1 (.slice d.ra E.raw.length d.rc) E.raw.length (Zp E.raw)
 rl:∀ x,d.ra=some x->x.block<B5/\x.block≠g2/\x.block≠g5
 bz:B5<=V.heap.size
 b5:Bx V g5 (ZQ E d) 52
 ep:V.ownsRow B5 3 1 (.slice d.pa E.Y6.length d.pc) E.Y6.length (ZM E.Y6)
structure Lz (w:World)(g g2 g5 B5:Nat):Prop where
 gw:g<w.heap.size
 w2:w.heap.size<=g2
 w5:w.heap.size<=g5
 n25:g2≠g5
 l2:g2<B5
 l5:g5<B5
 wb:w.heap.size<=B5
section
variable {w : World} {g : Nat} {a : Option Addr} {c : Nat} {L : List Int} {g2 g3 g5 B5 n N : Nat} {E : En} {d : Ad} {V V2 : World} {M : List Int} {y : Int} {v : Value}
theorem Es.call (h:Es w g a c L g2 g5 B5 N E d V)(z:Lz w g g2 g5 B5)(hn:Nm V2 g a c L (N+1))(hb:But g V V2):Es w g a c L g2 g5 B5 (N+1) E d V2:=
 have lz:=z.gw; have w2:=z.w2; have w5:=z.w5; have wb:=z.wb
 ⟨hn,h.but.trans hb,h.b2.but hb (by omega),Zo h.er hb fun x hx=>by have:=(h.er.lt x.block (by rw[hx]; rfl)).1; omega,h.rl,Nat.le_trans h.bz hb.1.size,h.b5.but hb (by omega),Zo h.ep hb fun x hx=>by have:=(h.ep.lt x.block (by rw[hx]; rfl)).1; omega⟩
theorem Es.below (h:Es w g a c L g2 g5 B5 N E d V)(hb:Below V.heap.size V V2):Es w g a c L g2 g5 B5 N E d V2:=
 ⟨h.nm.below hb,h.but.trans (But.of_below hb (Nat.le_of_lt h.nm.lt)),h.b2.below h.b2.lt hb,own_below h.er hb,h.rl,Nat.le_trans h.bz hb.size,h.b5.below h.b5.lt hb,own_below h.ep hb⟩
def qp (w:World)(g:Nat)(a:Option Addr)(c:Nat)(L:List Int)(g2 g5 B5 N:Nat)(E:En)(d:Ad)(y:Int)(x:Value)(V:World):Prop:=Es w g a c L g2 g5 B5 N E d V/\∃ q,x=.slice (some ⟨q,0,none⟩) 1 1/\Bx V q #[Z9 y] 3
structure qo (w:World)(g:Nat)(a:Option Addr)(c:Nat)(L:List Int)(g2 g5 B5 N:Nat)(E:En)(d:Ad)(y:Int)(x:Value)(V:World):Prop where
 nm:Nm V g a c L N
 but:But g w V
 b2:Bx V g2 (ZQ Zf YW) 52
 er:V.ownsRow w.heap.size 5 1 (.slice d.ra E.raw.length d.rc) E.raw.length (Zp E.raw)
 rl:∀ x,d.ra=some x->x.block<B5/\x.block≠g2/\x.block≠g5
 bz:B5<=V.heap.size
 b5:Bx V g5 (ZQ E d) 52
 ep:∃ a2 c2,x=.slice a2 (E.Y6++[y]).length c2/\V.ownsRow B5 3 1 (.slice a2 (E.Y6++[y]).length c2) (E.Y6++[y]).length (ZM (E.Y6++[y]))
theorem Es.two (h:Es w g a c L g2 g5 B5 N E d V):qp w g a c L g2 g5 B5 N E d y (.slice (some ⟨V.heap.size,0,none⟩) 1 1) (V.alloc (.cells #[Z9 y] 3)):=
 ⟨h.below ((Below.refl _ V).alloc (Nat.le_refl _) _),V.heap.size,rfl,heap_alloc_last V _⟩
theorem qp.three {x:Value}(h:qp w g a c L g2 g5 B5 N E d y x V)(z:Lz w g g2 g5 B5)(hl:E.Y6.length<=10000):∃ v V2,(Builtin.append_ #[22,22] 22 #[.slice d.pa E.Y6.length d.pc,x]).run Tryz.prog V=.ok v V2/\qo w g a c L g2 g5 B5 N E d y v V2:=by
 obtain⟨h,q,rfl,hX⟩:=h;have lz:=z.gw; have w2:=z.w2; have w5:=z.w5; have wb:=z.wb; have l2:=z.l2; have l5:=z.l5;obtain⟨v,V2,hr,hO,hb,-⟩:=JZ (m:=1) h.ep (some ⟨q,0,none⟩) 1 [y] (Cs.block (cs:=[Z9 y]) hX) rfl h.bz (by omega) (by omega);obtain⟨a2,c2,rfl,-,-⟩:=Zi hO;have e:(E.Y6++[y]).length=E.Y6.length+1:=by simp
 refine⟨_,V2,hr,h.nm.low hb (by omega),⟨h.but.1.trans (hb.mono (by omega)),fun k hk hn=>(hb.block k (by omega)).trans (h.but.2 k hk hn)⟩,h.b2.below l2 hb,YL h.er fun x hx=>hb.block _ (h.rl x hx).1,h.rl,Nat.le_trans h.bz hb.size,h.b5.below l5 hb,a2,c2,by rw[e],?_⟩;rw[e,WT];exact hO
theorem qo.four {x:Value}(h:qo w g a c L g2 g5 B5 N E d y x V)(z:Lz w g g2 g5 B5):∃ V2,(Instr.storeAt 22 (Z7 g5 40) x).run Tryz.prog V=.ok () V2/\∃ a2 c2,Es w g a c L g2 g5 B5 N { E with Y6:=E.Y6++[y] } { d with pa:=a2,pc:=c2 } V2:=by
 obtain⟨a2,c2,rfl,hO⟩:=h.ep;have lz:=z.gw; have w2:=z.w2; have w5:=z.w5; have wb:=z.wb; have l2:=z.l2; have l5:=z.l5;obtain⟨V2,hst,hX,hbt⟩:=Xm (i:=40) (ty:=22) (v:=.slice a2 (E.Y6++[y]).length c2) (ZQ { E with Y6:=E.Y6++[y] } { d with pa:=a2,pc:=c2 }) h.b5 (by show 40<41; decide) (by kernel_rfl) rfl (by kernel_rfl);exact⟨V2,hst,a2,c2,h.nm.but hbt (by omega),⟨h.but.1.trans (hbt.1.mono (by omega)),fun k hk hn=>(hbt.2 k (Nat.lt_of_lt_of_le hk h.but.1.size) (by omega)).trans (h.but.2 k hk hn)⟩,h.b2.but hbt z.n25,Zo h.er hbt fun x hx=>(h.rl x hx).2.2,h.rl,Nat.le_trans h.bz hbt.1.size,hX,Zo hO hbt fun x hx=>by have hx2:a2=some x:=hx; have:=(hO.lt x.block (by rw[hx2]; rfl)).1; omega⟩
end
structure UK (b1 b2 b3 b4 p q:Bool)(F0 F1 F2 F3 F4:Prop):Prop where
 o1:b2=true->b1=true
 o2:b3=true->b2=true
 o3:b4=true->b3=true
 o4:b3=true->p=true
 o5:q=true->b1=true
 is:cond b4 F4 (cond b3 F3 (cond b2 F2 (cond b1 F1 F0)))
section
variable {b1 b2 b3 b4 p q : Bool} {F0 F1 F2 F3 F4 G0 G1 G2 G3 G4 : Prop}
theorem UK.start (h:F0):UK false false false false false false F0 F1 F2 F3 F4:=⟨(fun e=>nomatch e),(fun e=>nomatch e),(fun e=>nomatch e),(fun e=>nomatch e),(fun e=>nomatch e),h⟩
theorem UK.w0 (h:UK false b2 b3 b4 p q F0 F1 F2 F3 F4):b2=false/\b3=false/\b4=false/\q=false:=by
 obtain rfl:=SY h.o1 rfl;obtain rfl:=SY h.o2 rfl;obtain rfl:=SY h.o3 rfl;obtain rfl:=SY h.o5 rfl;exact⟨rfl,rfl,rfl,rfl⟩
theorem UK.w1 (h:UK b1 false b3 b4 p true F0 F1 F2 F3 F4):b1=true/\b3=false/\b4=false:=by
 obtain rfl:=SY h.o2 rfl;obtain rfl:=SY h.o3 rfl;exact⟨h.o5 rfl,rfl,rfl⟩
theorem UK.w2 (h:UK b1 true false b4 p q F0 F1 F2 F3 F4):b1=true/\b4=false:=⟨h.o1 rfl,SY h.o3 rfl⟩
theorem UK.w3 (h:UK b1 b2 true false p q F0 F1 F2 F3 F4):b2=true:=h.o2 rfl
theorem UK.s1 (h:UK false false false false p false F0 F1 F2 F3 F4)(k:G1):UK true false false false p false G0 G1 G2 G3 G4:=⟨fun _=>rfl,h.o2,h.o3,h.o4,fun _=>rfl,k⟩
theorem UK.sq (h:UK true b2 b3 b4 p false F0 F1 F2 F3 F4):UK true b2 b3 b4 p true F0 F1 F2 F3 F4:=⟨h.o1,h.o2,h.o3,h.o4,fun _=>rfl,h.is⟩
theorem UK.s2 (h:UK true false false false p q F0 F1 F2 F3 F4)(k:G2):UK true true false false p q G0 G1 G2 G3 G4:=⟨fun _=>rfl,fun _=>rfl,h.o3,h.o4,h.o5,k⟩
theorem UK.s3 (h:UK b1 true false false true q F0 F1 F2 F3 F4)(k:G3):UK b1 true true false true q G0 G1 G2 G3 G4:=⟨h.o1,fun _=>rfl,(fun e=>nomatch e),fun _=>rfl,h.o5,k⟩
theorem UK.s4 (h:UK b1 b2 true false p q F0 F1 F2 F3 F4)(k:G4):UK b1 b2 true true p q G0 G1 G2 G3 G4:=⟨h.o1,h.o2,fun _=>rfl,h.o4,h.o5,k⟩
theorem UK.p0 (h:UK b1 b2 b3 b4 false q F0 F1 F2 F3 F4):b3=false/\b4=false:=by
 obtain rfl:=SY h.o4 rfl;obtain rfl:=SY h.o3 rfl;exact⟨rfl,rfl⟩
theorem UK.pr {X:Prop}(h:UK b1 b2 false false p q F0 F1 F2 F3 F4)(k0:F0->X)(k1:F1->X)(k2:F2->X):X:=by
 have:=h.is;cases b2
 ·cases b1
  ·exact k0 this
  ·exact k1 this
 ·exact k2 this
theorem UK.sp (h:UK b1 b2 b3 b4 false q F0 F1 F2 F3 F4):UK b1 b2 b3 b4 true q F0 F1 F2 F3 F4:=⟨h.o1,h.o2,h.o3,fun _=>rfl,h.o5,h.is⟩
end
def yw (e:En):Prop:=e.snd∈nms/\(0<=e.sq/\e.sq<=3)/\(0<=e.ht/\e.ht<=8)/\(0<=e.tm/\e.tm<=29)
theorem EK {w:World}{g c N:Nat}{a:Option Addr}{L:List Int}(h:Nm w g a c L N)(hl:L.length<=100000)(hN:N<=50000):Calls Tryz.prog 29 #[Z7 g 0] w fun e w'=>∃ (E:En) (d:Ad) (N':Nat),e=.returned (.agg (ZQ E d))/\XT w' w.heap.size E d/\E.raw.length<=8/\yw E/\E.Y6.length<=2/\N+1<=N'/\N'<=N+30/\Nm w' g a c L N'/\But g w w':=by
 have HL:=Z8 hl;have MP:=Z8 hN;have zY:=Z8 h.lt;have dQ:=Z8 h;clear hl hN h;go_enter Tryz.func29,Tryz.ntmps29;go_upto_region 1 with fail;change Code.wp _ _ _ _ (w.alloc (.cells (ZQ Zf YW) 52));have Zn:Below w.heap.size w (w.alloc (.cells (ZQ Zf YW) 52)):=(Below.refl _ w).alloc (Nat.le_refl _) _;have hX2:Bx (w.alloc (.cells (ZQ Zf YW) 52)) w.heap.size (ZQ Zf YW) 52:=heap_alloc_last w _;have Yq:(w.alloc (.cells (ZQ Zf YW) 52)).heap.size=w.heap.size+1:=by simp
 generalize w.alloc (.cells (ZQ Zf YW) 52)=W at *
 obtain⟨g2,hg2⟩:=ZR w.heap.size;rw[hg2] at hX2;have WG:Hid (g2=w.heap.size+0/\W.heap.size=w.heap.size+1):=Z8 ⟨by omega,by omega⟩;have HB:=Z8 Zn;simp only[hg2];clear Zn Yq hg2;refine wl<|ZN (Z7 g 0) <|
  Vx (fun v w'=>∃ q:Nat,v=Z9 q/\(q:Int)<9/\Nm w' g a c L (N+1)/\But g W w') ((nx (dQ.out.below HB.out) HL.out (by have:=MP.out; omega) 9 (by first | decide | omega) (by first | decide | omega)).mono fun e w' z=>by obtain⟨⟨q,h1,h2,-⟩,h3,h4⟩:=z; exact⟨_,h1,q,rfl,h2,h3,h4⟩) (fun vv V1 hq=>?_)
 obtain⟨v1,rfl,hv1,Hr,Uz⟩:=hq;obtain⟨V2,hmk,hr2,hb2⟩:=zZ V1 v1 (by omega);obtain⟨g3,hg3⟩:=ZR V1.heap.size;rw[hg3] at hmk hr2;have hbw:But g w V2:=((But.of_below HB.out (Nat.le_of_lt zY.out)).trans Uz).trans (But.of_below hb2 (Nat.le_of_lt Hr.lt));have hwv:W.heap.size<=V1.heap.size:=Uz.1.size;have hws:w.heap.size<=g3:=by have:=WG.out; omega
 have HER:Hid (Er w g a c L g2 g3 v1 (N+1+0) (List.replicate v1 0) V2):=Z8 ⟨Hr.below hb2,hbw,(hX2.but Uz (by have:=WG.out; have:=zY.out; omega)).below (Nat.lt_of_lt_of_le hX2.lt Uz.1.size) hb2,own_base hr2 hws,by simp,fun x hx=>by rw[List.eq_of_mem_replicate hx]; exact⟨by decide,by decide⟩⟩;have zX:Hid (w.heap.size<=g3/\g2<g3/\g3<V2.heap.size):=Z8 ⟨hws,by have:=WG.out; omega,by have:=(hr2.lt g3 rfl).2; exact this⟩;have IZ:Hid (v1<=8):=Z8 (by omega);refine zW (by kernel_rfl) (some 9) rfl 50 (.tmp 8) (.tmp 8) rfl (Z9 v1) (Z9 v1) (.slice (some ⟨g3,0,none⟩) v1 v1) (by kernel_rfl) (by kernel_rfl) V2 hmk ?_;refine ZN (.slice (some ⟨g3,0,none⟩) v1 v1)<|wn ?_;simp only[pu];clear hmk hr2 hb2 Hr Uz hv1 hbw hX2 hwv hws hg3;go_upto_region 2 with fail;refine wl<|YU (.slice (some ⟨g3,0,none⟩) v1 v1) (Z9 v1) (Z9 0)<|wn ?_;simp only[pu];go_wp2_with fail;go_loopg [12] v1 (fun gg s12 wx=>∃ (i:Nat) (M:List Int),s12=Z9 i/\i<=v1/\gg+i=v1/\Hid (Er w g a c L g2 g3 v1 (N+1+i) M wx))
 case atStart=>exact⟨0,_,rfl,by omega,by omega,HER⟩
 case round=>
  obtain⟨i,M,rfl,hin,hg,HR⟩:=hrel;clear HER;have PN:Hid (gk+i=v1):=Z8 hg;clear hg;by_cases hlt:i<v1
  ·go_upto_region 3 with fail;refine wl<|YF (Zv rfl (i) (v1) dT)<|wn ?_;simp only[pu];go_upto_region 4 with fail;refine wl<|ZA (Z9 i) (Z9 i)<|wn ?_;simp only[pu];go_upto_region 5 with fail;refine wl<|YU (.slice (some ⟨g3,0,none⟩) v1 v1) (Z9 i) (Z7 g 0) <|
    Vx (fun v w'=>∃ q:Nat,v=Z9 q/\(q:Int)<3/\Nm w' g a c L ((N+1+i)+1)/\But g wr w') ((nx HR.out.nm HL.out (by have:=MP.out; have:=IZ.out; omega) 3 (by first | decide | omega) (by first | decide | omega)).mono fun e w' z=>by obtain⟨⟨q,h1,h2,-⟩,h3,h4⟩:=z; exact⟨_,h1,q,rfl,h2,h3,h4⟩) (fun vv V3 hq=>?_)
   obtain⟨v2,rfl,hv2,EJ,VL⟩:=hq;have hr3:=Zo HR.out.row VL fun x hx=>(by cases hx; show g3≠g; have:=zX.out; have:=zY.out; omega);obtain⟨V4,LG,hr4,LD⟩:=EL hr3 hlt v2;have HR4:Hid (Er w g a c L g2 g3 v1 (N+1+(i+1)) (M.set i v2) V4):=Z8 ⟨EJ.but LD (by have:=zX.out; have:=zY.out; omega),⟨(HR.out.but.trans VL).1.trans (LD.1.mono (by have:=zX.out; have:=zY.out; omega)),fun k hk hn=>(LD.2 k (Nat.lt_of_lt_of_le hk (HR.out.but.trans VL).1.size) (by have:=zX.out; omega)).trans ((HR.out.but.trans VL).2 k hk hn)⟩,(HR.out.b2.but VL (by have:=WG.out; have:=zY.out; omega)).but LD (by have:=zX.out; omega),hr4,by rw[List.length_set]; exact HR.out.ml,fun x hx=>(List.mem_or_eq_of_mem_set hx).elim (HR.out.w8 x) (fun e=>by rw[e]; exact⟨by omega,by omega⟩)⟩;refine YT (.int .u8 v2) (Oy rfl v2 (by omega) (by kernel_rfl) _)<|YT (Z7 g3 (0+i)) (Qr g3 0 v1 v1 i hlt _ _ _ rfl (by kernel_rfl) (by kernel_rfl))<|WC rfl (LG)<|wn ?_;simp only[pu];clear LG hr3 hr4 LD EJ VL hv2 HR;go_upto_region 6 with fail;refine wl<|YT (Z9 (i+1:Nat)) (add_one rfl i (by have:=IZ.out; omega) (by kernel_rfl) _)<|ZN (Z9 (i+1:Nat))<|wn ?_;simp only[pu];go_wp2_with fail;go_roundg (v1-(i+1))
   case measure=>have:=PN.out; omega
   case rel=>exact⟨i+1,_,rfl,by omega,by omega,HR4⟩
  ·obtain rfl:i=v1:=(by omega);have hml:=HR.out.ml;obtain rfl:=hml;go_upto_region 3 with fail;refine wl<|YF (Zv rfl (M.length) (M.length) dF)<|wn ?_;simp only[pu];have hSl:Sl wr (some ⟨g3,0,none⟩) M.length M:=by
    obtain⟨a2,c2,e1,h1,-,-⟩:=JQ (n:=M.length) HR.out.row;simp only[Value.slice.injEq] at e1;obtain⟨rfl,-,rfl⟩:=e1;exact h1
   have CS:=zV (some ⟨g3,0,none⟩) M.length M wr hSl HR.out.w8 (by have:=IZ.out; omega);have hk8:=uJ (ND M) (EM M);rw[hk8] at CS;obtain⟨K,hK⟩:=ZR ((fun i=>(ND M).getD i 0));rw[hK] at CS;clear hk8 hK hSl;go_upto_region 7 with fail;refine wl<|ZN (.slice (some ⟨g3,0,none⟩) M.length M.length)<|Yd (.agg (Y4 K)) (fun w'=>Below wr.heap.size wr w') (CS) (fun V1 hb1=>?_);have mY:=HR.out.nm.below hb1;refine ZA (.slice (some ⟨g3,0,none⟩) M.length M.length) (Z7 g 0) <|
    Vx (fun v w'=>∃ s,v=.string s/\s∈nms/\Nm w' g a c L (N+1+M.length+1)/\But g V1 w') ((zU mY HL.out (by have:=MP.out; have:=IZ.out; omega)).mono fun e w' z=>by obtain⟨s,h1,hm,h2,h3⟩:=z; exact⟨_,h1,s,rfl,hm,h2,h3⟩) (fun vv V2 hq=>?_)
   obtain⟨nm,rfl,hnm,EJ,VL⟩:=hq;have dQ:Hid (nm∈nms):=Z8 hnm;clear hnm;refine ZN (Z7 g 0) <|
    Vx (fun v w'=>∃ q:Nat,v=Z9 q/\(q:Int)<4/\Nm w' g a c L ((N+1+M.length+1)+1)/\But g V2 w') ((nx EJ HL.out (by have:=MP.out; have:=IZ.out; omega) 4 (by first | decide | omega) (by first | decide | omega)).mono fun e w' z=>by obtain⟨⟨q,h1,h2,-⟩,h3,h4⟩:=z; exact⟨_,h1,q,rfl,h2,h3,h4⟩) (fun vv V3 hq=>?_)
   obtain⟨v3,rfl,hv3,mX,XA⟩:=hq;refine YT (ZY v3) (UM rfl v3 (by omega) (by omega) (by kernel_rfl) _)<|ZN (Z7 g 0) <|
    Vx (fun v w'=>∃ q:Nat,v=Z9 q/\(q:Int)<50/\Nm w' g a c L ((N+1+M.length+1+1)+1)/\But g V3 w') ((nx mX HL.out (by have:=MP.out; have:=IZ.out; omega) 50 (by first | decide | omega) (by first | decide | omega)).mono fun e w' z=>by obtain⟨⟨q,h1,h2,-⟩,h3,h4⟩:=z; exact⟨_,h1,q,rfl,h2,h3,h4⟩) (fun vv V4 hq=>?_)
   obtain⟨v4,rfl,hv4,mW,LD⟩:=hq;refine YT (ZY v4) (UM rfl v4 (by omega) (by omega) (by kernel_rfl) _)<|ZN (Z7 g 0) <|
    Vx (fun v w'=>∃ q:Nat,v=Z9 q/\(q:Int)<5/\Nm w' g a c L ((N+1+M.length+1+1+1)+1)/\But g V4 w') ((nx mW HL.out (by have:=MP.out; have:=IZ.out; omega) 5 (by first | decide | omega) (by first | decide | omega)).mono fun e w' z=>by obtain⟨⟨q,h1,h2,-⟩,h3,h4⟩:=z; exact⟨_,h1,q,rfl,h2,h3,h4⟩) (fun vv V5 hq=>?_)
   obtain⟨v5,rfl,hv5,mV,JO⟩:=hq;refine YT (ZY v5) (UM rfl v5 (by omega) (by omega) (by kernel_rfl) _)<|ZN (Z7 g 0) <|
    Vx (fun v w'=>∃ q:Nat,v=Z9 q/\(q:Int)<9/\Nm w' g a c L ((N+1+M.length+1+1+1+1)+1)/\But g V5 w') ((nx mV HL.out (by have:=MP.out; have:=IZ.out; omega) 9 (by first | decide | omega) (by first | decide | omega)).mono fun e w' z=>by obtain⟨⟨q,h1,h2,-⟩,h3,h4⟩:=z; exact⟨_,h1,q,rfl,h2,h3,h4⟩) (fun vv V6 hq=>?_)
   obtain⟨v6,rfl,hv6,mQ,mP⟩:=hq;refine ZN (Z7 g 0) <|
    Vx (fun v w'=>∃ q:Nat,v=Z9 q/\(q:Int)<30/\Nm w' g a c L ((N+1+M.length+1+1+1+1+1)+1)/\But g V6 w') ((nx mQ HL.out (by have:=MP.out; have:=IZ.out; omega) 30 (by first | decide | omega) (by first | decide | omega)).mono fun e w' z=>by obtain⟨⟨q,h1,h2,-⟩,h3,h4⟩:=z; exact⟨_,h1,q,rfl,h2,h3,h4⟩) (fun vv V7 hq=>?_)
   obtain⟨v7,rfl,hv7,mO,mM⟩:=hq;refine ZN (Z7 g 0) <|
    Vx (fun v w'=>∃ q:Nat,v=Z9 q/\(q:Int)<9/\Nm w' g a c L ((N+1+M.length+1+1+1+1+1+1)+1)/\But g V7 w') ((nx mO HL.out (by have:=MP.out; have:=IZ.out; omega) 9 (by first | decide | omega) (by first | decide | omega)).mono fun e w' z=>by obtain⟨⟨q,h1,h2,-⟩,h3,h4⟩:=z; exact⟨_,h1,q,rfl,h2,h3,h4⟩) (fun vv V8 hq=>?_)
   obtain⟨v8,rfl,hv8,uI,mJ⟩:=hq;have Hq:=((((((But.of_below hb1 (Nat.le_of_lt HR.out.nm.lt)).trans VL).trans XA).trans LD).trans JO).trans mP).trans (mM.trans mJ);obtain⟨V9,YB,Yi,Ou⟩:=YQ (c:=ZQ Zf YW) (c':=ZQ ⟨K,M,nm,v3,v4,v5,v6,v7,v8,[]⟩ ⟨some ⟨g3,0,none⟩,M.length,none,0⟩) (ty:=52) V8 rfl (Y3 _ _) (by kernel_rfl);obtain⟨g5,hg5⟩:=ZR V8.heap.size;obtain⟨B5,hB5⟩:=ZR V9.heap.size;rw[hg5] at Ou;have hwr:wr.heap.size<=g5:=(by have:=Hq.1.size; omega);have dP:g5<B5:=(by have:=Ou.lt; omega);have hrow:=Zo HR.out.row Hq fun x hx=>(by cases hx; show g3≠g; have:=zX.out; have:=zY.out; omega);have dO:g3<wr.heap.size:=(HR.out.row.lt g3 rfl).2;have mG:=HR.out.b2.lt;have hG3:=zX.out;have hGE:=WG.out;have hGW:=zY.out;have iO:=HR.out.but.1.size;have EI:Hid (Lz w g g2 g5 B5):=Z8 ⟨by omega,by omega,by omega,by omega,by omega,by omega,by omega⟩;have iM:Hid (Es w g a c L g2 g5 B5 (N+1+M.length+1+1+1+1+1+1+1) ⟨K,M,nm,v3,v4,v5,v6,v7,v8,[]⟩ ⟨some ⟨g3,0,none⟩,M.length,none,0⟩ V9):=Z8 ⟨uI.below Yi,(HR.out.but.trans Hq).trans (But.of_below Yi (Nat.le_of_lt uI.lt)),(HR.out.b2.but Hq (by have:=WG.out; have:=zY.out; omega)).below (Nat.lt_of_lt_of_le mG Hq.1.size) Yi,own_below hrow Yi,fun x hx=>by cases hx; exact⟨show g3<B5 by omega,show g3≠g2 by omega,show g3≠g5 by omega⟩,Nat.le_of_eq hB5.symm,Ou,World.ownsRow_nil _ _ _ _⟩;have HW8:=Z8 HR.out.w8;refine ZN (.agg (ZQ ⟨K,M,nm,v3,v4,v5,v6,v7,v8,[]⟩ ⟨some ⟨g3,0,none⟩,M.length,none,0⟩)) ?_;refine YP rfl (some 5) rfl (Z7 V8.heap.size 0) (V8.alloc (.cells (ZQ Zf YW) 52)) (by kernel_rfl) ?_;refine WC rfl (YB)<|wn ?_;rw[hg5];have HVV:Hid (v3<4/\v6<9/\v7<30):=Z8 ⟨by omega,by omega,by omega⟩;clear hG3 hGE hGW iO YB Yi Ou hg5 hB5 hwr dP hrow dO mG Hq hb1 mY CS HR EJ mX mW mV mQ mO uI VL XA LD JO mP mM mJ hv3 hv4 hv5 hv6 hv7 hv8;obtain⟨E,hE⟩:∃ E:En,⟨K,M,nm,v3,v4,v5,v6,v7,v8,[]⟩=E:=⟨_,rfl⟩;obtain⟨d,hd⟩:∃ d:Ad,⟨some ⟨g3,0,none⟩,M.length,none,0⟩=d:=⟨_,rfl⟩;have zT:Hid (E.raw.length<=8/\E.Y6=[]/\yw E):=Z8 ⟨by rw[<- hE]; exact IZ.out,by rw[<- hE],by rw[<- hE]; have:=HVV.out; exact⟨dQ.out,show(0:Int)<=(v3:Int)/\(v3:Int)<=3 by omega,show(0:Int)<=(v6:Int)/\(v6:Int)<=8 by omega,show(0:Int)<=(v7:Int)/\(v7:Int)<=29 by omega⟩⟩;obtain⟨N8,hN8⟩:=ZR ((N+1+M.length+1+1+1+1+1+1+1));have iL:Hid (N+8<=N8/\N8<=N+17):=Z8 (by have:=IZ.out; omega);rw[hE,hd,hN8] at iM;simp only[hE,hd];clear hE hd hN8;go_upto_region 8 with fail;refine wl<|ZN (Z7 g 0) <|
    Vx (fun v w'=>∃ q:Nat,v=Z9 q/\(q:Int)<3/\Nm w' g a c L (N8+1)/\But g V9 w') ((nx iM.out.nm HL.out (by have:=MP.out; have:=iL.out; omega) 3 (by first | decide | omega) (by first | decide | omega)).mono fun e w' z=>by obtain⟨⟨q,h1,h2,-⟩,h3,h4⟩:=z; exact⟨_,h1,q,rfl,h2,h3,h4⟩) (fun vv V10 hq=>?_)
   obtain⟨v9,rfl,hv9,mF,Ho⟩:=hq;have mD:=Z8 (iM.out.call EI.out mF Ho);refine ZN (Z9 v9)<|wn ?_;simp only[pu];clear mF Ho iM;have mg:Hid (v9<=2):=Z8 (by omega);go_wp2_with fail;go_loopg [6] v9 (fun gg s6 wx=>∃ (z:Nat) (Q:List Int) (d2:Ad),s6=Z9 z/\z+Q.length=v9/\gg=z/\Hid (Es w g a c L g2 g5 B5 (N8+1+Q.length) { E with Y6:=Q } d2 wx))
   case atStart=>exact⟨v9,[],d,rfl,by simp,rfl,Z8 (by have:=mD.out; have e:=zT.out.2.1; cases E; simp only at e; subst e; exact this)⟩
   case round=>
    obtain⟨z,Q,d2,rfl,hzq,hgz,HR⟩:=hrel;have HGZ:=Z8 hgz;clear mD hgz;have qm:Hid (z+Q.length=v9):=Z8 hzq;clear hzq;by_cases hz0:0<z
    ·obtain⟨E2,hE2⟩:∃ E2:En,{ E with Y6:=Q }=E2:=⟨_,rfl⟩;have HQE:Hid (E2.Y6=Q/\∀ y,{ E2 with Y6:=E2.Y6++[y] }={ E with Y6:=Q++[y] }):=Z8 ⟨by rw[<- hE2],fun y=>by rw[<- hE2]⟩;rw[hE2] at HR;obtain⟨N9,dN⟩:=ZR (N8+1+Q.length);have HN9:Hid (N8+1+Q.length=N9):=Z8 dN;rw[dN] at HR;have hp:=LY (L.getD N9 0) 4 (by decide);obtain⟨y4,hy4⟩:∃ y:Int,pl (L.getD N9 0) 4=y:=⟨_,rfl⟩;rw[hy4] at hp;have HY4:=Z8 hy4;have HYB:Hid (0<=y4/\y4<4):=Z8 hp;have hln:E2.Y6.length<=2:=(by rw[HQE.out.1]; have:=qm.out; have:=mg.out; omega);have dM:Hid (E2.Y6.length<=2):=Z8 hln;have hD:Es w g a c L g2 g5 B5 N9 E2 d2 { wr with drawn:=wr.drawn+1 }:=HR.out.below (Below.refl _ wr).drew;have h0:=UK.start (F1:=Es w g a c L g2 g5 B5 (N9+1) E2 d2 { wr with drawn:=wr.drawn+1 }) (F2:=qp w g a c L g2 g5 B5 (N9+1) E2 d2 (1+y4) u54 { wr with drawn:=wr.drawn+1 }) (F3:=qo w g a c L g2 g5 B5 (N9+1) E2 d2 (1+y4) u55 { wr with drawn:=wr.drawn+1 }) (F4:=∃ a2 c2,Es w g a c L g2 g5 B5 (N9+1) { E2 with Y6:=E2.Y6++[1+y4] } { d2 with pa:=a2,pc:=c2 } { wr with drawn:=wr.drawn+1 }) hD;clear hE2 dN hp hy4 hln hD;go_upto_region 9 with fail;refine wl<|ZN (Z9 z)<|YF (VI rfl (z) (0) dT)<|wn ?_;simp only[pu];go_upto_region 11 with fail;refine ZI (fun listed Zr V=>∃ b0 b1 b2 b3 b4 b5 b6 b7 b8:Bool,∃ x54 x55:Value,listed=#[b0,b1,b2,b3,b4,b5,b6,b7,b8]/\Zr={ tmps:=#[Z7 g 0,undef,Z7 g2 0,.slice (some ⟨g3,0,none⟩) M.length M.length,u4,Z7 g5 0,Z9 z,Z7 g 0,Z9 M.length,.slice (some ⟨g3,0,none⟩) M.length M.length,.slice (some ⟨g3,0,none⟩) M.length M.length,Z9 M.length,Z9 M.length,ZW,u14,u15,u16,u17,u18,u19,u20,u21,.slice (some ⟨g3,0,none⟩) M.length M.length,.agg (Y4 K),.slice (some ⟨g3,0,none⟩) M.length M.length,Z7 g 0,.string nm,Z7 g 0,Z9 v3,ZY v3,Z7 g 0,Z9 v4,ZY v4,Z7 g 0,Z9 v5,ZY v5,Z7 g 0,Z9 v6,Z7 g 0,Z9 v7,Z7 g 0,Z9 v8,.agg (ZQ E d),Z7 g 0,Z9 v9,Z9 z,ZT,u47,u48,(cond b0 (Z7 g5 40) (u49)),(cond b1 (.slice d2.pa E2.Y6.length d2.pc) (u50)),(cond b2 (Z7 g 0) (u51)),(cond b3 (Z9 y4) (u52)),(cond b4 (Z9 (1+y4)) (u53)),x54,x55,(cond b7 (Z7 g5 40) (u56)),undef],defers:=[] }/\UK b3 b5 b6 b8 b1 b4 (Es w g a c L g2 g5 B5 N9 E2 d2 V) (Es w g a c L g2 g5 B5 (N9+1) E2 d2 V) (qp w g a c L g2 g5 B5 (N9+1) E2 d2 (1+y4) x54 V) (qo w g a c L g2 g5 B5 (N9+1) E2 d2 (1+y4) x55 V) (∃ a2 c2,Es w g a c L g2 g5 B5 (N9+1) { E2 with Y6:=E2.Y6++[1+y4] } { d2 with pa:=a2,pc:=c2 } V)) (by kernel_rfl) (by kernel_rfl) ?_ ?_ ?_
     ·exact⟨_,_,_,_,_,_,_,_,_,_,_,rfl,rfl,h0⟩
     ·intro i9 listed Zr V hi9 hr hJ;obtain⟨b0,b1,b2,b3,b4,b5,b6,b7,b8,x54,x55,rfl,rfl,hF⟩:=hJ;have hi2:i9<9:=hi9;have hi3:i9=0∨i9=1∨i9=2∨i9=3∨i9=4∨i9=5∨i9=6∨i9=7∨i9=8:=(by omega);rcases hi3 with rfl | rfl | rfl | rfl | rfl | rfl | rfl | rfl | rfl
      ·obtain rfl:b0=false:=Z5 hr;refine ZX rfl (by kernel_rfl) (some 49) rfl (Z7 g5 40) V (by kernel_rfl) ?_;exact⟨_,_,_,_,_,_,_,_,_,_,_,rfl,rfl,hF⟩
      ·obtain rfl:b1=false:=Z5 hr;obtain rfl:b0=true:=Z4 hr 0;obtain⟨rfl,rfl⟩:=hF.p0;have hb5:=hF.pr (fun h=>h.b5) (fun h=>h.b5) (fun h=>h.1.b5);refine ZJ rfl (by kernel_rfl) (some 50) rfl 22 (.tmp 49) rfl ⟨g5,40,none⟩ (.slice d2.pa E2.Y6.length d2.pc) (by kernel_rfl) (ZK (ZV hb5) (j:=40) rfl (by kernel_rfl)) ?_;exact⟨_,_,_,_,_,_,_,_,_,_,_,rfl,rfl,hF.sp⟩
      ·obtain rfl:b2=false:=Z5 hr;refine ZX rfl (by kernel_rfl) (some 51) rfl (Z7 g 0) V (by kernel_rfl) ?_;exact⟨_,_,_,_,_,_,_,_,_,_,_,rfl,rfl,hF⟩
      ·obtain rfl:b3=false:=Z5 hr;obtain rfl:b2=true:=Z4 hr 2;obtain⟨rfl,rfl,rfl,rfl⟩:=hF.w0;refine YX rfl (by kernel_rfl) (some 52) rfl 30 #[Z7 g 0,Z9 4] (by kernel_rfl) ((nx hF.is.nm HL.out (by have:=MP.out; have:=iL.out; have:=HN9.out; have:=qm.out; have:=mg.out; omega) 4 (by decide) (by decide)).mono ?_);rintro e V2 ⟨⟨v,rfl,-,hv⟩,hns,hbt⟩;rw[HY4.out] at hv;rw[hv];exact⟨_,rfl,_,_,_,_,_,_,_,_,_,_,_,rfl,rfl,hF.s1 (hF.is.call EI.out hns hbt)⟩
      ·obtain rfl:b4=false:=Z5 hr;obtain rfl:b3=true:=Z4 hr 3;refine ZX rfl (by kernel_rfl) (some 53) rfl (Z9 (1+y4)) V (Wq rfl 1 y4 (by have:=HYB.out; omega) (by kernel_rfl) (by kernel_rfl) V) ?_;exact⟨_,_,_,_,_,_,_,_,_,_,_,rfl,rfl,hF.sq⟩
      ·obtain rfl:b5=false:=Z5 hr;obtain rfl:b4=true:=Z4 hr 4;obtain⟨rfl,rfl,rfl⟩:=hF.w1;refine Xu rfl (by kernel_rfl) (some 54) rfl 22 1 #[(0,.tmp 53)] rfl #[(0,Z9 (1+y4))] (by kernel_rfl) (.slice (some ⟨V.heap.size,0,none⟩) 1 1) _ (TU (1+y4) V) ?_;exact⟨_,_,_,_,_,_,_,_,_,_,_,rfl,rfl,hF.s2 (Es.two hF.is)⟩
      ·obtain rfl:b6=false:=Z5 hr;obtain rfl:b1=true:=Z4 hr 1;obtain rfl:b5=true:=Z4 hr 5;obtain⟨rfl,rfl⟩:=hF.w2;obtain⟨v9,V9,NC,ql⟩:=qp.three hF.is EI.out (by have:=dM.out; omega);refine XG rfl (by kernel_rfl) (some 55) rfl 22 rfl (.tmp 50) (.tmp 54) 22 rfl (.slice d2.pa E2.Y6.length d2.pc) x54 v9 V9 (by kernel_rfl) (by kernel_rfl) NC ?_;exact⟨_,_,_,_,_,_,_,_,_,_,_,rfl,rfl,hF.s3 ql⟩
      ·obtain rfl:b7=false:=Z5 hr;refine ZX rfl (by kernel_rfl) (some 56) rfl (Z7 g5 40) V (by kernel_rfl) ?_;exact⟨_,_,_,_,_,_,_,_,_,_,_,rfl,rfl,hF⟩
      ·obtain rfl:b8=false:=Z5 hr;obtain rfl:b6=true:=Z4 hr 6;obtain rfl:b7=true:=Z4 hr 7;obtain rfl:=hF.w3;obtain⟨V9,YB,ql⟩:=qo.four hF.is EI.out;refine Zb rfl (by kernel_rfl) rfl 22 (.tmp 56) (.tmp 55) rfl (Z7 g5 40) x55 (by kernel_rfl) (by kernel_rfl) V9 YB ?_;exact⟨_,_,_,_,_,_,_,_,_,_,_,rfl,rfl,hF.s4 ql⟩
     ·intro Zr V hJ;obtain⟨b0,b1,b2,b3,b4,b5,b6,b7,b8,x54,x55,he,rfl,hF⟩:=hJ;have he:(#[true,true,true,true,true,true,true,true,true]:Array Bool)=#[b0,b1,b2,b3,b4,b5,b6,b7,b8]:=he;simp only[Array.mk.injEq,List.cons.injEq,and_true] at he;obtain⟨rfl,rfl,rfl,rfl,rfl,rfl,rfl,rfl,rfl⟩:=he;simp only[cond_true];obtain⟨a2,c2,ql⟩:=hF.is;have HR9:Hid (Es w g a c L g2 g5 B5 (N8+1+(Q++[1+y4]).length) { E with Y6:=Q++[1+y4] } { d2 with pa:=a2,pc:=c2 } V):=Z8 (by
       have h1:=ql;rw[HQE.out.2,<- HN9.out] at h1;rw[List.length_append,List.length_singleton,<- Nat.add_assoc];exact h1)
      have dK:Hid ((Q++[1+y4]).length=Q.length+1):=Z8 (by rw[List.length_append,List.length_singleton]);clear hF ql;go_upto_region 10 with fail;refine wl<|ZN (Z9 z)<|Yb (Z9 ((z-1:Nat):Int)) (zS rfl z hz0 (by have:=qm.out; have:=mg.out; omega))<|ZN (Z9 ((z-1:Nat):Int))<|wn ?_;simp only[pu];go_wp2_with fail;go_roundg (z-1)
      case measure=>have:=HGZ.out; omega
      case rel=>exact⟨z-1,_,_,rfl,by have:=qm.out; have:=dK.out; omega,rfl,HR9⟩
    ·obtain rfl:z=0:=(by omega);obtain⟨V3,hst3,hY3,XA⟩:=st_all (cs':=ZQ { E with Y6:=Q } d2) (ty:=52) HR.out.b2 rfl (Y3 _ _) (by kernel_rfl);have hb5:=Z8 HR.out.b5;have HEW:Hid (XT V3 w.heap.size { E with Y6:=Q } d2):=Z8 ⟨Zo HR.out.er XA fun x hx=>(HR.out.rl x hx).2.1,own_base (Zo HR.out.ep XA fun x hx=>by have:=(HR.out.ep.lt x.block (by rw[hx]; rfl)).1; have:=EI.out.l2; omega) EI.out.wb⟩;have HNE:Hid (Nm V3 g a c L (N8+1+Q.length)):=Z8 (HR.out.nm.but XA (by have:=EI.out.gw; have:=EI.out.w2; omega));have HBE:Hid (But g w V3):=Z8 ⟨HR.out.but.1.trans (XA.1.mono (by have:=EI.out.gw; have:=EI.out.w2; omega)),fun k hk hn=>(XA.2 k (Nat.lt_of_lt_of_le hk HR.out.but.1.size) (by have:=EI.out.w2; omega)).trans (HR.out.but.2 k hk hn)⟩;clear XA HR;go_upto_region 9 with fail;refine wl<|ZN (Z9 (0:Nat))<|YF (VI rfl ((0:Nat)) (0) dF)<|wn ?_;simp only[pu];go_upto_region 12 with fail;refine wl<|Zq rfl ⟨g5,0,none⟩ (.agg (ZQ { E with Y6:=Q } d2)) (ZC (ZV hb5.out))<|WC rfl (hst3)<|wn ?_;simp only[pu];clear hst3 hb5;go_wp2_with fail;exact bodyPost_ret (YR rfl (by kernel_rfl) (ZC (ZV hY3))) rfl ⟨_,_,_,rfl,HEW.out,zT.out.1,zT.out.2.2,by have:=qm.out; have:=mg.out; show Q.length<=2; omega,by have:=iL.out; omega,by have:=iL.out; have:=qm.out; have:=mg.out; omega,HNE.out,HBE.out⟩
abbrev qG:En×Ad:=(Zf,YW)
def yu (x:En×Ad):List Value:=YN x.1 x.2
theorem OA (x:En×Ad):(yu x).length=41:=rfl
theorem Ae (x:En×Ad):∀ u∈yu x,u.oneCell'=true:=Vr x.1 x.2
def Jh (X:List (En×Ad)):List Value:=X.flatMap yu
theorem Aa (X:List (En×Ad)):(Jh X).length=X.length*41:=WR yu OA X
def lE (X:List (En×Ad)):List En:=X.map (·.1)
theorem vV (X:List (En×Ad)):(lE X).length=X.length:=List.length_map ..
structure Xr (w:World)(a:Option Addr)(X:List (En×Ad)):Prop where
 cs:Cs w a (Jh X)
 en:∀ i,i<X.length->Vl w (X.getD i qG).1 (X.getD i qG).2
def oZ (a:Option Addr)(X:List (En×Ad))(k:Nat):Prop:=rb a (Jh X) k∨∃ i,i<X.length/\EB (X.getD i qG).1 (X.getD i qG).2 k
section
variable {w w' : World} {a : Option Addr} {X : List (En × Ad)}
end
theorem Yn (b off n c k:Nat)(hk:k<n)(V:World)(ρ:Operand->Value)(o:Oper){x y:Operand}(ho:o.op=.indexAddr 29 x y)(hx:ρ x=.slice (some ⟨b,off,none⟩) n c)(hy:ρ y=Z9 k):(execOp ρ o).run Tryz.prog V=.ok (.value (Z7 b (off+k*41))) V:=by
 have hs:(sizeOf (Tryz.prog.elem 29)).run Tryz.prog V=.ok 41 V:=by kernel_rfl
 have hlm:(k:Int)<(n:Int):=by omega
 unfold execOp;simp only[ho,hx,hy];go_simp
theorem Bh (a b:Nat->Int):((List.range 32).map a == (List.range 32).map b)=keq a b:=by
 unfold keq;rw[Bool.eq_iff_iff];simp
theorem Ov {w:World}{g:Nat}{k:Nat->Int}(h:Bx w g (Y4 k) 38):(Instr.loadAt 38 (Z7 g 0)).run Tryz.prog w=.ok (.agg (Y4 k)) w:=run_loadAt_mid w g 0 38 (Ht k) _ (ZV (cs:=Ht k) h) Tryz.underlying38 rfl (by kernel_rfl)
end Go.Proofs.YtnelmomagdcmnaaGreat
namespace Go.Proofs.YtnelmomagdcmnaaGreat
attribute [local irreducible] wpList wpQuiet
open Go.RowKit
end Go.Proofs.YtnelmomagdcmnaaGreat
namespace Go.Proofs.YtnelmomagdcmnaaGreat
open Go.RowKit
def dR (v:Value):Prop:=∃ a n c,v=.slice a n c
theorem EN {w:World}{B e s n:Nat}{v:Value}{xs:List Value}(h:w.ownsRow B e s v n xs):dR v:=by
 obtain⟨a,c,e,-⟩:=Zi h;exact⟨a,n,c,e⟩
theorem Zu {w w':World}{b o:Nat}{cs:List Value}(h:w.rangeAt b o cs)(hb:Below w.heap.size w w'):w'.rangeAt b o cs:=fun j v hv=>by
 have:=h j v hv;exact(hb.cell (p:=⟨b,o+j,none⟩) (World.block_lt_of_cell? w _ this)).trans this
section
variable {P : Program} {t e s bytes : Nat} {z : Value}
theorem VP (hu:P.underlying t=some (.slice e))(hinfo:(P.info? e).map (fun i=>(i.zero,i.size,i.bytes))=some (some z,s,bytes))(hzs:z.cells.size=s)(hs:0<s)(hby:bytes<=1000)
  {w:World} {B n m:Nat} {v:Value} {xs:List Value} (hO:w.ownsRow B e s v n xs) (pa:Option Addr) (cp:Nat) (ys:List Value) (hP:Cs w pa ys) (hl:ys.length=m*s) (h1:∀ u∈ys,u.oneCell'=true) (hB:B<=w.heap.size) (hn:n<=100000) (hm:m<=100000) :
  ∃ v' w',(Builtin.append_ #[t,t] t #[v,.slice pa m cp]).run P w=.ok v' w'/\w'.ownsRow B e s v' (n+m) (xs++ys)/\Below B w w'/\w.grownBy w' v.ownBlock/\(v'.ownBlock=v.ownBlock∨v'.ownBlock=some w.heap.size):=by
 obtain⟨i0,hi,hz0,hz1,hz2⟩:=info_parts hinfo;by_cases hy:ys=[]
 ·subst hy;obtain rfl:m=0:=by
   rcases Nat.eq_zero_or_pos m with h | h
   ·exact h
   ·have:=Nat.mul_pos h hs;rw[<- hl] at this;simp at this
  cases pa with
  | none=>
   refine⟨v,w,?_,by simpa using hO,Below.refl _ _,World.grownBy.refl w _,.inl rfl⟩;rcases hO.2 with⟨rfl,h0⟩ | ⟨g,cap,cur,rfl,_,_,hnc,_⟩
   ·simp[Builtin.append_,run_underlying hu,sizeOf,typeInfo,hi,Builtin.lenOf,Builtin.firstCells]
   ·simp[Builtin.append_,run_underlying hu,sizeOf,typeInfo,hi,Builtin.lenOf,Builtin.firstCells,hnc,storeCells]
  | some x=>
   obtain⟨v',w',hr,h2,h3,-,h4⟩:=run_append_own_at (P:=P) w B t t e i0 z s bytes hu hi hz0 hz1 hz2 hzs hs v n xs hO x 0 cp [] (by simp) (fun j u h=>by simp at h) (by simp) (by unfold maxLen; omega) (by have:=Nat.mul_le_mul (show n+0<=100000 by omega) hby; omega) hB;exact⟨v',w',hr,h2,(Below.refl _ w).grown h3 hB (fun j hj=>(hO.lt j hj).1),h3,h4⟩
 ·obtain⟨y,hy0⟩:∃ y,ys[0]?=some y:=by
   cases ys with
   | nil=>exact absurd rfl hy
   | cons y r=>exact⟨y,rfl⟩
  obtain⟨b,off,rfl,-⟩:=hP 0 y hy0;have hcells:∀ j u,ys[j]?=some u->w.cell? ((⟨b,off,none⟩:Addr).add j)=some u:=fun j u hu=>by
   obtain⟨b2,off2,e2,-,hc⟩:=hP j u hu;simp only[Option.some.injEq,Addr.mk.injEq,and_true] at e2;obtain⟨rfl,rfl⟩:=e2;rw[Addr.add_mid];exact hc
  obtain⟨v',w',hr,h2,h3,-,h4⟩:=run_append_own_at (P:=P) w B t t e i0 z s bytes hu hi hz0 hz1 hz2 hzs hs v n xs hO ⟨b,off,none⟩ m cp ys hl hcells h1 (by unfold maxLen; omega) (by have:=Nat.mul_le_mul (show n+m<=200000 by omega) hby; omega) hB;exact⟨v',w',hr,h2,(Below.refl _ w).grown h3 hB (fun j hj=>(hO.lt j hj).1),h3,h4⟩
end
theorem Ku:(Tryz.prog.info? 52).map (fun i=>(i.zero,i.size,i.bytes))=some (some (.agg (ZQ Zf YW)),41,144):=by kernel_rfl
theorem Af (L:List (En×Ad)):∀ u∈Jh L,u.oneCell'=true:=SC yu Ae L
theorem Ac (A B:List (En×Ad)):Jh (A++B)=Jh A++Jh B:=List.flatMap_append
theorem FU (x:En×Ad)(V:World):(Instr.buildSlice 29 1 #[(0,.agg (ZQ x.1 x.2))]).run Tryz.prog V=.ok (.slice (some ⟨V.heap.size,0,none⟩) 1 1) (V.alloc (.cells (ZQ x.1 x.2) 52)):=by
  obtain⟨i0,hi,hz0,hz1,hz2⟩:=info_parts Ku;refine run_buildSlice V 29 52 1 _ (ZQ x.1 x.2) i0 _ Tryz.underlying29 hi hz0 (by rw[hz1]; omega) (by rw[hz1]; omega) ?_;rw[hz1];kernel_rfl
def WY (w:World)(B:Nat)(v:Value)(L:List (En×Ad)):Prop:=w.ownsRow B 52 41 v L.length (Jh L)
theorem WY.cs {w:World}{B:Nat}{v:Value}{L:List (En×Ad)}(h:WY w B v L):∃ a c,v=.slice a L.length c/\Cs w a (Jh L)/\L.length<=c:=Zi h
theorem vS {w:World}{B:Nat}{v:Value}{A:List (En×Ad)}(h:WY w B v A)(hB:B<=w.heap.size)(pa:Option Addr)(n cp:Nat)(M:List (En×Ad))(hM:Cs w pa (Jh M))(hn:M.length=n)(hl:A.length<=100000)(hm:n<=100000) :
    ∃ v' w',(Builtin.append_ #[29,29] 29 #[v,.slice pa n cp]).run Tryz.prog w=.ok v' w'/\WY w' B v' (A++M)/\Below B w w'/\w.grownBy w' v.ownBlock/\(v'.ownBlock=v.ownBlock∨v'.ownBlock=some w.heap.size):=by
  subst hn;obtain⟨v',w',h1,h2,h3⟩:=VP (P:=Tryz.prog) (t:=29) (m:=M.length) Tryz.underlying29 Ku (by kernel_rfl) (by omega) (by omega) h pa cp (Jh M) hM (Aa M) (Af M) hB hl hm;refine⟨v',w',h1,?_,h3⟩;unfold WY;rw[Ac,List.length_append];exact h2
def Row (V0 V:World)(x:Value)(L:List (En×Ad)):Prop:=V.ownsRow V0.heap.size 52 41 x L.length (Jh L)
structure CH (V0:World)(k:En×Ad)(L1 L2 L3:List (En×Ad))(b0 b1 b2 b3 bk:Bool)(x0 x1 x2 x3 xk:Value)(V:World):Prop where
  bel:Below V0.heap.size V0 V
  r0:b0=true->b1=false->Row V0 V x0 []
  r1:b1=true->b2=false->Row V0 V x1 L1
  r2:b2=true->b3=false->Row V0 V x2 L2
  r3:b3=true->Row V0 V x3 L3
  c1:b1=true->b0=true
  c2:b2=true->b1=true
  c3:b3=true->b2=true
  kx:bk=true->∃ g,xk=.slice (some ⟨g,0,none⟩) 1 1/\Bx V g (ZQ k.1 k.2) 52/\(b0=true->b1=false->x0.ownBlock≠some g)/\(b1=true->b2=false->x1.ownBlock≠some g)/\(b2=true->b3=false->x2.ownBlock≠some g)
section
variable {V0 V V2 : World} {k : En × Ad} {L1 L2 L3 : List (En × Ad)} {b0 b1 b2 b3 bk : Bool} {x0 x1 x2 x3 xk v : Value}
end
end Go.Proofs.YtnelmomagdcmnaaGreat
namespace Go.Proofs.YtnelmomagdcmnaaGreat
attribute [local irreducible] wpList wpQuiet
open Go.RowKit
abbrev XK (c:List Int):Array Value:=#[Z9 (c.getD 0 0),Z9 (c.getD 1 0),Z9 (c.getD 2 0),Z9 (c.getD 3 0),Z9 (c.getD 4 0),Z9 (c.getD 5 0),.bool (decide (c.getD 6 0=1)),Z9 (c.getD 7 0),Z9 (c.getD 8 0),ZY (c.getD 9 0),Z9 (c.getD 10 0),Z9 (c.getD 11 0)]
abbrev BP (c:List Int)(a:Option Addr)(n cp:Nat):Array Value:=#[Z9 (c.getD 0 0),Z9 (c.getD 1 0),Z9 (c.getD 2 0),Z9 (c.getD 3 0),Z9 (c.getD 4 0),Z9 (c.getD 5 0),.bool (decide (c.getD 6 0=1)),Z9 (c.getD 7 0),Z9 (c.getD 8 0),ZY (c.getD 9 0),Z9 (c.getD 10 0),Z9 (c.getD 11 0),.slice a n cp]
structure KM (w:World)(c:List Int)(a:Option Addr)(n cp g2 g4:Nat)(Y:List (En×Ad))(b5 b6 b7:Bool)(x y:Value)(V:World):Prop where
 bel:Below w.heap.size w V
 b2:Bx V g2 (BP c a n cp) 31
 b4:∃ cs,cs.size=13/\Bx V g4 cs 31
 o6:b6=true->b5=true
 o7:b7=true->b6=true
 cal:b5=true->∃ a2 c2,x=.slice a2 Y.length c2/\Y.length<=c2/\Xr V a2 Y/\(∀ k,oZ a2 Y k->k≠g4)/\(∀ k,rb a2 (Jh Y) k->w.heap.size<=k)/\(b6=true->y=.agg (BP c a2 Y.length c2))/\(b7=true->Bx V g4 (BP c a2 Y.length c2) 31)
section
variable {w V V2 : World} {c : List Int} {a : Option Addr} {n cp g2 g4 : Nat} {Y : List (En × Ad)} {b5 b6 b7 : Bool} {x y v : Value}
end
structure KI (w V7:World)(c:List Int)(a:Option Addr)(n cp g2 g3 g4:Nat)(X:List (En×Ad))(x:En×Ad)(b2 b5 b7 b8 b9 b10:Bool)(x59 x62 x64 x65 x66:Value)(V:World):Prop where
 bel:Below w.heap.size w V
 p2:Bx V g2 (BP c a n cp) 31
 p3:Bx V g3 (ZQ x.1 x.2) 52
 ch:b10=false->CH V7 x X (X++[x]) [] b2 b5 b8 false b7 x59 x62 x65 undef x64 V
 o5:b5=true->b2=true
 o8:b8=true->b5=true
 o87:b8=true->b7=true
 o9:b9=true->b8=true
 o10:b10=true->b9=true
 bd:b9=true->∃ a2 c2,x65=.slice a2 (X++[x]).length c2/\x66=.agg (BP c a2 (X++[x]).length c2)
 st:b10=true->∃ a2 c2,x65=.slice a2 (X++[x]).length c2/\WY V w.heap.size (.slice a2 (X++[x]).length c2) (X++[x])/\Bx V g4 (BP c a2 (X++[x]).length c2) 31
section
variable {w V7 V V2 : World} {c : List Int} {a : Option Addr} {n cp g2 g3 g4 : Nat} {X : List (En × Ad)} {x : En × Ad} {b2 b5 b7 b8 b9 b10 : Bool} {x59 x62 x64 x65 x66 v : Value}
end
section
variable {ρ : Operand -> Value} {o : Oper} {x y : Operand}
end
structure OD (b1 b3 b4 b8 b10 b11:Bool):Prop where
 a:b3=true->b1=true
 b:b4=true->b3=true
 c:b10=true->b8=true
 d:b11=true->b10=true
end Go.Proofs.YtnelmomagdcmnaaGreat
