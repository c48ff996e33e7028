/-
  Texts joined.
-/
import Derived.Test.YtnelmomagdcmnaaGreatJ6
set_option maxRecDepth 100000
set_option maxHeartbeats 8000000
set_option linter.unusedSimpArgs false
set_option linter.unusedVariables false
namespace Go.Proofs.YtnelmomagdcmnaaGreat
attribute [local irreducible] wpList wpQuiet
open Go.RowKit
theorem EO:∀ (A B:List Int),A.length=B.length->((List.range A.length).all fun i=>A.getD i 0 == B.getD i 0)=(A == B)
 | [],[],_=>rfl
 | x::xs,y::ys,h=>by
  have ih:=EO xs ys (by simpa using h);rw[List.length_cons,List.range_succ_eq_map,List.all_cons,List.all_map];simp only[List.getD_cons_zero,Function.comp_def,List.getD_cons_succ,ih];simp[List.cons_beq_cons]
 | [],_::_,h=>by simp at h
 | _::_,[],h=>by simp at h
theorem sN {P:Program}(w:World)(d t e n:Nat)(ht:P.underlying t=some (.array n e))(he:P.underlying e=some (.int .u8))(hsz:∀ w,(sizeOf e).run P w=.ok 1 w)(A B:List Int)(hx:A.length=n)(hy:B.length=n) :
  (Op.equalIn (d+2) t (.agg (RH A)) (.agg (RH B))).run P w=.ok (A == B) w:=by
 rw[<- EO A B (hx.trans hy.symm),hx,List.range_eq_range',Op.equalIn];simp only[Sem.run_bind,run_underlying ht,Result.andThen_ok,hsz,Std.Legacy.Range.forIn_eq_forIn_range',Std.Legacy.Range.size,Nat.sub_zero,Nat.add_sub_cancel,Nat.div_one];have hl:∀ i∈List.range' 0 n 1,i<n:=fun i hi=>by simpa using(List.mem_range'_1.1 hi).2
 generalize List.range' 0 n 1=l at hl ⊢;induction l with
 | nil=>simp
 | cons i l ih=>
  have hi:i<n:=hl i (by simp);have px:(part e (RH A) (i*1)).run P w=.ok (.int .u8 (A.getD i 0)) w:=by
   simp[part,isAgg,run_underlying he,List.getD,List.getElem?_eq_getElem (show i<A.length by omega)]
  have py:(part e (RH B) (i*1)).run P w=.ok (.int .u8 (B.getD i 0)) w:=by
   simp[part,isAgg,run_underlying he,List.getD,List.getElem?_eq_getElem (show i<B.length by omega)]
  have pe:(Op.equalIn (d+1) e (.int .u8 (A.getD i 0)) (.int .u8 (B.getD i 0))).run P w=.ok (A.getD i 0 == B.getD i 0) w:=run_equalIn_int w d e .u8 .u8 _ _ he;simp only[List.forIn_cons,Sem.run_bind,px,py,pe,Result.andThen_ok,List.all_cons];cases hb:(A.getD i 0 == B.getD i 0)
  ·simp
  ·simp only[Bool.not_true,Bool.false_eq_true,if_false,Sem.run_pure,Result.andThen_ok,Bool.true_and];exact ih fun j hj=>hl j (by simp[hj])
theorem Iz (A B:List Int)(hA:A.length=32)(hB:B.length=32)(w:World):(Op.equalIn 10000 38 (.agg (RH A)) (.agg (RH B))).run Tryz.prog w=.ok (A == B) w:=
 sN w 9998 38 5 32 (by kernel_rfl) Tryz.underlying5 (fun w=>by kernel_rfl) A B hA hB
theorem Ns:Tryz.prog.eqGuardType Tryz.prog.depth 38=false:=by kernel_rfl
theorem tH {ρ:Operand->Value}{o:Oper}{x y:Operand}(ho:o.op=.binOp .eql 38 x y 38)(A B:List Int)(hA:A.length=32)(hB:B.length=32)(hx:ρ x=.agg (RH A))(hy:ρ y=.agg (RH B))(w:World) :
  (execOp ρ o).run Tryz.prog w=.ok (.value (.bool (A == B))) w:=by
 have h1:=Iz A B hA hB w;have h2:=Ns;unfold execOp;simp only[ho,hx,hy];simp[h1,h2,go_sem]
theorem Ou (s:ByteArray):(s == s)=true:=by
 rw[beq_toListBytes];exact beq_self_eq_true _
theorem ab4 {ρ:Operand->Value}{o:Oper}{x y:Operand}(ho:o.op=.binOp .eql 38 x y 38)(k:Nat->Int)(hx:ρ x=.agg (Zv k))(hy:ρ y=.agg (Zv k))(w:World):(execOp ρ o).run Tryz.prog w=.ok (.value ZX) w:=by
 have e:Zv k=RH ((List.range 32).map k):=rfl;rw[e] at hx hy;have:=tH ho ((List.range 32).map k) ((List.range 32).map k) (by simp) (by simp) hx hy w;rwa [beq_self_eq_true] at this
theorem yA {w:World}{a a2:Option Addr}{c c2:Nat}{L:List Int}(h1:Cs w a (ZJ L))(h2:Cs w a2 (ZJ L))(hl:L.length<=100000):Calls Tryz.prog 49 #[.slice a L.length c,.slice a2 L.length c2] w fun e w'=>e=.returned ZX/\Below w.heap.size w w':=by
 have HA:Hid (∀ V,Below w.heap.size w V->∀ i,i<L.length->∃ b off b2 off2,a=some ⟨b,off,none⟩/\a2=some ⟨b2,off2,none⟩/\V.cell? ⟨b,off+i,none⟩=some (Z9 (L.getD i 0))/\V.cell? ⟨b2,off2+i,none⟩=some (Z9 (L.getD i 0))):=Z8 fun V hV i hi=>by
  obtain⟨b,off,e1,-,c1⟩:=PU (h1.below hV) hi;obtain⟨b2,off2,e2,-,c2⟩:=PU (h2.below hV) hi;exact⟨b,off,b2,off2,e1,e2,c1,c2⟩
 obtain⟨n,hn⟩:=ZR L.length;rw[hn] at HA hl ⊢;have HL:=Z8 hl;clear h1 h2 hn hl;go_enter Tryz.func49,Tryz.ntmps49;go_upto_region 1 with fail;refine wl<|Qc (.slice a n c) (Z9 n) (.slice a2 n c2) (Z9 n)<|Zg (VQ rfl (n) (n) (decide_eq_false (fun h=>h rfl)))<|wn ?_;simp only[pu];go_upto_region 3 with fail;refine wl<|YX (.slice a n c) (Z9 n) (Z9 0)<|wn ?_;simp only[pu];go_wp2_with fail;go_loopg [13] n (fun gg s13 wx=>∃ (i:Nat),s13=Z9 i/\i<=n/\gg+i=n/\Hid (Below w.heap.size w wx))
 case atStart=>exact⟨0,rfl,by omega,by omega,Z8 (Below.refl _ _)⟩
 case round=>
  obtain⟨i,rfl,hin,hg,HR⟩:=hrel;have WH:Hid (gk+i=n):=Z8 hg;clear hg;by_cases hlt:i<n
  ·obtain⟨b,off,b2,off2,hq1,hq2,hc1,hc2⟩:=HA.out wr HR.out i hlt;obtain rfl:=hq1;obtain rfl:=hq2;generalize L.getD i 0=v at *
   go_upto_region 4 with fail;refine wl<|Zg (ZG rfl (i) (n) dT)<|wn ?_;simp only[pu];go_upto_region 5 with fail;refine wl<|ZB (Z9 i) (Z9 i)<|wn ?_;simp only[pu];go_upto_region 6 with fail;refine ZT (C:=fun U=>Below wr.heap.size wr U) (by kernel_rfl) (by kernel_rfl) ((Below.refl _ wr).drew) ?_;refine gy (.slice (some ⟨b,off,none⟩) n c)<|gy (Z9 i)<|Ze (Z7 b (off+i)) (fun U hU=>Wn b off n c i hlt U _ _ rfl (by kernel_rfl) (by kernel_rfl)) <|
     Zx rfl ⟨b,off+i,none⟩ (Z9 v) (fun U hU=>XH ((hU.cell (p:=⟨b,off+i,none⟩) (World.block_lt_of_cell? wr _ hc1)).trans hc1) (by kernel_rfl))<|gy (.slice (some ⟨b2,off2,none⟩) n c2)<|gy (Z9 i) <|
     Ze (Z7 b2 (off2+i)) (fun U hU=>Wn b2 off2 n c2 i hlt U _ _ rfl (by kernel_rfl) (by kernel_rfl)) <|
     Zx rfl ⟨b2,off2+i,none⟩ (Z9 v) (fun U hU=>XH ((hU.cell (p:=⟨b2,off2+i,none⟩) (World.block_lt_of_cell? wr _ hc2)).trans hc2) (by kernel_rfl))<|Ze ZY (fun U hU=>VQ rfl (v) (v) (decide_eq_false (fun h=>h rfl)) (by kernel_rfl) (by kernel_rfl) U) ?_
   simp only[pu];apply wpQuiet_nil;intro V3 TN;have HR2:=Z8 (HR.out.trans (TN.mono HR.out.size));clear TN hc1 hc2 HR;go_upto_region 8 with fail;refine wl<|Za (Z9 (i+1:Nat)) (add_one rfl i (by have:=HL.out; omega) (by kernel_rfl) _)<|ZQ (Z9 (i+1:Nat))<|wn ?_;simp only[pu];go_wp2_with fail;go_roundg (n-(i+1))
   case measure=>have:=WH.out; omega
   case rel=>exact⟨i+1,rfl,by omega,by omega,HR2⟩
  ·obtain rfl:i=n:=(by omega);go_upto_region 4 with fail;refine wl<|Zg (ZG rfl (i) (i) dF)<|wn ?_;simp only[pu];go_wp2_with fail;go_ret;exact⟨rfl,HR.out⟩
theorem Hw {w:World}{e:En}{d d2:Ad}(h1:Vh w e d)(h2:Vh w e d2)(hE:II e):Calls Tryz.prog 23 #[.agg (ZO e d),.agg (ZO e d2)] w fun r w'=>r=.returned ZX/\Below w.heap.size w w':=by
 have hX2:Bx (w.alloc (.cells (ZO e d) 52)) w.heap.size (ZO e d) 52:=heap_alloc_last w _;have hs1:(w.alloc (.cells (ZO e d) 52)).heap.size=w.heap.size+1:=by simp
 have hb1:Below w.heap.size w (w.alloc (.cells (ZO e d) 52)):=(Below.refl _ w).alloc (Nat.le_refl _) _;obtain⟨W1,hW1⟩:=ZR (w.alloc (.cells (ZO e d) 52));rw[hW1] at hX2 hs1 hb1;have hb0:Below w.heap.size w (W1.alloc (.cells (ZO e d2) 52)):=hb1.alloc hb1.size _;have Qe:Bx (W1.alloc (.cells (ZO e d2) 52)) w.heap.size (ZO e d) 52:=hX2.below hX2.lt ((Below.refl _ W1).alloc (Nat.le_refl _) _);have QU:Bx (W1.alloc (.cells (ZO e d2) 52)) W1.heap.size (ZO e d2) 52:=heap_alloc_last W1 _;obtain⟨W,hW⟩:=ZR (W1.alloc (.cells (ZO e d2) 52));rw[hW] at Qe QU hb0;rw[hs1] at QU;obtain⟨g2,hg2⟩:=ZR w.heap.size;obtain⟨g3,hg3⟩:=ZR (g2+1);rw[show w.heap.size+1=g3 by omega] at QU;rw[hg2] at Qe;have hg4:W1.heap.size=g3:=by omega
 have HB:=Z8 hb0;have hI1:=h1.below hb0;have hI2:=h2.below hb0;have CB:=yx d.ra d.rc d2.ra d2.rc e.raw W hI1.r hI2.r;have CI:=yA (c:=d.pc) (c2:=d2.pc) hI1.p hI2.p (by have:=hE.2; omega);have HW1:=Z8 hW1;have HW:=Z8 hW;have HG2:=Z8 hg2;have Qg:=Z8 hg3;clear h1 h2 hE hX2 hs1 hb1 hb0 hg2 hg3 hI1 hI2 hW1 hW hg4;go_enter Tryz.func23,Tryz.ntmps23;go_upto_region 1 with fail;rw[HW1.out,HW.out];rw[HG2.out,Qg.out];refine wl<|ZQ (Z7 g2 0)<|ZC rfl ⟨g2,0,none⟩ (.agg (Zv e.k)) (Yw (ZU Qe))<|ZQ (Z7 g3 0)<|ZC rfl ⟨g3,0,none⟩ (.agg (Zv e.k)) (Yw (ZU QU)) <|
  Yd ZX (ab4 rfl e.k)<|ZB ZX (Z7 g2 32)<|ZC rfl ⟨g2,32,none⟩ (.slice d.ra e.raw.length d.rc) (ZN (ZU Qe) (j:=32) rfl (by kernel_rfl))<|ZQ (Z7 g3 32) <|
  ZC rfl ⟨g3,32,none⟩ (.slice d2.ra e.raw.length d2.rc) (ZN (ZU QU) (j:=32) rfl (by kernel_rfl))<|YD ZX (fun w'=>W=w') (CB) (fun V9 XZ=>?_)
 subst XZ;refine YX ZX ZX (Z7 g2 33)<|ZC rfl ⟨g2,33,none⟩ (.string e.snd) (ZN (ZU Qe) (j:=33) rfl (by kernel_rfl))<|ZQ (Z7 g3 33) <|
  ZC rfl ⟨g3,33,none⟩ (.string e.snd) (ZN (ZU QU) (j:=33) rfl (by kernel_rfl))<|Yd ZX (Ak rfl e.snd e.snd (Ou _))<|YX ZX ZX (Z7 g2 34) <|
  ZC rfl ⟨g2,34,none⟩ (ZV e.sq) (ZN (ZU Qe) (j:=34) rfl (by kernel_rfl))<|ZQ (Z7 g3 34)<|ZC rfl ⟨g3,34,none⟩ (ZV e.sq) (ZN (ZU QU) (j:=34) rfl (by kernel_rfl)) <|
  Zg (Uo rfl e.sq e.sq (decide_eq_true rfl))<|YX ZX ZX (Z7 g2 35)<|ZC rfl ⟨g2,35,none⟩ (ZV e.gas) (ZN (ZU Qe) (j:=35) rfl (by kernel_rfl)) <|
  ZQ (Z7 g3 35)<|ZC rfl ⟨g3,35,none⟩ (ZV e.gas) (ZN (ZU QU) (j:=35) rfl (by kernel_rfl))<|Zg (Uo rfl e.gas e.gas (decide_eq_true rfl)) <|
  YX ZX ZX (Z7 g2 36)<|ZC rfl ⟨g2,36,none⟩ (ZV e.pri) (ZN (ZU Qe) (j:=36) rfl (by kernel_rfl))<|ZQ (Z7 g3 36) <|
  ZC rfl ⟨g3,36,none⟩ (ZV e.pri) (ZN (ZU QU) (j:=36) rfl (by kernel_rfl))<|Zg (Uo rfl e.pri e.pri (decide_eq_true rfl))<|YX ZX ZX (Z7 g2 37) <|
  ZC rfl ⟨g2,37,none⟩ (Z9 e.ht) (ZN (ZU Qe) (j:=37) rfl (by kernel_rfl))<|ZQ (Z7 g3 37)<|ZC rfl ⟨g3,37,none⟩ (Z9 e.ht) (ZN (ZU QU) (j:=37) rfl (by kernel_rfl)) <|
  Zg (XY rfl e.ht e.ht (decide_eq_true rfl))<|YX ZX ZX (Z7 g2 38)<|ZC rfl ⟨g2,38,none⟩ (Z9 e.tm) (ZN (ZU Qe) (j:=38) rfl (by kernel_rfl)) <|
  ZQ (Z7 g3 38)<|ZC rfl ⟨g3,38,none⟩ (Z9 e.tm) (ZN (ZU QU) (j:=38) rfl (by kernel_rfl))<|Zg (XY rfl e.tm e.tm (decide_eq_true rfl)) <|
  YX ZX ZX (Z7 g2 39)<|ZC rfl ⟨g2,39,none⟩ (Z9 e.od) (ZN (ZU Qe) (j:=39) rfl (by kernel_rfl))<|ZQ (Z7 g3 39) <|
  ZC rfl ⟨g3,39,none⟩ (Z9 e.od) (ZN (ZU QU) (j:=39) rfl (by kernel_rfl))<|Zg (XY rfl e.od e.od (decide_eq_true rfl))<|YX ZX ZX (Z7 g2 40) <|
  ZC rfl ⟨g2,40,none⟩ (.slice d.pa e.Xe.length d.pc) (ZN (ZU Qe) (j:=40) rfl (by kernel_rfl))<|ZQ (Z7 g3 40)<|ZC rfl ⟨g3,40,none⟩ (.slice d2.pa e.Xe.length d2.pc) (ZN (ZU QU) (j:=40) rfl (by kernel_rfl)) <|
  YD ZX (fun w'=>Below W.heap.size W w') (CI) (fun V2 hV2=>?_)
 refine ZB ZX ZX<|wn ?_;simp only[pu];have HE:=HB.out.trans (hV2.mono HB.out.size);go_wp2_with fail;go_ret;exact⟨rfl,HE⟩
theorem infoSt:(Tryz.prog.info? 9).map (fun i=>(i.zero,i.size,i.bytes))=some (some (.string ByteArray.empty),1,16):=by kernel_rfl
theorem Ht (b off n c k:Nat)(hk:k<n)(V:World)(ρ:Operand->Value)(o:Oper){x y:Operand}(ho:o.op=.indexAddr 40 x y)(hx:ρ x=.slice (some ⟨b,off,none⟩) n c)(hy:ρ y=Z9 k):(execOp ρ o).run Tryz.prog V=.ok (.value (Z7 b (off+k))) V:=by
 have hs:(sizeOf (Tryz.prog.elem 40)).run Tryz.prog V=.ok 1 V:=by kernel_rfl
 have hlm:(k:Int)<(n:Int):=by omega
 unfold execOp;simp only[ho,hx,hy];go_simp
def strs (S:List ByteArray):List Value:=S.map Value.string
theorem jZ {S:List ByteArray}{k:Nat}(h:k<S.length):(strs S)[k]?=some (.string (S.getD k (⟨#[]⟩:ByteArray))):=by
 unfold strs;rw[List.getElem?_map,List.getElem?_eq_getElem h,List.getD_eq_getElem?_getD,List.getElem?_eq_getElem h];rfl
theorem sO {w:World}{g t:Nat}{S:List ByteArray}(h:Bx w g (strs S).toArray t){k:Nat}(hk:k<S.length):(Instr.loadAt 9 (Z7 g (0+k))).run Tryz.prog w=.ok (.string (S.getD k (⟨#[]⟩:ByteArray))) w:=by
 rw[Nat.zero_add];exact Bx.load h (i:=k) (by rw[List.getElem?_toArray]; exact jZ hk) (by kernel_rfl)
def Nm (w:World)(g:Nat)(a:Option Addr)(c:Nat)(L:List Int)(N:Nat):Prop:=Bx w g #[.slice a L.length c,Z9 N] 66/\Cs w a (ZJ L)/\(L≠[]->∀ x,a=some x->x.block<g)
section
variable {w w' : World} {g c N q : Nat} {a : Option Addr} {L : List Int}
theorem Nm.lt (h:Nm w g a c L N):g<w.heap.size:=h.1.lt
theorem Nm.below (h:Nm w g a c L N)(hb:Below w.heap.size w w'):Nm w' g a c L N:=⟨h.1.below h.1.lt hb,h.2.1.below hb,h.2.2⟩
theorem MI {cs:List Value}(h:Cs w a cs)(hb:But q w w')(hn:cs≠[]->∀ x,a=some x->x.block≠q):Cs w' a cs:=by
 cases cs with
 | nil=>exact Cs.nil _ _
 | cons x r=>exact h.but hb (hn (by simp))
theorem Jj (h:ZJ L≠[]):L≠[]:=fun e=>h (by rw[e]; rfl)
theorem Nm.but (h:Nm w g a c L N)(hb:But q w w')(hq:g<q):Nm w' g a c L N:=⟨h.1.but hb (by omega),MI h.2.1 hb (fun hn x hx=>by have:=h.2.2 (Jj hn) x hx; omega),h.2.2⟩
theorem Nm.low (h:Nm w g a c L N){B:Nat}(hb:Below B w w')(hg:g<B):Nm w' g a c L N:=⟨h.1.below hg hb,Ov h.2.1 fun k hk=>hb.block k (by obtain⟨hn,x,hx,rfl⟩:=hk; have:=h.2.2 (Jj hn) x hx; omega),h.2.2⟩
theorem Nm.U7 {B:Nat}{S:Nat->Prop}(h:Nm w g a c L N)(hb:ZL B S w w')(hg:g<B):Nm w' g a c L N:=h.low hb.1 hg
theorem nx (h:Nm w g a c L N)(hl:L.length<=100000)(hN:N<=100000)(n:Int)(hn:0<n)(hn2:n<=1000000):Calls Tryz.prog 30 #[Z7 g 0,Z9 n] w fun e w'=>(∃ v:Nat,e=.returned (Z9 v)/\(v:Int)<n/\(v:Int)=pl (L.getD N 0) n)/\Nm w' g a c L (N+1)/\But g w w':=
 (lG g L a c N n w h.1 h.2.1 hl hN hn hn2).mono fun e w' z=>by
  have hp:=Ry (L.getD N 0) n hn;obtain⟨z1,z2,z3⟩:=z;have hv:((pl (L.getD N 0) n).toNat:Int)=pl (L.getD N 0) n:=by omega
  exact⟨⟨(pl (L.getD N 0) n).toNat,by rw[z1,hv],by omega,hv⟩,⟨z3,MI h.2.1 z2 (fun hn x hx=>by have:=h.2.2 (Jj hn) x hx; omega),h.2.2⟩,z2⟩
end
def nms:List ByteArray:=[⟨#[97,110,110]⟩,⟨#[98,111,98]⟩,⟨#[101,118,101]⟩,⟨#[122,111,101]⟩,⟨#[110,101,119]⟩,⟨#[120,45,49]⟩]
theorem Ji (V:World):(Instr.buildSlice 40 6 #[(0,.string ⟨#[97,110,110]⟩),(1,.string ⟨#[98,111,98]⟩),(2,.string ⟨#[101,118,101]⟩),(3,.string ⟨#[122,111,101]⟩),(4,.string ⟨#[110,101,119]⟩),(5,.string ⟨#[120,45,49]⟩)]).run Tryz.prog V=.ok (.slice (some ⟨V.heap.size,0,none⟩) 6 6) (V.alloc (.cells (strs nms).toArray 9)):=by
 obtain⟨i0,hi,hz0,hz1,hz2⟩:=info_parts infoSt;refine run_buildSlice V 40 9 6 _ (strs nms).toArray i0 _ Tryz.underlying40 hi hz0 (by rw[hz1]; omega) (by rw[hz1]; omega) ?_;rw[hz1];kernel_rfl
theorem kD {w:World}{g c N:Nat}{a:Option Addr}{L:List Int}(h:Nm w g a c L N)(hl:L.length<=100000)(hN:N<=100000):Calls Tryz.prog 64 #[Z7 g 0] w fun e w'=>∃ s,e=.returned (.string s)/\s∈nms/\Nm w' g a c L (N+1)/\But g w w':=by
 have hbd:=Ji w;have hbx:Bx (w.alloc (.cells (strs nms).toArray 9)) w.heap.size (strs nms).toArray 9:=heap_alloc_last w _;have hbw:Below w.heap.size w (w.alloc (.cells (strs nms).toArray 9)):=(Below.refl _ w).alloc (Nat.le_refl _) _;have hgl:=h.lt;have hns:=h.below hbw;generalize w.alloc (.cells (strs nms).toArray 9)=V1 at *
 have Kz:Hid (nms.length=6):=Z8 rfl;have au2:Hid (∀ v,v<6->nms.getD v (⟨#[]⟩:ByteArray)∈nms):=Z8 fun v hv=>by
  rw[List.getD_eq_getElem?_getD,List.getElem?_eq_getElem (show v<nms.length from hv)];exact List.getElem_mem _
 generalize nms=S at *
 have HL:=Z8 hl;have Vu:=Z8 hN;obtain⟨g1,hg1⟩:=ZR w.heap.size;have HB:=Z8 (But.of_below hbw (Nat.le_of_lt hgl));have HG:Hid (g<g1):=Z8 (by omega);rw[hg1] at hbx hbd;clear hbw hgl hg1 h hl hN;go_enter Tryz.func64,Tryz.ntmps64;go_upto_region 1 with fail;apply wp_region_lit;refine Zm (by kernel_rfl) (some 3) rfl 40 6 #[(0,.const (.string ⟨#[97,110,110]⟩)),(1,.const (.string ⟨#[98,111,98]⟩)),(2,.const (.string ⟨#[101,118,101]⟩)),(3,.const (.string ⟨#[122,111,101]⟩)),(4,.const (.string ⟨#[110,101,119]⟩)),(5,.const (.string ⟨#[120,45,49]⟩))] rfl #[(0,.string ⟨#[97,110,110]⟩),(1,.string ⟨#[98,111,98]⟩),(2,.string ⟨#[101,118,101]⟩),(3,.string ⟨#[122,111,101]⟩),(4,.string ⟨#[110,101,119]⟩),(5,.string ⟨#[120,45,49]⟩)] (by kernel_rfl) (.slice (some ⟨g1,0,none⟩) 6 6) _ hbd ?_;refine ZQ (Z7 g 0) <|
  XQ (fun v w'=>∃ q:Nat,v=Z9 q/\(q:Int)<6/\Nm w' g a c L (N+1)/\But g V1 w') ((nx hns HL.out (by have:=Vu.out; omega) 6 (by first | decide | omega) (by first | decide | omega)).mono fun e w' z=>by obtain⟨⟨q,h1,h2,-⟩,h3,h4⟩:=z; exact⟨_,h1,q,rfl,h2,h3,h4⟩) (fun vv V2 hq=>?_)
 obtain⟨v1,rfl,hv1,Qk,VO⟩:=hq;have hq2:v1<6:=by omega
 have hbx2:=hbx.but VO (by have:=HG.out; omega);refine Za (Z7 g1 (0+v1)) (Ht g1 0 6 6 v1 hq2 _ _ _ rfl (by kernel_rfl) (by kernel_rfl))<|ZC rfl ⟨g1,0+v1,none⟩ (.string (S.getD v1 ⟨#[]⟩)) (sO hbx2 (k:=v1) (by rw[Kz.out]; exact hq2))<|ZQ (.string (S.getD v1 ⟨#[]⟩))<|wn ?_;simp only[pu];have HE:=Z8 (HB.out.trans VO);have HNS:=Z8 Qk;clear VO Qk hbx hbx2 hbd hns;go_wp2_with fail;go_ret;exact⟨_,rfl,au2.out v1 hq2,HNS.out,HE.out⟩
theorem ab2 (L:List Int)(h:L.length=32):(RH L)=Zv (fun i=>L.getD i 0):=by
 have e:(List.range 32).map (fun i=>L.getD i 0)=L:=by
  apply List.ext_getElem (by simp[h]);intro i h1 h2;rw[List.getElem_map,List.getElem_range,getD_lt _ _ _ h2]
 show _=RH ((List.range 32).map (fun i=>L.getD i 0));rw[e]
theorem tq (L:List Int):(Hu L).length=32:=by
 unfold Hu;exact Ot _ _
theorem kG (w:World)(n:Nat)(hn:n<=100000):∃ w1,(Instr.makeSlice 50 (Z9 (n:Int)) (Z9 (n:Int))).run Tryz.prog w=.ok (.slice (some ⟨w.heap.size,0,none⟩) n n) w1/\w1.ownsRow w.heap.size 5 1 (.slice (some ⟨w.heap.size,0,none⟩) n n) n (Xk (List.replicate n 0))/\Below w.heap.size w w1:=by
 obtain⟨i0,hi,hz0,hz1,hz2⟩:=info_parts info5;obtain⟨w1,hr,hO,hg⟩:=run_makeSlice_full (P:=Tryz.prog) w w.heap.size 50 5 i0 _ 1 Tryz.underlying50 hi hz0 hz1 .i64 .i64 n (by omega) (by rw[hz2]; omega) (by unfold maxLen; omega) (Nat.le_refl _);refine⟨w1,hr,?_,hg.os,hg.tape,hg.output,hg.size,fun k hk=>hg.block k hk (by simp)⟩;have e:(madeCells (Value.int .u8 0).cells (n*1)).toList=Xk (List.replicate n (0:Int)):=by
  rw[Nat.mul_one];show(madeCells #[Value.int .u8 0] n).toList=_;rw[toList_madeCells_one];unfold Xk;rw[List.map_replicate]
 rw[<- e];exact hO
theorem am7 {w:World}{B b n c i:Nat}{M:List Int}(h:w.ownsRow B 5 1 (.slice (some ⟨b,0,none⟩) n c) n (Xk M))(hi:i<n)(v:Int):∃ V2,(Instr.storeAt 5 (Z7 b (0+i)) (.int .u8 v)).run Tryz.prog w=.ok () V2/\V2.ownsRow B 5 1 (.slice (some ⟨b,0,none⟩) n c) n (Xk (M.set i v))/\But b w V2:=by
 obtain⟨cur,hcur,hsz,-,-⟩:=XK h;have hl:=h.1;rw[Nat.zero_add];refine⟨_,YT hcur (by omega) rfl (by kernel_rfl),?_,But.setCell w i _⟩;have h2:=VD h i (.int .u8 v) (by rw[hl]; omega);unfold Xk at h2 ⊢;rw[List.map_set];exact h2
structure Er (w:World)(g:Nat)(a:Option Addr)(c:Nat)(L:List Int)(g2 g3 n N:Nat)(M:List Int)(V:World):Prop where
 nm:Nm V g a c L N
 but:But g w V
 b2:Bx V g2 (ZO Zp YE) 52
 row:V.ownsRow w.heap.size 5 1 (.slice (some ⟨g3,0,none⟩) n n) n (Xk M)
 ml:M.length=n
 w8:∀ x,x∈M->W8 x
structure Es (w:World)(g:Nat)(a:Option Addr)(c:Nat)(L:List Int)(g2 g5 B5 N:Nat)(E:En)(d:Ad)(V:World):Prop where
 nm:Nm V g a c L N
 but:But g w V
 b2:Bx V g2 (ZO Zp YE) 52
 er:V.ownsRow w.heap.size 5 1 (.slice d.ra E.raw.length d.rc) E.raw.length (Xk E.raw)
 rl:∀ x,d.ra=some x->x.block<B5/\x.block≠g2/\x.block≠g5
 bz:B5<=V.heap.size
 b5:Bx V g5 (ZO E d) 52
 ep:V.ownsRow B5 3 1 (.slice d.pa E.Xe.length d.pc) E.Xe.length (ZJ E.Xe)
structure Lz (w:World)(g g2 g5 B5:Nat):Prop where
 gw:g<w.heap.size
 w2:w.heap.size<=g2
 w5:w.heap.size<=g5
 n25:g2≠g5
 l2:g2<B5
 l5:g5<B5
 wb:w.heap.size<=B5
section
variable {w : World} {g : Nat} {a : Option Addr} {c : Nat} {L : List Int} {g2 g3 g5 B5 n N : Nat} {E : En} {d : Ad} {V V2 : World} {M : List Int} {y : Int} {v : Value}
theorem Es.call (h:Es w g a c L g2 g5 B5 N E d V)(z:Lz w g g2 g5 B5)(hn:Nm V2 g a c L (N+1))(hb:But g V V2):Es w g a c L g2 g5 B5 (N+1) E d V2:=
 have lz:=z.gw; have w2:=z.w2; have w5:=z.w5; have wb:=z.wb
 ⟨hn,h.but.trans hb,h.b2.but hb (by omega),YG h.er hb fun x hx=>by have:=(h.er.lt x.block (by rw[hx]; rfl)).1; omega,h.rl,Nat.le_trans h.bz hb.1.size,h.b5.but hb (by omega),YG h.ep hb fun x hx=>by have:=(h.ep.lt x.block (by rw[hx]; rfl)).1; omega⟩
theorem Es.below (h:Es w g a c L g2 g5 B5 N E d V)(hb:Below V.heap.size V V2):Es w g a c L g2 g5 B5 N E d V2:=
 ⟨h.nm.below hb,h.but.trans (But.of_below hb (Nat.le_of_lt h.nm.lt)),h.b2.below h.b2.lt hb,own_below h.er hb,h.rl,Nat.le_trans h.bz hb.size,h.b5.below h.b5.lt hb,own_below h.ep hb⟩
def Es2 (w:World)(g:Nat)(a:Option Addr)(c:Nat)(L:List Int)(g2 g5 B5 N:Nat)(E:En)(d:Ad)(y:Int)(x:Value)(V:World):Prop:=Es w g a c L g2 g5 B5 N E d V/\∃ q,x=.slice (some ⟨q,0,none⟩) 1 1/\Bx V q #[Z9 y] 3
structure Es3 (w:World)(g:Nat)(a:Option Addr)(c:Nat)(L:List Int)(g2 g5 B5 N:Nat)(E:En)(d:Ad)(y:Int)(x:Value)(V:World):Prop where
 nm:Nm V g a c L N
 but:But g w V
 b2:Bx V g2 (ZO Zp YE) 52
 er:V.ownsRow w.heap.size 5 1 (.slice d.ra E.raw.length d.rc) E.raw.length (Xk E.raw)
 rl:∀ x,d.ra=some x->x.block<B5/\x.block≠g2/\x.block≠g5
 bz:B5<=V.heap.size
 b5:Bx V g5 (ZO E d) 52
 ep:∃ a2 c2,x=.slice a2 (E.Xe++[y]).length c2/\V.ownsRow B5 3 1 (.slice a2 (E.Xe++[y]).length c2) (E.Xe++[y]).length (ZJ (E.Xe++[y]))
theorem Es.two (h:Es w g a c L g2 g5 B5 N E d V):Es2 w g a c L g2 g5 B5 N E d y (.slice (some ⟨V.heap.size,0,none⟩) 1 1) (V.alloc (.cells #[Z9 y] 3)):=
 ⟨h.below ((Below.refl _ V).alloc (Nat.le_refl _) _),V.heap.size,rfl,heap_alloc_last V _⟩
theorem Es2.three {x:Value}(h:Es2 w g a c L g2 g5 B5 N E d y x V)(z:Lz w g g2 g5 B5)(hl:E.Xe.length<=10000):∃ v V2,(Builtin.append_ #[22,22] 22 #[.slice d.pa E.Xe.length d.pc,x]).run Tryz.prog V=.ok v V2/\Es3 w g a c L g2 g5 B5 N E d y v V2:=by
 obtain⟨h,q,rfl,hX⟩:=h;have lz:=z.gw; have w2:=z.w2; have w5:=z.w5; have wb:=z.wb; have l2:=z.l2; have l5:=z.l5;obtain⟨v,V2,hr,hO,hb,-⟩:=Df (m:=1) h.ep (some ⟨q,0,none⟩) 1 [y] (Cs.block (cs:=[Z9 y]) hX) rfl h.bz (by omega) (by omega);obtain⟨a2,c2,rfl,-,-⟩:=Yy hO;have e:(E.Xe++[y]).length=E.Xe.length+1:=by simp
 refine⟨_,V2,hr,h.nm.low hb (by omega),⟨h.but.1.trans (hb.mono (by omega)),fun k hk hn=>(hb.block k (by omega)).trans (h.but.2 k hk hn)⟩,h.b2.below l2 hb,WX h.er fun x hx=>hb.block _ (h.rl x hx).1,h.rl,Nat.le_trans h.bz hb.size,h.b5.below l5 hb,a2,c2,by rw[e],?_⟩;rw[e,SB];exact hO
theorem Es3.four {x:Value}(h:Es3 w g a c L g2 g5 B5 N E d y x V)(z:Lz w g g2 g5 B5):∃ V2,(Instr.storeAt 22 (Z7 g5 40) x).run Tryz.prog V=.ok () V2/\∃ a2 c2,Es w g a c L g2 g5 B5 N { E with Xe:=E.Xe++[y] } { d with pa:=a2,pc:=c2 } V2:=by
 obtain⟨a2,c2,rfl,hO⟩:=h.ep;have lz:=z.gw; have w2:=z.w2; have w5:=z.w5; have wb:=z.wb; have l2:=z.l2; have l5:=z.l5;obtain⟨V2,hst,hX,hbt⟩:=Xo (i:=40) (ty:=22) (v:=.slice a2 (E.Xe++[y]).length c2) (ZO { E with Xe:=E.Xe++[y] } { d with pa:=a2,pc:=c2 }) h.b5 (by show 40<41; decide) (by kernel_rfl) rfl (by kernel_rfl);exact⟨V2,hst,a2,c2,h.nm.but hbt (by omega),⟨h.but.1.trans (hbt.1.mono (by omega)),fun k hk hn=>(hbt.2 k (Nat.lt_of_lt_of_le hk h.but.1.size) (by omega)).trans (h.but.2 k hk hn)⟩,h.b2.but hbt z.n25,YG h.er hbt fun x hx=>(h.rl x hx).2.2,h.rl,Nat.le_trans h.bz hbt.1.size,hX,YG hO hbt fun x hx=>by have hx2:a2=some x:=hx; have:=(hO.lt x.block (by rw[hx2]; rfl)).1; omega⟩
end
structure Qq (b1 b2 b3 b4 p q:Bool)(F0 F1 F2 F3 F4:Prop):Prop where
 o1:b2=true->b1=true
 o2:b3=true->b2=true
 o3:b4=true->b3=true
 o4:b3=true->p=true
 o5:q=true->b1=true
 is:cond b4 F4 (cond b3 F3 (cond b2 F2 (cond b1 F1 F0)))
section
variable {b1 b2 b3 b4 p q : Bool} {F0 F1 F2 F3 F4 G0 G1 G2 G3 G4 : Prop}
theorem Qq.start (h:F0):Qq false false false false false false F0 F1 F2 F3 F4:=⟨(fun e=>nomatch e),(fun e=>nomatch e),(fun e=>nomatch e),(fun e=>nomatch e),(fun e=>nomatch e),h⟩
theorem Qq.w0 (h:Qq false b2 b3 b4 p q F0 F1 F2 F3 F4):b2=false/\b3=false/\b4=false/\q=false:=by
 obtain rfl:=O7 h.o1 rfl;obtain rfl:=O7 h.o2 rfl;obtain rfl:=O7 h.o3 rfl;obtain rfl:=O7 h.o5 rfl;exact⟨rfl,rfl,rfl,rfl⟩
theorem Qq.w1 (h:Qq b1 false b3 b4 p true F0 F1 F2 F3 F4):b1=true/\b3=false/\b4=false:=by
 obtain rfl:=O7 h.o2 rfl;obtain rfl:=O7 h.o3 rfl;exact⟨h.o5 rfl,rfl,rfl⟩
theorem Qq.w2 (h:Qq b1 true false b4 p q F0 F1 F2 F3 F4):b1=true/\b4=false:=⟨h.o1 rfl,O7 h.o3 rfl⟩
theorem Qq.w3 (h:Qq b1 b2 true false p q F0 F1 F2 F3 F4):b2=true:=h.o2 rfl
theorem Qq.s1 (h:Qq false false false false p false F0 F1 F2 F3 F4)(k:G1):Qq true false false false p false G0 G1 G2 G3 G4:=⟨fun _=>rfl,h.o2,h.o3,h.o4,fun _=>rfl,k⟩
theorem Qq.sq (h:Qq true b2 b3 b4 p false F0 F1 F2 F3 F4):Qq true b2 b3 b4 p true F0 F1 F2 F3 F4:=⟨h.o1,h.o2,h.o3,h.o4,fun _=>rfl,h.is⟩
theorem Qq.s2 (h:Qq true false false false p q F0 F1 F2 F3 F4)(k:G2):Qq true true false false p q G0 G1 G2 G3 G4:=⟨fun _=>rfl,fun _=>rfl,h.o3,h.o4,h.o5,k⟩
theorem Qq.s3 (h:Qq b1 true false false true q F0 F1 F2 F3 F4)(k:G3):Qq b1 true true false true q G0 G1 G2 G3 G4:=⟨h.o1,fun _=>rfl,(fun e=>nomatch e),fun _=>rfl,h.o5,k⟩
theorem Qq.s4 (h:Qq b1 b2 true false p q F0 F1 F2 F3 F4)(k:G4):Qq b1 b2 true true p q G0 G1 G2 G3 G4:=⟨h.o1,h.o2,fun _=>rfl,h.o4,h.o5,k⟩
theorem Qq.p0 (h:Qq b1 b2 b3 b4 false q F0 F1 F2 F3 F4):b3=false/\b4=false:=by
 obtain rfl:=O7 h.o4 rfl;obtain rfl:=O7 h.o3 rfl;exact⟨rfl,rfl⟩
theorem Qq.pr {X:Prop}(h:Qq b1 b2 false false p q F0 F1 F2 F3 F4)(k0:F0->X)(k1:F1->X)(k2:F2->X):X:=by
 have:=h.is;cases b2
 ·cases b1
  ·exact k0 this
  ·exact k1 this
 ·exact k2 this
theorem Qq.sp (h:Qq b1 b2 b3 b4 false q F0 F1 F2 F3 F4):Qq b1 b2 b3 b4 true q F0 F1 F2 F3 F4:=⟨h.o1,h.o2,h.o3,fun _=>rfl,h.o5,h.is⟩
end
def DK (e:En):Prop:=e.snd∈nms/\(0<=e.sq/\e.sq<=3)/\(0<=e.ht/\e.ht<=8)/\(0<=e.tm/\e.tm<=29)
theorem Gl {w:World}{g c N:Nat}{a:Option Addr}{L:List Int}(h:Nm w g a c L N)(hl:L.length<=100000)(hN:N<=50000):Calls Tryz.prog 29 #[Z7 g 0] w fun e w'=>∃ (E:En) (d:Ad) (N':Nat),e=.returned (.agg (ZO E d))/\Ws w' w.heap.size E d/\E.raw.length<=8/\DK E/\E.Xe.length<=2/\N+1<=N'/\N'<=N+30/\Nm w' g a c L N'/\But g w w':=by
 have HL:=Z8 hl;have Vu:=Z8 hN;have Ai:=Z8 h.lt;have fQ:=Z8 h;clear hl hN h;go_enter Tryz.func29,Tryz.ntmps29;go_upto_region 1 with fail;change Code.wp _ _ _ _ (w.alloc (.cells (ZO Zp YE) 52));have Zd:Below w.heap.size w (w.alloc (.cells (ZO Zp YE) 52)):=(Below.refl _ w).alloc (Nat.le_refl _) _;have hX2:Bx (w.alloc (.cells (ZO Zp YE) 52)) w.heap.size (ZO Zp YE) 52:=heap_alloc_last w _;have Yg:(w.alloc (.cells (ZO Zp YE) 52)).heap.size=w.heap.size+1:=by simp
 generalize w.alloc (.cells (ZO Zp YE) 52)=W at *
 obtain⟨g2,hg2⟩:=ZR w.heap.size;rw[hg2] at hX2;have Xm:Hid (g2=w.heap.size+0/\W.heap.size=w.heap.size+1):=Z8 ⟨by omega,by omega⟩;have HB:=Z8 Zd;simp only[hg2];clear Zd Yg hg2;refine wl<|ZQ (Z7 g 0) <|
  XQ (fun v w'=>∃ q:Nat,v=Z9 q/\(q:Int)<9/\Nm w' g a c L (N+1)/\But g W w') ((nx (fQ.out.below HB.out) HL.out (by have:=Vu.out; omega) 9 (by first | decide | omega) (by first | decide | omega)).mono fun e w' z=>by obtain⟨⟨q,h1,h2,-⟩,h3,h4⟩:=z; exact⟨_,h1,q,rfl,h2,h3,h4⟩) (fun vv V1 hq=>?_)
 obtain⟨v1,rfl,hv1,Qk,VO⟩:=hq;obtain⟨V2,hmk,hr2,hb2⟩:=kG V1 v1 (by omega);obtain⟨g3,hg3⟩:=ZR V1.heap.size;rw[hg3] at hmk hr2;have hbw:But g w V2:=((But.of_below HB.out (Nat.le_of_lt Ai.out)).trans VO).trans (But.of_below hb2 (Nat.le_of_lt Qk.lt));have hwv:W.heap.size<=V1.heap.size:=VO.1.size;have hws:w.heap.size<=g3:=by have:=Xm.out; omega
 have HER:Hid (Er w g a c L g2 g3 v1 (N+1+0) (List.replicate v1 0) V2):=Z8 ⟨Qk.below hb2,hbw,(hX2.but VO (by have:=Xm.out; have:=Ai.out; omega)).below (Nat.lt_of_lt_of_le hX2.lt VO.1.size) hb2,own_base hr2 hws,by simp,fun x hx=>by rw[List.eq_of_mem_replicate hx]; exact⟨by decide,by decide⟩⟩;have Qg:Hid (w.heap.size<=g3/\g2<g3/\g3<V2.heap.size):=Z8 ⟨hws,by have:=Xm.out; omega,by have:=(hr2.lt g3 rfl).2; exact this⟩;have Gy:Hid (v1<=8):=Z8 (by omega);refine kF (by kernel_rfl) (some 9) rfl 50 (.tmp 8) (.tmp 8) rfl (Z9 v1) (Z9 v1) (.slice (some ⟨g3,0,none⟩) v1 v1) (by kernel_rfl) (by kernel_rfl) V2 hmk ?_;refine ZQ (.slice (some ⟨g3,0,none⟩) v1 v1)<|wn ?_;simp only[pu];clear hmk hr2 hb2 Qk VO hv1 hbw hX2 hwv hws hg3;go_upto_region 2 with fail;refine wl<|YX (.slice (some ⟨g3,0,none⟩) v1 v1) (Z9 v1) (Z9 0)<|wn ?_;simp only[pu];go_wp2_with fail;go_loopg [12] v1 (fun gg s12 wx=>∃ (i:Nat) (M:List Int),s12=Z9 i/\i<=v1/\gg+i=v1/\Hid (Er w g a c L g2 g3 v1 (N+1+i) M wx))
 case atStart=>exact⟨0,_,rfl,by omega,by omega,HER⟩
 case round=>
  obtain⟨i,M,rfl,hin,hg,HR⟩:=hrel;clear HER;have WH:Hid (gk+i=v1):=Z8 hg;clear hg;by_cases hlt:i<v1
  ·go_upto_region 3 with fail;refine wl<|Zg (ZG rfl (i) (v1) dT)<|wn ?_;simp only[pu];go_upto_region 4 with fail;refine wl<|ZB (Z9 i) (Z9 i)<|wn ?_;simp only[pu];go_upto_region 5 with fail;refine wl<|YX (.slice (some ⟨g3,0,none⟩) v1 v1) (Z9 i) (Z7 g 0) <|
    XQ (fun v w'=>∃ q:Nat,v=Z9 q/\(q:Int)<3/\Nm w' g a c L ((N+1+i)+1)/\But g wr w') ((nx HR.out.nm HL.out (by have:=Vu.out; have:=Gy.out; omega) 3 (by first | decide | omega) (by first | decide | omega)).mono fun e w' z=>by obtain⟨⟨q,h1,h2,-⟩,h3,h4⟩:=z; exact⟨_,h1,q,rfl,h2,h3,h4⟩) (fun vv V3 hq=>?_)
   obtain⟨v2,rfl,hv2,L8,WZ⟩:=hq;have hr3:=YG HR.out.row WZ fun x hx=>(by cases hx; show g3≠g; have:=Qg.out; have:=Ai.out; omega);obtain⟨V4,Gq,hr4,O1⟩:=am7 hr3 hlt v2;have HR4:Hid (Er w g a c L g2 g3 v1 (N+1+(i+1)) (M.set i v2) V4):=Z8 ⟨L8.but O1 (by have:=Qg.out; have:=Ai.out; omega),⟨(HR.out.but.trans WZ).1.trans (O1.1.mono (by have:=Qg.out; have:=Ai.out; omega)),fun k hk hn=>(O1.2 k (Nat.lt_of_lt_of_le hk (HR.out.but.trans WZ).1.size) (by have:=Qg.out; omega)).trans ((HR.out.but.trans WZ).2 k hk hn)⟩,(HR.out.b2.but WZ (by have:=Xm.out; have:=Ai.out; omega)).but O1 (by have:=Qg.out; omega),hr4,by rw[List.length_set]; exact HR.out.ml,fun x hx=>(List.mem_or_eq_of_mem_set hx).elim (HR.out.w8 x) (fun e=>by rw[e]; exact⟨by omega,by omega⟩)⟩;refine Za (.int .u8 v2) (IV rfl v2 (by omega) (by kernel_rfl) _)<|Za (Z7 g3 (0+i)) (ab3 g3 0 v1 v1 i hlt _ _ _ rfl (by kernel_rfl) (by kernel_rfl))<|Yb rfl (Gq)<|wn ?_;simp only[pu];clear Gq hr3 hr4 O1 L8 WZ hv2 HR;go_upto_region 6 with fail;refine wl<|Za (Z9 (i+1:Nat)) (add_one rfl i (by have:=Gy.out; omega) (by kernel_rfl) _)<|ZQ (Z9 (i+1:Nat))<|wn ?_;simp only[pu];go_wp2_with fail;go_roundg (v1-(i+1))
   case measure=>have:=WH.out; omega
   case rel=>exact⟨i+1,_,rfl,by omega,by omega,HR4⟩
  ·obtain rfl:i=v1:=(by omega);have hml:=HR.out.ml;obtain rfl:=hml;go_upto_region 3 with fail;refine wl<|Zg (ZG rfl (M.length) (M.length) dF)<|wn ?_;simp only[pu];have hSl:Sl wr (some ⟨g3,0,none⟩) M.length M:=by
    obtain⟨a2,c2,e1,h1,-,-⟩:=Ci (n:=M.length) HR.out.row;simp only[Value.slice.injEq] at e1;obtain⟨rfl,-,rfl⟩:=e1;exact h1
   have CS:=kE (some ⟨g3,0,none⟩) M.length M wr hSl HR.out.w8 (by have:=Gy.out; omega);have hk8:=ab2 (Hu M) (tq M);rw[hk8] at CS;obtain⟨K,hK⟩:=ZR ((fun i=>(Hu M).getD i 0));rw[hK] at CS;clear hk8 hK hSl;go_upto_region 7 with fail;refine wl<|ZQ (.slice (some ⟨g3,0,none⟩) M.length M.length)<|YD (.agg (Zv K)) (fun w'=>Below wr.heap.size wr w') (CS) (fun V1 hb1=>?_);have am8:=HR.out.nm.below hb1;refine ZB (.slice (some ⟨g3,0,none⟩) M.length M.length) (Z7 g 0) <|
    XQ (fun v w'=>∃ s,v=.string s/\s∈nms/\Nm w' g a c L (N+1+M.length+1)/\But g V1 w') ((kD am8 HL.out (by have:=Vu.out; have:=Gy.out; omega)).mono fun e w' z=>by obtain⟨s,h1,hm,h2,h3⟩:=z; exact⟨_,h1,s,rfl,hm,h2,h3⟩) (fun vv V2 hq=>?_)
   obtain⟨nm,rfl,hnm,L8,WZ⟩:=hq;have fQ:Hid (nm∈nms):=Z8 hnm;clear hnm;refine ZQ (Z7 g 0) <|
    XQ (fun v w'=>∃ q:Nat,v=Z9 q/\(q:Int)<4/\Nm w' g a c L ((N+1+M.length+1)+1)/\But g V2 w') ((nx L8 HL.out (by have:=Vu.out; have:=Gy.out; omega) 4 (by first | decide | omega) (by first | decide | omega)).mono fun e w' z=>by obtain⟨⟨q,h1,h2,-⟩,h3,h4⟩:=z; exact⟨_,h1,q,rfl,h2,h3,h4⟩) (fun vv V3 hq=>?_)
   obtain⟨v3,rfl,hv3,Gi,Ya⟩:=hq;refine Za (ZV v3) (Ug rfl v3 (by omega) (by omega) (by kernel_rfl) _)<|ZQ (Z7 g 0) <|
    XQ (fun v w'=>∃ q:Nat,v=Z9 q/\(q:Int)<50/\Nm w' g a c L ((N+1+M.length+1+1)+1)/\But g V3 w') ((nx Gi HL.out (by have:=Vu.out; have:=Gy.out; omega) 50 (by first | decide | omega) (by first | decide | omega)).mono fun e w' z=>by obtain⟨⟨q,h1,h2,-⟩,h3,h4⟩:=z; exact⟨_,h1,q,rfl,h2,h3,h4⟩) (fun vv V4 hq=>?_)
   obtain⟨v4,rfl,hv4,sZ,O1⟩:=hq;refine Za (ZV v4) (Ug rfl v4 (by omega) (by omega) (by kernel_rfl) _)<|ZQ (Z7 g 0) <|
    XQ (fun v w'=>∃ q:Nat,v=Z9 q/\(q:Int)<5/\Nm w' g a c L ((N+1+M.length+1+1+1)+1)/\But g V4 w') ((nx sZ HL.out (by have:=Vu.out; have:=Gy.out; omega) 5 (by first | decide | omega) (by first | decide | omega)).mono fun e w' z=>by obtain⟨⟨q,h1,h2,-⟩,h3,h4⟩:=z; exact⟨_,h1,q,rfl,h2,h3,h4⟩) (fun vv V5 hq=>?_)
   obtain⟨v5,rfl,hv5,Gf,VN⟩:=hq;refine Za (ZV v5) (Ug rfl v5 (by omega) (by omega) (by kernel_rfl) _)<|ZQ (Z7 g 0) <|
    XQ (fun v w'=>∃ q:Nat,v=Z9 q/\(q:Int)<9/\Nm w' g a c L ((N+1+M.length+1+1+1+1)+1)/\But g V5 w') ((nx Gf HL.out (by have:=Vu.out; have:=Gy.out; omega) 9 (by first | decide | omega) (by first | decide | omega)).mono fun e w' z=>by obtain⟨⟨q,h1,h2,-⟩,h3,h4⟩:=z; exact⟨_,h1,q,rfl,h2,h3,h4⟩) (fun vv V6 hq=>?_)
   obtain⟨v6,rfl,hv6,F5,FZ⟩:=hq;refine ZQ (Z7 g 0) <|
    XQ (fun v w'=>∃ q:Nat,v=Z9 q/\(q:Int)<30/\Nm w' g a c L ((N+1+M.length+1+1+1+1+1)+1)/\But g V6 w') ((nx F5 HL.out (by have:=Vu.out; have:=Gy.out; omega) 30 (by first | decide | omega) (by first | decide | omega)).mono fun e w' z=>by obtain⟨⟨q,h1,h2,-⟩,h3,h4⟩:=z; exact⟨_,h1,q,rfl,h2,h3,h4⟩) (fun vv V7 hq=>?_)
   obtain⟨v7,rfl,hv7,sW,Gp⟩:=hq;refine ZQ (Z7 g 0) <|
    XQ (fun v w'=>∃ q:Nat,v=Z9 q/\(q:Int)<9/\Nm w' g a c L ((N+1+M.length+1+1+1+1+1+1)+1)/\But g V7 w') ((nx sW HL.out (by have:=Vu.out; have:=Gy.out; omega) 9 (by first | decide | omega) (by first | decide | omega)).mono fun e w' z=>by obtain⟨⟨q,h1,h2,-⟩,h3,h4⟩:=z; exact⟨_,h1,q,rfl,h2,h3,h4⟩) (fun vv V8 hq=>?_)
   obtain⟨v8,rfl,hv8,yC,sV⟩:=hq;have yB:=((((((But.of_below hb1 (Nat.le_of_lt HR.out.nm.lt)).trans WZ).trans Ya).trans O1).trans VN).trans FZ).trans (Gp.trans sV);obtain⟨V9,YM,Yp,Zc⟩:=Zk (c:=ZO Zp YE) (c':=ZO ⟨K,M,nm,v3,v4,v5,v6,v7,v8,[]⟩ ⟨some ⟨g3,0,none⟩,M.length,none,0⟩) (ty:=52) V8 rfl (YW _ _) (by kernel_rfl);obtain⟨g5,hg5⟩:=ZR V8.heap.size;obtain⟨B5,hB5⟩:=ZR V9.heap.size;rw[hg5] at Zc;have hwr:wr.heap.size<=g5:=(by have:=yB.1.size; omega);have au0:g5<B5:=(by have:=Zc.lt; omega);have hrow:=YG HR.out.row yB fun x hx=>(by cases hx; show g3≠g; have:=Qg.out; have:=Ai.out; omega);have au1:g3<wr.heap.size:=(HR.out.row.lt g3 rfl).2;have am9:=HR.out.b2.lt;have hG3:=Qg.out;have hGE:=Xm.out;have hGW:=Ai.out;have hWW:=HR.out.but.1.size;have sU:Hid (Lz w g g2 g5 B5):=Z8 ⟨by omega,by omega,by omega,by omega,by omega,by omega,by omega⟩;have HES:Hid (Es w g a c L g2 g5 B5 (N+1+M.length+1+1+1+1+1+1+1) ⟨K,M,nm,v3,v4,v5,v6,v7,v8,[]⟩ ⟨some ⟨g3,0,none⟩,M.length,none,0⟩ V9):=Z8 ⟨yC.below Yp,(HR.out.but.trans yB).trans (But.of_below Yp (Nat.le_of_lt yC.lt)),(HR.out.b2.but yB (by have:=Xm.out; have:=Ai.out; omega)).below (Nat.lt_of_lt_of_le am9 yB.1.size) Yp,own_below hrow Yp,fun x hx=>by cases hx; exact⟨show g3<B5 by omega,show g3≠g2 by omega,show g3≠g5 by omega⟩,Nat.le_of_eq hB5.symm,Zc,World.ownsRow_nil _ _ _ _⟩;have HW8:=Z8 HR.out.w8;refine ZQ (.agg (ZO ⟨K,M,nm,v3,v4,v5,v6,v7,v8,[]⟩ ⟨some ⟨g3,0,none⟩,M.length,none,0⟩)) ?_;refine Zj rfl (some 5) rfl (Z7 V8.heap.size 0) (V8.alloc (.cells (ZO Zp YE) 52)) (by kernel_rfl) ?_;refine Yb rfl (YM)<|wn ?_;rw[hg5];have HVV:Hid (v3<4/\v6<9/\v7<30):=Z8 ⟨by omega,by omega,by omega⟩;clear hG3 hGE hGW hWW YM Yp Zc hg5 hB5 hwr au0 hrow au1 am9 yB hb1 am8 CS HR L8 Gi sZ Gf F5 sW yC WZ Ya O1 VN FZ Gp sV hv3 hv4 hv5 hv6 hv7 hv8;obtain⟨E,hE⟩:∃ E:En,⟨K,M,nm,v3,v4,v5,v6,v7,v8,[]⟩=E:=⟨_,rfl⟩;obtain⟨d,hd⟩:∃ d:Ad,⟨some ⟨g3,0,none⟩,M.length,none,0⟩=d:=⟨_,rfl⟩;have Pv:Hid (E.raw.length<=8/\E.Xe=[]/\DK E):=Z8 ⟨by rw[<- hE]; exact Gy.out,by rw[<- hE],by rw[<- hE]; have:=HVV.out; exact⟨fQ.out,show(0:Int)<=(v3:Int)/\(v3:Int)<=3 by omega,show(0:Int)<=(v6:Int)/\(v6:Int)<=8 by omega,show(0:Int)<=(v7:Int)/\(v7:Int)<=29 by omega⟩⟩;obtain⟨N8,hN8⟩:=ZR ((N+1+M.length+1+1+1+1+1+1+1));have HN8:Hid (N+8<=N8/\N8<=N+17):=Z8 (by have:=Gy.out; omega);rw[hE,hd,hN8] at HES;simp only[hE,hd];clear hE hd hN8;go_upto_region 8 with fail;refine wl<|ZQ (Z7 g 0) <|
    XQ (fun v w'=>∃ q:Nat,v=Z9 q/\(q:Int)<3/\Nm w' g a c L (N8+1)/\But g V9 w') ((nx HES.out.nm HL.out (by have:=Vu.out; have:=HN8.out; omega) 3 (by first | decide | omega) (by first | decide | omega)).mono fun e w' z=>by obtain⟨⟨q,h1,h2,-⟩,h3,h4⟩:=z; exact⟨_,h1,q,rfl,h2,h3,h4⟩) (fun vv V10 hq=>?_)
   obtain⟨v9,rfl,hv9,Gj,U8⟩:=hq;have an0:=Z8 (HES.out.call sU.out Gj U8);refine ZQ (Z9 v9)<|wn ?_;simp only[pu];clear Gj U8 HES;have HV9:Hid (v9<=2):=Z8 (by omega);go_wp2_with fail;go_loopg [6] v9 (fun gg s6 wx=>∃ (z:Nat) (Q:List Int) (d2:Ad),s6=Z9 z/\z+Q.length=v9/\gg=z/\Hid (Es w g a c L g2 g5 B5 (N8+1+Q.length) { E with Xe:=Q } d2 wx))
   case atStart=>exact⟨v9,[],d,rfl,by simp,rfl,Z8 (by have:=an0.out; have e:=Pv.out.2.1; cases E; simp only at e; subst e; exact this)⟩
   case round=>
    obtain⟨z,Q,d2,rfl,hzq,hgz,HR⟩:=hrel;have sQ:=Z8 hgz;clear an0 hgz;have HZQ:Hid (z+Q.length=v9):=Z8 hzq;clear hzq;by_cases hz0:0<z
    ·obtain⟨E2,hE2⟩:∃ E2:En,{ E with Xe:=Q }=E2:=⟨_,rfl⟩;have HQE:Hid (E2.Xe=Q/\∀ y,{ E2 with Xe:=E2.Xe++[y] }={ E with Xe:=Q++[y] }):=Z8 ⟨by rw[<- hE2],fun y=>by rw[<- hE2]⟩;rw[hE2] at HR;obtain⟨N9,hN9⟩:=ZR (N8+1+Q.length);have HN9:Hid (N8+1+Q.length=N9):=Z8 hN9;rw[hN9] at HR;have hp:=Ry (L.getD N9 0) 4 (by decide);obtain⟨y4,hy4⟩:∃ y:Int,pl (L.getD N9 0) 4=y:=⟨_,rfl⟩;rw[hy4] at hp;have HY4:=Z8 hy4;have HYB:Hid (0<=y4/\y4<4):=Z8 hp;have hln:E2.Xe.length<=2:=(by rw[HQE.out.1]; have:=HZQ.out; have:=HV9.out; omega);have Kz:Hid (E2.Xe.length<=2):=Z8 hln;have hD:Es w g a c L g2 g5 B5 N9 E2 d2 { wr with drawn:=wr.drawn+1 }:=HR.out.below (Below.refl _ wr).drew;have h0:=Qq.start (F1:=Es w g a c L g2 g5 B5 (N9+1) E2 d2 { wr with drawn:=wr.drawn+1 }) (F2:=Es2 w g a c L g2 g5 B5 (N9+1) E2 d2 (1+y4) u54 { wr with drawn:=wr.drawn+1 }) (F3:=Es3 w g a c L g2 g5 B5 (N9+1) E2 d2 (1+y4) u55 { wr with drawn:=wr.drawn+1 }) (F4:=∃ a2 c2,Es w g a c L g2 g5 B5 (N9+1) { E2 with Xe:=E2.Xe++[1+y4] } { d2 with pa:=a2,pc:=c2 } { wr with drawn:=wr.drawn+1 }) hD;clear hE2 hN9 hp hy4 hln hD;go_upto_region 9 with fail;refine wl<|ZQ (Z9 z)<|Zg (YO rfl (z) (0) dT)<|wn ?_;simp only[pu];go_upto_region 11 with fail;refine ZK (fun listed ZH V=>∃ b0 b1 b2 b3 b4 b5 b6 b7 b8:Bool,∃ x54 x55:Value,listed=#[b0,b1,b2,b3,b4,b5,b6,b7,b8]/\ZH={ tmps:=#[Z7 g 0,undef,Z7 g2 0,.slice (some ⟨g3,0,none⟩) M.length M.length,u4,Z7 g5 0,Z9 z,Z7 g 0,Z9 M.length,.slice (some ⟨g3,0,none⟩) M.length M.length,.slice (some ⟨g3,0,none⟩) M.length M.length,Z9 M.length,Z9 M.length,ZY,u14,u15,u16,u17,u18,u19,u20,u21,.slice (some ⟨g3,0,none⟩) M.length M.length,.agg (Zv K),.slice (some ⟨g3,0,none⟩) M.length M.length,Z7 g 0,.string nm,Z7 g 0,Z9 v3,ZV v3,Z7 g 0,Z9 v4,ZV v4,Z7 g 0,Z9 v5,ZV v5,Z7 g 0,Z9 v6,Z7 g 0,Z9 v7,Z7 g 0,Z9 v8,.agg (ZO E d),Z7 g 0,Z9 v9,Z9 z,ZX,u47,u48,(cond b0 (Z7 g5 40) (u49)),(cond b1 (.slice d2.pa E2.Xe.length d2.pc) (u50)),(cond b2 (Z7 g 0) (u51)),(cond b3 (Z9 y4) (u52)),(cond b4 (Z9 (1+y4)) (u53)),x54,x55,(cond b7 (Z7 g5 40) (u56)),undef],defers:=[] }/\Qq b3 b5 b6 b8 b1 b4 (Es w g a c L g2 g5 B5 N9 E2 d2 V) (Es w g a c L g2 g5 B5 (N9+1) E2 d2 V) (Es2 w g a c L g2 g5 B5 (N9+1) E2 d2 (1+y4) x54 V) (Es3 w g a c L g2 g5 B5 (N9+1) E2 d2 (1+y4) x55 V) (∃ a2 c2,Es w g a c L g2 g5 B5 (N9+1) { E2 with Xe:=E2.Xe++[1+y4] } { d2 with pa:=a2,pc:=c2 } V)) (by kernel_rfl) (by kernel_rfl) ?_ ?_ ?_
     ·exact⟨_,_,_,_,_,_,_,_,_,_,_,rfl,rfl,h0⟩
     ·intro i9 listed ZH V hi9 hr hJ;obtain⟨b0,b1,b2,b3,b4,b5,b6,b7,b8,x54,x55,rfl,rfl,hF⟩:=hJ;have hi2:i9<9:=hi9;have hi3:i9=0∨i9=1∨i9=2∨i9=3∨i9=4∨i9=5∨i9=6∨i9=7∨i9=8:=(by omega);rcases hi3 with rfl | rfl | rfl | rfl | rfl | rfl | rfl | rfl | rfl
      ·obtain rfl:b0=false:=Z5 hr;refine ZW rfl (by kernel_rfl) (some 49) rfl (Z7 g5 40) V (by kernel_rfl) ?_;exact⟨_,_,_,_,_,_,_,_,_,_,_,rfl,rfl,hF⟩
      ·obtain rfl:b1=false:=Z5 hr;obtain rfl:b0=true:=Z4 hr 0;obtain⟨rfl,rfl⟩:=hF.p0;have hb5:=hF.pr (fun h=>h.b5) (fun h=>h.b5) (fun h=>h.1.b5);refine ZI rfl (by kernel_rfl) (some 50) rfl 22 (.tmp 49) rfl ⟨g5,40,none⟩ (.slice d2.pa E2.Xe.length d2.pc) (by kernel_rfl) (ZN (ZU hb5) (j:=40) rfl (by kernel_rfl)) ?_;exact⟨_,_,_,_,_,_,_,_,_,_,_,rfl,rfl,hF.sp⟩
      ·obtain rfl:b2=false:=Z5 hr;refine ZW rfl (by kernel_rfl) (some 51) rfl (Z7 g 0) V (by kernel_rfl) ?_;exact⟨_,_,_,_,_,_,_,_,_,_,_,rfl,rfl,hF⟩
      ·obtain rfl:b3=false:=Z5 hr;obtain rfl:b2=true:=Z4 hr 2;obtain⟨rfl,rfl,rfl,rfl⟩:=hF.w0;refine Zl rfl (by kernel_rfl) (some 52) rfl 30 #[Z7 g 0,Z9 4] (by kernel_rfl) ((nx hF.is.nm HL.out (by have:=Vu.out; have:=HN8.out; have:=HN9.out; have:=HZQ.out; have:=HV9.out; omega) 4 (by decide) (by decide)).mono ?_);rintro e V2 ⟨⟨v,rfl,-,hv⟩,hns,hbt⟩;rw[HY4.out] at hv;rw[hv];exact⟨_,rfl,_,_,_,_,_,_,_,_,_,_,_,rfl,rfl,hF.s1 (hF.is.call sU.out hns hbt)⟩
      ·obtain rfl:b4=false:=Z5 hr;obtain rfl:b3=true:=Z4 hr 3;refine ZW rfl (by kernel_rfl) (some 53) rfl (Z9 (1+y4)) V (W9 rfl 1 y4 (by have:=HYB.out; omega) (by kernel_rfl) (by kernel_rfl) V) ?_;exact⟨_,_,_,_,_,_,_,_,_,_,_,rfl,rfl,hF.sq⟩
      ·obtain rfl:b5=false:=Z5 hr;obtain rfl:b4=true:=Z4 hr 4;obtain⟨rfl,rfl,rfl⟩:=hF.w1;refine Yz rfl (by kernel_rfl) (some 54) rfl 22 1 #[(0,.tmp 53)] rfl #[(0,Z9 (1+y4))] (by kernel_rfl) (.slice (some ⟨V.heap.size,0,none⟩) 1 1) _ (MV (1+y4) V) ?_;exact⟨_,_,_,_,_,_,_,_,_,_,_,rfl,rfl,hF.s2 (Es.two hF.is)⟩
      ·obtain rfl:b6=false:=Z5 hr;obtain rfl:b1=true:=Z4 hr 1;obtain rfl:b5=true:=Z4 hr 5;obtain⟨rfl,rfl⟩:=hF.w2;obtain⟨v9,V9,tK,um⟩:=Es2.three hF.is sU.out (by have:=Kz.out; omega);refine Zf rfl (by kernel_rfl) (some 55) rfl 22 rfl (.tmp 50) (.tmp 54) 22 rfl (.slice d2.pa E2.Xe.length d2.pc) x54 v9 V9 (by kernel_rfl) (by kernel_rfl) tK ?_;exact⟨_,_,_,_,_,_,_,_,_,_,_,rfl,rfl,hF.s3 um⟩
      ·obtain rfl:b7=false:=Z5 hr;refine ZW rfl (by kernel_rfl) (some 56) rfl (Z7 g5 40) V (by kernel_rfl) ?_;exact⟨_,_,_,_,_,_,_,_,_,_,_,rfl,rfl,hF⟩
      ·obtain rfl:b8=false:=Z5 hr;obtain rfl:b6=true:=Z4 hr 6;obtain rfl:b7=true:=Z4 hr 7;obtain rfl:=hF.w3;obtain⟨V9,YM,um⟩:=Es3.four hF.is sU.out;refine YL rfl (by kernel_rfl) rfl 22 (.tmp 56) (.tmp 55) rfl (Z7 g5 40) x55 (by kernel_rfl) (by kernel_rfl) V9 YM ?_;exact⟨_,_,_,_,_,_,_,_,_,_,_,rfl,rfl,hF.s4 um⟩
     ·intro ZH V hJ;obtain⟨b0,b1,b2,b3,b4,b5,b6,b7,b8,x54,x55,he,rfl,hF⟩:=hJ;have he:(#[true,true,true,true,true,true,true,true,true]:Array Bool)=#[b0,b1,b2,b3,b4,b5,b6,b7,b8]:=he;simp only[Array.mk.injEq,List.cons.injEq,and_true] at he;obtain⟨rfl,rfl,rfl,rfl,rfl,rfl,rfl,rfl,rfl⟩:=he;simp only[cond_true];obtain⟨a2,c2,um⟩:=hF.is;have HR9:Hid (Es w g a c L g2 g5 B5 (N8+1+(Q++[1+y4]).length) { E with Xe:=Q++[1+y4] } { d2 with pa:=a2,pc:=c2 } V):=Z8 (by
       have h1:=um;rw[HQE.out.2,<- HN9.out] at h1;rw[List.length_append,List.length_singleton,<- Nat.add_assoc];exact h1)
      have HLQ:Hid ((Q++[1+y4]).length=Q.length+1):=Z8 (by rw[List.length_append,List.length_singleton]);clear hF um;go_upto_region 10 with fail;refine wl<|ZQ (Z9 z)<|Yd (Z9 ((z-1:Nat):Int)) (Ah rfl z hz0 (by have:=HZQ.out; have:=HV9.out; omega))<|ZQ (Z9 ((z-1:Nat):Int))<|wn ?_;simp only[pu];go_wp2_with fail;go_roundg (z-1)
      case measure=>have:=sQ.out; omega
      case rel=>exact⟨z-1,_,_,rfl,by have:=HZQ.out; have:=HLQ.out; omega,rfl,HR9⟩
    ·obtain rfl:z=0:=(by omega);obtain⟨V3,hst3,hY3,Ya⟩:=st_all (cs':=ZO { E with Xe:=Q } d2) (ty:=52) HR.out.b2 rfl (YW _ _) (by kernel_rfl);have hb5:=Z8 HR.out.b5;have HEW:Hid (Ws V3 w.heap.size { E with Xe:=Q } d2):=Z8 ⟨YG HR.out.er Ya fun x hx=>(HR.out.rl x hx).2.1,own_base (YG HR.out.ep Ya fun x hx=>by have:=(HR.out.ep.lt x.block (by rw[hx]; rfl)).1; have:=sU.out.l2; omega) sU.out.wb⟩;have HNE:Hid (Nm V3 g a c L (N8+1+Q.length)):=Z8 (HR.out.nm.but Ya (by have:=sU.out.gw; have:=sU.out.w2; omega));have HBE:Hid (But g w V3):=Z8 ⟨HR.out.but.1.trans (Ya.1.mono (by have:=sU.out.gw; have:=sU.out.w2; omega)),fun k hk hn=>(Ya.2 k (Nat.lt_of_lt_of_le hk HR.out.but.1.size) (by have:=sU.out.w2; omega)).trans (HR.out.but.2 k hk hn)⟩;clear Ya HR;go_upto_region 9 with fail;refine wl<|ZQ (Z9 (0:Nat))<|Zg (YO rfl ((0:Nat)) (0) dF)<|wn ?_;simp only[pu];go_upto_region 12 with fail;refine wl<|ZC rfl ⟨g5,0,none⟩ (.agg (ZO { E with Xe:=Q } d2)) (ZE (ZU hb5.out))<|Yb rfl (hst3)<|wn ?_;simp only[pu];clear hst3 hb5;go_wp2_with fail;exact bodyPost_ret (YV rfl (by kernel_rfl) (ZE (ZU hY3))) rfl ⟨_,_,_,rfl,HEW.out,Pv.out.1,Pv.out.2.2,by have:=HZQ.out; have:=HV9.out; show Q.length<=2; omega,by have:=HN8.out; omega,by have:=HN8.out; have:=HZQ.out; have:=HV9.out; omega,HNE.out,HBE.out⟩
abbrev Yr:En×Ad:=(Zp,YE)
def Nw (x:En×Ad):List Value:=Yc x.1 x.2
theorem Ur (x:En×Ad):(Nw x).length=41:=rfl
theorem kJ (x:En×Ad):∀ u∈Nw x,u.oneCell'=true:=Sv x.1 x.2
def QE (X:List (En×Ad)):List Value:=X.flatMap Nw
theorem Sr (X:List (En×Ad)):(QE X).length=X.length*41:=UG Nw Ur X
def lE (X:List (En×Ad)):List En:=X.map (·.1)
theorem YH (X:List (En×Ad)):(lE X).length=X.length:=List.length_map ..
theorem RI (X:List (En×Ad))(i:Nat)(hi:i<X.length):(lE X).getD i Zp=(X.getD i Yr).1:=by
 unfold lE;rw[List.getD_eq_getElem?_getD,List.getElem?_map,List.getElem?_eq_getElem hi,List.getD_eq_getElem?_getD,List.getElem?_eq_getElem hi];rfl
structure Xr (w:World)(a:Option Addr)(X:List (En×Ad)):Prop where
 cs:Cs w a (QE X)
 en:∀ i,i<X.length->Vh w (X.getD i Yr).1 (X.getD i Yr).2
def xA (a:Option Addr)(X:List (En×Ad))(k:Nat):Prop:=rb a (QE X) k∨∃ i,i<X.length/\EB (X.getD i Yr).1 (X.getD i Yr).2 k
section
variable {w w' : World} {a : Option Addr} {X : List (En × Ad)}
theorem Xr.lt (h:Xr w a X):∀ k,xA a X k->k<w.heap.size:=fun k hk=>hk.elim (Cj h.cs k) fun⟨i,hi,q⟩=>(h.en i hi).lt k q
theorem Xr.same (h:Xr w a X)(hs:∀ k,xA a X k->w'.heap[k]?=w.heap[k]?):Xr w' a X:=⟨Ov h.cs fun k hk=>hs k (.inl hk),fun i hi=>(h.en i hi).same fun k hk=>hs k (.inr ⟨i,hi,hk⟩)⟩
theorem Xr.below (h:Xr w a X)(hb:Below w.heap.size w w'):Xr w' a X:=h.same fun k hk=>hb.block k (h.lt k hk)
theorem Xr.rg (h:Xr w a X){i:Nat}(hi:i<X.length):∃ b off,a=some ⟨b,off,none⟩/\b<w.heap.size/\w.rangeAt b (off+i*41) (Nw (X.getD i Yr)):=Yf Nw Ur (by omega) Yr h.cs hi
theorem Xr.nil (w:World)(a:Option Addr):Xr w a []:=⟨Cs.nil _ _,fun i hi=>by cases hi⟩
end
theorem Zo (b off n c k:Nat)(hk:k<n)(V:World)(ρ:Operand->Value)(o:Oper){x y:Operand}(ho:o.op=.indexAddr 29 x y)(hx:ρ x=.slice (some ⟨b,off,none⟩) n c)(hy:ρ y=Z9 k):(execOp ρ o).run Tryz.prog V=.ok (.value (Z7 b (off+k*41))) V:=by
 have hs:(sizeOf (Tryz.prog.elem 29)).run Tryz.prog V=.ok 41 V:=by kernel_rfl
 have hlm:(k:Int)<(n:Int):=by omega
 unfold execOp;simp only[ho,hx,hy];go_simp
theorem AB (a b:Nat->Int):((List.range 32).map a == (List.range 32).map b)=keq a b:=by
 unfold keq;rw[Bool.eq_iff_iff];simp
theorem ab1 {ρ:Operand->Value}{o:Oper}{x y:Operand}(ho:o.op=.binOp .eql 38 x y 38)(a b:Nat->Int){t:Bool}(ht:keq a b=t)(hx:ρ x=.agg (Zv a))(hy:ρ y=.agg (Zv b))(w:World):(execOp ρ o).run Tryz.prog w=.ok (.value (.bool t)) w:=by
 have:=tH ho ((List.range 32).map a) ((List.range 32).map b) (by simp) (by simp) hx hy w;rwa [AB,ht] at this
theorem UZ {w:World}{g:Nat}{k:Nat->Int}(h:Bx w g (Zv k) 38):(Instr.loadAt 38 (Z7 g 0)).run Tryz.prog w=.ok (.agg (Zv k)) w:=run_loadAt_mid w g 0 38 (JG k) _ (ZU (cs:=JG k) h) Tryz.underlying38 rfl (by kernel_rfl)
def DV (k:Nat->Int)(L:List En):Int:=if Vs k L<L.length then (Vs k L:Int) else -1
theorem tC {k:Nat->Int}{L:List En}{i:Nat}(hi:i<L.length)(h1:keq (L.getD i Zp).k k=true)(h0:∀ j,j<i->keq (L.getD j Zp).k k=false):DV k L=i:=by
 have:=Dk hi h1 h0;unfold DV;rw[this,if_pos hi]
theorem tu {k:Nat->Int}{L:List En}(h0:∀ j,j<L.length->keq (L.getD j Zp).k k=false):DV k L=-1:=by
 have:=lK h0;unfold DV;rw[this,if_neg (Nat.lt_irrefl _)]
theorem tJ (L:List En)(i:Nat)(h:i<L.length):Yl (L.take (i+1))=Yl (L.take i)+(L.getD i Zp).raw.length:=by
 rw[<- take_snoc L i h,SE,List.getD_eq_getElem?_getD,List.getElem?_eq_getElem h];simp[Yl]
theorem r_at {w:World}{a:Option Addr}{c:Nat}{X:List (En×Ad)}(h:Xr w a X)(hl:X.length<=100000)(k:Nat->Int):Calls Tryz.prog 22 #[.slice a X.length c,.agg (Zv k)] w fun e w'=>e=.returned (Z9 (DV k (lE X)))/\Below w.heap.size w w':=by
 have QY:Hid (∀ V,Below w.heap.size w V->∀ i,i<X.length->∃ b off,a=some ⟨b,off,none⟩/\V.rangeAt b (off+i*41) (Nw (X.getD i Yr))):=Z8 fun V hV i hi=>by
  obtain⟨b,off,h1,-,h2⟩:=(h.below hV).rg hi;exact⟨b,off,h1,h2⟩
 have HL:=RI X;have O6:=YH X;generalize lE X=L at *
 have hb0:Below w.heap.size w (w.alloc (.cells (Zv k) 38)):=(Below.refl _ w).alloc (Nat.le_refl _) _;have Zr:Bx (w.alloc (.cells (Zv k) 38)) w.heap.size (Zv k) 38:=heap_alloc_last w _;have HKX:Hid (∀ i,i<X.length->(L.getD i Zp)=(X.getD i Yr).1):=Z8 HL;obtain⟨n,hn⟩:=ZR X.length;rw[hn] at QY O6 HKX hl ⊢;have HN:=Z8 hl;have Oc:=Z8 O6;clear h hn HL O6 hl;go_enter Tryz.func22,Tryz.ntmps22;go_upto_region 1 with fail;change Code.wp _ _ _ _ (w.alloc (.cells (Zv k) 38));generalize w.alloc (.cells (Zv k) 38)=W at *
 obtain⟨g3,hg3⟩:=ZR w.heap.size;rw[hg3] at Zr;simp only[hg3];have Qg:Hid (w.heap.size=g3):=Z8 hg3;have HKEY:Hid (∀ V,Below W.heap.size W V->Bx V g3 (Zv k) 38):=Z8 fun V hV=>Zr.below Zr.lt hV;have HB0:=Z8 hb0;clear Zr hb0 hg3;refine wl<|YX (.slice a n c) (Z9 n) (Z9 0)<|wn ?_;simp only[pu];go_wp2_with fail;go_loopg [9] n (fun gg s9 wx=>∃ (i:Nat),s9=Z9 i/\i<=n/\gg+i=n/\Hid (Below W.heap.size W wx/\∀ j,j<i->keq (L.getD j Zp).k k=false))
 case atStart=>exact⟨0,rfl,by omega,by omega,Z8 ⟨Below.refl _ _,fun j hj=>by omega⟩⟩
 case round=>
  obtain⟨i,rfl,hin,hg,HR⟩:=hrel;have WH:Hid (gk+i=n):=Z8 hg;clear hg;by_cases hlt:i<n
  ·have HBR:=HB0.out.trans (HR.out.1.mono HB0.out.size);obtain⟨b,off,hbb,hrg⟩:=QY.out wr HBR i hlt;obtain rfl:=hbb;have hkx:=HKX.out i hlt;obtain⟨x,hx⟩:=ZR (X.getD i Yr);rw[hx] at hrg hkx;obtain⟨V2,hst2,hb2,Vp⟩:=Zk (c:=ZO Zp YE) (c':=ZO x.1 x.2) (ty:=52) wr rfl (YW _ _) (by kernel_rfl);have HR2:=Z8 (HR.out.1.trans (hb2.mono HR.out.1.size));have HQ:=Z8 HR.out.2;obtain⟨q,hq⟩:=ZR (keq x.1.k k);have HXQ:=Z8 hq;have HKQ:=Z8 hkx;clear HBR hx hkx HR;go_upto_region 2 with fail;refine wl<|Zg (ZG rfl (i) (n) dT)<|wn ?_;simp only[pu];go_upto_region 3 with fail;refine wl<|ZQ (Z9 i)<|Za (Z7 b (off+i*41)) (Zo b off n c i hlt _ _ _ rfl (by kernel_rfl) (by kernel_rfl))<|ZC rfl ⟨b,off+i*41,none⟩ (.agg (ZO x.1 x.2)) (ZE hrg) ?_;refine Zj rfl (some 6) rfl (Z7 wr.heap.size 0) (wr.alloc (.cells (ZO Zp YE) 52)) (by kernel_rfl) ?_;refine ZQ (Z9 i)<|Yb rfl (hst2)<|wn ?_;simp only[pu];obtain⟨g6,Ut⟩:=ZR wr.heap.size;rw[Ut] at Vp ⊢;have Zr:=HKEY.out V2 HR2.out;clear hst2 hb2 hrg Ut;go_upto_region 4 with fail;refine wl<|ZQ (Z7 g6 0)<|ZC rfl ⟨g6,0,none⟩ (.agg (Zv x.1.k)) (Yw (ZU Vp))<|ZC rfl ⟨g3,0,none⟩ (.agg (Zv k)) (UZ Zr)<|Yd (.bool q) (ab1 rfl x.1.k k hq)<|wn ?_;simp only[pu];clear Vp Zr;by_cases hqq:q=true
   ·obtain rfl:q=true:=hqq;go_upto_region 5 with fail;refine wl<|ZB (Z9 i) (Z9 i)<|wn ?_;simp only[pu];go_wp2_with fail;go_ret;refine⟨congrArg (fun q=>Ending.returned (Value.int .i64 q)) (tC (by have:=Oc.out; omega) (by rw[HKQ.out]; exact HXQ.out) HQ.out).symm,HB0.out.trans (HR2.out.mono HB0.out.size)⟩
   ·have hqq:q=false:=(by simpa using hqq);obtain rfl:q=false:=hqq;go_upto_region 6 with fail;refine wl<|Za (Z9 (i+1:Nat)) (add_one rfl i (by have:=HN.out; omega) (by kernel_rfl) _)<|ZQ (Z9 (i+1:Nat))<|wn ?_;simp only[pu];go_wp2_with fail;go_roundg (n-(i+1))
    case measure=>have:=WH.out; omega
    case rel=>
     refine⟨i+1,rfl,by omega,by omega,Z8 ⟨HR2.out,fun j hj=>?_⟩⟩;rcases Nat.lt_or_ge j i with h1 | h1
     ·exact HQ.out j h1
     ·obtain rfl:j=i:=(by omega);rw[HKQ.out]; exact HXQ.out
  ·obtain rfl:i=n:=(by omega);go_upto_region 2 with fail;refine wl<|Zg (ZG rfl (i) (i) dF)<|wn ?_;simp only[pu];go_upto_region 7 with fail;refine wl<|ZQ (Z9 (-1))<|wn ?_;simp only[pu];go_wp2_with fail;go_ret;refine⟨congrArg (fun q=>Ending.returned (Value.int .i64 q)) (tu fun j hj=>HR.out.2 j (by have:=Oc.out; omega)).symm,HB0.out.trans (HR.out.1.mono HB0.out.size)⟩
end Go.Proofs.YtnelmomagdcmnaaGreat
