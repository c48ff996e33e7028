/-
  Texts joined.
-/
import Derived.Test.YtnelmomagdcmnaaGreatJ10
import Derived.Maps.Own
import Derived.Shelf.SlIterI.Nil
import Derived.Shelf.SortM.Plain
import Derived.Shelf.SortM.SortNone
import Derived.StringKeys
set_option maxRecDepth 100000
set_option maxHeartbeats 8000000
set_option linter.unusedSimpArgs false
set_option linter.unusedVariables false
namespace Go.Proofs.YtnelmomagdcmnaaGreat
attribute [local irreducible] wpList wpQuiet
open Go.RowKit
def late (now than lim:Int):Bool:=decide (0<lim/\than<now/\lim<now-than)
theorem CJ {a b:Int}(ha:I64 a)(hb:I64 b)(h:b<a):IntKind.u64.wrap (IntKind.u64.wrap a-IntKind.u64.wrap b)=a-b:=by
 obtain⟨h1,h2⟩:=ha;obtain⟨h3,h4⟩:=hb;rw[IntKind.wrap_u64,IntKind.wrap_u64,IntKind.wrap_u64];omega
theorem uw {a:Int}(h:0<=a)(ha:I64 a):IntKind.u64.wrap a=a:=by
 obtain⟨h1,h2⟩:=ha;rw[IntKind.wrap_u64];omega
section
variable {ρ : Operand -> Value} {o : Oper} {x y : Operand}
theorem cv6 (ho:o.op=.convert 3 23 x)(a:Int)(hx:ρ x=Z9 a)(w:World):(execOp ρ o).run Tryz.prog w=.ok (.value (ZV (IntKind.u64.wrap a))) w:=by
 unfold execOp;go_simp
theorem sb6 (ho:o.op=.binOp .sub 23 x y 23)(a b:Int)(hx:ρ x=ZV a)(hy:ρ y=ZV b)(w:World):(execOp ρ o).run Tryz.prog w=.ok (.value (ZV (IntKind.u64.wrap (a-b)))) w:=by
 unfold execOp;go_simp
theorem gt6 (ho:o.op=.binOp .gtr 23 x y 23)(a b:Int){t:Bool}(ht:decide (b<a)=t)(hx:ρ x=ZV a)(hy:ρ y=ZV b)(w:World):(execOp ρ o).run Tryz.prog w=.ok (.value (.bool t)) w:=by
 rw[<- ht];unfold execOp;go_simp
end
theorem uq {nw thn lim:Int}(hn:I64 nw)(ht:I64 thn)(hl:I64 lim)(w:World):Calls Tryz.prog 46 #[Z9 nw,Z9 thn,Z9 lim] w fun e w'=>e=.returned (.bool (late nw thn lim))/\w=w':=by
 obtain⟨q,hq⟩:=ZR (late nw thn lim);have HQ:Hid ((¬ 0<lim->q=false)/\(¬ thn<nw->q=false)/\(0<lim->thn<nw->decide (IntKind.u64.wrap lim<IntKind.u64.wrap (IntKind.u64.wrap nw-IntKind.u64.wrap thn))=q)):=Z8 ⟨fun h=>by rw[<- hq]; exact decide_eq_false fun h2=>h h2.1,fun h=>by rw[<- hq]; exact decide_eq_false fun h2=>h h2.2.1,fun h h2=>by
  rw[<- hq,CJ hn ht h2,uw (Int.le_of_lt h) hl];exact decide_eq_decide.2 ⟨fun h3=>⟨h,h2,h3⟩,fun h3=>h3.2.2⟩⟩
 rw[hq];clear hq hn ht hl;go_enter Tryz.func46,Tryz.ntmps46;by_cases h1:0<lim
 ·by_cases h2:thn<nw
  ·have h3:=HQ.out.2.2 h1 h2;have HQ3:=Z8 h3;clear h3;go_upto_region 1 with fail;refine wl<|ZQ (Z9 lim)<|Zg (YO rfl lim 0 (decide_eq_true h1))<|YX ZX (Z9 nw) (Z9 thn)<|Zg (YO rfl nw thn (decide_eq_true h2)) <|
    YX ZX ZX (Z9 nw)<|Za (ZV (IntKind.u64.wrap nw)) (cv6 rfl nw (by kernel_rfl) _)<|ZQ (Z9 thn)<|Za (ZV (IntKind.u64.wrap thn)) (cv6 rfl thn (by kernel_rfl) _) <|
    Yd (ZV (IntKind.u64.wrap (IntKind.u64.wrap nw-IntKind.u64.wrap thn))) (sb6 rfl _ _)<|ZQ (Z9 lim)<|Za (ZV (IntKind.u64.wrap lim)) (cv6 rfl lim (by kernel_rfl) _) <|
    Yd (.bool q) (gt6 rfl _ _ HQ3.out)<|ZB (.bool q) (.bool q)<|wn ?_
   simp only[pu];go_wp2_with fail;go_ret;exact⟨rfl,rfl⟩
  ·obtain rfl:=HQ.out.2.1 h2;go_upto_region 1 with fail;refine wl<|ZQ (Z9 lim)<|Zg (YO rfl lim 0 (decide_eq_true h1))<|YX ZX (Z9 nw) (Z9 thn)<|Zg (YO rfl nw thn (decide_eq_false h2)) <|
    Ia ZY ZY undef undef undef undef<|Ia undef undef undef undef ZY ZY<|wn ?_
   simp only[pu];go_wp2_with fail;go_ret;exact⟨rfl,rfl⟩
 ·obtain rfl:=HQ.out.1 h1;go_upto_region 1 with fail;refine wl<|ZQ (Z9 lim)<|Zg (YO rfl lim 0 (decide_eq_false h1))<|Ia ZY undef undef undef ZY ZY<|Ia undef undef undef undef undef undef<|Qc undef undef ZY ZY <|
   wpList_nil ?_
  simp only[pu];go_wp2_with fail;go_ret;exact⟨rfl,rfl⟩
theorem kR (k:Nat->Int):∀ u∈JG k,u.oneCell'=true:=List.all_eq_true.1 (show(JG k).all (·.oneCell')=true by kernel_rfl)
theorem Hy (k:Nat->Int):(JG k).length=32:=rfl
def wX (L:List (Nat->Int)):List Value:=L.flatMap JG
theorem kQ (L:List (Nat->Int)):(wX L).length=L.length*32:=UG JG Hy L
theorem kP (L:List (Nat->Int)):∀ u∈wX L,u.oneCell'=true:=NV JG kR L
theorem kN (A B:List (Nat->Int)):wX (A++B)=wX A++wX B:=List.flatMap_append
theorem uo:(Tryz.prog.info? 38).map (fun i=>(i.zero,i.size,i.bytes))=some (some (.agg (Zv fun _=>0)),32,32):=by kernel_rfl
theorem LQ (k:Nat->Int)(V:World):(Instr.buildSlice 47 1 #[(0,.agg (Zv k))]).run Tryz.prog V=.ok (.slice (some ⟨V.heap.size,0,none⟩) 1 1) (V.alloc (.cells (Zv k) 38)):=by
 obtain⟨i0,hi,hz0,hz1,hz2⟩:=info_parts uo;refine run_buildSlice V 47 38 1 _ (Zv k) i0 _ Tryz.underlying47 hi hz0 (by rw[hz1]; omega) (by rw[hz1]; omega) ?_;rw[hz1];kernel_rfl
def WY (w:World)(B:Nat)(v:Value)(L:List (Nat->Int)):Prop:=w.ownsRow B 38 32 v L.length (wX L)
theorem WY.below {w w':World}{B:Nat}{v:Value}{L:List (Nat->Int)}(h:WY w B v L)(hb:Below w.heap.size w w'):WY w' B v L:=own_below h hb
theorem IL {w:World}{B:Nat}{v:Value}{A:List (Nat->Int)}(h:WY w B v A)(hB:B<=w.heap.size)(k:Nat->Int)(hl:A.length<=100000) :
  ∃ v2 V2,(Builtin.append_ #[47,47] 47 #[v,.slice (some ⟨w.heap.size,0,none⟩) 1 1]).run Tryz.prog (w.alloc (.cells (Zv k) 38))=.ok v2 V2/\WY V2 B v2 (A++[k])/\Below B w V2:=by
 have hb:Below w.heap.size w (w.alloc (.cells (Zv k) 38)):=(Below.refl _ w).alloc (Nat.le_refl _) _;have hc:Cs (w.alloc (.cells (Zv k) 38)) (some ⟨w.heap.size,0,none⟩) (wX [k]):=by
  have:=Cs.block (cs:=JG k) (t:=38) (fr:=(0,0)) (heap_alloc_last w (.cells (Zv k) 38));unfold wX;simpa using this
 obtain⟨v2,V2,hr,hO,h3⟩:=Q5 (P:=Tryz.prog) (t:=47) (m:=1) Tryz.underlying47 uo (by kernel_rfl) (by omega) (by omega) (h.below hb) (some ⟨w.heap.size,0,none⟩) 1 (wX [k]) hc (kQ [k]) (kP [k]) (Nat.le_trans hB hb.size) hl (by omega);refine⟨v2,V2,hr,?_,(hb.mono hB).trans h3.1⟩;unfold WY;rw[kN,List.length_append];exact hO
def XI (cf:List Int)(h t:Int)(e:En):Bool:=late h e.ht (cf.getD 4 0) || late t e.tm (cf.getD 5 0)
theorem aa6 {w:World}{a:Option Addr}{c:Nat}{X:List (En×Ad)}(h:Xr w a X)(hl:X.length<=1000)(cf:List Int)(hcf:I64 (cf.getD 4 0)/\I64 (cf.getD 5 0))(ht tm:Int)(hh:I64 ht/\I64 tm)(hE:∀ i,i<X.length->I64 (X.getD i Yr).1.ht/\I64 (X.getD i Yr).1.tm):Calls Tryz.prog 20 #[.agg (Zu cf),.slice a X.length c,Z9 ht,Z9 tm] w fun e w'=>∃ v,e=.returned v/\WY w' w.heap.size v (Yj (XI cf ht tm) (lE X))/\Below w.heap.size w w':=by
 have QY:Hid (∀ V,Below w.heap.size w V->∀ i,i<X.length->∃ b off,a=some ⟨b,off,none⟩/\V.rangeAt b (off+i*41) (Nw (X.getD i Yr))):=Z8 fun V hV i hi=>by
  obtain⟨b,off,h1,-,h2⟩:=(h.below hV).rg hi;exact⟨b,off,h1,h2⟩
 have HST:Hid (∀ i,i<X.length->Yj (XI cf ht tm) ((lE X).take (i+1))=Yj (XI cf ht tm) ((lE X).take i)++(if XI cf ht tm (X.getD i Yr).1 then [(X.getD i Yr).1.k] else [])):=Z8 fun i hi=>by
  rw[<- take_snoc (lE X) i (by rw[YH]; exact hi),yK];have e1:=RI X i hi;rw[List.getD_eq_getElem?_getD,List.getElem?_eq_getElem (by rw[YH]; exact hi)] at e1;rw[show(lE X)[i]'(by rw[YH]; exact hi)=(X.getD i Yr).1 from e1]
 have HE9:=Z8 hE;have HL:=YH X;generalize lE X=LL at *
 obtain⟨n,hn⟩:=ZR X.length;rw[hn] at QY HST HE9 HL hl ⊢;have HN:=Z8 hl;have O6:=Z8 HL;have nX:=Z8 hcf;have HHH:=Z8 hh;have fP:Hid (∀ i,(Yj (XI cf ht tm) (LL.take i)).length<=i):=Z8 fun i=>by
  unfold Yj;rw[List.length_map];exact Nat.le_trans (List.length_filter_le _ _) (List.length_take_le i LL)
 have hb0:Below w.heap.size w (w.alloc (.cells (Zu cf) 25)):=(Below.refl _ w).alloc (Nat.le_refl _) _;have Xu:Bx (w.alloc (.cells (Zu cf) 25)) w.heap.size (Zu cf) 25:=heap_alloc_last w _;clear h hn hl hE HL hcf hh;go_enter Tryz.func20,Tryz.ntmps20;go_upto_region 1 with fail;change Code.wp _ _ _ _ (w.alloc (.cells (Zu cf) 25));generalize w.alloc (.cells (Zu cf) 25)=W at *
 obtain⟨g4,hg4⟩:=ZR w.heap.size;rw[hg4] at Xu;simp only[hg4];have JM:=Z8 Xu;have HB0:Hid (Below w.heap.size w W):=Z8 hb0;clear Xu hb0;refine wl<|ZQ (.slice none 0 0)<|wn ?_;simp only[pu];go_upto_region 2 with fail;refine wl<|YX (.slice a n c) (Z9 n) (Z9 0)<|wn ?_;simp only[pu];have am6:Hid (WY W W.heap.size (.slice none 0 0) (Yj (XI cf ht tm) (LL.take 0))/\Below W.heap.size W W):=Z8 ⟨World.ownsRow_nil _ _ _ _,Below.refl _ _⟩;clear hg4;go_wp2_with fail;go_loopg [9,14] n (fun gg s9 s14 wx=>∃ (i:Nat) (v:Value),s14=Z9 i/\s9=v/\i<=n/\gg+i=n/\Hid (WY wx W.heap.size v (Yj (XI cf ht tm) (LL.take i))/\Below W.heap.size W wx))
 case atStart=>exact⟨0,_,rfl,rfl,by omega,by omega,am6⟩
 case round=>
  clear am6;obtain⟨i,v,rfl,hv,hin,hg,HR⟩:=hrel
  replace hv:=hv.symm
  subst hv;have WH:Hid (gk+i=n):=Z8 hg;clear hg;by_cases hlt:i<n
  ·obtain⟨b,off,hbb,hrg⟩:=QY.out wr (HB0.out.trans (HR.out.2.mono HB0.out.size)) i hlt;obtain rfl:=hbb;have YM:=HST.out i hlt;have um:=HE9.out i hlt;obtain⟨x,hx⟩:=ZR (X.getD i Yr);rw[hx] at hrg YM um;obtain⟨V2,hst2,hb2,Zc⟩:=Zk (c:=ZO Zp YE) (c':=ZO x.1 x.2) (ty:=52) wr rfl (YW _ _) (by kernel_rfl);have HR2:=Z8 (HR.out.2.trans (hb2.mono HR.out.2.size));have Xu:=JM.out.below JM.out.lt HR2.out;have HRW:Hid (WY V2 W.heap.size v (Yj (XI cf ht tm) (LL.take i))):=Z8 (HR.out.1.below hb2);have HSP:=Z8 YM;have CL1:=uq HHH.out.1 um.1 nX.out.1 V2;have CL2:=uq HHH.out.2 um.2 nX.out.2 V2;have HGB:Hid (XI cf ht tm x.1=(late ht x.1.ht (cf.getD 4 0) || late tm x.1.tm (cf.getD 5 0))):=Z8 rfl;obtain⟨q1,hq1⟩:=ZR (late ht x.1.ht (cf.getD 4 0));obtain⟨q2,hq2⟩:=ZR (late tm x.1.tm (cf.getD 5 0));rw[hq1] at CL1 HGB;rw[hq2] at CL2 HGB;clear HR hx um YM hq1 hq2;go_upto_region 3 with fail;refine wl<|Zg (ZG rfl (i) (n) dT)<|wn ?_;simp only[pu];go_upto_region 4 with fail;refine wl<|Za (Z7 b (off+i*41)) (Zo b off n c i hlt _ _ _ rfl (by kernel_rfl) (by kernel_rfl))<|ZC rfl ⟨b,off+i*41,none⟩ (.agg (ZO x.1 x.2)) (ZE hrg) ?_;refine Zj rfl (some 11) rfl (Z7 wr.heap.size 0) (wr.alloc (.cells (ZO Zp YE) 52)) (by kernel_rfl) ?_;refine Yb rfl (hst2)<|wn ?_;obtain⟨g5,hg5⟩:=ZR wr.heap.size;rw[hg5] at Zc ⊢;clear hst2 hb2 hrg hg5;by_cases h1:q1=true
   ·subst h1;go_upto_region 5 with fail;refine wl<|ZB (Z9 ht) (Z7 g5 37)<|ZC rfl ⟨g5,37,none⟩ (Z9 x.1.ht) (ZN (ZU Zc) (j:=37) rfl (by kernel_rfl))<|ZQ (Z7 g4 4) <|
     ZC rfl ⟨g4,4,none⟩ (Z9 (cf.getD 4 0)) (Xu.ZM 4)<|YD ZX (fun w'=>V2=w') (CL1) (fun V9 XZ=>?_)
    subst XZ;refine Ia ZX undef undef undef undef undef<|ZB undef ZX<|wn ?_;simp only[pu];have hG:Yj (XI cf ht tm) (LL.take (i+1))=Yj (XI cf ht tm) (LL.take i)++[x.1.k]:=(by rw[HSP.out,HGB.out]; rfl);obtain⟨v6,W6,Us,Xj,hb6⟩:=IL HRW.out HR2.out.size x.1.k (by have:=fP.out i; have:=HN.out; omega);have HE:Hid (WY W6 W.heap.size v6 (Yj (XI cf ht tm) (LL.take (i+1)))/\Below W.heap.size W W6):=Z8 ⟨by rw[hG]; exact Xj,HR2.out.trans hb6⟩;clear hG Xj hb6;go_upto_region 6 with fail;refine wl<|ZB (v) (Z7 g5 0)<|ZC rfl ⟨g5,0,none⟩ (.agg (Zv x.1.k)) (Yw (ZU Zc)) ?_;refine Zm (by kernel_rfl) (some 35) rfl 47 1 #[(0,.tmp 34)] rfl #[(0,.agg (Zv x.1.k))] (by kernel_rfl) (.slice (some ⟨V2.heap.size,0,none⟩) 1 1) _ (LQ x.1.k V2) ?_;refine YU rfl (some 36) rfl 47 rfl (.tmp 32) (.tmp 35) 47 rfl (v) (.slice (some ⟨V2.heap.size,0,none⟩) 1 1) (v6) W6 (by kernel_rfl) (by kernel_rfl) Us ?_;refine ZQ (v6)<|wn ?_;simp only[pu];clear Zc Xu CL1 CL2 Us;go_upto_region 7 with fail;refine wl<|Za (Z9 (i+1:Nat)) (add_one rfl i (by have:=HN.out; omega) (by kernel_rfl) _)<|ZQ (Z9 (i+1:Nat))<|wn ?_;simp only[pu];go_wp2_with fail;go_roundg (n-(i+1))
    case measure=>have:=WH.out; omega
    case rel=>exact⟨i+1,v6,rfl,rfl,by omega,by omega,HE⟩
   ·obtain rfl:q1=false:=(by simpa using h1);by_cases h2:q2=true
    ·subst h2;go_upto_region 5 with fail;refine wl<|ZB (Z9 ht) (Z7 g5 37)<|ZC rfl ⟨g5,37,none⟩ (Z9 x.1.ht) (ZN (ZU Zc) (j:=37) rfl (by kernel_rfl))<|ZQ (Z7 g4 4) <|
      ZC rfl ⟨g4,4,none⟩ (Z9 (cf.getD 4 0)) (Xu.ZM 4)<|YD ZY (fun w'=>V2=w') (CL1) (fun V9 XZ=>?_)
     subst XZ;refine YX ZY (Z9 tm) (Z7 g5 38)<|ZC rfl ⟨g5,38,none⟩ (Z9 x.1.tm) (ZN (ZU Zc) (j:=38) rfl (by kernel_rfl))<|ZQ (Z7 g4 5) <|
      ZC rfl ⟨g4,5,none⟩ (Z9 (cf.getD 5 0)) (Xu.ZM 5)<|YD ZX (fun w'=>V2=w') (CL2) (fun V9 XZ=>?_)
     subst XZ;refine ZQ ZX<|wn ?_;simp only[pu];have hG:Yj (XI cf ht tm) (LL.take (i+1))=Yj (XI cf ht tm) (LL.take i)++[x.1.k]:=(by rw[HSP.out,HGB.out]; rfl);obtain⟨v6,W6,Us,Xj,hb6⟩:=IL HRW.out HR2.out.size x.1.k (by have:=fP.out i; have:=HN.out; omega);have HE:Hid (WY W6 W.heap.size v6 (Yj (XI cf ht tm) (LL.take (i+1)))/\Below W.heap.size W W6):=Z8 ⟨by rw[hG]; exact Xj,HR2.out.trans hb6⟩;clear hG Xj hb6;go_upto_region 6 with fail;refine wl<|ZB (v) (Z7 g5 0)<|ZC rfl ⟨g5,0,none⟩ (.agg (Zv x.1.k)) (Yw (ZU Zc)) ?_;refine Zm (by kernel_rfl) (some 35) rfl 47 1 #[(0,.tmp 34)] rfl #[(0,.agg (Zv x.1.k))] (by kernel_rfl) (.slice (some ⟨V2.heap.size,0,none⟩) 1 1) _ (LQ x.1.k V2) ?_;refine YU rfl (some 36) rfl 47 rfl (.tmp 32) (.tmp 35) 47 rfl (v) (.slice (some ⟨V2.heap.size,0,none⟩) 1 1) (v6) W6 (by kernel_rfl) (by kernel_rfl) Us ?_;refine ZQ (v6)<|wn ?_;simp only[pu];clear Zc Xu CL1 CL2 Us;go_upto_region 7 with fail;refine wl<|Za (Z9 (i+1:Nat)) (add_one rfl i (by have:=HN.out; omega) (by kernel_rfl) _)<|ZQ (Z9 (i+1:Nat))<|wn ?_;simp only[pu];go_wp2_with fail;go_roundg (n-(i+1))
     case measure=>have:=WH.out; omega
     case rel=>exact⟨i+1,v6,rfl,rfl,by omega,by omega,HE⟩
    ·obtain rfl:q2=false:=(by simpa using h2);go_upto_region 5 with fail;refine wl<|ZB (Z9 ht) (Z7 g5 37)<|ZC rfl ⟨g5,37,none⟩ (Z9 x.1.ht) (ZN (ZU Zc) (j:=37) rfl (by kernel_rfl))<|ZQ (Z7 g4 4) <|
      ZC rfl ⟨g4,4,none⟩ (Z9 (cf.getD 4 0)) (Xu.ZM 4)<|YD ZY (fun w'=>V2=w') (CL1) (fun V9 XZ=>?_)
     subst XZ;refine YX ZY (Z9 tm) (Z7 g5 38)<|ZC rfl ⟨g5,38,none⟩ (Z9 x.1.tm) (ZN (ZU Zc) (j:=38) rfl (by kernel_rfl))<|ZQ (Z7 g4 5) <|
      ZC rfl ⟨g4,5,none⟩ (Z9 (cf.getD 5 0)) (Xu.ZM 5)<|YD ZY (fun w'=>V2=w') (CL2) (fun V9 XZ=>?_)
     subst XZ;refine ZQ ZY<|wn ?_;simp only[pu];have HE:Hid (WY V2 W.heap.size v (Yj (XI cf ht tm) (LL.take (i+1)))/\Below W.heap.size W V2):=Z8 ⟨by rw[HSP.out,HGB.out]; rw[if_neg (by decide),List.append_nil]; exact HRW.out,HR2.out⟩;clear Zc Xu CL1 CL2;go_upto_region 7 with fail;refine wl<|Za (Z9 (i+1:Nat)) (add_one rfl i (by have:=HN.out; omega) (by kernel_rfl) _)<|ZQ (Z9 (i+1:Nat))<|wn ?_;simp only[pu];go_wp2_with fail;go_roundg (n-(i+1))
     case measure=>have:=WH.out; omega
     case rel=>exact⟨i+1,_,rfl,rfl,by omega,by omega,HE⟩
  ·obtain rfl:i=n:=(by omega);go_upto_region 3 with fail;refine wl<|Zg (ZG rfl (i) (i) dF)<|wn ?_;simp only[pu];have h9:=HR.out.1;rw[List.take_of_length_le (by have:=O6.out; omega)] at h9;have HE:Hid (∃ u,Ending.returned v=.returned u/\WY wr w.heap.size u (Yj (XI cf ht tm) LL)/\Below w.heap.size w wr):=Z8 ⟨v,rfl,own_base h9 HB0.out.size,HB0.out.trans (HR.out.2.mono HB0.out.size)⟩;clear h9 HR;go_upto_region 8 with fail;refine wl<|ZB (v) (v)<|wn ?_;simp only[pu];go_wp2_with fail;go_ret;exact HE.out
end Go.Proofs.YtnelmomagdcmnaaGreat
namespace Go.Proofs.YtnelmomagdcmnaaGreat
open Go.RowKit
abbrev zKy:Nat->Int:=fun _=>0
theorem Am {w:World}{b o:Nat}{k:Nat->Int}(h:w.rangeAt b o (JG k)):(Instr.loadAt 38 (Z7 b o)).run Tryz.prog w=.ok (.agg (Zv k)) w:=run_loadAt_mid w b o 38 (JG k) _ h Tryz.underlying38 rfl (by kernel_rfl)
theorem uy (b off n c k:Nat)(hk:k<n)(V:World)(ρ:Operand->Value)(o:Oper){x y:Operand}(ho:o.op=.indexAddr 47 x y)(hx:ρ x=.slice (some ⟨b,off,none⟩) n c)(hy:ρ y=Z9 k):(execOp ρ o).run Tryz.prog V=.ok (.value (Z7 b (off+k*32))) V:=by
 have hs:(sizeOf (Tryz.prog.elem 47)).run Tryz.prog V=.ok 32 V:=by kernel_rfl
 have hlm:(k:Int)<(n:Int):=by omega
 unfold execOp;simp only[ho,hx,hy];go_simp
theorem aa5 {ρ:Operand->Value}{o:Oper}{x y:Operand}(ho:o.op=.binOp .neq 38 x y 38)(k:Nat->Int)(hx:ρ x=.agg (Zv k))(hy:ρ y=.agg (Zv k))(w:World):(execOp ρ o).run Tryz.prog w=.ok (.value ZY) w:=by
 have h1:=Iz ((List.range 32).map k) ((List.range 32).map k) (by simp) (by simp) w;rw[beq_self_eq_true] at h1;have h2:=Ns;have e:(Op.equalIn 10000 38 (.agg (Zv k)) (.agg (Zv k))).run Tryz.prog w=.ok true w:=h1;unfold execOp;simp only[ho,hx,hy];go_simp
theorem yH {w:World}{a a2:Option Addr}{c c2:Nat}{L:List (Nat->Int)}(h:Cs w a (wX L))(h2:Cs w a2 (wX L))(hl:L.length<=100000):Calls Tryz.prog 18 #[.slice a L.length c,.slice a2 L.length c2] w fun e w'=>e=.returned ZX/\Below w.heap.size w w':=by
 have lS:Hid (∀ V,Below w.heap.size w V->∀ i,i<L.length->∃ b off b2 off2,a=some ⟨b,off,none⟩/\a2=some ⟨b2,off2,none⟩/\V.rangeAt b (off+i*32) (JG (L.getD i zKy))/\V.rangeAt b2 (off2+i*32) (JG (L.getD i zKy))):=Z8 fun V hV i hi=>by
  obtain⟨b,off,h1,-,h3⟩:=Yf JG Hy (by omega) zKy (h.below hV) hi;obtain⟨b2,off2,h4,-,h5⟩:=Yf JG Hy (by omega) zKy (h2.below hV) hi;exact⟨b,off,b2,off2,h1,h4,h3,h5⟩
 obtain⟨n,hn⟩:=ZR L.length;rw[hn] at lS hl ⊢;have HN:=Z8 hl;clear h h2 hl hn;go_enter Tryz.func18,Tryz.ntmps18;go_upto_region 1 with fail;refine wl<|Qc (.slice a n c) (Z9 n) (.slice a2 n c2) (Z9 n)<|Zg (VQ rfl (n) (n) (decide_eq_false (fun h=>h rfl)))<|wn ?_;simp only[pu];go_upto_region 3 with fail;refine wl<|YX (.slice a n c) (Z9 n) (Z9 0)<|wn ?_;simp only[pu];go_wp2_with fail;go_loopg [13] n (fun gg s13 wx=>∃ (i:Nat),s13=Z9 i/\i<=n/\gg+i=n/\Hid (Below w.heap.size w wx))
 case atStart=>exact⟨0,rfl,by omega,by omega,Z8 (Below.refl _ _)⟩
 case round=>
  obtain⟨i,rfl,hin,hg,HR⟩:=hrel;have WH:Hid (gk+i=n):=Z8 hg;clear hg;by_cases hlt:i<n
  ·obtain⟨b,off,b2,off2,hq1,hq2,hr1,hr2⟩:=lS.out wr HR.out i hlt;obtain rfl:=hq1;obtain rfl:=hq2;generalize L.getD i zKy=k at *
   go_upto_region 4 with fail;refine wl<|Zg (ZG rfl (i) (n) dT)<|wn ?_;simp only[pu];go_upto_region 5 with fail;refine wl<|ZB (Z9 i) (Z9 i)<|wn ?_;simp only[pu];go_upto_region 6 with fail;refine ZT (C:=fun U=>Below wr.heap.size wr U) (by kernel_rfl) (by kernel_rfl) ((Below.refl _ wr).drew) ?_;refine gy (.slice (some ⟨b,off,none⟩) n c)<|gy (Z9 i)<|Ze (Z7 b (off+i*32)) (fun U hU=>uy b off n c i hlt U _ _ rfl (by kernel_rfl) (by kernel_rfl))<|Zx rfl ⟨b,off+i*32,none⟩ (.agg (Zv k)) (fun U hU=>Am (ZF hr1 hU)) <|
     gy (.slice (some ⟨b2,off2,none⟩) n c2)<|gy (Z9 i)<|Ze (Z7 b2 (off2+i*32)) (fun U hU=>uy b2 off2 n c2 i hlt U _ _ rfl (by kernel_rfl) (by kernel_rfl))<|Zx rfl ⟨b2,off2+i*32,none⟩ (.agg (Zv k)) (fun U hU=>Am (ZF hr2 hU)) <|
     Ze ZY (fun U hU=>aa5 rfl k (by kernel_rfl) (by kernel_rfl) U) ?_
   simp only[pu];apply wpQuiet_nil;intro V3 TN;have HR2:=Z8 (HR.out.trans (TN.mono HR.out.size));clear TN HR hr1 hr2;go_upto_region 8 with fail;refine wl<|Za (Z9 (i+1:Nat)) (add_one rfl i (by have:=HN.out; omega) (by kernel_rfl) _)<|ZQ (Z9 (i+1:Nat))<|wn ?_;simp only[pu];go_wp2_with fail;go_roundg (n-(i+1))
   case measure=>have:=WH.out; omega
   case rel=>exact⟨i+1,rfl,by omega,by omega,HR2⟩
  ·obtain rfl:i=n:=(by omega);go_upto_region 4 with fail;refine wl<|Zg (ZG rfl (i) (i) dF)<|wn ?_;simp only[pu];go_upto_region 9 with fail;refine wl<|ZQ ZX<|wn ?_;simp only[pu];go_wp2_with fail;go_ret;exact⟨rfl,HR.out⟩
def fI (p:El->Bool):List El->Nat->Option (Nat×El)
 | [],_=>none
 | x::r,i=>if p x=true then some (i,x) else fI p r (i+1)
theorem IC (p:El->Bool):∀ (L:List El) (i:Nat),(fI p L i).map (·.2)=L.find? p
 | [],i=>rfl
 | x::r,i=>by
  unfold fI;rw[List.find?_cons];cases h:p x with
  | true=>simp
  | false=>simpa using IC p r (i+1)
theorem IB {p:El->Bool}:∀ {L:List El} {i:Nat},(∀ x∈L,p x=false)->fI p L i=none
 | [],i,_=>rfl
 | x::r,i,h=>by
  unfold fI;rw[if_neg (by rw[h x (by simp)]; decide)];exact IB fun y hy=>h y (by simp[hy])
theorem Dn {p:El->Bool}{x:El}{B:List El}(hx:p x=true):∀ {A:List El} {i:Nat},(∀ y∈A,p y=false)->fI p (A++x::B) i=some (i+A.length,x)
 | [],i,_=>by simp[fI,hx]
 | y::r,i,h=>by
  rw[List.cons_append,fI,if_neg (by rw[h y (by simp)]; decide),Dn hx fun z hz=>h z (by simp[hz])];simp only[List.length_cons,Option.some.injEq,Prod.mk.injEq,and_true];omega
theorem Tt {α β:Type}(f:α->β):∀ (l:List α) (i:Nat),(l.eraseIdx i).map f=(l.map f).eraseIdx i
 | [],i=>by simp
 | x::r,0=>by simp
 | x::r,i+1=>by simp[Tt f r i]
theorem Jr {α:Type}(A B:List α)(x:α):(A++x::B).eraseIdx A.length=A++B:=by
 rw[List.eraseIdx_append_of_length_le (Nat.le_refl _),Nat.sub_self]; rfl
theorem OO {w:World}{B:Nat}(o:Obj):w.grownBy { w with heap:=w.heap.setIfInBounds B o } (some B):=⟨rfl,rfl,rfl,by simp,fun i _ hi=>by
 have hne:B≠i:=fun e=>hi (by rw[e]);simp[Array.getElem?_setIfInBounds_ne hne]⟩
abbrev RN (x:El):Array Value:=#[Z9 x.h.1,Z9 x.h.2,Z9 x.n]
def pcV (x:El):Value×Value:=(.agg (Zv x.e.k),.agg (RN x))
def aB (x:El):Value×Value:=(Z9 x.n,.agg (Zv x.e.k))
def Jt (w:World)(B:Nat)(L:List El):Prop:=∃ es clock,w.heap[B]?=some (.map es clock)/\es.toList.map (fun e=>(e.key,e.val))=L.map pcV
def LV (w:World)(B:Nat)(L:List El):Prop:=∃ es clock,w.heap[B]?=some (.map es clock)/\es.toList.map (fun e=>(e.key,e.val))=L.map aB/\MapKept.Stamped es clock
section
variable {w w' : World} {B : Nat} {L : List El}
theorem Jt.lt (h:Jt w B L):B<w.heap.size:=by
 obtain⟨es,c,h1,-⟩:=h;exact(Array.getElem?_eq_some_iff.1 h1).1
theorem LV.lt (h:LV w B L):B<w.heap.size:=by
 obtain⟨es,c,h1,-⟩:=h;exact(Array.getElem?_eq_some_iff.1 h1).1
theorem Jt.same (h:Jt w B L)(hs:w'.heap[B]?=w.heap[B]?):Jt w' B L:=by
 obtain⟨es,c,h1,h2⟩:=h;exact⟨es,c,hs.trans h1,h2⟩
theorem LV.same (h:LV w B L)(hs:w'.heap[B]?=w.heap[B]?):LV w' B L:=by
 obtain⟨es,c,h1,h2⟩:=h;exact⟨es,c,hs.trans h1,h2⟩
theorem Jt.new (w:World):Jt (w.alloc (.map #[] 0)) w.heap.size []:=⟨#[],0,heap_alloc_last w _,rfl⟩
theorem LV.new (w:World):LV (w.alloc (.map #[] 0)) w.heap.size []:=⟨#[],0,heap_alloc_last w _,rfl,MapKept.stamped_empty 0⟩
end
theorem yN (w:World)(b:Bool)(A:List Int)(hA:A.length=32):(Instr.checkKey b 10000 38 (.agg (RH A))).run Tryz.prog w=.ok () w:=by
 have hu:(Go.underlying 38).run Tryz.prog w=.ok (.array 32 5) w:=run_underlying (by kernel_rfl) w;have hsz:(sizeOf 5).run Tryz.prog w=.ok 1 w:=by kernel_rfl
 rw[show(10000:Nat)=9999+1 from rfl,Instr.checkKey];simp only[Sem.run_bind,hu,Result.andThen_ok,Std.Legacy.Range.forIn_eq_forIn_range',Std.Legacy.Range.size,Nat.sub_zero,Nat.add_sub_cancel,Nat.div_one];have hl:∀ i∈List.range' 0 32 1,i<32:=fun i hi=>by simpa using(List.mem_range'_1.1 hi).2
 generalize List.range' 0 32 1=l at hl ⊢;induction l with
 | nil=>simp
 | cons i l ih=>
  have hi:i<32:=hl i (by simp);have px:(part 5 (RH A) (i*1)).run Tryz.prog w=.ok (.int .u8 (A.getD i 0)) w:=by
   simp[part,isAgg,run_underlying Tryz.underlying5,List.getD,List.getElem?_eq_getElem (show i<A.length by omega)]
  have pc:(Instr.checkKey b 9999 5 (.int .u8 (A.getD i 0))).run Tryz.prog w=.ok () w:=by
   rw[show(9999:Nat)=9998+1 from rfl,Instr.checkKey];simp[run_underlying Tryz.underlying5]
  simp only[List.forIn_cons,Sem.run_bind,hsz,px,pc,Result.andThen_ok,Sem.run_pure];exact ih fun j hj=>hl j (by simp[hj])
theorem vG (k:Nat->Int):Zv k=RH ((List.range 32).map k):=by kernel_rfl
theorem MP (w:World)(b:Bool)(k:Nat->Int):(Instr.checkKey b 10000 38 (.agg (Zv k))).run Tryz.prog w=.ok () w:=by
 rw[vG]; exact yN w b _ (by simp)
theorem MO (w:World)(b:Bool)(n:Int):(Instr.checkKey b 10000 3 (Z9 n)).run Tryz.prog w=.ok () w:=by
 rw[show(10000:Nat)=9999+1 from rfl,Instr.checkKey];simp[run_underlying Tryz.underlying3]
theorem lQ (a b:Nat->Int)(w:World):(Op.equal 38 (.agg (Zv a)) (.agg (Zv b))).run Tryz.prog w=.ok (keq a b) w:=by
 rw[vG,vG,<- AB];exact Iz _ _ (by simp) (by simp) w
theorem FI (w:World)(k:Nat->Int):∀ (es:List MapEntry) (L:List El) (i:Nat),es.map (fun e=>(e.key,e.val))=L.map pcV ->
  (Instr.findAsking 38 (.agg (Zv k)) es i).run Tryz.prog w=.ok ((fI (fun x=>keq x.e.k k) L i).map fun p=>(p.1,Value.agg (RN p.2))) w
 | [],[],i,_=>by simp[Instr.findAsking,fI]
 | [],_::_,i,h=>by simp at h
 | _::_,[],i,h=>by simp at h
 | e::es,p::L,i,h=>by
  simp only[List.map_cons,List.cons.injEq,pcV,Prod.mk.injEq] at h;obtain⟨⟨h1,h2⟩,h3⟩:=h;have he:(Op.equal 38 (.agg (Zv k)) e.key).run Tryz.prog w=.ok (keq k p.e.k) w:=by
   rw[h1]; exact lQ k p.e.k w
  have ih:=FI w k es L (i+1) h3;unfold fI;rw[Instr.findAsking];cases hx:keq p.e.k k with
  | true=>
   rw[Ls] at hx;simp[he,hx,h2]
  | false=>
   rw[Ls] at hx;simp[he,hx,ih]
theorem Iy (w:World)(k:Nat->Int)(es:List MapEntry)(L:List El)(h:es.map (fun e=>(e.key,e.val))=L.map pcV) :
  (Instr.findKey 38 (.agg (Zv k)) es).run Tryz.prog w=.ok ((fI (fun x=>keq x.e.k k) L 0).map fun p=>(p.1,Value.agg (RN p.2))) w:=by
 have hu:(Go.underlying 38).run Tryz.prog w=.ok (.array 32 5) w:=run_underlying (by kernel_rfl) w;cases es with
 | nil=>
  obtain rfl:L=[]:=by simpa using h.symm
  simp[Instr.findKey,hu,Instr.findNow,fI]
 | cons e es=>
  have hr:=FI w k (e::es) L 0 h;have hn:Instr.findNow (.array 32 5) (.agg (Zv k)) (e::es) 0=none:=by simp[Instr.findNow,Instr.sameNow]
  simp[Instr.findKey,hu,hn,hr]
theorem AA (n:Int):∀ (es:List MapEntry) (L:List El) (i:Nat),es.map (fun e=>(e.key,e.val))=L.map aB ->
  Instr.findNow (TypeDesc.int .i64) (Z9 n) es i=some ((fI (fun x=>decide (x.n=n)) L i).map fun p=>(p.1,Value.agg (Zv p.2.e.k)))
 | [],[],i,_=>by simp[Instr.findNow,fI]
 | [],_::_,i,h=>by simp at h
 | _::_,[],i,h=>by simp at h
 | e::es,p::L,i,h=>by
  simp only[List.map_cons,List.cons.injEq,aB,Prod.mk.injEq] at h;obtain⟨⟨h1,h2⟩,h3⟩:=h;have ih:=AA n es L (i+1) h3;unfold fI;rw[Instr.findNow,h1];simp only[Instr.sameNow];by_cases hx:p.n=n
  ·simp[hx,h2]
  ·have:(n == p.n)=false:=(by simpa using fun h=>hx h.symm);simp[this,hx,ih]
theorem Iw (w:World)(n:Int)(es:List MapEntry)(L:List El)(h:es.map (fun e=>(e.key,e.val))=L.map aB) :
  (Instr.findKey 3 (Z9 n) es).run Tryz.prog w=.ok ((fI (fun x=>decide (x.n=n)) L 0).map fun p=>(p.1,Value.agg (Zv p.2.e.k))) w:=by
 simp[Instr.findKey,run_underlying Tryz.underlying3,AA n es L 0 h]
abbrev MQ:Array Value:=#[Z9 0,Z9 0,Z9 0]
def plV (o:Option El)(b:Bool):Value:=
 match o with
 | some x=>if b then .tuple #[.agg (RN x),ZX] else .agg (RN x)
 | none=>if b then .tuple #[.agg MQ,ZY] else .agg MQ
def keV (o:Option El):Value:=
 match o with
 | some x=>.agg (Zv x.e.k)
 | none=>.agg (Zv fun _=>0)
section
variable {w : World} {B : Nat} {L : List El}
theorem Jt.look (h:Jt w B L)(k:Nat->Int)(b:Bool):(Instr.lookup 89 (.map (some B)) (.agg (Zv k)) b).run Tryz.prog w=.ok (plV (TI k L) b) w:=by
 obtain⟨es,c,hb,he⟩:=h;have hu:(Go.underlying 89).run Tryz.prog w=.ok (.map 38 106) w:=run_underlying (by kernel_rfl) w;have hz:(zeroValue 106).run Tryz.prog w=.ok (.agg MQ) w:=by kernel_rfl
 have hr:=Iy w k es.toList L he;unfold TI;rw[<- IC _ L 0];cases hf:fI (fun x=>keq x.e.k k) L 0 with
 | none=>
  rw[hf] at hr;cases b <;> simp[Instr.lookup,hu,MapKept.run_getObj_map hb,MP w _ k,hr,hz,Result.andThen,plV]
 | some p=>
  rw[hf] at hr;cases b <;> simp[Instr.lookup,hu,MapKept.run_getObj_map hb,MP w _ k,hr,hz,Result.andThen,plV]
theorem LV.look (h:LV w B L)(n:Int):(Instr.lookup 88 (.map (some B)) (Z9 n) false).run Tryz.prog w=.ok (keV (IU n L)) w:=by
 obtain⟨es,c,hb,he,-⟩:=h;have hu:(Go.underlying 88).run Tryz.prog w=.ok (.map 3 38) w:=run_underlying (by kernel_rfl) w;have hz:(zeroValue 38).run Tryz.prog w=.ok (.agg (Zv fun _=>0)) w:=by kernel_rfl
 have hr:=Iw w n es.toList L he;unfold IU;rw[<- IC _ L 0];cases hf:fI (fun x=>decide (x.n=n)) L 0 with
 | none=>
  rw[hf] at hr;simp[Instr.lookup,hu,MapKept.run_getObj_map hb,MO w _ n,hr,hz,Result.andThen,keV]
 | some p=>
  rw[hf] at hr;simp[Instr.lookup,hu,MapKept.run_getObj_map hb,MO w _ n,hr,hz,Result.andThen,keV]
theorem Jt.put (h:Jt w B L)(x:El)(hn:∀ y∈L,keq y.e.k x.e.k=false) :
  ∃ w',(Instr.mapUpdate 89 (.map (some B)) (.agg (Zv x.e.k)) (.agg (RN x))).run Tryz.prog w=.ok () w'/\Jt w' B (L++[x])/\w.grownBy w' (some B):=by
 obtain⟨es,c,hb,he⟩:=h;have hu:(Go.underlying 89).run Tryz.prog w=.ok (.map 38 106) w:=run_underlying (by kernel_rfl) w;have hr:=Iy w x.e.k es.toList L he;rw[IB hn] at hr;have hlt:B<w.heap.size:=(Array.getElem?_eq_some_iff.1 hb).1;exact⟨{ w with heap:=w.heap.setIfInBounds B (.map (es.push { key:=.agg (Zv x.e.k),val:=.agg (RN x),born:=c }) (c+1)) },
  by simp[Instr.mapUpdate,hu,MapKept.run_getObj_map hb,MP w _ x.e.k,hr,MapKept.run_setObj_map _ hb,Result.andThen],⟨es.push { key:=.agg (Zv x.e.k),val:=.agg (RN x),born:=c },c+1,by simp[hlt],by simp[he,pcV]⟩,OO _⟩
theorem LV.put (h:LV w B L)(x:El)(hn:∀ y∈L,y.n≠x.n) :
  ∃ w',(Instr.mapUpdate 88 (.map (some B)) (Z9 x.n) (.agg (Zv x.e.k))).run Tryz.prog w=.ok () w'/\LV w' B (L++[x])/\w.grownBy w' (some B):=by
 obtain⟨es,c,hb,he,hst⟩:=h;have hu:(Go.underlying 88).run Tryz.prog w=.ok (.map 3 38) w:=run_underlying (by kernel_rfl) w;have hr:=Iw w x.n es.toList L he;rw[IB fun y hy=>decide_eq_false (hn y hy)] at hr;have hlt:B<w.heap.size:=(Array.getElem?_eq_some_iff.1 hb).1;refine⟨{ w with heap:=w.heap.setIfInBounds B (.map (es.push { key:=Z9 x.n,val:=.agg (Zv x.e.k),born:=c }) (c+1)) },
  by simp[Instr.mapUpdate,hu,MapKept.run_getObj_map hb,MO w _ x.n,hr,MapKept.run_setObj_map _ hb,Result.andThen],⟨es.push { key:=Z9 x.n,val:=.agg (Zv x.e.k),born:=c },c+1,by simp[hlt],by simp[he,aB],MapKept.stamped_push hst fun y hy e=>?_⟩,OO _⟩
 have hm:(y.key,y.val)∈L.map aB:=by rw[<- he]; exact List.mem_map.2 ⟨y,hy,rfl⟩
 obtain⟨q,hq,hq2⟩:=List.mem_map.1 hm;have h3:Value.int .i64 q.n=y.key:=congrArg Prod.fst hq2;rw[e] at h3;simp only[Value.int.injEq,true_and] at h3;exact hn q hq h3
theorem Jt.del {A C:List El}{x:El}(h:Jt w B (A++x::C))(k:Nat->Int)(hx:keq x.e.k k=true)(hn:∀ y∈A,keq y.e.k k=false)(ty:TypeId) :
  ∃ w',(Builtin.delete_ #[89,38] ty #[.map (some B),.agg (Zv k)]).run Tryz.prog w=.ok (.tuple #[]) w'/\Jt w' B (A++C)/\w.grownBy w' (some B):=by
 obtain⟨es,c,hb,he⟩:=h;have hu:(Go.underlying 89).run Tryz.prog w=.ok (.map 38 106) w:=run_underlying (by kernel_rfl) w;have hr:=Iy w k es.toList _ he;rw[Dn hx hn,Nat.zero_add] at hr;have hlt:B<w.heap.size:=(Array.getElem?_eq_some_iff.1 hb).1;have hlen:es.size=A.length+(C.length+1):=by
  have:=congrArg List.length he;simpa using this
 refine⟨{ w with heap:=w.heap.setIfInBounds B (.map (es.eraseIdxIfInBounds A.length) c) },by simp[Builtin.delete_,hu,MapKept.run_getObj_map hb,MP w _ k,hr,MapKept.run_setObj_map _ hb,Result.andThen],⟨es.eraseIdxIfInBounds A.length,c,by simp[hlt],?_⟩,OO _⟩;have hin:A.length<es.size:=by omega
 rw[Array.eraseIdxIfInBounds,dif_pos hin,Array.toList_eraseIdx,Tt,he,<- Tt,Jr]
theorem LV.del {A C:List El}{x:El}(h:LV w B (A++x::C))(hn:∀ y∈A,y.n≠x.n)(ty:TypeId) :
  ∃ w',(Builtin.delete_ #[88,3] ty #[.map (some B),Z9 x.n]).run Tryz.prog w=.ok (.tuple #[]) w'/\LV w' B (A++C)/\w.grownBy w' (some B):=by
 obtain⟨es,c,hb,he,hst⟩:=h;have hu:(Go.underlying 88).run Tryz.prog w=.ok (.map 3 38) w:=run_underlying (by kernel_rfl) w;have hr:=Iw w x.n es.toList _ he;rw[Dn (decide_eq_true rfl) fun y hy=>decide_eq_false (hn y hy),Nat.zero_add] at hr;have hlt:B<w.heap.size:=(Array.getElem?_eq_some_iff.1 hb).1;have hlen:es.size=A.length+(C.length+1):=by
  have:=congrArg List.length he;simpa using this
 refine⟨{ w with heap:=w.heap.setIfInBounds B (.map (es.eraseIdxIfInBounds A.length) c) },by simp[Builtin.delete_,hu,MapKept.run_getObj_map hb,MO w _ x.n,hr,MapKept.run_setObj_map _ hb,Result.andThen],⟨es.eraseIdxIfInBounds A.length,c,by simp[hlt],?_,MapKept.stamped_erase hst _⟩,OO _⟩;have hin:A.length<es.size:=by omega
 rw[Array.eraseIdxIfInBounds,dif_pos hin,Array.toList_eraseIdx,Tt,he,<- Tt,Jr]
end
end Go.Proofs.YtnelmomagdcmnaaGreat
namespace Go.Proofs.YtnelmomagdcmnaaGreat
open Go.RowKit Go.Maps Go.Sort Go.Shelf
def Jf:Go.Shelf.Ren:=⟨fun | 7=>42 | 10=>73 | n=>n,fun | 23=>88 | 26=>3 | 3=>38 | 28=>86 | 0=>0 | 27=>85 | 33=>122 | 4=>4 | n=>n,fun | n=>n⟩
theorem eu:Go.Proofs.SlLaysZI.n7 Tryz.prog Jf:={
  mixed:=by kernel_rfl
  f7:=⟨Tryz.f42.name,by decide,Tryz.func42.trans (congrArg some (by kernel_rfl))⟩
  f10:=⟨Tryz.f73.name,by decide,Tryz.func73.trans (congrArg some (by kernel_rfl))⟩
  t0:=Tryz.underlying0
  a0:=Tryz.isAgg0
  z0:=Tryz.sizeOf0
  v0:=Tryz.zeroValue0
  t4:=Tryz.underlying4
  a4:=Tryz.isAgg4
  z4:=Tryz.sizeOf4
  v4:=Tryz.zeroValue4
  t23:=Tryz.underlying88
  a23:=Tryz.isAgg88
  z23:=Tryz.sizeOf88
  v23:=Tryz.zeroValue88
  t26:=Tryz.underlying3
  a26:=Tryz.isAgg3
  z26:=Tryz.sizeOf3
  v26:=Tryz.zeroValue3
  t27:=Tryz.underlying85
  a27:=Tryz.isAgg85
  z27:=Tryz.sizeOf85
  v27:=Tryz.zeroValue85
  t28:=Tryz.underlying86
  a28:=Tryz.isAgg86
  z28:=Tryz.sizeOf86
  v28:=Tryz.zeroValue86
  t33:=Tryz.underlying122
  a33:=Tryz.isAgg122
  z33:=Tryz.sizeOf122
  v33:=Tryz.zeroValue122 }
def Nr:Go.Shelf.Ren:=⟨fun | 6=>41 | 8=>71 | 9=>72 | 11=>101 | 13=>103 | 12=>102 | 23=>132 | 24=>133 | 14=>123 | 15=>124 | 16=>125 | 17=>126 | 18=>127 | 19=>128 | 20=>129 | 21=>130 | 22=>131 | 25=>148 | 26=>149 | 27=>150 | 28=>151 | 29=>152 | 30=>143 | 31=>158 | n=>n,fun | 26=>3 | 28=>86 | 24=>22 | 0=>0 | 3=>3 | 37=>185 | 48=>175 | 50=>23 | 4=>4 | 40=>210 | 39=>209 | 45=>162 | 5=>5 | 9=>9 | 51=>226 | 55=>190 | 57=>235 | 58=>236 | 33=>122 | n=>n,fun | n=>n⟩
theorem jP:Go.Proofs.SlLaysZI.n6 Tryz.prog Nr:={
  mixed:=by kernel_rfl
  f6:=⟨Tryz.f41.name,by decide,Tryz.func41.trans (congrArg some (by kernel_rfl))⟩
  f8:=⟨Tryz.f71.name,by decide,Tryz.func71.trans (congrArg some (by kernel_rfl))⟩
  f11:=⟨Tryz.f101.name,by decide,Tryz.func101.trans (congrArg some (by kernel_rfl))⟩
  t0:=Tryz.underlying0
  a0:=Tryz.isAgg0
  z0:=Tryz.sizeOf0
  v0:=Tryz.zeroValue0
  t24:=Tryz.underlying22
  a24:=Tryz.isAgg22
  z24:=Tryz.sizeOf22
  v24:=Tryz.zeroValue22
  t26:=Tryz.underlying3
  a26:=Tryz.isAgg3
  z26:=Tryz.sizeOf3
  v26:=Tryz.zeroValue3
  t28:=Tryz.underlying86
  a28:=Tryz.isAgg86
  z28:=Tryz.sizeOf86
  v28:=Tryz.zeroValue86
  i26:=by kernel_rfl }
def SV:Go.Shelf.Ren:=⟨fun | 5=>72 | 8=>103 | 7=>102 | 19=>132 | 20=>133 | 10=>123 | 11=>124 | 12=>125 | 13=>126 | 14=>127 | 15=>128 | 16=>129 | 17=>130 | 18=>131 | 30=>148 | 31=>149 | 32=>150 | 33=>151 | 34=>152 | 35=>143 | 40=>158 | n=>n,fun | 23=>22 | 25=>3 | 3=>3 | 32=>185 | 22=>22 | 0=>0 | 44=>175 | 46=>23 | 4=>4 | 36=>210 | 35=>209 | 41=>162 | 5=>5 | 9=>9 | 53=>226 | 57=>190 | 63=>235 | 64=>236 | n=>n,fun | n=>n⟩
theorem Nq:Go.Proofs.SlLaysM.n5 Tryz.prog SV:={
  mixed:=by kernel_rfl
  f5:=⟨Tryz.f72.name,by decide,Tryz.func72.trans (congrArg some (by kernel_rfl))⟩
  f7:=⟨Tryz.f102.name,by decide,Tryz.func102.trans (congrArg some (by kernel_rfl))⟩
  f8:=Tryz.func103.trans (congrArg some (by kernel_rfl))
  f10:=⟨Tryz.f123.name,by decide,Tryz.func123.trans (congrArg some (by kernel_rfl))⟩
  f11:=⟨Tryz.f124.name,by decide,Tryz.func124.trans (congrArg some (by kernel_rfl))⟩
  f12:=⟨Tryz.f125.name,by decide,Tryz.func125.trans (congrArg some (by kernel_rfl))⟩
  f13:=⟨Tryz.f126.name,by decide,Tryz.func126.trans (congrArg some (by kernel_rfl))⟩
  f14:=⟨Tryz.f127.name,by decide,Tryz.func127.trans (congrArg some (by kernel_rfl))⟩
  f15:=⟨Tryz.f128.name,by decide,Tryz.func128.trans (congrArg some (by kernel_rfl))⟩
  f16:=⟨Tryz.f129.name,by decide,Tryz.func129.trans (congrArg some (by kernel_rfl))⟩
  f17:=⟨Tryz.f130.name,by decide,Tryz.func130.trans (congrArg some (by kernel_rfl))⟩
  f18:=⟨Tryz.f131.name,by decide,Tryz.func131.trans (congrArg some (by kernel_rfl))⟩
  f19:=Tryz.func132.trans (congrArg some (by kernel_rfl))
  f20:=Tryz.func133.trans (congrArg some (by kernel_rfl))
  f30:=⟨Tryz.f148.name,by decide,Tryz.func148.trans (congrArg some (by kernel_rfl))⟩
  f31:=Tryz.func149.trans (congrArg some (by kernel_rfl))
  f32:=Tryz.func150.trans (congrArg some (by kernel_rfl))
  f33:=⟨Tryz.f151.name,by decide,Tryz.func151.trans (congrArg some (by kernel_rfl))⟩
  f34:=⟨Tryz.f152.name,by decide,Tryz.func152.trans (congrArg some (by kernel_rfl))⟩
  f35:=⟨Tryz.f143.name,by decide,Tryz.func143.trans (congrArg some (by kernel_rfl))⟩
  f40:=⟨Tryz.f158.name,by decide,Tryz.func158.trans (congrArg some (by kernel_rfl))⟩
  t0:=Tryz.underlying0
  a0:=Tryz.isAgg0
  z0:=Tryz.sizeOf0
  v0:=Tryz.zeroValue0
  t3:=Tryz.underlying3
  a3:=Tryz.isAgg3
  z3:=Tryz.sizeOf3
  v3:=Tryz.zeroValue3
  t4:=Tryz.underlying4
  a4:=Tryz.isAgg4
  z4:=Tryz.sizeOf4
  v4:=Tryz.zeroValue4
  t5:=Tryz.underlying5
  a5:=Tryz.isAgg5
  z5:=Tryz.sizeOf5
  v5:=Tryz.zeroValue5
  t9:=Tryz.underlying9
  a9:=Tryz.isAgg9
  z9:=Tryz.sizeOf9
  v9:=Tryz.zeroValue9
  t22:=Tryz.underlying22
  a22:=Tryz.isAgg22
  z22:=Tryz.sizeOf22
  v22:=Tryz.zeroValue22
  t23:=Tryz.underlying22
  a23:=Tryz.isAgg22
  z23:=Tryz.sizeOf22
  v23:=Tryz.zeroValue22
  t25:=Tryz.underlying3
  a25:=Tryz.isAgg3
  z25:=Tryz.sizeOf3
  v25:=Tryz.zeroValue3
  t32:=Tryz.underlying185
  a32:=Tryz.isAgg185
  z32:=Tryz.sizeOf185
  v32:=Tryz.zeroValue185
  t35:=Tryz.underlying209
  a35:=Tryz.isAgg209
  z35:=Tryz.sizeOf209
  v35:=Tryz.zeroValue209
  t36:=Tryz.underlying210
  a36:=Tryz.isAgg210
  z36:=Tryz.sizeOf210
  v36:=Tryz.zeroValue210
  t41:=Tryz.underlying162
  a41:=Tryz.isAgg162
  z41:=Tryz.sizeOf162
  v41:=Tryz.zeroValue162
  t44:=Tryz.underlying175
  a44:=Tryz.isAgg175
  z44:=Tryz.sizeOf175
  v44:=Tryz.zeroValue175
  t46:=Tryz.underlying23
  a46:=Tryz.isAgg23
  z46:=Tryz.sizeOf23
  v46:=Tryz.zeroValue23
  t53:=Tryz.underlying226
  a53:=Tryz.isAgg226
  z53:=Tryz.sizeOf226
  v53:=Tryz.zeroValue226
  t57:=Tryz.underlying190
  a57:=Tryz.isAgg190
  z57:=Tryz.sizeOf190
  v57:=Tryz.zeroValue190
  t63:=Tryz.underlying235
  a63:=Tryz.isAgg235
  z63:=Tryz.sizeOf235
  v63:=Tryz.zeroValue235
  t64:=Tryz.underlying236
  a64:=Tryz.isAgg236
  z64:=Tryz.sizeOf236
  v64:=Tryz.zeroValue236 }
theorem rV (m:Nat):AnyZI.SortsIn Tryz.prog Nr Fence.wide m:=
  ⟨fun blk off cap ss W hH hblk hsz=>callsIn_wide.2 (AnyM.slices_Sort_int Nq blk off cap ss W hH hblk hsz),
   fun p cap W=>callsIn_wide.2 (AnyM.slices_Sort_int_none Nq p cap W)⟩
theorem yO (mb:Option Nat)(W:World):CallsIn Fence.wide 5 Tryz.prog 42 #[.map mb] W fun e w'=>e=.returned (.func (.func 73) #[] #[Z7 W.heap.size 0])/\w'=W.alloc (.cells #[.map mb] 88):=
  AnyZI.keys_in eu Fence.wide 5 trivial rfl mb W
theorem FK {H:Type}(b nn:Nat)(D0:DataW H)(R:Value->Option (DataW H×List MemPlace))(w:World)(hown:w.ownsMap Tryz.prog 3 R b nn D0)(hmax:Maps.size D0<=maxLen)(hbytes:Maps.size D0*8<=140737488355328) :
    CallsIn Fence.wide 5 Tryz.prog 41 #[.func (.func 73) #[] #[Z7 w.heap.size 0]] (w.alloc (.cells #[.map (some b)] 88)) fun e w'=>∃ (v:Value) (ss:List Int),e=.returned v/\ss.Perm (intKeys D0) /\
      w'.ownsRow (w.alloc (.cells #[.map (some b)] 88)).heap.size 3 1 v ss.length ((ss.mergeSort (fun x y=>decide (x<=y))).map encZ)/\(v=.slice none 0 0↔ss=[])/\Below (w.alloc (.cells #[.map (some b)] 88)).heap.size (w.alloc (.cells #[.map (some b)] 88)) w':=by
  have hbl:=hown.lt;have hseq:SeqGives Fence.wide 2 Tryz.prog 73 #[Z7 w.heap.size 0] encZ (fun ss=>ss.Perm (intKeys D0)) (Maps.size D0) (w.alloc (.cells #[.map (some b)] 88)):=
    AnyZI.keys_gives (ρ:=Jf) { eu with } Fence.wide _ trivial rfl (by omega) w.heap.size b nn D0 _ (by simp) (by simp) (by
      obtain⟨es,clock,hb,Ft,hs,hD⟩:=hown;exact⟨es,clock,(Below.heap_alloc _ _ b hbl).trans hb,Ft,hs,hD⟩)
  exact AnyZI.sorted_in jP Fence.wide 5 trivial trivial trivial trivial rfl (by omega) (rV _) (enters_of Tryz.func72 (by kernel_rfl) rfl) 73 #[Z7 w.heap.size 0] trivial (enters_of Tryz.func73 (by kernel_rfl) rfl) _ _ hmax hbytes _ hseq
end Go.Proofs.YtnelmomagdcmnaaGreat
namespace Go.Proofs.YtnelmomagdcmnaaGreat
open Go.RowKit Go.Maps Go.Sort Go.Shelf Go.WideMaps Go.WideShapes
def RU:Value->Option (DataW Unit×List MemPlace):=fun _=>some (.nil,[])
def Rl (w:World)(B:Nat)(v:Value)(L:List Int):Prop:=w.ownsRow B 3 1 v L.length (ZJ L)
structure KyO (w:World)(B nn:Nat)(D0:DataW Unit)(N:List Int):Prop where
 own:w.ownsMap Tryz.prog 3 RU B nn D0
 siz:Maps.size D0<=1000
 aC:(intKeys D0).Perm N
theorem LV.own {w:World}{B:Nat}{L:List El}(h:LV w B L)(hb:∀ x∈L,0<=x.n/\x.n<1000000)(hl:L.length<=1000):∃ nn D0,KyO w B nn D0 (L.map El.n):=by
 obtain⟨es,c,h1,he,hst⟩:=h;have hlen:es.size=L.length:=by
  have:=congrArg List.length he;simpa using this
 have hkey:∀ x∈es.toList,∃ n,x.key=Z9 n/\0<=n/\n<1000000:=fun x hx=>by
  have h1:(x.key,x.val)∈L.map aB:=by rw[<- he]; exact List.mem_map.2 ⟨x,hx,rfl⟩
  obtain⟨p,hp,hp2⟩:=List.mem_map.1 h1;exact⟨p.n,(congrArg Prod.fst hp2).symm,hb p hp⟩
 have hrd:∀ x∈es.toList,∀ n,x.key=Z9 n->0<=n->n<1000000->WideElems.rd Tryz.prog 3 RU x=some (Lit.int .i64 n,.nil):=fun x hx n hn h0 hs=>by
  have hw:(Lit.int .i64 n).wf=true:=by simp[Lit.wf,IntKind.min,IntKind.max,IntKind.bits,IntKind.signed]; omega
  unfold WideElems.rd;rw[hn,keyOf_int_mk Tryz.underlying3 hw];rfl
 refine⟨es.size,_,⟨⟨es,c,h1,⟨by unfold maxLen; omega,hst,fun x hx=>by
  obtain⟨n,h1,h2,h3⟩:=hkey x hx;exact⟨_,hrd x hx n h1 h2 h3⟩⟩,Nat.le_refl _,rfl⟩,?_,?_⟩⟩
 ·rw[Maps.size_eq,(sorted_perm _).length_eq,List.length_map,Array.length_toList];omega
 ·refine((sorted_perm _).map _).trans ?_;rw[List.map_map];have h1:es.toList.map ((fun p=>Go.intOf p.1) ∘ WideElems.rg Tryz.prog 3 RU)=(es.toList.map fun e=>(e.key,e.val)).map fun q=>match q.1 with | .int _ a=>a | _=>0:=by
   rw[List.map_map];refine List.map_congr_left fun x hx=>?_;obtain⟨n,h2,h3,h4⟩:=hkey x hx;show Go.intOf (WideElems.rg Tryz.prog 3 RU x).1=_;unfold WideElems.rg;rw[hrd x hx n h2 h3 h4];show n=match x.key with | .int _ a=>a | _=>0
   rw[h2]
  rw[h1,he,List.map_map];exact List.Perm.refl _
theorem yP {ss:List Int}{D0:DataW Unit}{L:List El}(hs:L.Pairwise fun a b=>a.n<b.n)(h1:ss.Perm (intKeys D0))(h2:(intKeys D0).Perm (L.map El.n)):ss.mergeSort (fun x y=>decide (x<=y))=L.map El.n:=by
 refine(mergeSort_of_perm_i (h1.trans h2)).trans (List.mergeSort_of_pairwise ?_);rw[List.pairwise_map];exact hs.imp fun h=>decide_eq_true (Int.le_of_lt h)
abbrev kyW (w:World)(B:Nat):World:=w.alloc (.cells #[.map (some B)] 88)
abbrev kyF (w:World):Value:=.func (.func 73) #[] #[Z7 w.heap.size 0]
theorem aU (w:World)(B:Nat):Calls Tryz.prog 42 #[.map (some B)] w fun e w'=>e=.returned (kyF w)/\w'=kyW w B:=callsIn_wide.1 (yO (some B) w)
theorem mG {w:World}{B:Nat}{L:List El}(h:LV w B L)(hs:L.Pairwise fun a b=>a.n<b.n)(hb:∀ x∈L,0<=x.n/\x.n<1000000)(hl:L.length<=1000) :
  Calls Tryz.prog 41 #[kyF w] (kyW w B) fun e w'=>∃ v,e=.returned v/\Rl w' w.heap.size v (L.map El.n)/\Below w.heap.size w w':=by
 obtain⟨nn,D0,hO⟩:=h.own hb hl;refine(callsIn_wide.1 (FK B nn D0 RU w hO.own (by have:=hO.siz; unfold maxLen; omega) (by have:=hO.siz; omega))).mono fun e w' z=>?_;obtain⟨v,ss,rfl,z1,z2,-,z3⟩:=z;refine⟨v,rfl,?_,((Below.refl _ w).alloc (Nat.le_refl _) _).trans (z3.mono (by simp))⟩;rw[yP hs z1 hO.aC] at z2;have hlen:ss.length=(L.map El.n).length:=(z1.trans hO.aC).length_eq;rw[hlen] at z2;exact own_base z2 (by simp)
end Go.Proofs.YtnelmomagdcmnaaGreat
namespace Go.Proofs.YtnelmomagdcmnaaGreat.Sl
open Go.RowKit
def hdp (mo fr ln bt:Int)(a:Option Addr)(n c:Nat):Array Value:=#[Z9 mo,.slice a n c,Z9 fr,Z9 ln,Z9 bt]
def Sp (g:Nat)(a:Option Addr)(T:List Sn)(k:Nat):Prop:=k=g∨(∃ x,a=some x/\x.block=k)∨∃ i,i<T.length/\EB (T.getD i Xx).e (T.getD i Xx).d k
structure Mp (w:World)(g:Nat)(a:Option Addr)(c:Nat)(T:List Sn)(mo fr ln bt:Int):Prop where
 bx:Bx w g (hdp mo fr ln bt a T.length c) 147
 row:w.ownsRow 0 144 44 (.slice a T.length c) T.length (T.flatMap Qp)
 en:∀ i,i<T.length->Vh w (T.getD i Xx).e (T.getD i Xx).d
 dg:∀ x,a=some x->x.block≠g
 de:∀ i k,i<T.length->EB (T.getD i Xx).e (T.getD i Xx).d k->k≠g/\∀ x,a=some x->x.block≠k
section
variable {w w' : World} {g : Nat} {a : Option Addr} {c : Nat} {T : List Sn} {mo fr ln bt : Int}
theorem Mp.inn (h:Mp w g a c T mo fr ln bt):∀ k,Sp g a T k->k<w.heap.size:=fun k hk=>by
 rcases hk with rfl | ⟨x,hx,rfl⟩ | ⟨i,hi,hk⟩
 ·exact h.bx.lt
 ·exact(h.row.lt x.block (by rw[hx]; rfl)).2
 ·exact(h.en i hi).lt k hk
theorem Mp.same (h:Mp w g a c T mo fr ln bt)(hs:∀ k,Sp g a T k->w'.heap[k]?=w.heap[k]?):Mp w' g a c T mo fr ln bt:=
 ⟨(hs g (.inl rfl)).trans h.bx,WX h.row fun x hx=>hs _ (.inr (.inl ⟨x,hx,rfl⟩)),fun i hi=>(h.en i hi).same fun k hk=>hs k (.inr (.inr ⟨i,hi,hk⟩)),h.dg,h.de⟩
theorem Mp.below (h:Mp w g a c T mo fr ln bt)(hb:Below w.heap.size w w'):Mp w' g a c T mo fr ln bt:=h.same fun k hk=>hb.block k (h.inn k hk)
theorem Mp.rg (h:Mp w g a c T mo fr ln bt){i:Nat}(hi:i<T.length):∃ b,a=some ⟨b,0,none⟩/\w.rangeAt b (0+i*44) (Qp (T.getD i Xx)):=by
 obtain⟨a2,c2,e,hcs,-⟩:=Yy h.row;obtain⟨b,off,e2,-,hr⟩:=Yf Qp Cc (by omega) Xx hcs hi;rcases h.row.2 with⟨e0,-⟩ | ⟨g2,cap,cur,e0,-⟩
 ·simp only[Value.slice.injEq] at e0 e;rw[e2] at e;rw[e.1] at e0;cases e0.1
 ·simp only[Value.slice.injEq] at e0 e;refine⟨g2,e0.1,?_⟩;rw[e0.1,e2] at e;have e3:=e.1;simp only[Option.some.injEq,Addr.mk.injEq,and_true] at e3;obtain⟨rfl,rfl⟩:=e3;exact hr
end
structure Gm (Bd g:Nat)(a:Option Addr)(T:List Sn)(w:World)(a':Option Addr)(c':Nat)(T':List Sn)(mo fr ln bt:Int)(w':World):Prop where
 mem:Mp w' g a' c' T' mo fr ln bt
 sub:∀ k,Sp g a' T' k->Sp g a T k∨w.heap.size<=k
 but:ZL Bd (Sp g a T) w w'
section
variable {w w1 w2 : World} {Bd g : Nat} {a a1 a2 : Option Addr} {c c1 c2 : Nat} {T T1 T2 : List Sn} {mo dY mo2 fr ln bt Pm rU rQ fr2 ln2 bt2 : Int}
theorem Gm.trans (h:Gm Bd g a T w a1 c1 T1 dY Pm rU rQ w1)(k:Gm Bd g a1 T1 w1 a2 c2 T2 mo2 fr2 ln2 bt2 w2):Gm Bd g a T w a2 c2 T2 mo2 fr2 ln2 bt2 w2:=
 ⟨k.mem,fun x hx=>(k.sub x hx).elim (h.sub x) (fun h2=>.inr (Nat.le_trans h.but.1.size h2)),h.but.trans k.but h.sub⟩
theorem Gm.base (h:Gm Bd g a T w a1 c1 T1 dY Pm rU rQ w1)(hB:∀ k,Sp g a T k->Bd<=k)(hw:Bd<=w.heap.size):∀ k,Sp g a1 T1 k->Bd<=k:=fun k hk=>(h.sub k hk).elim (hB k) (Nat.le_trans hw)
theorem Gm.below (h:Mp w g a c T mo fr ln bt)(hb:Below w.heap.size w w1)(hw:Bd<=w.heap.size):Gm Bd g a T w a c T mo fr ln bt w1:=⟨h.below hb,fun k hk=>.inl hk,ZL.of_below hb hw⟩
theorem Gm.num (h:Mp w g a c T mo fr ln bt)(hB:∀ k,Sp g a T k->Bd<=k)(i:Nat)(v:Int)(Pm rU rQ:Int)(hi:i<5)(hc:(hdp mo fr ln bt a T.length c).setIfInBounds i (Z9 v)=hdp mo Pm rU rQ a T.length c):∃ V,(Instr.storeAt 3 (Z7 g i) (Z9 v)).run Tryz.prog w=.ok () V/\Gm Bd g a T w a c T mo Pm rU rQ V:=by
 obtain⟨V,hst,hX,hbt⟩:=Xo (i:=i) (ty:=3) (v:=Z9 v) _ h.bx hi hc rfl (by kernel_rfl);refine⟨V,hst,⟨hX,WX h.row fun x hx=>hbt.2 _ (h.inn _ (.inr (.inl ⟨x,hx,rfl⟩))) (h.dg x hx),fun j hj=>(h.en j hj).same fun k hk=>hbt.2 k ((h.en j hj).lt k hk) (h.de j k hj hk).1,h.dg,h.de⟩,fun k hk=>.inl hk,hbt.1.mono (hB g (.inl rfl)),fun k hk hn=>hbt.2 k hk fun e=>hn (.inl e)⟩
theorem Gm.el (h:Mp w g a c T mo fr ln bt)(hB:∀ k,Sp g a T k->Bd<=k)(hw:Bd<=w.heap.size)(hb:Below w.heap.size w w1){b:Nat}(ha:a=some ⟨b,0,none⟩){i o:Nat}(hi:i<T.length){y:Sn}{vs:List Value}(ho:o+vs.length<=44)
  (hy:(Qp (T.getD i Xx)).take o++vs++(Qp (T.getD i Xx)).drop (o+vs.length)=Qp y) (he:Vh w1 y.e y.d) (hk:∀ k,EB y.e y.d k->EB (T.getD i Xx).e (T.getD i Xx).d k∨w.heap.size<=k):Gm Bd g a T w a c (T.set i y) mo fr ln bt (w1.setCells b (i*44+o) vs):=by
 subst ha;have h1:=h.below hb;have hbt:But b w1 (w1.setCells b (i*44+o) vs):=Vl vs _ w1;have hSb:Sp g (some ⟨b,0,none⟩) T b:=.inr (.inl ⟨_,rfl,rfl⟩);have hBS:ZL Bd (Sp g (some ⟨b,0,none⟩) T) w1 (w1.setCells b (i*44+o) vs):=ZL.sets (hB b hSb) hSb vs _ w1;have hgb:g≠b:=fun e=>h.dg _ rfl e.symm;have hlen:(T.set i y).length=T.length:=List.length_set;have hyk:∀ k,EB y.e y.d k->k≠g/\b≠k:=fun k hk2=>by
  rcases hk k hk2 with h2 | h2
  ·exact⟨(h.de i k hi h2).1,(h.de i k hi h2).2 _ rfl⟩
  ·have q1:=h.inn g (.inl rfl);have q2:=h.inn b hSb;exact⟨by omega,by omega⟩
 have hcase:∀ (X:Sn->Prop),X y->(∀ j,j<T.length->j≠i->X (T.getD j Xx))->∀ j,j<(T.set i y).length->X ((T.set i y).getD j Xx):=fun X x1 x2 j hj=>by
  rw[hlen] at hj;by_cases hij:i=j
  ·subst hij; rw[YK _ _ _ _ hi]; exact x1
  ·rw[Xn _ _ _ _ _ hij]; exact x2 j hj (Ne.symm hij)
 refine⟨⟨?_,?_,?_,h.dg,?_⟩,?_,(ZL.of_below hb hw).trans' hBS⟩
 ·rw[hlen];exact h1.bx.but hbt hgb
 ·rw[hlen];exact sK Qp Cc Xx h1.row hi ho hy
 ·refine hcase (fun x=>Vh _ x.e x.d) (he.but hbt fun q=>(hyk b q).2 rfl) fun j hj _=>(h1.en j hj).but hbt fun q=>(h.de j b hj q).2 _ rfl rfl
 ·intro j k hj hk2;have:=hcase (fun x=>∀ k,EB x.e x.d k->k≠g/\b≠k) hyk (fun j hj _ k q=>⟨(h.de j k hj q).1,(h.de j k hj q).2 _ rfl⟩) j hj k hk2;exact⟨this.1,fun x hx=>by cases hx; exact this.2⟩
 ·rintro k (rfl | h2 | ⟨j,hj,h2⟩)
  ·exact .inl (.inl rfl)
  ·exact .inl (.inr (.inl h2))
  ·refine hcase (fun x=>∀ k,EB x.e x.d k->Sp g (some ⟨b,0,none⟩) T k∨w.heap.size<=k) (fun k q=>(hk k q).imp (fun q=>.inr (.inr ⟨i,hi,q⟩)) id) (fun j hj _ k q=>.inl (.inr (.inr ⟨j,hj,q⟩))) j hj k h2
theorem rO (h:Mp w g a c T mo fr ln bt){b:Nat}(ha:a=some ⟨b,0,none⟩){i o:Nat}(hi:i<T.length){ty:TypeId}(cells:Array Value)(ho:o+cells.size<=44)(hz:(Tryz.prog.info? ty).map (·.size)=some cells.size)(h1:cells.all (·.oneCell')=true){q:Nat}(hq:q=i*44+o):(Instr.storeAt ty (Z7 b q) (.agg cells)).run Tryz.prog w=.ok () (w.setCells b (i*44+o) cells.toList):=by
 subst ha;rw[hq];exact run_storeAt_mid (P:=Tryz.prog) w b (i*44+o) ty cells (yu Qp Cc h.row rfl hi ho) hz h1
theorem ad2 (h:Mp w g a c T mo fr ln bt){b:Nat}(ha:a=some ⟨b,0,none⟩){i o:Nat}(hi:i<T.length){ty:TypeId}(v:Value)(ho:o<44)(hz:(Tryz.prog.info? ty).map (·.size)=some 1)(h1:v.oneCell'=true){q:Nat}(hq:q=i*44+o):(Instr.storeAt ty (Z7 b q) v).run Tryz.prog w=.ok () (w.setCells b (i*44+o) [v]):=by
 subst ha;rw[hq];obtain⟨cur,hcur,hsz,-,-⟩:=XK h.row;refine YT hcur ?_ h1 hz;have:=Nat.mul_le_mul_right 44 (show i+1<=T.length from hi);omega
theorem Gm.push (h:Mp w g a c T mo fr ln bt)(hB:∀ k,Sp g a T k->Bd<=k)(hw:Bd<=w.heap.size)(hn:T.length<=100000) :
  ∃ a1 c1 V V2,(Builtin.append_ #[145,145] 145 #[.slice a T.length c,.slice (some ⟨w.heap.size,0,none⟩) 1 1]).run Tryz.prog (w.alloc (.cells (Ce Xx) 144))=.ok (.slice a1 (T.length+1) c1) V/\(Instr.storeAt 145 (Z7 g 1) (.slice a1 (T.length+1) c1)).run Tryz.prog V=.ok () V2/\Gm Bd g a T w a1 c1 (T++[Xx]) mo fr ln bt V2:=by
 have hb:Below w.heap.size w (w.alloc (.cells (Ce Xx) 144)):=(Below.refl _ w).alloc (Nat.le_refl _) _;have hX:Bx (w.alloc (.cells (Ce Xx) 144)) w.heap.size (Ce Xx) 144:=heap_alloc_last w _;have hsz:(w.alloc (.cells (Ce Xx) 144)).heap.size=w.heap.size+1:=by simp
 generalize w.alloc (.cells (Ce Xx) 144)=w1 at *
 have h1:=h.below hb;obtain⟨v,V,hr,hO,hg,hat⟩:=Hr (P:=Tryz.prog) (t:=145) (by kernel_rfl) sH (by kernel_rfl) (by omega) (by omega) h1.row w.heap.size (Qp Xx) (Cs.block hX) rfl (jX Xx) (Nat.zero_le _) hn;obtain⟨a1,c1,rfl,-,-⟩:=Yy hO;have X0:∀ y,a1=some y->(∃ x,a=some x/\x.block=y.block)∨y.block=w1.heap.size:=fun y hy=>by
  subst hy;rcases hat with e | e
  ·cases a with
   | none=>cases e
   | some x=>exact .inl ⟨x,rfl,by simpa [Value.ownBlock] using e.symm⟩
  ·exact .inr (by simpa [Value.ownBlock] using e)
 have hgr:∀ k,k<w1.heap.size->(∀ x,a=some x->x.block≠k)->V.heap[k]?=w1.heap[k]?:=fun k hk hx=>hg.block k hk fun e=>by
  cases a with
  | none=>cases e
  | some x=>exact hx x rfl (by simpa [Value.ownBlock] using e.symm)
 have hgw:g<w.heap.size:=h.bx.lt;have rG:Bx V g (hdp mo fr ln bt a T.length c) 147:=(hgr g (by omega) h.dg).trans h1.bx;have ao2:∀ y,a1=some y->y.block≠g:=fun y hy=>(X0 y hy).elim (fun⟨x,hx,e⟩=>by rw[<- e]; exact h.dg x hx) fun e=>by omega
 obtain⟨V2,hst,hX2,hbt⟩:=Xo (i:=1) (ty:=145) (v:=.slice a1 (T.length+1) c1) (hdp mo fr ln bt a1 (T.length+1) c1) rG (by show 1<5; decide) (by kernel_rfl) rfl (by kernel_rfl);have hVs:w1.heap.size<=V.heap.size:=by obtain⟨g1,g2,g3,g4,g5⟩:=hg; exact g4
 have av5:=hO.lt;have hlen:(T++[Xx]).length=T.length+1:=by simp
 have hcase:∀ (X:Sn->Prop),X Xx->(∀ j,j<T.length->X (T.getD j Xx))->∀ j,j<(T++[Xx]).length->X ((T++[Xx]).getD j Xx):=fun X x1 x2 j hj=>by
  rw[hlen] at hj;by_cases hij:j<T.length
  ·rw[WE _ _ _ _ hij]; exact x2 j hij
  ·obtain rfl:j=T.length:=(by omega);rw[Xt]; exact x1
 have hke:∀ j k,j<T.length->EB (T.getD j Xx).e (T.getD j Xx).d k->V2.heap[k]?=w.heap[k]?:=fun j k hj hk=>by
  have hlt:=(h.en j hj).lt k hk;have hd:=h.de j k hj hk;rw[hbt.2 k (by omega) hd.1,hgr k (by omega) hd.2,hb.block k hlt]
 refine⟨a1,c1,V,V2,hr,hst,⟨⟨?_,?_,?_,?_,?_⟩,?_,?_,?_⟩⟩
 ·rw[hlen]; exact hX2
 ·rw[hlen,ab7,show([Xx]:List Sn).flatMap Qp=Qp Xx by simp];exact WX hO fun x hx=>hbt.2 _ (av5 x.block (by rw[hx]; rfl)).2 (ao2 x hx)
 ·exact hcase (fun x=>Vh V2 x.e x.d) (Vh.z V2) fun j hj=>(h.en j hj).same (hke j · hj)
 ·exact ao2
 ·intro j k hj hk;refine hcase (fun x=>∀ k,EB x.e x.d k->k≠g/\∀ y,a1=some y->y.block≠k) (fun k q=>(EB.z q).elim) (fun j hj k q=>⟨(h.de j k hj q).1,fun y hy=>?_⟩) j hj k hk;have hlt:=(h.en j hj).lt k q;exact(X0 y hy).elim (fun⟨x,hx,e⟩=>by rw[<- e]; exact(h.de j k hj q).2 x hx) fun e=>by omega
 ·rintro k (rfl | ⟨y,hy,rfl⟩ | ⟨j,hj,q⟩)
  ·exact .inl (.inl rfl)
  ·exact(X0 y hy).elim (fun⟨x,hx,e⟩=>.inl (.inr (.inl ⟨x,hx,e⟩))) fun e=>.inr (by omega)
  ·exact hcase (fun x=>∀ k,EB x.e x.d k->Sp g a T k∨w.heap.size<=k) (fun k q=>(EB.z q).elim) (fun j hj k q=>.inl (.inr (.inr ⟨j,hj,q⟩))) j hj k q
 ·have hg2:=hg;obtain⟨g1,g2,g3,g4,g5⟩:=hg2;have hb2:Below Bd w1 V:=⟨by assumption,by assumption,by assumption,by assumption,fun i hi=>g5 i (by omega) fun e=>by
   cases a with
   | none=>cases e
   | some x=>
    have:=hB x.block (.inr (.inl ⟨x,rfl,rfl⟩));have e2:i=x.block:=(by simpa [Value.ownBlock] using e);omega⟩
  exact((hb.mono hw).trans hb2).trans (hbt.1.mono (hB g (.inl rfl)))
 ·intro k hk hn;rw[hbt.2 k (by omega) fun e=>hn (.inl e),hgr k (by omega) fun x hx e=>hn (.inr (.inl ⟨x,hx,e⟩)),hb.block k hk]
end
end Go.Proofs.YtnelmomagdcmnaaGreat.Sl
