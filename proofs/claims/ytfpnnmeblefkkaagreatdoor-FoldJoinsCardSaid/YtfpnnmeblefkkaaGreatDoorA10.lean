/-
  Texts joined.
-/
import Derived.Test.YtfpnnmeblefkkaaGreatDoorA9
set_option maxRecDepth 100000
set_option maxHeartbeats 8000000
set_option linter.unusedSimpArgs false
set_option linter.unusedVariables false
namespace Go.Proofs.YtfpnnmeblefkkaaGreatDoor
attribute [local irreducible] wpList wpQuiet
open Go.RowKit
def XJ (P:List Zj)(j:Nat)(t:Y0):Prop:=PV zX P=PV t (P.drop j)
theorem XJ.zero (P:List Zj):XJ P 0 zX:=by unfold XJ; rw[List.drop_zero]
theorem XJ.step {P:List Zj}{j:Nat}{t u:Y0}(h:XJ P j t)(hj:j<P.length)(hc:Qb t P[j]=some u):XJ P (j+1) u:=by
 unfold XJ at *
 rw[h,List.drop_eq_getElem_cons hj,Ws,hc,Option.bind_some]
theorem XJ.fail {P:List Zj}{j:Nat}{t:Y0}(h:XJ P j t)(hj:j<P.length)(hc:Qb t P[j]=none):PV zX P=none:=by
 unfold XJ at *
 rw[h,List.drop_eq_getElem_cons hj,Ws,hc,Option.bind_none]
theorem XJ.done {P:List Zj}{j:Nat}{t:Y0}(h:XJ P j t)(hj:P.length<=j):PV zX P=some t:=by
 unfold XJ at *
 rw[h,List.drop_eq_nil_of_le hj,PV]
theorem Aj (a:Option Addr)(c:Nat)(ps:List (Zj×Value))(B:Nat)(w:World)(hF:N8 w B a ps)(hc:ps.length<=c)(hv:∀ f,f∈ps.map Prod.fst->Vf f)(hbl:∀ f,f∈ps.map Prod.fst->f.bytes.length<=100000)(hnl:ps.length<=100000) :
  Calls Tryz.prog 75 #[.slice a ps.length c] w (RdO w (PV zX (ps.map Prod.fst))):=by
 have hb1:Below w.heap.size w (w.alloc (.cells (ZA zX none 0) 63)):=(Below.refl _ w).alloc (Nat.le_refl _) _;have hX1:Bx (w.alloc (.cells (ZA zX none 0) 63)) w.heap.size (ZA zX none 0) 63:=heap_alloc_last w _;have hsz1:(w.alloc (.cells (ZA zX none 0) 63)).heap.size=w.heap.size+1:=by simp
 have UN:Hid (∀ V t ok a2 c2,Below w.heap.size w V->PV zX (ps.map Prod.fst)=(if ok=true then some t else none)->Yv V w.heap.size (.slice a2 t.tr.length c2) t.tr->RdO w (PV zX (ps.map Prod.fst)) (.returned (.tuple #[.agg (ZA t a2 c2),.bool ok])) V):=Z9 fun V t ok a2 c2 hb e hr=>⟨t,ok,a2,c2,rfl,e,hr,hb⟩;have HVF:=Z9 hv;have vk:=Z9 hbl;have Vh:=Z9 hnl;have HF:=Z9 hF;have HCC:=Z9 hF.cap;have rU:=Z9 (XJ.zero (ps.map Prod.fst));have HST:=Z9 (fun j t u h hj hc=>@XJ.step (ps.map Prod.fst) j t u h hj hc);have HFA:=Z9 (fun j t h hj hc=>@XJ.fail (ps.map Prod.fst) j t h hj hc);have HDN:=Z9 (fun j t h hj=>@XJ.done (ps.map Prod.fst) j t h hj);generalize PV zX (ps.map Prod.fst)=RR at *
 obtain⟨n,hn⟩:=ZR ps.length;have HN:=Z9 hn;rw[hn] at Vh ⊢;clear hF hc hv hbl hnl hn;go_enter Tryz.func75,Tryz.ntmps75;go_upto_region 1 with fail;change Code.wp _ _ _ _ (w.alloc (.cells (ZA zX none 0) 63));generalize w.alloc (.cells (ZA zX none 0) 63)=W1 at *
 apply wp_region_lit;refine Zz rfl (some 4) rfl (Z5 W1.heap.size 0) (W1.alloc (.cells (ZA zX none 0) 63)) (by kernel_rfl) ?_;simp only[pu];apply wpList_nil;have hb0:Below w.heap.size w (W1.alloc (.cells (ZA zX none 0) 63)):=hb1.alloc hb1.size _;have hX0:Bx (W1.alloc (.cells (ZA zX none 0) 63)) w.heap.size (ZA zX none 0) 63:=hX1.below hX1.lt ((Below.refl _ W1).alloc (Nat.le_refl _) _);have hY0:Bx (W1.alloc (.cells (ZA zX none 0) 63)) W1.heap.size (ZA zX none 0) 63:=heap_alloc_last W1 _;generalize W1.alloc (.cells (ZA zX none 0) 63)=W at *
 obtain⟨g2,hg2⟩:=ZR w.heap.size;obtain⟨g4,hg4⟩:=ZR W1.heap.size;have HB0:=Z9 hb0;have HG2:Hid (w.heap.size<=g2/\w.heap.size<=g4/\g2≠g4):=Z9 ⟨by omega,by omega,by omega⟩;rw[hg4] at hY0 ⊢;rw[hg2] at hX0 ⊢;have SB:=Z9 hX0;have Yl:=Z9 hY0;have Xi:Hid (g2<W.heap.size/\g4<W.heap.size):=Z9 ⟨hX0.lt,hY0.lt⟩;have LU:Hid (w.heap.size<=W.heap.size):=Z9 hb0.size;clear hb0 hb1 hX1 hsz1 hg2 hg4 hX0 hY0;go_upto_region 2 with fail;refine wl<|YG (.slice a n c) (Z8 n) (Z8 0)<|wn ?_;simp only[pu];go_wp2_with fail;go_loopg [11] n (fun gg s11 wx=>∃ (j:Nat) (s1:ByteArray) (m2 m3 m4:Int) (s5:ByteArray) (A:List Tf) (a6:Option Addr) (c6:Nat),s11=Z8 j/\j<=n/\Hid (A.length<=j)/\Hid (Bx wx g2 (ZA zX none 0) 63)/\Hid (Bx wx g4 (ZA ⟨s1,m2,m3,m4,s5,A⟩ a6 c6) 63)/\Hid (Yv wx W.heap.size (.slice a6 A.length c6) A)/\Hid (XJ (ps.map Prod.fst) j ⟨s1,m2,m3,m4,s5,A⟩)/\Hid (Below w.heap.size w wx)/\Hid (W.heap.size<=wx.heap.size)/\n-j=gg)
 case atStart=>exact⟨0,WU,0,0,0,WU,[],none,0,rfl,by omega,Z9 (Nat.zero_le _),SB,Yl,Z9 (Yv.nil _ _),rU,HB0,Z9 (Nat.le_refl _),by omega⟩
 case round=>
  obtain⟨j,s1,m2,m3,m4,s5,A,a6,c6,rfl,hj,Bd,HB2,HB4,IC,HJ,L9,HSZ,hg⟩:=hrel;clear SB Yl rU HB0;by_cases hlt:j<n
  ·have HG:Hid (n-(j+1)=gk-1/\0<gk/\j+1<=n/\j+1<=100000):=Z9 ⟨by omega,by omega,by omega,by have:=Vh.out; omega⟩;have hjq:j<ps.length:=(by rw[HN.out]; exact hlt);obtain⟨b,off,ba,bc,rfl,hp2,hsl,hbox⟩:=(HF.out.below L9.out).fs j ps[j] (List.getElem?_eq_getElem hjq);have Jr:=HVF.out ps[j].1 (by exact List.mem_map_of_mem (List.getElem_mem hjq));have hbl:=vk.out ps[j].1 (by exact List.mem_map_of_mem (List.getElem_mem hjq));have hjm:j<(ps.map Prod.fst).length:=(by rw[List.length_map]; exact hjq);have hgx:(ps.map Prod.fst)[j]=ps[j].1:=List.getElem_map ..;have U9:=Z9 (fun u (hc:Qb ⟨s1,m2,m3,m4,s5,A⟩ ps[j].1=some u)=>HST.out j _ u HJ.out hjm (by rw[hgx]; exact hc));have HS2:=Z9 (fun(hc:Qb ⟨s1,m2,m3,m4,s5,A⟩ ps[j].1=none)=>HFA.out j _ HJ.out hjm (by rw[hgx]; exact hc));have hba:ps[j].1.bytes.length<=bc:=HCC.out ps[j] (List.getElem_mem hjq) ba ps[j].1.bytes.length bc hp2;generalize ps[j].1=y at *
   have hld:=RV (Tc hbox);obtain⟨V6,hst,hb6,hbx⟩:=Gw wr y ba bc;have hX2:=HB2.out.below HB2.out.lt hb6;have XD:=HB4.out.below HB4.out.lt hb6;have Qa:=IC.out.below hb6;have Yh:=Z9 (L9.out.trans (hb6.mono L9.out.size));have MV:Hid (W.heap.size<=V6.heap.size):=Z9 (Nat.le_trans HSZ.out hb6.size);have hs6:=ZL hsl hb6;clear hp2 hsl hbox hjm hgx HJ hb6 hg hjq HB2 HB4 IC L9 HSZ;have HVX:=Z9 Jr;have hk0:y.kind=0∨y.kind=2:=(by rcases Jr.1.2.2 with q | q; exact .inl q.1; exact .inr q.1);clear Jr;go_upto_region 3 with fail;refine wl<|ZN (Zy rfl (j) (n) dT)<|wn ?_;simp only[pu];go_upto_region 4 with fail;refine wl<|YN (Z5 b (off+j*4)) (Xy b off n c j hlt _ _ _ rfl (by kernel_rfl) (by kernel_rfl))<|ZK rfl ⟨b,off+j*4,none⟩ (.agg (Xm y ba bc)) (hld) ?_;refine Zz rfl (some 6) rfl (Z5 wr.heap.size 0) (wr.alloc (.cells (Xm VU none 0) 77)) (by kernel_rfl) ?_;refine Zr rfl (hst)<|wn ?_;obtain⟨g9,xK⟩:=ZR wr.heap.size;rw[xK] at hbx ⊢;clear hst xK hld;have hall:(y.num=1/\y.kind=2)∨(y.num=2/\y.kind=0)∨(y.num=3/\y.kind=0)∨(y.num=4/\y.kind=0)∨(y.num=5/\y.kind=2)∨(y.num=6/\y.kind=2)∨(y.num=1/\y.kind≠2)∨(y.num=2/\y.kind≠0)∨(y.num=3/\y.kind≠0)∨(y.num=4/\y.kind≠0)∨(y.num=5/\y.kind≠2)∨(y.num=6/\y.kind≠2)∨(y.num<1∨6<y.num):=(by omega);rcases hall with hcs | hcs | hcs | hcs | hcs | hcs | hcs | hcs | hcs | hcs | hcs | hcs | hcs
   ·have hrf:Qb ⟨s1,m2,m3,m4,s5,A⟩ y=some ⟨(strOfNums y.bytes),m2,m3,m4,s5,A⟩:=(by unfold Qb; simp[hcs.1,hcs.2]);have oL:=Z9 (U9.out _ hrf);go_upto_region 6 with fail;refine wl<|ZV (Z5 g9 0)<|ZK rfl ⟨g9,0,none⟩ (Z8 y.num) (hbx.ZQ 0)<|ZN (ZI rfl (y.num) (1) (decide_eq_true (hcs.1))) <|
     ZG ZW (Z5 g9 1)<|ZK rfl ⟨g9,1,none⟩ (Z8 y.kind) (hbx.ZQ 1)<|ZN (ZI rfl (y.kind) (2) (decide_eq_true (hcs.2)))<|ZG ZW ZW<|wn ?_
    simp only[pu];obtain⟨V8,XW,WH,hb8,XY⟩:=Zm (i:=0) (ty:=9) (v:=.string (strOfNums y.bytes)) (cs':=ZA ⟨(strOfNums y.bytes),m2,m3,m4,s5,A⟩ a6 c6) XD Yh.out HG2.out.2.1 (by show 0<6; decide) rfl (by kernel_rfl) rfl;have Py:=Z9 WH;have Kz:=Z9 (hX2.but XY HG2.out.2.2);have Hq:=Z9 (Qa.but XY Xi.out.2);have Ry:=Z9 hb8;have oK:Hid (W.heap.size<=V8.heap.size):=Z9 (Nat.le_trans MV.out XY.1.size);have oJ:Hid (A.length<=j+1):=Z9 (Nat.le_succ_of_le Bd.out);go_upto_region 7 with fail;refine wl<|ZV (Z5 g9 3)<|ZK rfl ⟨g9,3,none⟩ (.slice ba y.bytes.length bc) (hbx.ZQ 3)<|YN (.string (strOfNums y.bytes)) (NJ rfl hs6 (by kernel_rfl))<|ZV (Z5 g4 0)<|Zr rfl (XW) <|
     wpList_nil ?_
    simp only[pu];clear XW WH hb8 XY hX2 XD Qa hbx hs6 U9 HS2 hrf Bd Yh MV;go_upto_region 21 with fail;refine wl<|YN (Z8 (j+1:Nat)) (add_one rfl j (by have:=HG.out; omega) (by kernel_rfl) _)<|ZV (Z8 (j+1:Nat))<|wn ?_;simp only[pu];go_wp2_with fail;go_roundg (gk-1)
    case measure=>have:=HG.out; omega
    case rel=>exact⟨j+1,(strOfNums y.bytes),m2,m3,m4,s5,A,a6,c6,rfl,HG.out.2.2.1,oJ,Kz,Py,Hq,oL,Ry,oK,HG.out.1⟩
   ·have hrf:Qb ⟨s1,m2,m3,m4,s5,A⟩ y=some ⟨s1,y.val,m3,m4,s5,A⟩:=(by unfold Qb; simp[hcs.1,hcs.2]);have oL:=Z9 (U9.out _ hrf);go_upto_region 6 with fail;refine wl<|ZV (Z5 g9 0)<|ZK rfl ⟨g9,0,none⟩ (Z8 y.num) (hbx.ZQ 0)<|ZN (ZI rfl (y.num) (1) dF) <|
     Zc ZY undef undef undef ZY ZY<|wn ?_
    simp only[pu];go_upto_region 8 with fail;refine wl<|ZV (Z5 g9 0)<|ZK rfl ⟨g9,0,none⟩ (Z8 y.num) (hbx.ZQ 0)<|ZN (ZI rfl (y.num) (2) (decide_eq_true (hcs.1))) <|
     ZG ZW (Z5 g9 1)<|ZK rfl ⟨g9,1,none⟩ (Z8 y.kind) (hbx.ZQ 1)<|ZN (ZI rfl (y.kind) (0) (decide_eq_true (hcs.2)))<|ZG ZW ZW<|wn ?_
    simp only[pu];obtain⟨V8,XW,WH,hb8,XY⟩:=Zm (i:=1) (ty:=24) (v:=Z7 y.val) (cs':=ZA ⟨s1,y.val,m3,m4,s5,A⟩ a6 c6) XD Yh.out HG2.out.2.1 (by show 1<6; decide) rfl (by kernel_rfl) rfl;have Py:=Z9 WH;have Kz:=Z9 (hX2.but XY HG2.out.2.2);have Hq:=Z9 (Qa.but XY Xi.out.2);have Ry:=Z9 hb8;have oK:Hid (W.heap.size<=V8.heap.size):=Z9 (Nat.le_trans MV.out XY.1.size);have oJ:Hid (A.length<=j+1):=Z9 (Nat.le_succ_of_le Bd.out);go_upto_region 9 with fail;refine wl<|ZV (Z5 g9 2)<|ZK rfl ⟨g9,2,none⟩ (Z7 y.val) (hbx.ZQ 2)<|ZV (Z5 g4 1)<|Zr rfl (XW)<|wn ?_;simp only[pu];clear XW WH hb8 XY hX2 XD Qa hbx hs6 U9 HS2 hrf Bd Yh MV;go_upto_region 21 with fail;refine wl<|YN (Z8 (j+1:Nat)) (add_one rfl j (by have:=HG.out; omega) (by kernel_rfl) _)<|ZV (Z8 (j+1:Nat))<|wn ?_;simp only[pu];go_wp2_with fail;go_roundg (gk-1)
    case measure=>have:=HG.out; omega
    case rel=>exact⟨j+1,s1,y.val,m3,m4,s5,A,a6,c6,rfl,HG.out.2.2.1,oJ,Kz,Py,Hq,oL,Ry,oK,HG.out.1⟩
   ·have hrf:Qb ⟨s1,m2,m3,m4,s5,A⟩ y=some ⟨s1,m2,y.val,m4,s5,A⟩:=(by unfold Qb; simp[hcs.1,hcs.2]);have oL:=Z9 (U9.out _ hrf);go_upto_region 6 with fail;refine wl<|ZV (Z5 g9 0)<|ZK rfl ⟨g9,0,none⟩ (Z8 y.num) (hbx.ZQ 0)<|ZN (ZI rfl (y.num) (1) dF) <|
     Zc ZY undef undef undef ZY ZY<|wn ?_
    simp only[pu];go_upto_region 8 with fail;refine wl<|ZV (Z5 g9 0)<|ZK rfl ⟨g9,0,none⟩ (Z8 y.num) (hbx.ZQ 0)<|ZN (ZI rfl (y.num) (2) dF) <|
     Zc ZY undef undef undef ZY ZY<|wn ?_
    simp only[pu];go_upto_region 10 with fail;refine wl<|ZV (Z5 g9 0)<|ZK rfl ⟨g9,0,none⟩ (Z8 y.num) (hbx.ZQ 0)<|ZN (ZI rfl (y.num) (3) (decide_eq_true (hcs.1))) <|
     ZG ZW (Z5 g9 1)<|ZK rfl ⟨g9,1,none⟩ (Z8 y.kind) (hbx.ZQ 1)<|ZN (ZI rfl (y.kind) (0) (decide_eq_true (hcs.2)))<|ZG ZW ZW<|wn ?_
    simp only[pu];obtain⟨V8,XW,WH,hb8,XY⟩:=Zm (i:=2) (ty:=24) (v:=Z7 y.val) (cs':=ZA ⟨s1,m2,y.val,m4,s5,A⟩ a6 c6) XD Yh.out HG2.out.2.1 (by show 2<6; decide) rfl (by kernel_rfl) rfl;have Py:=Z9 WH;have Kz:=Z9 (hX2.but XY HG2.out.2.2);have Hq:=Z9 (Qa.but XY Xi.out.2);have Ry:=Z9 hb8;have oK:Hid (W.heap.size<=V8.heap.size):=Z9 (Nat.le_trans MV.out XY.1.size);have oJ:Hid (A.length<=j+1):=Z9 (Nat.le_succ_of_le Bd.out);go_upto_region 11 with fail;refine wl<|ZV (Z5 g9 2)<|ZK rfl ⟨g9,2,none⟩ (Z7 y.val) (hbx.ZQ 2)<|ZV (Z5 g4 2)<|Zr rfl (XW)<|wn ?_;simp only[pu];clear XW WH hb8 XY hX2 XD Qa hbx hs6 U9 HS2 hrf Bd Yh MV;go_upto_region 21 with fail;refine wl<|YN (Z8 (j+1:Nat)) (add_one rfl j (by have:=HG.out; omega) (by kernel_rfl) _)<|ZV (Z8 (j+1:Nat))<|wn ?_;simp only[pu];go_wp2_with fail;go_roundg (gk-1)
    case measure=>have:=HG.out; omega
    case rel=>exact⟨j+1,s1,m2,y.val,m4,s5,A,a6,c6,rfl,HG.out.2.2.1,oJ,Kz,Py,Hq,oL,Ry,oK,HG.out.1⟩
   ·have hrf:Qb ⟨s1,m2,m3,m4,s5,A⟩ y=some ⟨s1,m2,m3,y.val,s5,A⟩:=(by unfold Qb; simp[hcs.1,hcs.2]);have oL:=Z9 (U9.out _ hrf);go_upto_region 6 with fail;refine wl<|ZV (Z5 g9 0)<|ZK rfl ⟨g9,0,none⟩ (Z8 y.num) (hbx.ZQ 0)<|ZN (ZI rfl (y.num) (1) dF) <|
     Zc ZY undef undef undef ZY ZY<|wn ?_
    simp only[pu];go_upto_region 8 with fail;refine wl<|ZV (Z5 g9 0)<|ZK rfl ⟨g9,0,none⟩ (Z8 y.num) (hbx.ZQ 0)<|ZN (ZI rfl (y.num) (2) dF) <|
     Zc ZY undef undef undef ZY ZY<|wn ?_
    simp only[pu];go_upto_region 10 with fail;refine wl<|ZV (Z5 g9 0)<|ZK rfl ⟨g9,0,none⟩ (Z8 y.num) (hbx.ZQ 0)<|ZN (ZI rfl (y.num) (3) dF) <|
     Zc ZY undef undef undef ZY ZY<|wn ?_
    simp only[pu];go_upto_region 12 with fail;refine wl<|ZV (Z5 g9 0)<|ZK rfl ⟨g9,0,none⟩ (Z8 y.num) (hbx.ZQ 0)<|ZN (ZI rfl (y.num) (4) (decide_eq_true (hcs.1))) <|
     ZG ZW (Z5 g9 1)<|ZK rfl ⟨g9,1,none⟩ (Z8 y.kind) (hbx.ZQ 1)<|ZN (ZI rfl (y.kind) (0) (decide_eq_true (hcs.2)))<|ZG ZW ZW<|wn ?_
    simp only[pu];obtain⟨V8,XW,WH,hb8,XY⟩:=Zm (i:=3) (ty:=24) (v:=Z7 y.val) (cs':=ZA ⟨s1,m2,m3,y.val,s5,A⟩ a6 c6) XD Yh.out HG2.out.2.1 (by show 3<6; decide) rfl (by kernel_rfl) rfl;have Py:=Z9 WH;have Kz:=Z9 (hX2.but XY HG2.out.2.2);have Hq:=Z9 (Qa.but XY Xi.out.2);have Ry:=Z9 hb8;have oK:Hid (W.heap.size<=V8.heap.size):=Z9 (Nat.le_trans MV.out XY.1.size);have oJ:Hid (A.length<=j+1):=Z9 (Nat.le_succ_of_le Bd.out);go_upto_region 13 with fail;refine wl<|ZV (Z5 g9 2)<|ZK rfl ⟨g9,2,none⟩ (Z7 y.val) (hbx.ZQ 2)<|ZV (Z5 g4 3)<|Zr rfl (XW)<|wn ?_;simp only[pu];clear XW WH hb8 XY hX2 XD Qa hbx hs6 U9 HS2 hrf Bd Yh MV;go_upto_region 21 with fail;refine wl<|YN (Z8 (j+1:Nat)) (add_one rfl j (by have:=HG.out; omega) (by kernel_rfl) _)<|ZV (Z8 (j+1:Nat))<|wn ?_;simp only[pu];go_wp2_with fail;go_roundg (gk-1)
    case measure=>have:=HG.out; omega
    case rel=>exact⟨j+1,s1,m2,m3,y.val,s5,A,a6,c6,rfl,HG.out.2.2.1,oJ,Kz,Py,Hq,oL,Ry,oK,HG.out.1⟩
   ·have hrf:Qb ⟨s1,m2,m3,m4,s5,A⟩ y=some ⟨s1,m2,m3,m4,(strOfNums y.bytes),A⟩:=(by unfold Qb; simp[hcs.1,hcs.2]);have oL:=Z9 (U9.out _ hrf);go_upto_region 6 with fail;refine wl<|ZV (Z5 g9 0)<|ZK rfl ⟨g9,0,none⟩ (Z8 y.num) (hbx.ZQ 0)<|ZN (ZI rfl (y.num) (1) dF) <|
     Zc ZY undef undef undef ZY ZY<|wn ?_
    simp only[pu];go_upto_region 8 with fail;refine wl<|ZV (Z5 g9 0)<|ZK rfl ⟨g9,0,none⟩ (Z8 y.num) (hbx.ZQ 0)<|ZN (ZI rfl (y.num) (2) dF) <|
     Zc ZY undef undef undef ZY ZY<|wn ?_
    simp only[pu];go_upto_region 10 with fail;refine wl<|ZV (Z5 g9 0)<|ZK rfl ⟨g9,0,none⟩ (Z8 y.num) (hbx.ZQ 0)<|ZN (ZI rfl (y.num) (3) dF) <|
     Zc ZY undef undef undef ZY ZY<|wn ?_
    simp only[pu];go_upto_region 12 with fail;refine wl<|ZV (Z5 g9 0)<|ZK rfl ⟨g9,0,none⟩ (Z8 y.num) (hbx.ZQ 0)<|ZN (ZI rfl (y.num) (4) dF) <|
     Zc ZY undef undef undef ZY ZY<|wn ?_
    simp only[pu];go_upto_region 14 with fail;refine wl<|ZV (Z5 g9 0)<|ZK rfl ⟨g9,0,none⟩ (Z8 y.num) (hbx.ZQ 0)<|ZN (ZI rfl (y.num) (5) (decide_eq_true (hcs.1))) <|
     ZG ZW (Z5 g9 1)<|ZK rfl ⟨g9,1,none⟩ (Z8 y.kind) (hbx.ZQ 1)<|ZN (ZI rfl (y.kind) (2) (decide_eq_true (hcs.2)))<|ZG ZW ZW<|wn ?_
    simp only[pu];obtain⟨V8,XW,WH,hb8,XY⟩:=Zm (i:=4) (ty:=9) (v:=.string (strOfNums y.bytes)) (cs':=ZA ⟨s1,m2,m3,m4,(strOfNums y.bytes),A⟩ a6 c6) XD Yh.out HG2.out.2.1 (by show 4<6; decide) rfl (by kernel_rfl) rfl;have Py:=Z9 WH;have Kz:=Z9 (hX2.but XY HG2.out.2.2);have Hq:=Z9 (Qa.but XY Xi.out.2);have Ry:=Z9 hb8;have oK:Hid (W.heap.size<=V8.heap.size):=Z9 (Nat.le_trans MV.out XY.1.size);have oJ:Hid (A.length<=j+1):=Z9 (Nat.le_succ_of_le Bd.out);go_upto_region 15 with fail;refine wl<|ZV (Z5 g9 3)<|ZK rfl ⟨g9,3,none⟩ (.slice ba y.bytes.length bc) (hbx.ZQ 3)<|YN (.string (strOfNums y.bytes)) (NJ rfl hs6 (by kernel_rfl))<|ZV (Z5 g4 4)<|Zr rfl (XW) <|
     wpList_nil ?_
    simp only[pu];clear XW WH hb8 XY hX2 XD Qa hbx hs6 U9 HS2 hrf Bd Yh MV;go_upto_region 21 with fail;refine wl<|YN (Z8 (j+1:Nat)) (add_one rfl j (by have:=HG.out; omega) (by kernel_rfl) _)<|ZV (Z8 (j+1:Nat))<|wn ?_;simp only[pu];go_wp2_with fail;go_roundg (gk-1)
    case measure=>have:=HG.out; omega
    case rel=>exact⟨j+1,s1,m2,m3,m4,(strOfNums y.bytes),A,a6,c6,rfl,HG.out.2.2.1,oJ,Kz,Py,Hq,oL,Ry,oK,HG.out.1⟩
   ·have CR:=Gv ba bc y.bytes V6 hs6 hba hbl HVX.out.2.2.1;have oN:Hid (Qb ⟨s1,m2,m3,m4,s5,A⟩ y=(Eh y.bytes).map fun x=>⟨s1,m2,m3,m4,s5,A++[x]⟩):=Z9 (by unfold Qb; simp[hcs.1,hcs.2]);generalize Eh y.bytes=rx at *
    go_upto_region 6 with fail;refine wl<|ZV (Z5 g9 0)<|ZK rfl ⟨g9,0,none⟩ (Z8 y.num) (hbx.ZQ 0)<|ZN (ZI rfl (y.num) (1) dF) <|
     Zc ZY undef undef undef ZY ZY<|wn ?_
    simp only[pu];go_upto_region 8 with fail;refine wl<|ZV (Z5 g9 0)<|ZK rfl ⟨g9,0,none⟩ (Z8 y.num) (hbx.ZQ 0)<|ZN (ZI rfl (y.num) (2) dF) <|
     Zc ZY undef undef undef ZY ZY<|wn ?_
    simp only[pu];go_upto_region 10 with fail;refine wl<|ZV (Z5 g9 0)<|ZK rfl ⟨g9,0,none⟩ (Z8 y.num) (hbx.ZQ 0)<|ZN (ZI rfl (y.num) (3) dF) <|
     Zc ZY undef undef undef ZY ZY<|wn ?_
    simp only[pu];go_upto_region 12 with fail;refine wl<|ZV (Z5 g9 0)<|ZK rfl ⟨g9,0,none⟩ (Z8 y.num) (hbx.ZQ 0)<|ZN (ZI rfl (y.num) (4) dF) <|
     Zc ZY undef undef undef ZY ZY<|wn ?_
    simp only[pu];go_upto_region 14 with fail;refine wl<|ZV (Z5 g9 0)<|ZK rfl ⟨g9,0,none⟩ (Z8 y.num) (hbx.ZQ 0)<|ZN (ZI rfl (y.num) (5) dF) <|
     Zc ZY undef undef undef ZY ZY<|wn ?_
    simp only[pu];go_upto_region 16 with fail;refine wl<|ZV (Z5 g9 0)<|ZK rfl ⟨g9,0,none⟩ (Z8 y.num) (hbx.ZQ 0)<|ZN (ZI rfl (y.num) (6) (decide_eq_true (hcs.1))) <|
     ZG ZW (Z5 g9 1)<|ZK rfl ⟨g9,1,none⟩ (Z8 y.kind) (hbx.ZQ 1)<|ZN (ZI rfl (y.kind) (2) (decide_eq_true (hcs.2)))<|ZG ZW ZW<|wn ?_
    simp only[pu];go_upto_region 17 with fail;refine wl<|ZV (Z5 g9 3)<|ZK rfl ⟨g9,3,none⟩ (.slice ba y.bytes.length bc) (hbx.ZQ 3) <|
     XZ (fun v w'=>∃ x ok,v=.tuple #[.agg (Yz x),.bool ok]/\rx=(if ok=true then some x else none)/\Below V6.heap.size V6 w') (CR.mono fun e w' q=>by obtain⟨x,ok,h1,h2⟩:=q; exact⟨_,h1,x,ok,rfl,h2⟩) (fun v7 V7 hq=>?_)
    obtain⟨x,ok,rfl,hok,hb7⟩:=hq;obtain⟨V8,XW,hb8,OO⟩:=TI V7 x;refine YG (.tuple #[.agg (Yz x),.bool ok]) (.agg (Yz x)) (.bool ok) ?_;refine Zz rfl (some 7) rfl (Z5 V7.heap.size 0) (V7.alloc (.cells (Yz Uk) 60)) (by kernel_rfl) ?_;refine Zr rfl (XW)<|ZV (.bool ok)<|wn ?_;simp only[pu];obtain⟨g7,Qd⟩:=ZR V7.heap.size;have Ky:=hb7.trans (hb8.mono hb7.size)
    replace hX2:=hX2.below hX2.lt Ky
    replace XD:=XD.below XD.lt Ky
    replace Qa:=Qa.below Ky
    replace Yh:=Z9 (Yh.out.trans (Ky.mono Yh.out.size))
    replace MV:Hid (W.heap.size<=V8.heap.size):=Z9 (Nat.le_trans MV.out Ky.size)
    rw[Qd] at OO ⊢;clear XW Qd hb7 hb8 Ky CR hbx hs6;go_upto_region 18 with fail;cases ok
    ·have OW:=Z9 (HS2.out (by rw[oN.out,hok]; rfl));refine wl<|ZG ZY ZW<|wn ?_;simp only[pu];clear U9 HS2 oN hok;obtain⟨XI,hZ⟩:=Zn (y:=⟨s1,m2,m3,m4,s5,A⟩) (a':=a6) (c':=c6) hX2;have YL:=Z9 (ZE XD);have Zp:=Z9 (ZT Yh.out HG2.out.1 (ZA ⟨s1,m2,m3,m4,s5,A⟩ a6 c6));have HRW:=Z9 ((WX (g:=g2) Qa (ZA ⟨s1,m2,m3,m4,s5,A⟩ a6 c6) Xi.out.1).base (B:=w.heap.size) LU.out);have HE:=Z9 (UN.out _ ⟨s1,m2,m3,m4,s5,A⟩ false a6 c6 Zp.out OW.out HRW.out);generalize World.setRow _ g2 (ZA ⟨s1,m2,m3,m4,s5,A⟩ a6 c6)=V9 at *
     clear UN HRW Zp hX2 XD Qa;go_upto_region 19 with fail;refine wl<|ZK rfl ⟨g4,0,none⟩ (.agg (ZA ⟨s1,m2,m3,m4,s5,A⟩ a6 c6)) (YL.out)<|Zr rfl (XI)<|ZV ZY<|wn ?_;simp only[pu];go_wp2_with fail;exact bodyPost_ret (ZO (p:=2) (q:=3) rfl (by kernel_rfl) (ZE hZ) rfl) rfl HE.out
    ·refine wl<|ZG ZW ZY<|wn ?_;simp only[pu];have oL:=Z9 (U9.out _ (by rw[oN.out,hok]; rfl));obtain⟨a7,c7,V9,hap,OZ,Wi⟩:=LX Qa MV.out x (by have:=Bd.out; have:=HG.out; omega);have S9:Bx V9 g4 (ZA ⟨s1,m2,m3,m4,s5,A⟩ a6 c6) 63:=XD.below Xi.out.2 Wi;obtain⟨V10,Ef,oI,az0,QX⟩:=Zm (i:=5) (ty:=61) (v:=.slice a7 (A++[x]).length c7) (cs':=ZA ⟨s1,m2,m3,m4,s5,A++[x]⟩ a7 c7) S9 (Yh.out.trans (Wi.mono LU.out)) HG2.out.2.1 (by show 5<6; decide) rfl (by kernel_rfl) rfl;have Py:=Z9 oI;have Kz:=Z9 ((hX2.below Xi.out.1 Wi).but QX HG2.out.2.2);have Hq:=Z9 (OZ.but QX Xi.out.2);have Ry:=Z9 az0;have oK:Hid (W.heap.size<=V10.heap.size):=Z9 (Nat.le_trans (Nat.le_trans MV.out Wi.size) QX.1.size);have oJ:Hid ((A++[x]).length<=j+1):=Z9 (by rw[List.length_append]; have:=Bd.out; show A.length+1<=j+1; omega);clear OZ Wi S9 oI QX az0 U9 HS2 oN hok Bd Yh MV hX2 Qa;go_upto_region 20 with fail;refine wl<|ZV (Z5 g4 5)<|ZK rfl ⟨g4,5,none⟩ (.slice a6 A.length c6) (XD.ZQ 5)<|ZK rfl ⟨g7,0,none⟩ (.agg (Yz x)) (YI OO) ?_;refine Zw (by kernel_rfl) (some 99) rfl 61 1 #[(0,.tmp 98)] rfl #[(0,.agg (Yz x))] (by kernel_rfl) (.slice (some ⟨V8.heap.size,0,none⟩) 1 1) _ (Rk x V8) ?_;refine Zk rfl (some 100) rfl 61 rfl (.tmp 97) (.tmp 99) 61 rfl (.slice a6 A.length c6) (.slice (some ⟨V8.heap.size,0,none⟩) 1 1) (.slice a7 (A++[x]).length c7) V9 (by kernel_rfl) (by kernel_rfl) hap ?_;refine ZV (Z5 g4 5)<|Zr rfl (Ef)<|wn ?_;simp only[pu];clear hap Ef XD OO;go_upto_region 21 with fail;refine wl<|YN (Z8 (j+1:Nat)) (add_one rfl j (by have:=HG.out; omega) (by kernel_rfl) _)<|ZV (Z8 (j+1:Nat))<|wn ?_;simp only[pu];go_wp2_with fail;go_roundg (gk-1)
     case measure=>have:=HG.out; omega
     case rel=>exact⟨j+1,s1,m2,m3,m4,s5,A++[x],a7,c7,rfl,HG.out.2.2.1,oJ,Kz,Py,Hq,oL,Ry,oK,HG.out.1⟩
   ·have OW:=Z9 (HS2.out (by unfold Qb; simp[hcs.1,hcs.2]));clear U9 HS2 hba hbl hs6;go_upto_region 6 with fail;refine wl<|ZV (Z5 g9 0)<|ZK rfl ⟨g9,0,none⟩ (Z8 y.num) (hbx.ZQ 0)<|ZN (ZI rfl (y.num) (1) (decide_eq_true (hcs.1))) <|
     ZG ZW (Z5 g9 1)<|ZK rfl ⟨g9,1,none⟩ (Z8 y.kind) (hbx.ZQ 1)<|ZN (ZI rfl (y.kind) (2) (decide_eq_false (hcs.2)))<|ZG ZY ZY<|wn ?_
    simp only[pu];go_upto_region 8 with fail;refine wl<|ZV (Z5 g9 0)<|ZK rfl ⟨g9,0,none⟩ (Z8 y.num) (hbx.ZQ 0)<|ZN (ZI rfl (y.num) (2) dF) <|
     Zc ZY undef undef undef ZY ZY<|wn ?_
    simp only[pu];go_upto_region 10 with fail;refine wl<|ZV (Z5 g9 0)<|ZK rfl ⟨g9,0,none⟩ (Z8 y.num) (hbx.ZQ 0)<|ZN (ZI rfl (y.num) (3) dF) <|
     Zc ZY undef undef undef ZY ZY<|wn ?_
    simp only[pu];go_upto_region 12 with fail;refine wl<|ZV (Z5 g9 0)<|ZK rfl ⟨g9,0,none⟩ (Z8 y.num) (hbx.ZQ 0)<|ZN (ZI rfl (y.num) (4) dF) <|
     Zc ZY undef undef undef ZY ZY<|wn ?_
    simp only[pu];go_upto_region 14 with fail;refine wl<|ZV (Z5 g9 0)<|ZK rfl ⟨g9,0,none⟩ (Z8 y.num) (hbx.ZQ 0)<|ZN (ZI rfl (y.num) (5) dF) <|
     Zc ZY undef undef undef ZY ZY<|wn ?_
    simp only[pu];go_upto_region 16 with fail;refine wl<|ZV (Z5 g9 0)<|ZK rfl ⟨g9,0,none⟩ (Z8 y.num) (hbx.ZQ 0)<|ZN (ZI rfl (y.num) (6) dF) <|
     Zc ZY undef undef undef ZY ZY<|wn ?_
    simp only[pu];obtain⟨XI,hZ⟩:=Zn (y:=⟨s1,m2,m3,m4,s5,A⟩) (a':=a6) (c':=c6) hX2;have YL:=Z9 (ZE XD);have Zp:=Z9 (ZT Yh.out HG2.out.1 (ZA ⟨s1,m2,m3,m4,s5,A⟩ a6 c6));have HRW:=Z9 ((WX (g:=g2) Qa (ZA ⟨s1,m2,m3,m4,s5,A⟩ a6 c6) Xi.out.1).base (B:=w.heap.size) LU.out);have HE:=Z9 (UN.out _ ⟨s1,m2,m3,m4,s5,A⟩ false a6 c6 Zp.out OW.out HRW.out);generalize World.setRow _ g2 (ZA ⟨s1,m2,m3,m4,s5,A⟩ a6 c6)=V9 at *
    clear UN HRW Zp hX2 XD Qa;go_upto_region 5 with fail;refine wl<|ZK rfl ⟨g4,0,none⟩ (.agg (ZA ⟨s1,m2,m3,m4,s5,A⟩ a6 c6)) (YL.out)<|Zr rfl (XI)<|ZV ZY<|wn ?_;simp only[pu];go_wp2_with fail;exact bodyPost_ret (ZO (p:=2) (q:=3) rfl (by kernel_rfl) (ZE hZ) rfl) rfl HE.out
   ·have OW:=Z9 (HS2.out (by unfold Qb; simp[hcs.1,hcs.2]));clear U9 HS2 hba hbl hs6;go_upto_region 6 with fail;refine wl<|ZV (Z5 g9 0)<|ZK rfl ⟨g9,0,none⟩ (Z8 y.num) (hbx.ZQ 0)<|ZN (ZI rfl (y.num) (1) dF) <|
     Zc ZY undef undef undef ZY ZY<|wn ?_
    simp only[pu];go_upto_region 8 with fail;refine wl<|ZV (Z5 g9 0)<|ZK rfl ⟨g9,0,none⟩ (Z8 y.num) (hbx.ZQ 0)<|ZN (ZI rfl (y.num) (2) (decide_eq_true (hcs.1))) <|
     ZG ZW (Z5 g9 1)<|ZK rfl ⟨g9,1,none⟩ (Z8 y.kind) (hbx.ZQ 1)<|ZN (ZI rfl (y.kind) (0) (decide_eq_false (hcs.2)))<|ZG ZY ZY<|wn ?_
    simp only[pu];go_upto_region 10 with fail;refine wl<|ZV (Z5 g9 0)<|ZK rfl ⟨g9,0,none⟩ (Z8 y.num) (hbx.ZQ 0)<|ZN (ZI rfl (y.num) (3) dF) <|
     Zc ZY undef undef undef ZY ZY<|wn ?_
    simp only[pu];go_upto_region 12 with fail;refine wl<|ZV (Z5 g9 0)<|ZK rfl ⟨g9,0,none⟩ (Z8 y.num) (hbx.ZQ 0)<|ZN (ZI rfl (y.num) (4) dF) <|
     Zc ZY undef undef undef ZY ZY<|wn ?_
    simp only[pu];go_upto_region 14 with fail;refine wl<|ZV (Z5 g9 0)<|ZK rfl ⟨g9,0,none⟩ (Z8 y.num) (hbx.ZQ 0)<|ZN (ZI rfl (y.num) (5) dF) <|
     Zc ZY undef undef undef ZY ZY<|wn ?_
    simp only[pu];go_upto_region 16 with fail;refine wl<|ZV (Z5 g9 0)<|ZK rfl ⟨g9,0,none⟩ (Z8 y.num) (hbx.ZQ 0)<|ZN (ZI rfl (y.num) (6) dF) <|
     Zc ZY undef undef undef ZY ZY<|wn ?_
    simp only[pu];obtain⟨XI,hZ⟩:=Zn (y:=⟨s1,m2,m3,m4,s5,A⟩) (a':=a6) (c':=c6) hX2;have YL:=Z9 (ZE XD);have Zp:=Z9 (ZT Yh.out HG2.out.1 (ZA ⟨s1,m2,m3,m4,s5,A⟩ a6 c6));have HRW:=Z9 ((WX (g:=g2) Qa (ZA ⟨s1,m2,m3,m4,s5,A⟩ a6 c6) Xi.out.1).base (B:=w.heap.size) LU.out);have HE:=Z9 (UN.out _ ⟨s1,m2,m3,m4,s5,A⟩ false a6 c6 Zp.out OW.out HRW.out);generalize World.setRow _ g2 (ZA ⟨s1,m2,m3,m4,s5,A⟩ a6 c6)=V9 at *
    clear UN HRW Zp hX2 XD Qa;go_upto_region 5 with fail;refine wl<|ZK rfl ⟨g4,0,none⟩ (.agg (ZA ⟨s1,m2,m3,m4,s5,A⟩ a6 c6)) (YL.out)<|Zr rfl (XI)<|ZV ZY<|wn ?_;simp only[pu];go_wp2_with fail;exact bodyPost_ret (ZO (p:=2) (q:=3) rfl (by kernel_rfl) (ZE hZ) rfl) rfl HE.out
   ·have OW:=Z9 (HS2.out (by unfold Qb; simp[hcs.1,hcs.2]));clear U9 HS2 hba hbl hs6;go_upto_region 6 with fail;refine wl<|ZV (Z5 g9 0)<|ZK rfl ⟨g9,0,none⟩ (Z8 y.num) (hbx.ZQ 0)<|ZN (ZI rfl (y.num) (1) dF) <|
     Zc ZY undef undef undef ZY ZY<|wn ?_
    simp only[pu];go_upto_region 8 with fail;refine wl<|ZV (Z5 g9 0)<|ZK rfl ⟨g9,0,none⟩ (Z8 y.num) (hbx.ZQ 0)<|ZN (ZI rfl (y.num) (2) dF) <|
     Zc ZY undef undef undef ZY ZY<|wn ?_
    simp only[pu];go_upto_region 10 with fail;refine wl<|ZV (Z5 g9 0)<|ZK rfl ⟨g9,0,none⟩ (Z8 y.num) (hbx.ZQ 0)<|ZN (ZI rfl (y.num) (3) (decide_eq_true (hcs.1))) <|
     ZG ZW (Z5 g9 1)<|ZK rfl ⟨g9,1,none⟩ (Z8 y.kind) (hbx.ZQ 1)<|ZN (ZI rfl (y.kind) (0) (decide_eq_false (hcs.2)))<|ZG ZY ZY<|wn ?_
    simp only[pu];go_upto_region 12 with fail;refine wl<|ZV (Z5 g9 0)<|ZK rfl ⟨g9,0,none⟩ (Z8 y.num) (hbx.ZQ 0)<|ZN (ZI rfl (y.num) (4) dF) <|
     Zc ZY undef undef undef ZY ZY<|wn ?_
    simp only[pu];go_upto_region 14 with fail;refine wl<|ZV (Z5 g9 0)<|ZK rfl ⟨g9,0,none⟩ (Z8 y.num) (hbx.ZQ 0)<|ZN (ZI rfl (y.num) (5) dF) <|
     Zc ZY undef undef undef ZY ZY<|wn ?_
    simp only[pu];go_upto_region 16 with fail;refine wl<|ZV (Z5 g9 0)<|ZK rfl ⟨g9,0,none⟩ (Z8 y.num) (hbx.ZQ 0)<|ZN (ZI rfl (y.num) (6) dF) <|
     Zc ZY undef undef undef ZY ZY<|wn ?_
    simp only[pu];obtain⟨XI,hZ⟩:=Zn (y:=⟨s1,m2,m3,m4,s5,A⟩) (a':=a6) (c':=c6) hX2;have YL:=Z9 (ZE XD);have Zp:=Z9 (ZT Yh.out HG2.out.1 (ZA ⟨s1,m2,m3,m4,s5,A⟩ a6 c6));have HRW:=Z9 ((WX (g:=g2) Qa (ZA ⟨s1,m2,m3,m4,s5,A⟩ a6 c6) Xi.out.1).base (B:=w.heap.size) LU.out);have HE:=Z9 (UN.out _ ⟨s1,m2,m3,m4,s5,A⟩ false a6 c6 Zp.out OW.out HRW.out);generalize World.setRow _ g2 (ZA ⟨s1,m2,m3,m4,s5,A⟩ a6 c6)=V9 at *
    clear UN HRW Zp hX2 XD Qa;go_upto_region 5 with fail;refine wl<|ZK rfl ⟨g4,0,none⟩ (.agg (ZA ⟨s1,m2,m3,m4,s5,A⟩ a6 c6)) (YL.out)<|Zr rfl (XI)<|ZV ZY<|wn ?_;simp only[pu];go_wp2_with fail;exact bodyPost_ret (ZO (p:=2) (q:=3) rfl (by kernel_rfl) (ZE hZ) rfl) rfl HE.out
   ·have OW:=Z9 (HS2.out (by unfold Qb; simp[hcs.1,hcs.2]));clear U9 HS2 hba hbl hs6;go_upto_region 6 with fail;refine wl<|ZV (Z5 g9 0)<|ZK rfl ⟨g9,0,none⟩ (Z8 y.num) (hbx.ZQ 0)<|ZN (ZI rfl (y.num) (1) dF) <|
     Zc ZY undef undef undef ZY ZY<|wn ?_
    simp only[pu];go_upto_region 8 with fail;refine wl<|ZV (Z5 g9 0)<|ZK rfl ⟨g9,0,none⟩ (Z8 y.num) (hbx.ZQ 0)<|ZN (ZI rfl (y.num) (2) dF) <|
     Zc ZY undef undef undef ZY ZY<|wn ?_
    simp only[pu];go_upto_region 10 with fail;refine wl<|ZV (Z5 g9 0)<|ZK rfl ⟨g9,0,none⟩ (Z8 y.num) (hbx.ZQ 0)<|ZN (ZI rfl (y.num) (3) dF) <|
     Zc ZY undef undef undef ZY ZY<|wn ?_
    simp only[pu];go_upto_region 12 with fail;refine wl<|ZV (Z5 g9 0)<|ZK rfl ⟨g9,0,none⟩ (Z8 y.num) (hbx.ZQ 0)<|ZN (ZI rfl (y.num) (4) (decide_eq_true (hcs.1))) <|
     ZG ZW (Z5 g9 1)<|ZK rfl ⟨g9,1,none⟩ (Z8 y.kind) (hbx.ZQ 1)<|ZN (ZI rfl (y.kind) (0) (decide_eq_false (hcs.2)))<|ZG ZY ZY<|wn ?_
    simp only[pu];go_upto_region 14 with fail;refine wl<|ZV (Z5 g9 0)<|ZK rfl ⟨g9,0,none⟩ (Z8 y.num) (hbx.ZQ 0)<|ZN (ZI rfl (y.num) (5) dF) <|
     Zc ZY undef undef undef ZY ZY<|wn ?_
    simp only[pu];go_upto_region 16 with fail;refine wl<|ZV (Z5 g9 0)<|ZK rfl ⟨g9,0,none⟩ (Z8 y.num) (hbx.ZQ 0)<|ZN (ZI rfl (y.num) (6) dF) <|
     Zc ZY undef undef undef ZY ZY<|wn ?_
    simp only[pu];obtain⟨XI,hZ⟩:=Zn (y:=⟨s1,m2,m3,m4,s5,A⟩) (a':=a6) (c':=c6) hX2;have YL:=Z9 (ZE XD);have Zp:=Z9 (ZT Yh.out HG2.out.1 (ZA ⟨s1,m2,m3,m4,s5,A⟩ a6 c6));have HRW:=Z9 ((WX (g:=g2) Qa (ZA ⟨s1,m2,m3,m4,s5,A⟩ a6 c6) Xi.out.1).base (B:=w.heap.size) LU.out);have HE:=Z9 (UN.out _ ⟨s1,m2,m3,m4,s5,A⟩ false a6 c6 Zp.out OW.out HRW.out);generalize World.setRow _ g2 (ZA ⟨s1,m2,m3,m4,s5,A⟩ a6 c6)=V9 at *
    clear UN HRW Zp hX2 XD Qa;go_upto_region 5 with fail;refine wl<|ZK rfl ⟨g4,0,none⟩ (.agg (ZA ⟨s1,m2,m3,m4,s5,A⟩ a6 c6)) (YL.out)<|Zr rfl (XI)<|ZV ZY<|wn ?_;simp only[pu];go_wp2_with fail;exact bodyPost_ret (ZO (p:=2) (q:=3) rfl (by kernel_rfl) (ZE hZ) rfl) rfl HE.out
   ·have OW:=Z9 (HS2.out (by unfold Qb; simp[hcs.1,hcs.2]));clear U9 HS2 hba hbl hs6;go_upto_region 6 with fail;refine wl<|ZV (Z5 g9 0)<|ZK rfl ⟨g9,0,none⟩ (Z8 y.num) (hbx.ZQ 0)<|ZN (ZI rfl (y.num) (1) dF) <|
     Zc ZY undef undef undef ZY ZY<|wn ?_
    simp only[pu];go_upto_region 8 with fail;refine wl<|ZV (Z5 g9 0)<|ZK rfl ⟨g9,0,none⟩ (Z8 y.num) (hbx.ZQ 0)<|ZN (ZI rfl (y.num) (2) dF) <|
     Zc ZY undef undef undef ZY ZY<|wn ?_
    simp only[pu];go_upto_region 10 with fail;refine wl<|ZV (Z5 g9 0)<|ZK rfl ⟨g9,0,none⟩ (Z8 y.num) (hbx.ZQ 0)<|ZN (ZI rfl (y.num) (3) dF) <|
     Zc ZY undef undef undef ZY ZY<|wn ?_
    simp only[pu];go_upto_region 12 with fail;refine wl<|ZV (Z5 g9 0)<|ZK rfl ⟨g9,0,none⟩ (Z8 y.num) (hbx.ZQ 0)<|ZN (ZI rfl (y.num) (4) dF) <|
     Zc ZY undef undef undef ZY ZY<|wn ?_
    simp only[pu];go_upto_region 14 with fail;refine wl<|ZV (Z5 g9 0)<|ZK rfl ⟨g9,0,none⟩ (Z8 y.num) (hbx.ZQ 0)<|ZN (ZI rfl (y.num) (5) (decide_eq_true (hcs.1))) <|
     ZG ZW (Z5 g9 1)<|ZK rfl ⟨g9,1,none⟩ (Z8 y.kind) (hbx.ZQ 1)<|ZN (ZI rfl (y.kind) (2) (decide_eq_false (hcs.2)))<|ZG ZY ZY<|wn ?_
    simp only[pu];go_upto_region 16 with fail;refine wl<|ZV (Z5 g9 0)<|ZK rfl ⟨g9,0,none⟩ (Z8 y.num) (hbx.ZQ 0)<|ZN (ZI rfl (y.num) (6) dF) <|
     Zc ZY undef undef undef ZY ZY<|wn ?_
    simp only[pu];obtain⟨XI,hZ⟩:=Zn (y:=⟨s1,m2,m3,m4,s5,A⟩) (a':=a6) (c':=c6) hX2;have YL:=Z9 (ZE XD);have Zp:=Z9 (ZT Yh.out HG2.out.1 (ZA ⟨s1,m2,m3,m4,s5,A⟩ a6 c6));have HRW:=Z9 ((WX (g:=g2) Qa (ZA ⟨s1,m2,m3,m4,s5,A⟩ a6 c6) Xi.out.1).base (B:=w.heap.size) LU.out);have HE:=Z9 (UN.out _ ⟨s1,m2,m3,m4,s5,A⟩ false a6 c6 Zp.out OW.out HRW.out);generalize World.setRow _ g2 (ZA ⟨s1,m2,m3,m4,s5,A⟩ a6 c6)=V9 at *
    clear UN HRW Zp hX2 XD Qa;go_upto_region 5 with fail;refine wl<|ZK rfl ⟨g4,0,none⟩ (.agg (ZA ⟨s1,m2,m3,m4,s5,A⟩ a6 c6)) (YL.out)<|Zr rfl (XI)<|ZV ZY<|wn ?_;simp only[pu];go_wp2_with fail;exact bodyPost_ret (ZO (p:=2) (q:=3) rfl (by kernel_rfl) (ZE hZ) rfl) rfl HE.out
   ·have OW:=Z9 (HS2.out (by unfold Qb; simp[hcs.1,hcs.2]));clear U9 HS2 hba hbl hs6;go_upto_region 6 with fail;refine wl<|ZV (Z5 g9 0)<|ZK rfl ⟨g9,0,none⟩ (Z8 y.num) (hbx.ZQ 0)<|ZN (ZI rfl (y.num) (1) dF) <|
     Zc ZY undef undef undef ZY ZY<|wn ?_
    simp only[pu];go_upto_region 8 with fail;refine wl<|ZV (Z5 g9 0)<|ZK rfl ⟨g9,0,none⟩ (Z8 y.num) (hbx.ZQ 0)<|ZN (ZI rfl (y.num) (2) dF) <|
     Zc ZY undef undef undef ZY ZY<|wn ?_
    simp only[pu];go_upto_region 10 with fail;refine wl<|ZV (Z5 g9 0)<|ZK rfl ⟨g9,0,none⟩ (Z8 y.num) (hbx.ZQ 0)<|ZN (ZI rfl (y.num) (3) dF) <|
     Zc ZY undef undef undef ZY ZY<|wn ?_
    simp only[pu];go_upto_region 12 with fail;refine wl<|ZV (Z5 g9 0)<|ZK rfl ⟨g9,0,none⟩ (Z8 y.num) (hbx.ZQ 0)<|ZN (ZI rfl (y.num) (4) dF) <|
     Zc ZY undef undef undef ZY ZY<|wn ?_
    simp only[pu];go_upto_region 14 with fail;refine wl<|ZV (Z5 g9 0)<|ZK rfl ⟨g9,0,none⟩ (Z8 y.num) (hbx.ZQ 0)<|ZN (ZI rfl (y.num) (5) dF) <|
     Zc ZY undef undef undef ZY ZY<|wn ?_
    simp only[pu];go_upto_region 16 with fail;refine wl<|ZV (Z5 g9 0)<|ZK rfl ⟨g9,0,none⟩ (Z8 y.num) (hbx.ZQ 0)<|ZN (ZI rfl (y.num) (6) (decide_eq_true (hcs.1))) <|
     ZG ZW (Z5 g9 1)<|ZK rfl ⟨g9,1,none⟩ (Z8 y.kind) (hbx.ZQ 1)<|ZN (ZI rfl (y.kind) (2) (decide_eq_false (hcs.2)))<|ZG ZY ZY<|wn ?_
    simp only[pu];obtain⟨XI,hZ⟩:=Zn (y:=⟨s1,m2,m3,m4,s5,A⟩) (a':=a6) (c':=c6) hX2;have YL:=Z9 (ZE XD);have Zp:=Z9 (ZT Yh.out HG2.out.1 (ZA ⟨s1,m2,m3,m4,s5,A⟩ a6 c6));have HRW:=Z9 ((WX (g:=g2) Qa (ZA ⟨s1,m2,m3,m4,s5,A⟩ a6 c6) Xi.out.1).base (B:=w.heap.size) LU.out);have HE:=Z9 (UN.out _ ⟨s1,m2,m3,m4,s5,A⟩ false a6 c6 Zp.out OW.out HRW.out);generalize World.setRow _ g2 (ZA ⟨s1,m2,m3,m4,s5,A⟩ a6 c6)=V9 at *
    clear UN HRW Zp hX2 XD Qa;go_upto_region 5 with fail;refine wl<|ZK rfl ⟨g4,0,none⟩ (.agg (ZA ⟨s1,m2,m3,m4,s5,A⟩ a6 c6)) (YL.out)<|Zr rfl (XI)<|ZV ZY<|wn ?_;simp only[pu];go_wp2_with fail;exact bodyPost_ret (ZO (p:=2) (q:=3) rfl (by kernel_rfl) (ZE hZ) rfl) rfl HE.out
   ·have OW:=Z9 (HS2.out (by unfold Qb; rw[if_neg (by omega),if_neg (by omega),if_neg (by omega),if_neg (by omega),if_neg (by omega),if_neg (by omega)]));clear U9 HS2 hba hbl hs6;go_upto_region 6 with fail;refine wl<|ZV (Z5 g9 0)<|ZK rfl ⟨g9,0,none⟩ (Z8 y.num) (hbx.ZQ 0)<|ZN (ZI rfl (y.num) (1) dF) <|
     Zc ZY undef undef undef ZY ZY<|wn ?_
    simp only[pu];go_upto_region 8 with fail;refine wl<|ZV (Z5 g9 0)<|ZK rfl ⟨g9,0,none⟩ (Z8 y.num) (hbx.ZQ 0)<|ZN (ZI rfl (y.num) (2) dF) <|
     Zc ZY undef undef undef ZY ZY<|wn ?_
    simp only[pu];go_upto_region 10 with fail;refine wl<|ZV (Z5 g9 0)<|ZK rfl ⟨g9,0,none⟩ (Z8 y.num) (hbx.ZQ 0)<|ZN (ZI rfl (y.num) (3) dF) <|
     Zc ZY undef undef undef ZY ZY<|wn ?_
    simp only[pu];go_upto_region 12 with fail;refine wl<|ZV (Z5 g9 0)<|ZK rfl ⟨g9,0,none⟩ (Z8 y.num) (hbx.ZQ 0)<|ZN (ZI rfl (y.num) (4) dF) <|
     Zc ZY undef undef undef ZY ZY<|wn ?_
    simp only[pu];go_upto_region 14 with fail;refine wl<|ZV (Z5 g9 0)<|ZK rfl ⟨g9,0,none⟩ (Z8 y.num) (hbx.ZQ 0)<|ZN (ZI rfl (y.num) (5) dF) <|
     Zc ZY undef undef undef ZY ZY<|wn ?_
    simp only[pu];go_upto_region 16 with fail;refine wl<|ZV (Z5 g9 0)<|ZK rfl ⟨g9,0,none⟩ (Z8 y.num) (hbx.ZQ 0)<|ZN (ZI rfl (y.num) (6) dF) <|
     Zc ZY undef undef undef ZY ZY<|wn ?_
    simp only[pu];obtain⟨XI,hZ⟩:=Zn (y:=⟨s1,m2,m3,m4,s5,A⟩) (a':=a6) (c':=c6) hX2;have YL:=Z9 (ZE XD);have Zp:=Z9 (ZT Yh.out HG2.out.1 (ZA ⟨s1,m2,m3,m4,s5,A⟩ a6 c6));have HRW:=Z9 ((WX (g:=g2) Qa (ZA ⟨s1,m2,m3,m4,s5,A⟩ a6 c6) Xi.out.1).base (B:=w.heap.size) LU.out);have HE:=Z9 (UN.out _ ⟨s1,m2,m3,m4,s5,A⟩ false a6 c6 Zp.out OW.out HRW.out);generalize World.setRow _ g2 (ZA ⟨s1,m2,m3,m4,s5,A⟩ a6 c6)=V9 at *
    clear UN HRW Zp hX2 XD Qa;go_upto_region 5 with fail;refine wl<|ZK rfl ⟨g4,0,none⟩ (.agg (ZA ⟨s1,m2,m3,m4,s5,A⟩ a6 c6)) (YL.out)<|Zr rfl (XI)<|ZV ZY<|wn ?_;simp only[pu];go_wp2_with fail;exact bodyPost_ret (ZO (p:=2) (q:=3) rfl (by kernel_rfl) (ZE hZ) rfl) rfl HE.out
  ·have Jt:=Z9 (HDN.out j _ HJ.out (by rw[List.length_map,HN.out]; omega));have hX2:=HB2.out;have XD:=HB4.out;have Qa:=IC.out;have Yh:=L9;clear HJ HB2 HB4 IC hg;go_upto_region 3 with fail;refine wl<|ZN (Zy rfl (j) (n) dF)<|wn ?_;simp only[pu];obtain⟨XI,hZ⟩:=Zn (y:=⟨s1,m2,m3,m4,s5,A⟩) (a':=a6) (c':=c6) hX2;have YL:=Z9 (ZE XD);have Zp:=Z9 (ZT Yh.out HG2.out.1 (ZA ⟨s1,m2,m3,m4,s5,A⟩ a6 c6));have HRW:=Z9 ((WX (g:=g2) Qa (ZA ⟨s1,m2,m3,m4,s5,A⟩ a6 c6) Xi.out.1).base (B:=w.heap.size) LU.out);have HE:=Z9 (UN.out _ ⟨s1,m2,m3,m4,s5,A⟩ true a6 c6 Zp.out Jt.out HRW.out);generalize World.setRow _ g2 (ZA ⟨s1,m2,m3,m4,s5,A⟩ a6 c6)=V9 at *
   clear UN HRW Zp hX2 XD Qa;go_upto_region 22 with fail;refine wl<|ZK rfl ⟨g4,0,none⟩ (.agg (ZA ⟨s1,m2,m3,m4,s5,A⟩ a6 c6)) (YL.out)<|Zr rfl (XI)<|ZV ZW<|wn ?_;simp only[pu];go_wp2_with fail;exact bodyPost_ret (ZO (p:=2) (q:=3) rfl (by kernel_rfl) (ZE hZ) rfl) rfl HE.out
def Au (w:World)(r:Y0×Int)(e:Ending)(w':World):Prop:=∃ a c,e=.returned (.tuple #[.agg (ZA r.1 a c),Z8 r.2])/\Yv w' w.heap.size (.slice a r.1.tr.length c) r.1.tr/\Below w.heap.size w w'
theorem ai4 {L:List Int}{t:Y0}(h8:∀ x,x∈L->W8 x)(hl:L.length<=4096)(h:IJ L=some t):Bz t:=by
 unfold IJ at h
 split at h
 ·cases h
 rename_i hfl
 have hfl:(YR L).2.2=0:=by simpa using hfl
 rcases Ub (fun x hx=>h8 x hx) (by omega) with⟨-,q⟩ | ⟨P,e0,hm,hP⟩
 ·exact absurd hfl q
 rw[e0] at h;obtain⟨h1,h2,h3,h4,h5⟩:=KH hP h;refine⟨h2,h3,h4,h5,?_⟩;have:=(OA t).2;have e2:(form t).length=(msg P).length:=by rw[h1]; rfl
 rw[e2,hm] at this;omega
theorem II {L:List Int}(hl:¬ 4096<L.length)(h:IJ L=none):Zb L=(zX,4):=by
 unfold IJ at h;unfold Zb;rw[if_neg hl]
 split at h
 ·rename_i hf; rw[if_pos hf]
 ·rename_i hf; rw[if_neg hf,h]
theorem IG {L:List Int}{t:Y0}(hl:¬ 4096<L.length)(h:IJ L=some t):Zb L=if XA t=0 then (t,0) else (zX,XA t):=by
 unfold IJ at h;unfold Zb;rw[if_neg hl]
 split at h
 ·cases h
 ·rename_i hf; rw[if_neg hf,h]
theorem OG (V:World)(x:Y0)(a:Option Addr)(c:Nat):∃ V2,(Instr.storeAt 63 (Z5 V.heap.size 0) (.agg (ZA x a c))).run Tryz.prog (V.alloc (.cells (ZA zX none 0) 63))=.ok () V2/\Below V.heap.size V V2/\Bx V2 V.heap.size (ZA x a c) 63:=
 have hb:Bx (V.alloc (.cells (ZA zX none 0) 63)) V.heap.size (ZA zX none 0) 63:=heap_alloc_last V _
 ⟨_,(Zn hb).1,ZT ((Below.refl _ V).alloc (Nat.le_refl _) _) (Nat.le_refl _) _,(Zn hb).2⟩
theorem oQ (a:Option Addr)(c:Nat)(L:List Int)(w:World)(hs:Sl w a c L)(hc:L.length<=c)(h8:∀ y,y∈L->W8 y) :
  Calls Tryz.prog 67 #[.slice a L.length c] w (Au w (Zb L)):=by
 have hb0:Below w.heap.size w (w.alloc (.cells (ZA zX none 0) 63)):=(Below.refl _ w).alloc (Nat.le_refl _) _;have hX0:Bx (w.alloc (.cells (ZA zX none 0) 63)) w.heap.size (ZA zX none 0) 63:=heap_alloc_last w _;have CR:=Z9 (fun(hl:L.length<=4096)=>ai5 a c L (w.alloc (.cells (ZA zX none 0) 63)) (ZL hs hb0) hc (by omega) h8);have AZ:=Z9 (fun t (hl:L.length<=4096) h=>@ai4 L t h8 hl h);have UN:Hid (∀ V r a2 c2,Zb L=r->Below w.heap.size w V->Yv V w.heap.size (.slice a2 r.1.tr.length c2) r.1.tr->Au w (Zb L) (.returned (.tuple #[.agg (ZA r.1 a2 c2),Z8 r.2])) V):=Z9 fun V r a2 c2 e hb hr=>⟨a2,c2,by rw[e],by rw[e]; exact hr,hb⟩;have HD1:Hid (4096<L.length->Zb L=(zX,3)):=Z9 Em;have HD2:Hid (¬ 4096<L.length->IJ L=none->Zb L=(zX,4)):=Z9 II;have HD3:=Z9 (fun t h1 h2=>@IG L t h1 h2);generalize Zb L=DX at *
 generalize IJ L=RL at *
 go_enter Tryz.func67,Tryz.ntmps67;go_upto_region 1 with fail;change Code.wp _ _ _ _ (w.alloc (.cells (ZA zX none 0) 63));generalize w.alloc (.cells (ZA zX none 0) 63)=W at *
 obtain⟨g2,hg2⟩:=ZR w.heap.size;have HB0:=Z9 hb0;have HG2:Hid (w.heap.size<=g2):=Z9 (by omega);have Xi:Hid (g2<W.heap.size):=Z9 (by rw[<- hg2]; exact hX0.lt);rw[hg2] at hX0;rw[hg2];have LU:Hid (w.heap.size<=W.heap.size):=Z9 hb0.size;clear hb0 hg2 hs h8;by_cases hl:4096<L.length
 ·refine wl<|ZG (.slice a L.length c) (Z8 L.length)<|ZN (Zo rfl (L.length) (4096) dT)<|wn ?_;simp only[pu];obtain⟨XI,hZ⟩:=Zn (y:=zX) (a':=none) (c':=0) hX0;have Zp:=Z9 (ZT HB0.out HG2.out (ZA zX none 0));have HE:=Z9 (UN.out _ (zX,3) none 0 (HD1.out hl) Zp.out (Yv.nil _ _));generalize World.setRow _ g2 (ZA zX none 0)=V9 at *
  clear UN Zp;go_upto_region 2 with fail;refine wl<|ZV (.agg #[.string ⟨#[]⟩,Z7 0,Z7 0,Z7 0,.string ⟨#[]⟩,.slice none 0 0])<|Zr rfl (XI)<|ZV (Z8 3)<|wn ?_;simp only[pu];go_wp2_with fail;exact bodyPost_ret (ZO (p:=2) (q:=3) rfl (by kernel_rfl) (ZE hZ) rfl) rfl HE.out
 ·refine wl<|ZG (.slice a L.length c) (Z8 L.length)<|ZN (Zo rfl (L.length) (4096) dF)<|wn ?_;simp only[pu];have CRW:=CR.out (by omega);clear CR;go_upto_region 3 with fail;refine wl<|ZV (.slice a L.length c) <|
   XZ (fun v w'=>∃ x ok a c,v=.tuple #[.agg (ZA x a c),.bool ok]/\RL=(if ok=true then some x else none)/\Yv w' W.heap.size (.slice a x.tr.length c) x.tr/\Below W.heap.size W w') (CRW.mono fun e w' q=>by obtain⟨x,ok,a,c,h1,h2⟩:=q; exact⟨_,h1,x,ok,a,c,rfl,h2⟩) (fun v5 V5 hq=>?_)
  obtain⟨x,ok,a5,c5,rfl,hok,hrt,hb5⟩:=hq;obtain⟨V6,VX,hb6,hbx⟩:=OG V5 x a5 c5;refine YG (.tuple #[.agg (ZA x a5 c5),.bool ok]) (.agg (ZA x a5 c5)) (.bool ok) ?_;refine Zz rfl (some 4) rfl (Z5 V5.heap.size 0) (V5.alloc (.cells (ZA zX none 0) 63)) (by kernel_rfl) ?_;refine Zr rfl (VX)<|ZV (.bool ok)<|wn ?_;simp only[pu];obtain⟨g4,hg4⟩:=ZR V5.heap.size;have Qc:=hb5.trans (hb6.mono hb5.size);have XP:=Z9 (hX0.below hX0.lt Qc);have Yh:=Z9 (HB0.out.trans (Qc.mono HB0.out.size));have MS:=Z9 (hrt.below hb6);have Yl:=Z9 hbx;rw[hg4] at Yl ⊢;clear VX hg4 hb5 hb6 Qc hX0 HB0 hrt hbx;clear CRW;go_upto_region 4 with fail;cases ok
  ·refine wl<|ZG ZY ZW<|wn ?_;simp only[pu];obtain⟨XI,hZ⟩:=Zn (y:=zX) (a':=none) (c':=0) XP.out;have Zp:=Z9 (ZT Yh.out HG2.out (ZA zX none 0));have HE:=Z9 (UN.out _ (zX,4) none 0 (HD2.out hl hok) Zp.out (Yv.nil _ _));generalize World.setRow _ g2 (ZA zX none 0)=V9 at *
   clear UN Zp;go_upto_region 5 with fail;refine wl<|ZV (.agg #[.string ⟨#[]⟩,Z7 0,Z7 0,Z7 0,.string ⟨#[]⟩,.slice none 0 0])<|Zr rfl (XI)<|ZV (Z8 4)<|wn ?_;simp only[pu];go_wp2_with fail;exact bodyPost_ret (ZO (p:=2) (q:=3) rfl (by kernel_rfl) (ZE hZ) rfl) rfl HE.out
  ·refine wl<|ZG ZW ZY<|wn ?_;simp only[pu];have Gx:Hid ((XA x=0->DX=(x,0))/\(XA x≠0->DX=(zX,XA x))):=Z9 ⟨fun h=>by rw[HD3.out x hl hok,if_pos h],fun h=>by rw[HD3.out x hl hok,if_neg h]⟩;have Aq:=AZ.out x (by omega) hok;obtain⟨ar,cr,er,hcr,-⟩:=MS.out.cs;simp only[Value.slice.injEq,true_and] at er;obtain⟨rfl,rfl⟩:=er;have CV:=Sv x a5 c5 V6 hcr Aq.b.s2;obtain⟨vx,Jr⟩:=ZR (XA x);rw[Jr] at CV;go_upto_region 6 with fail;refine wl<|ZK rfl ⟨g4,0,none⟩ (.agg (ZA x a5 c5)) (ZE Yl.out)<|YW (Z8 vx) (fun w'=>Below V6.heap.size V6 w') CV (fun V7 hb7=>?_);refine ZV (Z8 vx)<|wn ?_;simp only[pu];have PX:=Z9 (XP.out.below XP.out.lt hb7);have oP:=Z9 (Yl.out.below Yl.out.lt hb7);have Vd:=Z9 (Yh.out.trans (hb7.mono Yh.out.size));have qI:=Z9 (MS.out.below hb7);clear XP Yl Yh MS hb7 hcr CV;go_upto_region 7 with fail;by_cases hv:vx=0
   ·refine wl<|ZV (Z8 vx)<|ZN (Za rfl vx 0 (decide_eq_true hv))<|wn ?_;simp only[pu];obtain⟨XI,hZ⟩:=Zn (y:=x) (a':=a5) (c':=c5) PX.out;have YL:=Z9 (ZE oP.out);have Zp:=Z9 (ZT Vd.out HG2.out (ZA x a5 c5));have HRW:=Z9 ((WX (g:=g2) qI.out (ZA x a5 c5) Xi.out).base (B:=w.heap.size) LU.out);have HE:=Z9 (UN.out _ (x,0) a5 c5 (Gx.out.1 (by rw[Jr]; exact hv)) Zp.out HRW.out);generalize World.setRow _ g2 (ZA x a5 c5)=V9 at *
    clear UN Zp HRW PX oP Vd qI Gx;go_upto_region 9 with fail;refine wl<|ZK rfl ⟨g4,0,none⟩ (.agg (ZA x a5 c5)) (YL.out)<|Zr rfl (XI)<|ZV (Z8 0)<|wn ?_;simp only[pu];go_wp2_with fail;exact bodyPost_ret (ZO (p:=2) (q:=3) rfl (by kernel_rfl) (ZE hZ) rfl) rfl HE.out
   ·refine wl<|ZV (Z8 vx)<|ZN (Za rfl vx 0 (decide_eq_false hv))<|wn ?_;simp only[pu];have HDV:=Z9 (Gx.out.2 (by rw[Jr]; exact hv));rw[Jr] at HDV;clear Gx;obtain⟨XI,hZ⟩:=Zn (y:=zX) (a':=none) (c':=0) PX.out;have Zp:=Z9 (ZT Vd.out HG2.out (ZA zX none 0));have HE:=Z9 (UN.out _ (zX,vx) none 0 HDV.out Zp.out (Yv.nil _ _));generalize World.setRow _ g2 (ZA zX none 0)=V9 at *
    clear UN Zp;go_upto_region 8 with fail;refine wl<|ZG (.agg #[.string ⟨#[]⟩,Z7 0,Z7 0,Z7 0,.string ⟨#[]⟩,.slice none 0 0]) (Z8 vx)<|Zr rfl (XI)<|ZV (Z8 vx)<|wn ?_;simp only[pu];go_wp2_with fail;exact bodyPost_ret (ZO (p:=2) (q:=3) rfl (by kernel_rfl) (ZE hZ) rfl) rfl HE.out
theorem Ap (a:Option Addr)(c:Nat)(L:List Int)(w:World)(hs:Sl w a c L)(hc:L.length<=c)(h8:∀ y,y∈L->W8 y) :
  Calls Tryz.prog 45 #[.slice a L.length c] w (Au w (Zb L)):=by
 have hb0:Below w.heap.size w (w.alloc (.cells (ZA zX none 0) 63)):=(Below.refl _ w).alloc (Nat.le_refl _) _;have hX0:Bx (w.alloc (.cells (ZA zX none 0) 63)) w.heap.size (ZA zX none 0) 63:=heap_alloc_last w _;have CF:=Z9 (fun(hl:L.length<=4096)=>KG a c L (w.alloc (.cells (ZA zX none 0) 63)) (by omega) (ZL hs hb0) h8 hc);have Am:=Z9 (fun(hl:L.length<=4096)=>(show(∀ f,f∈(YR L).1->Vf f)/\(YR L).1.length<=100000/\(∀ f,f∈(YR L).1->f.bytes.length<=100000)/\((YR L).2.2=0->msg (YR L).1=L)/\(msg (YR L).1).length<=4096 from by
  rcases Ub (fun y hy=>h8 y hy) (by omega) with⟨e,q⟩ | ⟨P,e,hm,hP⟩
  ·rw[e]; exact⟨(fun f h=>nomatch h),by simp,(fun f h=>nomatch h),fun h=>absurd h q,by simp[msg]⟩
  ·rw[e]; exact⟨hP,by have:=Ak P; rw[hm] at this; simp only; omega,fun f hf=>by have:=Ej hf; rw[hm] at this; omega,fun _=>hm,by rw[hm]; exact hl⟩))
 have H8:=Z9 h8;have gW:=Z9 hs;have UN:Hid (∀ V r a2 c2,Zb L=r->Below w.heap.size w V->Yv V w.heap.size (.slice a2 r.1.tr.length c2) r.1.tr->Au w (Zb L) (.returned (.tuple #[.agg (ZA r.1 a2 c2),Z8 r.2])) V):=Z9 fun V r a2 c2 e hb hr=>⟨a2,c2,by rw[e],by rw[e]; exact hr,hb⟩;have HD1:Hid (4096<L.length->Zb L=(zX,3)):=Z9 Em;have HD2:=Z9 (fun(h1:¬ 4096<L.length) (h2:(YR L).2.2≠0)=>oO (by omega) h2);have HD3:Hid (¬ 4096<L.length->(YR L).2.2=0->xM (YR L).1=none->Zb L=(zX,4)):=Z9 fun h1 h2 h3=>II h1 (by unfold IJ; rw[if_neg (by rw[h2]; decide),h3]);have HD4:Hid (∀ t,¬ 4096<L.length->(YR L).2.2=0->xM (YR L).1=some t->Zb L=if XA t=0 then (t,0) else (zX,XA t)):=Z9 fun t h1 h2 h3=>IG h1 (by unfold IJ; rw[if_neg (by rw[h2]; decide),h3]);generalize Zb L=DX at *
 generalize YR L=FR at *
 go_enter Tryz.func45,Tryz.ntmps45;go_upto_region 1 with fail;change Code.wp _ _ _ _ (w.alloc (.cells (ZA zX none 0) 63));generalize w.alloc (.cells (ZA zX none 0) 63)=W at *
 obtain⟨g2,hg2⟩:=ZR w.heap.size;have HB0:=Z9 hb0;have HG2:Hid (w.heap.size<=g2):=Z9 (by omega);have Xi:Hid (g2<W.heap.size):=Z9 (by rw[<- hg2]; exact hX0.lt);rw[hg2] at hX0;rw[hg2];have LU:Hid (w.heap.size<=W.heap.size):=Z9 hb0.size;clear hb0 hg2 hs h8;by_cases hl:4096<L.length
 ·refine wl<|ZG (.slice a L.length c) (Z8 L.length)<|ZN (Zo rfl (L.length) (4096) dT)<|wn ?_;simp only[pu];obtain⟨XI,hZ⟩:=Zn (y:=zX) (a':=none) (c':=0) hX0;have Zp:=Z9 (ZT HB0.out HG2.out (ZA zX none 0));have HE:=Z9 (UN.out _ (zX,3) none 0 (HD1.out hl) Zp.out (Yv.nil _ _));generalize World.setRow _ g2 (ZA zX none 0)=V9 at *
  clear UN Zp;go_upto_region 2 with fail;refine wl<|ZV (.agg #[.string ⟨#[]⟩,Z7 0,Z7 0,Z7 0,.string ⟨#[]⟩,.slice none 0 0])<|Zr rfl (XI)<|ZV (Z8 3)<|wn ?_;simp only[pu];go_wp2_with fail;exact bodyPost_ret (ZO (p:=2) (q:=3) rfl (by kernel_rfl) (ZE hZ) rfl) rfl HE.out
 ·refine wl<|ZG (.slice a L.length c) (Z8 L.length)<|ZN (Zo rfl (L.length) (4096) dF)<|wn ?_;simp only[pu];have CFW:=CF.out (by omega);have hfv:=Am.out (by omega);clear CF Am;go_upto_region 3 with fail;refine wl<|ZV (.slice a L.length c) <|
   XZ (fun v w'=>∃ a c ps,v=.tuple #[.slice a ps.length c,Z8 FR.2.1,Z8 FR.2.2]/\ps.map Prod.fst=FR.1/\ps.length<=c/\N8 w' W.heap.size a ps/\Below W.heap.size W w') (CFW.mono fun e w' q=>by obtain⟨v,ps,h1,h2,h3,h4⟩:=q; obtain⟨a,c,rfl,hc,hf⟩:=h3.fsb; exact⟨_,h1,a,c,ps,rfl,h2,hc,hf,h4⟩) (fun v5 V4 hq=>?_)
  obtain⟨a4,c4,ps,rfl,hps,hc4,hF4,hb4⟩:=hq;refine Zc (.tuple #[.slice a4 ps.length c4,Z8 FR.2.1,Z8 FR.2.2]) (.slice a4 ps.length c4) (Z8 FR.2.1) (Z8 FR.2.2) (.slice a4 ps.length c4) (Z8 FR.2.1)<|ZV (Z8 FR.2.2)<|wn ?_;simp only[pu];obtain⟨P,n5,e5⟩:=FR;dsimp only at *
  subst hps;have CR:=Aj a4 c4 ps W.heap.size V4 hF4 hc4 hfv.1 hfv.2.2.1 (by have:=hfv.2.1; rwa [List.length_map] at this);have oN:=Z9 (ay9 hfv.1 hfv.2.2.2.2);have AZ:=Z9 (fun u h=>@oM (ps.map Prod.fst) u hfv.1 hfv.2.2.2.2 h);have HMS:=Z9 hfv.2.2.2.1;generalize PV zX (ps.map Prod.fst)=RX at *
  have HB4:=Z9 hb4;clear hfv CFW hF4 hc4 hb4;go_upto_region 4 with fail;refine wl<|ZV (.slice a4 ps.length c4) <|
   XZ (fun v w'=>∃ x ok a c,v=.tuple #[.agg (ZA x a c),.bool ok]/\RX=(if ok=true then some x else none)/\Yv w' V4.heap.size (.slice a x.tr.length c) x.tr/\Below V4.heap.size V4 w') (CR.mono fun e w' q=>by obtain⟨x,ok,a,c,h1,h2⟩:=q; exact⟨_,h1,x,ok,a,c,rfl,h2⟩) (fun v5 V5 hq=>?_)
  obtain⟨x,ok,a5,c5,rfl,hok,hrt,hb5⟩:=hq;have hrt:=hrt.base HB4.out.size;have hb5:=HB4.out.trans (hb5.mono HB4.out.size);obtain⟨V6,VX,hb6,hbx⟩:=OG V5 x a5 c5;refine YG (.tuple #[.agg (ZA x a5 c5),.bool ok]) (.agg (ZA x a5 c5)) (.bool ok) ?_;refine Zz rfl (some 7) rfl (Z5 V5.heap.size 0) (V5.alloc (.cells (ZA zX none 0) 63)) (by kernel_rfl) ?_;refine Zr rfl (VX)<|ZV (.bool ok)<|wn ?_;simp only[pu];obtain⟨g4,hg4⟩:=ZR V5.heap.size;have Qc:=hb5.trans (hb6.mono hb5.size);have XP:=Z9 (hX0.below hX0.lt Qc);have Yh:=Z9 (HB0.out.trans (Qc.mono HB0.out.size));have MS:=Z9 (hrt.below hb6);have Yl:=Z9 hbx;have hs6:=ZL gW.out Yh.out;rw[hg4] at Yl ⊢;clear VX hg4 hb5 hb6 Qc hX0 HB0 hrt hbx CR HB4 gW;go_upto_region 5 with fail;by_cases he:e5=0
  ·cases ok
   ·have HDZ:=Z9 (HD3.out hl he (by rw[oN.out,hok]; rfl));refine wl<|ZV (Z8 e5)<|ZN (Za rfl e5 0 (decide_eq_true he))<|Zc ZY ZY ZW ZW ZW undef<|Rq undef undef undef undef ZW<|wn ?_;simp only[pu];obtain⟨XI,hZ⟩:=Zn (y:=zX) (a':=none) (c':=0) XP.out;have Zp:=Z9 (ZT Yh.out HG2.out (ZA zX none 0));have HE:=Z9 (UN.out _ (zX,4) none 0 HDZ.out Zp.out (Yv.nil _ _));generalize World.setRow _ g2 (ZA zX none 0)=V9 at *
    clear UN Zp;go_upto_region 6 with fail;refine wl<|ZV (.agg #[.string ⟨#[]⟩,Z7 0,Z7 0,Z7 0,.string ⟨#[]⟩,.slice none 0 0])<|Zr rfl (XI)<|ZV (Z8 4)<|wn ?_;simp only[pu];go_wp2_with fail;exact bodyPost_ret (ZO (p:=2) (q:=3) rfl (by kernel_rfl) (ZE hZ) rfl) rfl HE.out
   ·have Aq:=AZ.out x hok;obtain⟨ar,cr,er,hcr,-⟩:=MS.out.cs;simp only[Value.slice.injEq,true_and] at er;obtain⟨rfl,rfl⟩:=er;have CFO:=Ei x a5 c5 V6 hcr Aq;have HFB:=Z9 (Tm Aq.vf);have HXD:Hid (xM (ps.map Prod.fst)=if form x=L then some x else none):=Z9 (by rw[oN.out,hok,HMS.out he]; rfl);have HFF:Hid (form x=msg (IE x)):=Z9 rfl;generalize form x=FO at *
    clear hcr;by_cases hm:FO=L
    ·have hdm:decide (FO=L)=true:=decide_eq_true hm;have Gx:Hid ((XA x=0->DX=(x,0))/\(XA x≠0->DX=(zX,XA x))):=Z9 (by have h9:=HD4.out x hl he (by rw[HXD.out,if_pos hm]); exact⟨fun h=>by rw[h9,if_pos h],fun h=>by rw[h9,if_neg h]⟩);refine wl<|ZV (Z8 e5)<|ZN (Za rfl e5 0 (decide_eq_true he))<|Rq ZY ZW ZY ZY ZY<|ZK rfl ⟨g4,0,none⟩ (.agg (ZA x a5 c5)) (ZE Yl.out) <|
      XZ (fun v w'=>Own w' V6.heap.size v FO/\Below V6.heap.size V6 w') CFO (fun u7 V7 hq=>?_)
     obtain⟨hO7,hb7⟩:=hq;obtain⟨b7,d7,rfl,hs7,-⟩:=hO7.sl;have CS:Calls Tryz.prog 76 #[.slice b7 FO.length d7,.slice a L.length c] V7 fun e w'=>e=.returned ZW/\V7=w':=(by have:=KD b7 d7 FO a c L V7 hs7 (ZL hs6 hb7) (by rw[HFF.out]; exact HFB.out) H8.out; rwa [hdm] at this);refine ZV (.slice a L.length c)<|YW ZW (fun w'=>V7=w') (CS) (fun V9 XC=>?_);subst XC;refine ZG ZY ZY<|wn ?_;simp only[pu]
     replace XP:=Z9 (XP.out.below XP.out.lt hb7)
     replace Yl:=Z9 (Yl.out.below Yl.out.lt hb7)
     replace Yh:=Z9 (Yh.out.trans (hb7.mono Yh.out.size))
     replace MS:=Z9 (MS.out.below hb7)
     clear hb7 hO7 hs7 CS hs6 CFO;obtain⟨ar,cr,er,hcr,-⟩:=MS.out.cs;simp only[Value.slice.injEq,true_and] at er;obtain⟨rfl,rfl⟩:=er;have CV:=U6 x a5 c5 V7 hcr Aq.b.s1 Aq.b.s2 Aq.b.s3;obtain⟨vx,Jr⟩:=ZR (XA x);rw[Jr] at CV;go_upto_region 7 with fail;refine wl<|ZK rfl ⟨g4,0,none⟩ (.agg (ZA x a5 c5)) (ZE Yl.out)<|YW (Z8 vx) (fun w'=>Below V7.heap.size V7 w') CV (fun V8 hb7=>?_);refine ZV (Z8 vx)<|wn ?_;simp only[pu];have PX:=Z9 (XP.out.below XP.out.lt hb7);have oP:=Z9 (Yl.out.below Yl.out.lt hb7);have Vd:=Z9 (Yh.out.trans (hb7.mono Yh.out.size));have qI:=Z9 (MS.out.below hb7);clear XP Yl Yh MS hb7 hcr CV;go_upto_region 8 with fail;by_cases hv:vx=0
     ·refine wl<|ZV (Z8 vx)<|ZN (Za rfl vx 0 (decide_eq_true hv))<|wn ?_;simp only[pu];obtain⟨XI,hZ⟩:=Zn (y:=x) (a':=a5) (c':=c5) PX.out;have YL:=Z9 (ZE oP.out);have Zp:=Z9 (ZT Vd.out HG2.out (ZA x a5 c5));have HRW:=Z9 ((WX (g:=g2) qI.out (ZA x a5 c5) Xi.out).base (B:=w.heap.size) LU.out);have HE:=Z9 (UN.out _ (x,0) a5 c5 (Gx.out.1 (by rw[Jr]; exact hv)) Zp.out HRW.out);generalize World.setRow _ g2 (ZA x a5 c5)=V9 at *
      clear UN Zp HRW PX oP Vd qI Gx;go_upto_region 10 with fail;refine wl<|ZK rfl ⟨g4,0,none⟩ (.agg (ZA x a5 c5)) (YL.out)<|Zr rfl (XI)<|ZV (Z8 0)<|wn ?_;simp only[pu];go_wp2_with fail;exact bodyPost_ret (ZO (p:=2) (q:=3) rfl (by kernel_rfl) (ZE hZ) rfl) rfl HE.out
     ·refine wl<|ZV (Z8 vx)<|ZN (Za rfl vx 0 (decide_eq_false hv))<|wn ?_;simp only[pu];have HDV:=Z9 (Gx.out.2 (by rw[Jr]; exact hv));rw[Jr] at HDV;clear Gx;obtain⟨XI,hZ⟩:=Zn (y:=zX) (a':=none) (c':=0) PX.out;have Zp:=Z9 (ZT Vd.out HG2.out (ZA zX none 0));have HE:=Z9 (UN.out _ (zX,vx) none 0 HDV.out Zp.out (Yv.nil _ _));generalize World.setRow _ g2 (ZA zX none 0)=V9 at *
      clear UN Zp;go_upto_region 9 with fail;refine wl<|ZG (.agg #[.string ⟨#[]⟩,Z7 0,Z7 0,Z7 0,.string ⟨#[]⟩,.slice none 0 0]) (Z8 vx)<|Zr rfl (XI)<|ZV (Z8 vx)<|wn ?_;simp only[pu];go_wp2_with fail;exact bodyPost_ret (ZO (p:=2) (q:=3) rfl (by kernel_rfl) (ZE hZ) rfl) rfl HE.out
    ·have hdm:decide (FO=L)=false:=decide_eq_false hm;have HDZ:=Z9 (HD3.out hl he (by rw[HXD.out,if_neg hm]));refine wl<|ZV (Z8 e5)<|ZN (Za rfl e5 0 (decide_eq_true he))<|Rq ZY ZW ZY ZY ZY<|ZK rfl ⟨g4,0,none⟩ (.agg (ZA x a5 c5)) (ZE Yl.out) <|
      XZ (fun v w'=>Own w' V6.heap.size v FO/\Below V6.heap.size V6 w') CFO (fun u7 V7 hq=>?_)
     obtain⟨hO7,hb7⟩:=hq;obtain⟨b7,d7,rfl,hs7,-⟩:=hO7.sl;have CS:Calls Tryz.prog 76 #[.slice b7 FO.length d7,.slice a L.length c] V7 fun e w'=>e=.returned ZY/\V7=w':=(by have:=KD b7 d7 FO a c L V7 hs7 (ZL hs6 hb7) (by rw[HFF.out]; exact HFB.out) H8.out; rwa [hdm] at this);refine ZV (.slice a L.length c)<|YW ZY (fun w'=>V7=w') (CS) (fun V9 XC=>?_);subst XC;refine ZG ZW ZW<|wn ?_;simp only[pu]
     replace XP:=Z9 (XP.out.below XP.out.lt hb7)
     replace Yl:=Z9 (Yl.out.below Yl.out.lt hb7)
     replace Yh:=Z9 (Yh.out.trans (hb7.mono Yh.out.size))
     replace MS:=Z9 (MS.out.below hb7)
     clear hb7 hO7 hs7 CS hs6 CFO;obtain⟨XI,hZ⟩:=Zn (y:=zX) (a':=none) (c':=0) XP.out;have Zp:=Z9 (ZT Yh.out HG2.out (ZA zX none 0));have HE:=Z9 (UN.out _ (zX,4) none 0 HDZ.out Zp.out (Yv.nil _ _));generalize World.setRow _ g2 (ZA zX none 0)=V9 at *
     clear UN Zp;go_upto_region 6 with fail;refine wl<|ZV (.agg #[.string ⟨#[]⟩,Z7 0,Z7 0,Z7 0,.string ⟨#[]⟩,.slice none 0 0])<|Zr rfl (XI)<|ZV (Z8 4)<|wn ?_;simp only[pu];go_wp2_with fail;exact bodyPost_ret (ZO (p:=2) (q:=3) rfl (by kernel_rfl) (ZE hZ) rfl) rfl HE.out
  ·have HDZ:=Z9 (HD2.out hl he);refine wl<|ZV (Z8 e5)<|ZN (Za rfl e5 0 (decide_eq_false he))<|Zc ZW undef undef ZW ZW undef<|Rq undef undef undef undef ZW<|wn ?_;simp only[pu];obtain⟨XI,hZ⟩:=Zn (y:=zX) (a':=none) (c':=0) XP.out;have Zp:=Z9 (ZT Yh.out HG2.out (ZA zX none 0));have HE:=Z9 (UN.out _ (zX,4) none 0 HDZ.out Zp.out (Yv.nil _ _));generalize World.setRow _ g2 (ZA zX none 0)=V9 at *
   clear UN Zp;go_upto_region 6 with fail;refine wl<|ZV (.agg #[.string ⟨#[]⟩,Z7 0,Z7 0,Z7 0,.string ⟨#[]⟩,.slice none 0 0])<|Zr rfl (XI)<|ZV (Z8 4)<|wn ?_;simp only[pu];go_wp2_with fail;exact bodyPost_ret (ZO (p:=2) (q:=3) rfl (by kernel_rfl) (ZE hZ) rfl) rfl HE.out
end Go.Proofs.YtfpnnmeblefkkaaGreatDoor
