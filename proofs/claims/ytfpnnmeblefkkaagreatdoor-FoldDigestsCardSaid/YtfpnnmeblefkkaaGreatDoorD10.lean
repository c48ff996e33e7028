/-
  Texts joined.
-/
import Derived.Test.YtfpnnmeblefkkaaGreatDoorD9
set_option maxRecDepth 100000
set_option maxHeartbeats 8000000
set_option linter.unusedSimpArgs false
set_option linter.unusedVariables false
namespace Go.Proofs.YtfpnnmeblefkkaaGreatDoor
attribute [local irreducible] wpList wpQuiet
open Go.RowKit
def XJ (P:List Zj)(j:Nat)(t:YV):Prop:=Pz zX P=Pz t (P.drop j)
theorem XJ.zero (P:List Zj):XJ P 0 zX:=by unfold XJ; rw[List.drop_zero]
theorem XJ.step {P:List Zj}{j:Nat}{t u:YV}(h:XJ P j t)(hj:j<P.length)(hc:PX t P[j]=some u):XJ P (j+1) u:=by
 unfold XJ at *
 rw[h,List.drop_eq_getElem_cons hj,Wq,hc,Option.bind_some]
theorem XJ.fail {P:List Zj}{j:Nat}{t:YV}(h:XJ P j t)(hj:j<P.length)(hc:PX t P[j]=none):Pz zX P=none:=by
 unfold XJ at *
 rw[h,List.drop_eq_getElem_cons hj,Wq,hc,Option.bind_none]
theorem XJ.done {P:List Zj}{j:Nat}{t:YV}(h:XJ P j t)(hj:P.length<=j):Pz zX P=some t:=by
 unfold XJ at *
 rw[h,List.drop_eq_nil_of_le hj,Pz]
theorem zY (a:Option Addr)(c:Nat)(ps:List (Zj×Value))(B:Nat)(w:World)(hF:NH w B a ps)(hc:ps.length<=c)(hv:∀ f,f∈ps.map Prod.fst->Vf f)(hbl:∀ f,f∈ps.map Prod.fst->f.bytes.length<=100000)(hnl:ps.length<=100000) :
  Calls Tryz.prog 75 #[.slice a ps.length c] w (RdO w (Pz zX (ps.map Prod.fst))):=by
 have hb1:Below w.heap.size w (w.alloc (.cells (ZA zX none 0) 63)):=(Below.refl _ w).alloc (Nat.le_refl _) _;have hX1:Bx (w.alloc (.cells (ZA zX none 0) 63)) w.heap.size (ZA zX none 0) 63:=heap_alloc_last w _;have hsz1:(w.alloc (.cells (ZA zX none 0) 63)).heap.size=w.heap.size+1:=by simp
 have UL:Hid (∀ V t ok a2 c2,Below w.heap.size w V->Pz zX (ps.map Prod.fst)=(if ok=true then some t else none)->Yv V w.heap.size (.slice a2 t.tr.length c2) t.tr->RdO w (Pz zX (ps.map Prod.fst)) (.returned (.tuple #[.agg (ZA t a2 c2),.bool ok])) V):=Z9 fun V t ok a2 c2 hb e hr=>⟨t,ok,a2,c2,rfl,e,hr,hb⟩;have HVF:=Z9 hv;have uY:=Z9 hbl;have Ui:=Z9 hnl;have HF:=Z9 hF;have HCC:=Z9 hF.cap;have rH:=Z9 (XJ.zero (ps.map Prod.fst));have HST:=Z9 (fun j t u h hj hc=>@XJ.step (ps.map Prod.fst) j t u h hj hc);have HFA:=Z9 (fun j t h hj hc=>@XJ.fail (ps.map Prod.fst) j t h hj hc);have HDN:=Z9 (fun j t h hj=>@XJ.done (ps.map Prod.fst) j t h hj);generalize Pz zX (ps.map Prod.fst)=RR at *
 obtain⟨n,hn⟩:=ZQ ps.length;have HN:=Z9 hn;rw[hn] at Ui ⊢;clear hF hc hv hbl hnl hn;go_enter Tryz.func75,Tryz.ntmps75;go_upto_region 1 with fail;change Code.wp _ _ _ _ (w.alloc (.cells (ZA zX none 0) 63));generalize w.alloc (.cells (ZA zX none 0) 63)=W1 at *
 apply wp_region_lit;refine Zy rfl (some 4) rfl (Z5 W1.heap.size 0) (W1.alloc (.cells (ZA zX none 0) 63)) (by kernel_rfl) ?_;simp only[pu];apply wpList_nil;have hb0:Below w.heap.size w (W1.alloc (.cells (ZA zX none 0) 63)):=hb1.alloc hb1.size _;have hX0:Bx (W1.alloc (.cells (ZA zX none 0) 63)) w.heap.size (ZA zX none 0) 63:=hX1.below hX1.lt ((Below.refl _ W1).alloc (Nat.le_refl _) _);have hY0:Bx (W1.alloc (.cells (ZA zX none 0) 63)) W1.heap.size (ZA zX none 0) 63:=heap_alloc_last W1 _;generalize W1.alloc (.cells (ZA zX none 0) 63)=W at *
 obtain⟨g2,hg2⟩:=ZQ w.heap.size;obtain⟨g4,hg4⟩:=ZQ W1.heap.size;have HB0:=Z9 hb0;have HG2:Hid (w.heap.size<=g2/\w.heap.size<=g4/\g2≠g4):=Z9 ⟨by omega,by omega,by omega⟩;rw[hg4] at hY0 ⊢;rw[hg2] at hX0 ⊢;have RU:=Z9 hX0;have Yh:=Z9 hY0;have XA:Hid (g2<W.heap.size/\g4<W.heap.size):=Z9 ⟨hX0.lt,hY0.lt⟩;have Jf:Hid (w.heap.size<=W.heap.size):=Z9 hb0.size;clear hb0 hb1 hX1 hsz1 hg2 hg4 hX0 hY0;go_upto_region 2 with fail;refine wl<|Yr (.slice a n c) (Z8 n) (Z8 0)<|wn ?_;simp only[pu];go_wp2_with fail;go_loopg [11] n (fun gg s11 wx=>∃ (j:Nat) (s1:ByteArray) (m2 m3 m4:Int) (s5:ByteArray) (A:List Tf) (a6:Option Addr) (c6:Nat),s11=Z8 j/\j<=n/\Hid (A.length<=j)/\Hid (Bx wx g2 (ZA zX none 0) 63)/\Hid (Bx wx g4 (ZA ⟨s1,m2,m3,m4,s5,A⟩ a6 c6) 63)/\Hid (Yv wx W.heap.size (.slice a6 A.length c6) A)/\Hid (XJ (ps.map Prod.fst) j ⟨s1,m2,m3,m4,s5,A⟩)/\Hid (Below w.heap.size w wx)/\Hid (W.heap.size<=wx.heap.size)/\n-j=gg)
 case atStart=>exact⟨0,WM,0,0,0,WM,[],none,0,rfl,by omega,Z9 (Nat.zero_le _),RU,Yh,Z9 (Yv.nil _ _),rH,HB0,Z9 (Nat.le_refl _),by omega⟩
 case round=>
  obtain⟨j,s1,m2,m3,m4,s5,A,a6,c6,rfl,hj,AZ,HB2,HB4,Iy,HJ,LD,HSZ,hg⟩:=hrel;clear RU Yh rH HB0;by_cases hlt:j<n
  ·have HG:Hid (n-(j+1)=gk-1/\0<gk/\j+1<=n/\j+1<=100000):=Z9 ⟨by omega,by omega,by omega,by have:=Ui.out; omega⟩;have hjq:j<ps.length:=(by rw[HN.out]; exact hlt);obtain⟨b,off,ba,bc,rfl,hp2,hsl,hbox⟩:=(HF.out.below LD.out).fs j ps[j] (List.getElem?_eq_getElem hjq);have Jm:=HVF.out ps[j].1 (by exact List.mem_map_of_mem (List.getElem_mem hjq));have hbl:=uY.out ps[j].1 (by exact List.mem_map_of_mem (List.getElem_mem hjq));have hjm:j<(ps.map Prod.fst).length:=(by rw[List.length_map]; exact hjq);have hgx:(ps.map Prod.fst)[j]=ps[j].1:=List.getElem_map ..;have Vl:=Z9 (fun u (hc:PX ⟨s1,m2,m3,m4,s5,A⟩ ps[j].1=some u)=>HST.out j _ u HJ.out hjm (by rw[hgx]; exact hc));have HS2:=Z9 (fun(hc:PX ⟨s1,m2,m3,m4,s5,A⟩ ps[j].1=none)=>HFA.out j _ HJ.out hjm (by rw[hgx]; exact hc));have hba:ps[j].1.bytes.length<=bc:=HCC.out ps[j] (List.getElem_mem hjq) ba ps[j].1.bytes.length bc hp2;generalize ps[j].1=y at *
   have hld:=Rx (SK hbox);obtain⟨V6,hst,hb6,hbx⟩:=Gw wr y ba bc;have hX2:=HB2.out.below HB2.out.lt hb6;have Xy:=HB4.out.below HB4.out.lt hb6;have PV:=Iy.out.below hb6;have X9:=Z9 (LD.out.trans (hb6.mono LD.out.size));have Md:Hid (W.heap.size<=V6.heap.size):=Z9 (Nat.le_trans HSZ.out hb6.size);have hs6:=ZP hsl hb6;clear hp2 hsl hbox hjm hgx HJ hb6 hg hjq HB2 HB4 Iy LD HSZ;have HVX:=Z9 Jm;have hk0:y.kind=0∨y.kind=2:=(by rcases Jm.1.2.2 with q | q; exact .inl q.1; exact .inr q.1);clear Jm;go_upto_region 3 with fail;refine wl<|ZM (Zr rfl (j) (n) dT)<|wn ?_;simp only[pu];go_upto_region 4 with fail;refine wl<|YI (Z5 b (off+j*4)) (Xu b off n c j hlt _ _ _ rfl (by kernel_rfl) (by kernel_rfl))<|ZL rfl ⟨b,off+j*4,none⟩ (.agg (XR y ba bc)) (hld) ?_;refine Zy rfl (some 6) rfl (Z5 wr.heap.size 0) (wr.alloc (.cells (XR VT none 0) 77)) (by kernel_rfl) ?_;refine Zk rfl (hst)<|wn ?_;obtain⟨g9,oG⟩:=ZQ wr.heap.size;rw[oG] at hbx ⊢;clear hst oG hld;have hall:(y.num=1/\y.kind=2)∨(y.num=2/\y.kind=0)∨(y.num=3/\y.kind=0)∨(y.num=4/\y.kind=0)∨(y.num=5/\y.kind=2)∨(y.num=6/\y.kind=2)∨(y.num=1/\y.kind≠2)∨(y.num=2/\y.kind≠0)∨(y.num=3/\y.kind≠0)∨(y.num=4/\y.kind≠0)∨(y.num=5/\y.kind≠2)∨(y.num=6/\y.kind≠2)∨(y.num<1∨6<y.num):=(by omega);rcases hall with hcs | hcs | hcs | hcs | hcs | hcs | hcs | hcs | hcs | hcs | hcs | hcs | hcs
   ·have hrf:PX ⟨s1,m2,m3,m4,s5,A⟩ y=some ⟨(strOfNums y.bytes),m2,m3,m4,s5,A⟩:=(by unfold PX; simp[hcs.1,hcs.2]);have oD:=Z9 (Vl.out _ hrf);go_upto_region 6 with fail;refine wl<|ZV (Z5 g9 0)<|ZL rfl ⟨g9,0,none⟩ (Z8 y.num) (hbx.ZR 0)<|ZM (ZI rfl (y.num) (1) (decide_eq_true (hcs.1))) <|
     ZB ZW (Z5 g9 1)<|ZL rfl ⟨g9,1,none⟩ (Z8 y.kind) (hbx.ZR 1)<|ZM (ZI rfl (y.kind) (2) (decide_eq_true (hcs.2)))<|ZB ZW ZW<|wn ?_
    simp only[pu];obtain⟨V8,XQ,Wh,hb8,XT⟩:=Zl (i:=0) (ty:=9) (v:=.string (strOfNums y.bytes)) (cs':=ZA ⟨(strOfNums y.bytes),m2,m3,m4,s5,A⟩ a6 c6) Xy X9.out HG2.out.2.1 (by show 0<6; decide) rfl (by kernel_rfl) rfl;have Pm:=Z9 Wh;have Kr:=Z9 (hX2.but XT HG2.out.2.2);have Hr:=Z9 (PV.but XT XA.out.2);have Qr:=Z9 hb8;have oC:Hid (W.heap.size<=V8.heap.size):=Z9 (Nat.le_trans Md.out XT.1.size);have oz:Hid (A.length<=j+1):=Z9 (Nat.le_succ_of_le AZ.out);go_upto_region 7 with fail;refine wl<|ZV (Z5 g9 3)<|ZL rfl ⟨g9,3,none⟩ (.slice ba y.bytes.length bc) (hbx.ZR 3)<|YI (.string (strOfNums y.bytes)) (Nr rfl hs6 (by kernel_rfl))<|ZV (Z5 g4 0)<|Zk rfl (XQ) <|
     wpList_nil ?_
    simp only[pu];clear XQ Wh hb8 XT hX2 Xy PV hbx hs6 Vl HS2 hrf AZ X9 Md;go_upto_region 21 with fail;refine wl<|YI (Z8 (j+1:Nat)) (add_one rfl j (by have:=HG.out; omega) (by kernel_rfl) _)<|ZV (Z8 (j+1:Nat))<|wn ?_;simp only[pu];go_wp2_with fail;go_roundg (gk-1)
    case measure=>have:=HG.out; omega
    case rel=>exact⟨j+1,(strOfNums y.bytes),m2,m3,m4,s5,A,a6,c6,rfl,HG.out.2.2.1,oz,Kr,Pm,Hr,oD,Qr,oC,HG.out.1⟩
   ·have hrf:PX ⟨s1,m2,m3,m4,s5,A⟩ y=some ⟨s1,y.val,m3,m4,s5,A⟩:=(by unfold PX; simp[hcs.1,hcs.2]);have oD:=Z9 (Vl.out _ hrf);go_upto_region 6 with fail;refine wl<|ZV (Z5 g9 0)<|ZL rfl ⟨g9,0,none⟩ (Z8 y.num) (hbx.ZR 0)<|ZM (ZI rfl (y.num) (1) dF) <|
     Y0 ZY undef undef undef ZY ZY<|wn ?_
    simp only[pu];go_upto_region 8 with fail;refine wl<|ZV (Z5 g9 0)<|ZL rfl ⟨g9,0,none⟩ (Z8 y.num) (hbx.ZR 0)<|ZM (ZI rfl (y.num) (2) (decide_eq_true (hcs.1))) <|
     ZB ZW (Z5 g9 1)<|ZL rfl ⟨g9,1,none⟩ (Z8 y.kind) (hbx.ZR 1)<|ZM (ZI rfl (y.kind) (0) (decide_eq_true (hcs.2)))<|ZB ZW ZW<|wn ?_
    simp only[pu];obtain⟨V8,XQ,Wh,hb8,XT⟩:=Zl (i:=1) (ty:=24) (v:=Z7 y.val) (cs':=ZA ⟨s1,y.val,m3,m4,s5,A⟩ a6 c6) Xy X9.out HG2.out.2.1 (by show 1<6; decide) rfl (by kernel_rfl) rfl;have Pm:=Z9 Wh;have Kr:=Z9 (hX2.but XT HG2.out.2.2);have Hr:=Z9 (PV.but XT XA.out.2);have Qr:=Z9 hb8;have oC:Hid (W.heap.size<=V8.heap.size):=Z9 (Nat.le_trans Md.out XT.1.size);have oz:Hid (A.length<=j+1):=Z9 (Nat.le_succ_of_le AZ.out);go_upto_region 9 with fail;refine wl<|ZV (Z5 g9 2)<|ZL rfl ⟨g9,2,none⟩ (Z7 y.val) (hbx.ZR 2)<|ZV (Z5 g4 1)<|Zk rfl (XQ)<|wn ?_;simp only[pu];clear XQ Wh hb8 XT hX2 Xy PV hbx hs6 Vl HS2 hrf AZ X9 Md;go_upto_region 21 with fail;refine wl<|YI (Z8 (j+1:Nat)) (add_one rfl j (by have:=HG.out; omega) (by kernel_rfl) _)<|ZV (Z8 (j+1:Nat))<|wn ?_;simp only[pu];go_wp2_with fail;go_roundg (gk-1)
    case measure=>have:=HG.out; omega
    case rel=>exact⟨j+1,s1,y.val,m3,m4,s5,A,a6,c6,rfl,HG.out.2.2.1,oz,Kr,Pm,Hr,oD,Qr,oC,HG.out.1⟩
   ·have hrf:PX ⟨s1,m2,m3,m4,s5,A⟩ y=some ⟨s1,m2,y.val,m4,s5,A⟩:=(by unfold PX; simp[hcs.1,hcs.2]);have oD:=Z9 (Vl.out _ hrf);go_upto_region 6 with fail;refine wl<|ZV (Z5 g9 0)<|ZL rfl ⟨g9,0,none⟩ (Z8 y.num) (hbx.ZR 0)<|ZM (ZI rfl (y.num) (1) dF) <|
     Y0 ZY undef undef undef ZY ZY<|wn ?_
    simp only[pu];go_upto_region 8 with fail;refine wl<|ZV (Z5 g9 0)<|ZL rfl ⟨g9,0,none⟩ (Z8 y.num) (hbx.ZR 0)<|ZM (ZI rfl (y.num) (2) dF) <|
     Y0 ZY undef undef undef ZY ZY<|wn ?_
    simp only[pu];go_upto_region 10 with fail;refine wl<|ZV (Z5 g9 0)<|ZL rfl ⟨g9,0,none⟩ (Z8 y.num) (hbx.ZR 0)<|ZM (ZI rfl (y.num) (3) (decide_eq_true (hcs.1))) <|
     ZB ZW (Z5 g9 1)<|ZL rfl ⟨g9,1,none⟩ (Z8 y.kind) (hbx.ZR 1)<|ZM (ZI rfl (y.kind) (0) (decide_eq_true (hcs.2)))<|ZB ZW ZW<|wn ?_
    simp only[pu];obtain⟨V8,XQ,Wh,hb8,XT⟩:=Zl (i:=2) (ty:=24) (v:=Z7 y.val) (cs':=ZA ⟨s1,m2,y.val,m4,s5,A⟩ a6 c6) Xy X9.out HG2.out.2.1 (by show 2<6; decide) rfl (by kernel_rfl) rfl;have Pm:=Z9 Wh;have Kr:=Z9 (hX2.but XT HG2.out.2.2);have Hr:=Z9 (PV.but XT XA.out.2);have Qr:=Z9 hb8;have oC:Hid (W.heap.size<=V8.heap.size):=Z9 (Nat.le_trans Md.out XT.1.size);have oz:Hid (A.length<=j+1):=Z9 (Nat.le_succ_of_le AZ.out);go_upto_region 11 with fail;refine wl<|ZV (Z5 g9 2)<|ZL rfl ⟨g9,2,none⟩ (Z7 y.val) (hbx.ZR 2)<|ZV (Z5 g4 2)<|Zk rfl (XQ)<|wn ?_;simp only[pu];clear XQ Wh hb8 XT hX2 Xy PV hbx hs6 Vl HS2 hrf AZ X9 Md;go_upto_region 21 with fail;refine wl<|YI (Z8 (j+1:Nat)) (add_one rfl j (by have:=HG.out; omega) (by kernel_rfl) _)<|ZV (Z8 (j+1:Nat))<|wn ?_;simp only[pu];go_wp2_with fail;go_roundg (gk-1)
    case measure=>have:=HG.out; omega
    case rel=>exact⟨j+1,s1,m2,y.val,m4,s5,A,a6,c6,rfl,HG.out.2.2.1,oz,Kr,Pm,Hr,oD,Qr,oC,HG.out.1⟩
   ·have hrf:PX ⟨s1,m2,m3,m4,s5,A⟩ y=some ⟨s1,m2,m3,y.val,s5,A⟩:=(by unfold PX; simp[hcs.1,hcs.2]);have oD:=Z9 (Vl.out _ hrf);go_upto_region 6 with fail;refine wl<|ZV (Z5 g9 0)<|ZL rfl ⟨g9,0,none⟩ (Z8 y.num) (hbx.ZR 0)<|ZM (ZI rfl (y.num) (1) dF) <|
     Y0 ZY undef undef undef ZY ZY<|wn ?_
    simp only[pu];go_upto_region 8 with fail;refine wl<|ZV (Z5 g9 0)<|ZL rfl ⟨g9,0,none⟩ (Z8 y.num) (hbx.ZR 0)<|ZM (ZI rfl (y.num) (2) dF) <|
     Y0 ZY undef undef undef ZY ZY<|wn ?_
    simp only[pu];go_upto_region 10 with fail;refine wl<|ZV (Z5 g9 0)<|ZL rfl ⟨g9,0,none⟩ (Z8 y.num) (hbx.ZR 0)<|ZM (ZI rfl (y.num) (3) dF) <|
     Y0 ZY undef undef undef ZY ZY<|wn ?_
    simp only[pu];go_upto_region 12 with fail;refine wl<|ZV (Z5 g9 0)<|ZL rfl ⟨g9,0,none⟩ (Z8 y.num) (hbx.ZR 0)<|ZM (ZI rfl (y.num) (4) (decide_eq_true (hcs.1))) <|
     ZB ZW (Z5 g9 1)<|ZL rfl ⟨g9,1,none⟩ (Z8 y.kind) (hbx.ZR 1)<|ZM (ZI rfl (y.kind) (0) (decide_eq_true (hcs.2)))<|ZB ZW ZW<|wn ?_
    simp only[pu];obtain⟨V8,XQ,Wh,hb8,XT⟩:=Zl (i:=3) (ty:=24) (v:=Z7 y.val) (cs':=ZA ⟨s1,m2,m3,y.val,s5,A⟩ a6 c6) Xy X9.out HG2.out.2.1 (by show 3<6; decide) rfl (by kernel_rfl) rfl;have Pm:=Z9 Wh;have Kr:=Z9 (hX2.but XT HG2.out.2.2);have Hr:=Z9 (PV.but XT XA.out.2);have Qr:=Z9 hb8;have oC:Hid (W.heap.size<=V8.heap.size):=Z9 (Nat.le_trans Md.out XT.1.size);have oz:Hid (A.length<=j+1):=Z9 (Nat.le_succ_of_le AZ.out);go_upto_region 13 with fail;refine wl<|ZV (Z5 g9 2)<|ZL rfl ⟨g9,2,none⟩ (Z7 y.val) (hbx.ZR 2)<|ZV (Z5 g4 3)<|Zk rfl (XQ)<|wn ?_;simp only[pu];clear XQ Wh hb8 XT hX2 Xy PV hbx hs6 Vl HS2 hrf AZ X9 Md;go_upto_region 21 with fail;refine wl<|YI (Z8 (j+1:Nat)) (add_one rfl j (by have:=HG.out; omega) (by kernel_rfl) _)<|ZV (Z8 (j+1:Nat))<|wn ?_;simp only[pu];go_wp2_with fail;go_roundg (gk-1)
    case measure=>have:=HG.out; omega
    case rel=>exact⟨j+1,s1,m2,m3,y.val,s5,A,a6,c6,rfl,HG.out.2.2.1,oz,Kr,Pm,Hr,oD,Qr,oC,HG.out.1⟩
   ·have hrf:PX ⟨s1,m2,m3,m4,s5,A⟩ y=some ⟨s1,m2,m3,m4,(strOfNums y.bytes),A⟩:=(by unfold PX; simp[hcs.1,hcs.2]);have oD:=Z9 (Vl.out _ hrf);go_upto_region 6 with fail;refine wl<|ZV (Z5 g9 0)<|ZL rfl ⟨g9,0,none⟩ (Z8 y.num) (hbx.ZR 0)<|ZM (ZI rfl (y.num) (1) dF) <|
     Y0 ZY undef undef undef ZY ZY<|wn ?_
    simp only[pu];go_upto_region 8 with fail;refine wl<|ZV (Z5 g9 0)<|ZL rfl ⟨g9,0,none⟩ (Z8 y.num) (hbx.ZR 0)<|ZM (ZI rfl (y.num) (2) dF) <|
     Y0 ZY undef undef undef ZY ZY<|wn ?_
    simp only[pu];go_upto_region 10 with fail;refine wl<|ZV (Z5 g9 0)<|ZL rfl ⟨g9,0,none⟩ (Z8 y.num) (hbx.ZR 0)<|ZM (ZI rfl (y.num) (3) dF) <|
     Y0 ZY undef undef undef ZY ZY<|wn ?_
    simp only[pu];go_upto_region 12 with fail;refine wl<|ZV (Z5 g9 0)<|ZL rfl ⟨g9,0,none⟩ (Z8 y.num) (hbx.ZR 0)<|ZM (ZI rfl (y.num) (4) dF) <|
     Y0 ZY undef undef undef ZY ZY<|wn ?_
    simp only[pu];go_upto_region 14 with fail;refine wl<|ZV (Z5 g9 0)<|ZL rfl ⟨g9,0,none⟩ (Z8 y.num) (hbx.ZR 0)<|ZM (ZI rfl (y.num) (5) (decide_eq_true (hcs.1))) <|
     ZB ZW (Z5 g9 1)<|ZL rfl ⟨g9,1,none⟩ (Z8 y.kind) (hbx.ZR 1)<|ZM (ZI rfl (y.kind) (2) (decide_eq_true (hcs.2)))<|ZB ZW ZW<|wn ?_
    simp only[pu];obtain⟨V8,XQ,Wh,hb8,XT⟩:=Zl (i:=4) (ty:=9) (v:=.string (strOfNums y.bytes)) (cs':=ZA ⟨s1,m2,m3,m4,(strOfNums y.bytes),A⟩ a6 c6) Xy X9.out HG2.out.2.1 (by show 4<6; decide) rfl (by kernel_rfl) rfl;have Pm:=Z9 Wh;have Kr:=Z9 (hX2.but XT HG2.out.2.2);have Hr:=Z9 (PV.but XT XA.out.2);have Qr:=Z9 hb8;have oC:Hid (W.heap.size<=V8.heap.size):=Z9 (Nat.le_trans Md.out XT.1.size);have oz:Hid (A.length<=j+1):=Z9 (Nat.le_succ_of_le AZ.out);go_upto_region 15 with fail;refine wl<|ZV (Z5 g9 3)<|ZL rfl ⟨g9,3,none⟩ (.slice ba y.bytes.length bc) (hbx.ZR 3)<|YI (.string (strOfNums y.bytes)) (Nr rfl hs6 (by kernel_rfl))<|ZV (Z5 g4 4)<|Zk rfl (XQ) <|
     wpList_nil ?_
    simp only[pu];clear XQ Wh hb8 XT hX2 Xy PV hbx hs6 Vl HS2 hrf AZ X9 Md;go_upto_region 21 with fail;refine wl<|YI (Z8 (j+1:Nat)) (add_one rfl j (by have:=HG.out; omega) (by kernel_rfl) _)<|ZV (Z8 (j+1:Nat))<|wn ?_;simp only[pu];go_wp2_with fail;go_roundg (gk-1)
    case measure=>have:=HG.out; omega
    case rel=>exact⟨j+1,s1,m2,m3,m4,(strOfNums y.bytes),A,a6,c6,rfl,HG.out.2.2.1,oz,Kr,Pm,Hr,oD,Qr,oC,HG.out.1⟩
   ·have CR:=Gv ba bc y.bytes V6 hs6 hba hbl HVX.out.2.2.1;have oI:Hid (PX ⟨s1,m2,m3,m4,s5,A⟩ y=(Eh y.bytes).map fun x=>⟨s1,m2,m3,m4,s5,A++[x]⟩):=Z9 (by unfold PX; simp[hcs.1,hcs.2]);generalize Eh y.bytes=rx at *
    go_upto_region 6 with fail;refine wl<|ZV (Z5 g9 0)<|ZL rfl ⟨g9,0,none⟩ (Z8 y.num) (hbx.ZR 0)<|ZM (ZI rfl (y.num) (1) dF) <|
     Y0 ZY undef undef undef ZY ZY<|wn ?_
    simp only[pu];go_upto_region 8 with fail;refine wl<|ZV (Z5 g9 0)<|ZL rfl ⟨g9,0,none⟩ (Z8 y.num) (hbx.ZR 0)<|ZM (ZI rfl (y.num) (2) dF) <|
     Y0 ZY undef undef undef ZY ZY<|wn ?_
    simp only[pu];go_upto_region 10 with fail;refine wl<|ZV (Z5 g9 0)<|ZL rfl ⟨g9,0,none⟩ (Z8 y.num) (hbx.ZR 0)<|ZM (ZI rfl (y.num) (3) dF) <|
     Y0 ZY undef undef undef ZY ZY<|wn ?_
    simp only[pu];go_upto_region 12 with fail;refine wl<|ZV (Z5 g9 0)<|ZL rfl ⟨g9,0,none⟩ (Z8 y.num) (hbx.ZR 0)<|ZM (ZI rfl (y.num) (4) dF) <|
     Y0 ZY undef undef undef ZY ZY<|wn ?_
    simp only[pu];go_upto_region 14 with fail;refine wl<|ZV (Z5 g9 0)<|ZL rfl ⟨g9,0,none⟩ (Z8 y.num) (hbx.ZR 0)<|ZM (ZI rfl (y.num) (5) dF) <|
     Y0 ZY undef undef undef ZY ZY<|wn ?_
    simp only[pu];go_upto_region 16 with fail;refine wl<|ZV (Z5 g9 0)<|ZL rfl ⟨g9,0,none⟩ (Z8 y.num) (hbx.ZR 0)<|ZM (ZI rfl (y.num) (6) (decide_eq_true (hcs.1))) <|
     ZB ZW (Z5 g9 1)<|ZL rfl ⟨g9,1,none⟩ (Z8 y.kind) (hbx.ZR 1)<|ZM (ZI rfl (y.kind) (2) (decide_eq_true (hcs.2)))<|ZB ZW ZW<|wn ?_
    simp only[pu];go_upto_region 17 with fail;refine wl<|ZV (Z5 g9 3)<|ZL rfl ⟨g9,3,none⟩ (.slice ba y.bytes.length bc) (hbx.ZR 3) <|
     XI (fun v w'=>∃ x ok,v=.tuple #[.agg (Yy x),.bool ok]/\rx=(if ok=true then some x else none)/\Below V6.heap.size V6 w') (CR.mono fun e w' q=>by obtain⟨x,ok,h1,h2⟩:=q; exact⟨_,h1,x,ok,rfl,h2⟩) (fun v7 V7 hq=>?_)
    obtain⟨x,ok,rfl,hok,hb7⟩:=hq;obtain⟨V8,XQ,hb8,OE⟩:=Tt V7 x;refine Yr (.tuple #[.agg (Yy x),.bool ok]) (.agg (Yy x)) (.bool ok) ?_;refine Zy rfl (some 7) rfl (Z5 V7.heap.size 0) (V7.alloc (.cells (Yy Un) 60)) (by kernel_rfl) ?_;refine Zk rfl (XQ)<|ZV (.bool ok)<|wn ?_;simp only[pu];obtain⟨g7,P6⟩:=ZQ V7.heap.size;have Kq:=hb7.trans (hb8.mono hb7.size)
    replace hX2:=hX2.below hX2.lt Kq
    replace Xy:=Xy.below Xy.lt Kq
    replace PV:=PV.below Kq
    replace X9:=Z9 (X9.out.trans (Kq.mono X9.out.size))
    replace Md:Hid (W.heap.size<=V8.heap.size):=Z9 (Nat.le_trans Md.out Kq.size)
    rw[P6] at OE ⊢;clear XQ P6 hb7 hb8 Kq CR hbx hs6;go_upto_region 18 with fail;cases ok
    ·have MP:=Z9 (HS2.out (by rw[oI.out,hok]; rfl));refine wl<|ZB ZY ZW<|wn ?_;simp only[pu];clear Vl HS2 oI hok;obtain⟨XE,hZ⟩:=Zm (y:=⟨s1,m2,m3,m4,s5,A⟩) (a':=a6) (c':=c6) hX2;have YD:=Z9 (ZH Xy);have Zg:=Z9 (ZU X9.out HG2.out.1 (ZA ⟨s1,m2,m3,m4,s5,A⟩ a6 c6));have HRW:=Z9 ((WS (g:=g2) PV (ZA ⟨s1,m2,m3,m4,s5,A⟩ a6 c6) XA.out.1).base (B:=w.heap.size) Jf.out);have HE:=Z9 (UL.out _ ⟨s1,m2,m3,m4,s5,A⟩ false a6 c6 Zg.out MP.out HRW.out);generalize World.setRow _ g2 (ZA ⟨s1,m2,m3,m4,s5,A⟩ a6 c6)=V9 at *
     clear UL HRW Zg hX2 Xy PV;go_upto_region 19 with fail;refine wl<|ZL rfl ⟨g4,0,none⟩ (.agg (ZA ⟨s1,m2,m3,m4,s5,A⟩ a6 c6)) (YD.out)<|Zk rfl (XE)<|ZV ZY<|wn ?_;simp only[pu];go_wp2_with fail;exact bodyPost_ret (ZN (p:=2) (q:=3) rfl (by kernel_rfl) (ZH hZ) rfl) rfl HE.out
    ·refine wl<|ZB ZW ZY<|wn ?_;simp only[pu];have oD:=Z9 (Vl.out _ (by rw[oI.out,hok]; rfl));obtain⟨a7,c7,V9,hap,OQ,XG⟩:=Lp PV Md.out x (by have:=AZ.out; have:=HG.out; omega);have SI:Bx V9 g4 (ZA ⟨s1,m2,m3,m4,s5,A⟩ a6 c6) 63:=Xy.below XA.out.2 XG;obtain⟨V10,Ef,ou,az1,QJ⟩:=Zl (i:=5) (ty:=61) (v:=.slice a7 (A++[x]).length c7) (cs':=ZA ⟨s1,m2,m3,m4,s5,A++[x]⟩ a7 c7) SI (X9.out.trans (XG.mono Jf.out)) HG2.out.2.1 (by show 5<6; decide) rfl (by kernel_rfl) rfl;have Pm:=Z9 ou;have Kr:=Z9 ((hX2.below XA.out.1 XG).but QJ HG2.out.2.2);have Hr:=Z9 (OQ.but QJ XA.out.2);have Qr:=Z9 az1;have oC:Hid (W.heap.size<=V10.heap.size):=Z9 (Nat.le_trans (Nat.le_trans Md.out XG.size) QJ.1.size);have oz:Hid ((A++[x]).length<=j+1):=Z9 (by rw[List.length_append]; have:=AZ.out; show A.length+1<=j+1; omega);clear OQ XG SI ou QJ az1 Vl HS2 oI hok AZ X9 Md hX2 PV;go_upto_region 20 with fail;refine wl<|ZV (Z5 g4 5)<|ZL rfl ⟨g4,5,none⟩ (.slice a6 A.length c6) (Xy.ZR 5)<|ZL rfl ⟨g7,0,none⟩ (.agg (Yy x)) (YH OE) ?_;refine Zv (by kernel_rfl) (some 99) rfl 61 1 #[(0,.tmp 98)] rfl #[(0,.agg (Yy x))] (by kernel_rfl) (.slice (some ⟨V8.heap.size,0,none⟩) 1 1) _ (QY x V8) ?_;refine Zh rfl (some 100) rfl 61 rfl (.tmp 97) (.tmp 99) 61 rfl (.slice a6 A.length c6) (.slice (some ⟨V8.heap.size,0,none⟩) 1 1) (.slice a7 (A++[x]).length c7) V9 (by kernel_rfl) (by kernel_rfl) hap ?_;refine ZV (Z5 g4 5)<|Zk rfl (Ef)<|wn ?_;simp only[pu];clear hap Ef Xy OE;go_upto_region 21 with fail;refine wl<|YI (Z8 (j+1:Nat)) (add_one rfl j (by have:=HG.out; omega) (by kernel_rfl) _)<|ZV (Z8 (j+1:Nat))<|wn ?_;simp only[pu];go_wp2_with fail;go_roundg (gk-1)
     case measure=>have:=HG.out; omega
     case rel=>exact⟨j+1,s1,m2,m3,m4,s5,A++[x],a7,c7,rfl,HG.out.2.2.1,oz,Kr,Pm,Hr,oD,Qr,oC,HG.out.1⟩
   ·have MP:=Z9 (HS2.out (by unfold PX; simp[hcs.1,hcs.2]));clear Vl HS2 hba hbl hs6;go_upto_region 6 with fail;refine wl<|ZV (Z5 g9 0)<|ZL rfl ⟨g9,0,none⟩ (Z8 y.num) (hbx.ZR 0)<|ZM (ZI rfl (y.num) (1) (decide_eq_true (hcs.1))) <|
     ZB ZW (Z5 g9 1)<|ZL rfl ⟨g9,1,none⟩ (Z8 y.kind) (hbx.ZR 1)<|ZM (ZI rfl (y.kind) (2) (decide_eq_false (hcs.2)))<|ZB ZY ZY<|wn ?_
    simp only[pu];go_upto_region 8 with fail;refine wl<|ZV (Z5 g9 0)<|ZL rfl ⟨g9,0,none⟩ (Z8 y.num) (hbx.ZR 0)<|ZM (ZI rfl (y.num) (2) dF) <|
     Y0 ZY undef undef undef ZY ZY<|wn ?_
    simp only[pu];go_upto_region 10 with fail;refine wl<|ZV (Z5 g9 0)<|ZL rfl ⟨g9,0,none⟩ (Z8 y.num) (hbx.ZR 0)<|ZM (ZI rfl (y.num) (3) dF) <|
     Y0 ZY undef undef undef ZY ZY<|wn ?_
    simp only[pu];go_upto_region 12 with fail;refine wl<|ZV (Z5 g9 0)<|ZL rfl ⟨g9,0,none⟩ (Z8 y.num) (hbx.ZR 0)<|ZM (ZI rfl (y.num) (4) dF) <|
     Y0 ZY undef undef undef ZY ZY<|wn ?_
    simp only[pu];go_upto_region 14 with fail;refine wl<|ZV (Z5 g9 0)<|ZL rfl ⟨g9,0,none⟩ (Z8 y.num) (hbx.ZR 0)<|ZM (ZI rfl (y.num) (5) dF) <|
     Y0 ZY undef undef undef ZY ZY<|wn ?_
    simp only[pu];go_upto_region 16 with fail;refine wl<|ZV (Z5 g9 0)<|ZL rfl ⟨g9,0,none⟩ (Z8 y.num) (hbx.ZR 0)<|ZM (ZI rfl (y.num) (6) dF) <|
     Y0 ZY undef undef undef ZY ZY<|wn ?_
    simp only[pu];obtain⟨XE,hZ⟩:=Zm (y:=⟨s1,m2,m3,m4,s5,A⟩) (a':=a6) (c':=c6) hX2;have YD:=Z9 (ZH Xy);have Zg:=Z9 (ZU X9.out HG2.out.1 (ZA ⟨s1,m2,m3,m4,s5,A⟩ a6 c6));have HRW:=Z9 ((WS (g:=g2) PV (ZA ⟨s1,m2,m3,m4,s5,A⟩ a6 c6) XA.out.1).base (B:=w.heap.size) Jf.out);have HE:=Z9 (UL.out _ ⟨s1,m2,m3,m4,s5,A⟩ false a6 c6 Zg.out MP.out HRW.out);generalize World.setRow _ g2 (ZA ⟨s1,m2,m3,m4,s5,A⟩ a6 c6)=V9 at *
    clear UL HRW Zg hX2 Xy PV;go_upto_region 5 with fail;refine wl<|ZL rfl ⟨g4,0,none⟩ (.agg (ZA ⟨s1,m2,m3,m4,s5,A⟩ a6 c6)) (YD.out)<|Zk rfl (XE)<|ZV ZY<|wn ?_;simp only[pu];go_wp2_with fail;exact bodyPost_ret (ZN (p:=2) (q:=3) rfl (by kernel_rfl) (ZH hZ) rfl) rfl HE.out
   ·have MP:=Z9 (HS2.out (by unfold PX; simp[hcs.1,hcs.2]));clear Vl HS2 hba hbl hs6;go_upto_region 6 with fail;refine wl<|ZV (Z5 g9 0)<|ZL rfl ⟨g9,0,none⟩ (Z8 y.num) (hbx.ZR 0)<|ZM (ZI rfl (y.num) (1) dF) <|
     Y0 ZY undef undef undef ZY ZY<|wn ?_
    simp only[pu];go_upto_region 8 with fail;refine wl<|ZV (Z5 g9 0)<|ZL rfl ⟨g9,0,none⟩ (Z8 y.num) (hbx.ZR 0)<|ZM (ZI rfl (y.num) (2) (decide_eq_true (hcs.1))) <|
     ZB ZW (Z5 g9 1)<|ZL rfl ⟨g9,1,none⟩ (Z8 y.kind) (hbx.ZR 1)<|ZM (ZI rfl (y.kind) (0) (decide_eq_false (hcs.2)))<|ZB ZY ZY<|wn ?_
    simp only[pu];go_upto_region 10 with fail;refine wl<|ZV (Z5 g9 0)<|ZL rfl ⟨g9,0,none⟩ (Z8 y.num) (hbx.ZR 0)<|ZM (ZI rfl (y.num) (3) dF) <|
     Y0 ZY undef undef undef ZY ZY<|wn ?_
    simp only[pu];go_upto_region 12 with fail;refine wl<|ZV (Z5 g9 0)<|ZL rfl ⟨g9,0,none⟩ (Z8 y.num) (hbx.ZR 0)<|ZM (ZI rfl (y.num) (4) dF) <|
     Y0 ZY undef undef undef ZY ZY<|wn ?_
    simp only[pu];go_upto_region 14 with fail;refine wl<|ZV (Z5 g9 0)<|ZL rfl ⟨g9,0,none⟩ (Z8 y.num) (hbx.ZR 0)<|ZM (ZI rfl (y.num) (5) dF) <|
     Y0 ZY undef undef undef ZY ZY<|wn ?_
    simp only[pu];go_upto_region 16 with fail;refine wl<|ZV (Z5 g9 0)<|ZL rfl ⟨g9,0,none⟩ (Z8 y.num) (hbx.ZR 0)<|ZM (ZI rfl (y.num) (6) dF) <|
     Y0 ZY undef undef undef ZY ZY<|wn ?_
    simp only[pu];obtain⟨XE,hZ⟩:=Zm (y:=⟨s1,m2,m3,m4,s5,A⟩) (a':=a6) (c':=c6) hX2;have YD:=Z9 (ZH Xy);have Zg:=Z9 (ZU X9.out HG2.out.1 (ZA ⟨s1,m2,m3,m4,s5,A⟩ a6 c6));have HRW:=Z9 ((WS (g:=g2) PV (ZA ⟨s1,m2,m3,m4,s5,A⟩ a6 c6) XA.out.1).base (B:=w.heap.size) Jf.out);have HE:=Z9 (UL.out _ ⟨s1,m2,m3,m4,s5,A⟩ false a6 c6 Zg.out MP.out HRW.out);generalize World.setRow _ g2 (ZA ⟨s1,m2,m3,m4,s5,A⟩ a6 c6)=V9 at *
    clear UL HRW Zg hX2 Xy PV;go_upto_region 5 with fail;refine wl<|ZL rfl ⟨g4,0,none⟩ (.agg (ZA ⟨s1,m2,m3,m4,s5,A⟩ a6 c6)) (YD.out)<|Zk rfl (XE)<|ZV ZY<|wn ?_;simp only[pu];go_wp2_with fail;exact bodyPost_ret (ZN (p:=2) (q:=3) rfl (by kernel_rfl) (ZH hZ) rfl) rfl HE.out
   ·have MP:=Z9 (HS2.out (by unfold PX; simp[hcs.1,hcs.2]));clear Vl HS2 hba hbl hs6;go_upto_region 6 with fail;refine wl<|ZV (Z5 g9 0)<|ZL rfl ⟨g9,0,none⟩ (Z8 y.num) (hbx.ZR 0)<|ZM (ZI rfl (y.num) (1) dF) <|
     Y0 ZY undef undef undef ZY ZY<|wn ?_
    simp only[pu];go_upto_region 8 with fail;refine wl<|ZV (Z5 g9 0)<|ZL rfl ⟨g9,0,none⟩ (Z8 y.num) (hbx.ZR 0)<|ZM (ZI rfl (y.num) (2) dF) <|
     Y0 ZY undef undef undef ZY ZY<|wn ?_
    simp only[pu];go_upto_region 10 with fail;refine wl<|ZV (Z5 g9 0)<|ZL rfl ⟨g9,0,none⟩ (Z8 y.num) (hbx.ZR 0)<|ZM (ZI rfl (y.num) (3) (decide_eq_true (hcs.1))) <|
     ZB ZW (Z5 g9 1)<|ZL rfl ⟨g9,1,none⟩ (Z8 y.kind) (hbx.ZR 1)<|ZM (ZI rfl (y.kind) (0) (decide_eq_false (hcs.2)))<|ZB ZY ZY<|wn ?_
    simp only[pu];go_upto_region 12 with fail;refine wl<|ZV (Z5 g9 0)<|ZL rfl ⟨g9,0,none⟩ (Z8 y.num) (hbx.ZR 0)<|ZM (ZI rfl (y.num) (4) dF) <|
     Y0 ZY undef undef undef ZY ZY<|wn ?_
    simp only[pu];go_upto_region 14 with fail;refine wl<|ZV (Z5 g9 0)<|ZL rfl ⟨g9,0,none⟩ (Z8 y.num) (hbx.ZR 0)<|ZM (ZI rfl (y.num) (5) dF) <|
     Y0 ZY undef undef undef ZY ZY<|wn ?_
    simp only[pu];go_upto_region 16 with fail;refine wl<|ZV (Z5 g9 0)<|ZL rfl ⟨g9,0,none⟩ (Z8 y.num) (hbx.ZR 0)<|ZM (ZI rfl (y.num) (6) dF) <|
     Y0 ZY undef undef undef ZY ZY<|wn ?_
    simp only[pu];obtain⟨XE,hZ⟩:=Zm (y:=⟨s1,m2,m3,m4,s5,A⟩) (a':=a6) (c':=c6) hX2;have YD:=Z9 (ZH Xy);have Zg:=Z9 (ZU X9.out HG2.out.1 (ZA ⟨s1,m2,m3,m4,s5,A⟩ a6 c6));have HRW:=Z9 ((WS (g:=g2) PV (ZA ⟨s1,m2,m3,m4,s5,A⟩ a6 c6) XA.out.1).base (B:=w.heap.size) Jf.out);have HE:=Z9 (UL.out _ ⟨s1,m2,m3,m4,s5,A⟩ false a6 c6 Zg.out MP.out HRW.out);generalize World.setRow _ g2 (ZA ⟨s1,m2,m3,m4,s5,A⟩ a6 c6)=V9 at *
    clear UL HRW Zg hX2 Xy PV;go_upto_region 5 with fail;refine wl<|ZL rfl ⟨g4,0,none⟩ (.agg (ZA ⟨s1,m2,m3,m4,s5,A⟩ a6 c6)) (YD.out)<|Zk rfl (XE)<|ZV ZY<|wn ?_;simp only[pu];go_wp2_with fail;exact bodyPost_ret (ZN (p:=2) (q:=3) rfl (by kernel_rfl) (ZH hZ) rfl) rfl HE.out
   ·have MP:=Z9 (HS2.out (by unfold PX; simp[hcs.1,hcs.2]));clear Vl HS2 hba hbl hs6;go_upto_region 6 with fail;refine wl<|ZV (Z5 g9 0)<|ZL rfl ⟨g9,0,none⟩ (Z8 y.num) (hbx.ZR 0)<|ZM (ZI rfl (y.num) (1) dF) <|
     Y0 ZY undef undef undef ZY ZY<|wn ?_
    simp only[pu];go_upto_region 8 with fail;refine wl<|ZV (Z5 g9 0)<|ZL rfl ⟨g9,0,none⟩ (Z8 y.num) (hbx.ZR 0)<|ZM (ZI rfl (y.num) (2) dF) <|
     Y0 ZY undef undef undef ZY ZY<|wn ?_
    simp only[pu];go_upto_region 10 with fail;refine wl<|ZV (Z5 g9 0)<|ZL rfl ⟨g9,0,none⟩ (Z8 y.num) (hbx.ZR 0)<|ZM (ZI rfl (y.num) (3) dF) <|
     Y0 ZY undef undef undef ZY ZY<|wn ?_
    simp only[pu];go_upto_region 12 with fail;refine wl<|ZV (Z5 g9 0)<|ZL rfl ⟨g9,0,none⟩ (Z8 y.num) (hbx.ZR 0)<|ZM (ZI rfl (y.num) (4) (decide_eq_true (hcs.1))) <|
     ZB ZW (Z5 g9 1)<|ZL rfl ⟨g9,1,none⟩ (Z8 y.kind) (hbx.ZR 1)<|ZM (ZI rfl (y.kind) (0) (decide_eq_false (hcs.2)))<|ZB ZY ZY<|wn ?_
    simp only[pu];go_upto_region 14 with fail;refine wl<|ZV (Z5 g9 0)<|ZL rfl ⟨g9,0,none⟩ (Z8 y.num) (hbx.ZR 0)<|ZM (ZI rfl (y.num) (5) dF) <|
     Y0 ZY undef undef undef ZY ZY<|wn ?_
    simp only[pu];go_upto_region 16 with fail;refine wl<|ZV (Z5 g9 0)<|ZL rfl ⟨g9,0,none⟩ (Z8 y.num) (hbx.ZR 0)<|ZM (ZI rfl (y.num) (6) dF) <|
     Y0 ZY undef undef undef ZY ZY<|wn ?_
    simp only[pu];obtain⟨XE,hZ⟩:=Zm (y:=⟨s1,m2,m3,m4,s5,A⟩) (a':=a6) (c':=c6) hX2;have YD:=Z9 (ZH Xy);have Zg:=Z9 (ZU X9.out HG2.out.1 (ZA ⟨s1,m2,m3,m4,s5,A⟩ a6 c6));have HRW:=Z9 ((WS (g:=g2) PV (ZA ⟨s1,m2,m3,m4,s5,A⟩ a6 c6) XA.out.1).base (B:=w.heap.size) Jf.out);have HE:=Z9 (UL.out _ ⟨s1,m2,m3,m4,s5,A⟩ false a6 c6 Zg.out MP.out HRW.out);generalize World.setRow _ g2 (ZA ⟨s1,m2,m3,m4,s5,A⟩ a6 c6)=V9 at *
    clear UL HRW Zg hX2 Xy PV;go_upto_region 5 with fail;refine wl<|ZL rfl ⟨g4,0,none⟩ (.agg (ZA ⟨s1,m2,m3,m4,s5,A⟩ a6 c6)) (YD.out)<|Zk rfl (XE)<|ZV ZY<|wn ?_;simp only[pu];go_wp2_with fail;exact bodyPost_ret (ZN (p:=2) (q:=3) rfl (by kernel_rfl) (ZH hZ) rfl) rfl HE.out
   ·have MP:=Z9 (HS2.out (by unfold PX; simp[hcs.1,hcs.2]));clear Vl HS2 hba hbl hs6;go_upto_region 6 with fail;refine wl<|ZV (Z5 g9 0)<|ZL rfl ⟨g9,0,none⟩ (Z8 y.num) (hbx.ZR 0)<|ZM (ZI rfl (y.num) (1) dF) <|
     Y0 ZY undef undef undef ZY ZY<|wn ?_
    simp only[pu];go_upto_region 8 with fail;refine wl<|ZV (Z5 g9 0)<|ZL rfl ⟨g9,0,none⟩ (Z8 y.num) (hbx.ZR 0)<|ZM (ZI rfl (y.num) (2) dF) <|
     Y0 ZY undef undef undef ZY ZY<|wn ?_
    simp only[pu];go_upto_region 10 with fail;refine wl<|ZV (Z5 g9 0)<|ZL rfl ⟨g9,0,none⟩ (Z8 y.num) (hbx.ZR 0)<|ZM (ZI rfl (y.num) (3) dF) <|
     Y0 ZY undef undef undef ZY ZY<|wn ?_
    simp only[pu];go_upto_region 12 with fail;refine wl<|ZV (Z5 g9 0)<|ZL rfl ⟨g9,0,none⟩ (Z8 y.num) (hbx.ZR 0)<|ZM (ZI rfl (y.num) (4) dF) <|
     Y0 ZY undef undef undef ZY ZY<|wn ?_
    simp only[pu];go_upto_region 14 with fail;refine wl<|ZV (Z5 g9 0)<|ZL rfl ⟨g9,0,none⟩ (Z8 y.num) (hbx.ZR 0)<|ZM (ZI rfl (y.num) (5) (decide_eq_true (hcs.1))) <|
     ZB ZW (Z5 g9 1)<|ZL rfl ⟨g9,1,none⟩ (Z8 y.kind) (hbx.ZR 1)<|ZM (ZI rfl (y.kind) (2) (decide_eq_false (hcs.2)))<|ZB ZY ZY<|wn ?_
    simp only[pu];go_upto_region 16 with fail;refine wl<|ZV (Z5 g9 0)<|ZL rfl ⟨g9,0,none⟩ (Z8 y.num) (hbx.ZR 0)<|ZM (ZI rfl (y.num) (6) dF) <|
     Y0 ZY undef undef undef ZY ZY<|wn ?_
    simp only[pu];obtain⟨XE,hZ⟩:=Zm (y:=⟨s1,m2,m3,m4,s5,A⟩) (a':=a6) (c':=c6) hX2;have YD:=Z9 (ZH Xy);have Zg:=Z9 (ZU X9.out HG2.out.1 (ZA ⟨s1,m2,m3,m4,s5,A⟩ a6 c6));have HRW:=Z9 ((WS (g:=g2) PV (ZA ⟨s1,m2,m3,m4,s5,A⟩ a6 c6) XA.out.1).base (B:=w.heap.size) Jf.out);have HE:=Z9 (UL.out _ ⟨s1,m2,m3,m4,s5,A⟩ false a6 c6 Zg.out MP.out HRW.out);generalize World.setRow _ g2 (ZA ⟨s1,m2,m3,m4,s5,A⟩ a6 c6)=V9 at *
    clear UL HRW Zg hX2 Xy PV;go_upto_region 5 with fail;refine wl<|ZL rfl ⟨g4,0,none⟩ (.agg (ZA ⟨s1,m2,m3,m4,s5,A⟩ a6 c6)) (YD.out)<|Zk rfl (XE)<|ZV ZY<|wn ?_;simp only[pu];go_wp2_with fail;exact bodyPost_ret (ZN (p:=2) (q:=3) rfl (by kernel_rfl) (ZH hZ) rfl) rfl HE.out
   ·have MP:=Z9 (HS2.out (by unfold PX; simp[hcs.1,hcs.2]));clear Vl HS2 hba hbl hs6;go_upto_region 6 with fail;refine wl<|ZV (Z5 g9 0)<|ZL rfl ⟨g9,0,none⟩ (Z8 y.num) (hbx.ZR 0)<|ZM (ZI rfl (y.num) (1) dF) <|
     Y0 ZY undef undef undef ZY ZY<|wn ?_
    simp only[pu];go_upto_region 8 with fail;refine wl<|ZV (Z5 g9 0)<|ZL rfl ⟨g9,0,none⟩ (Z8 y.num) (hbx.ZR 0)<|ZM (ZI rfl (y.num) (2) dF) <|
     Y0 ZY undef undef undef ZY ZY<|wn ?_
    simp only[pu];go_upto_region 10 with fail;refine wl<|ZV (Z5 g9 0)<|ZL rfl ⟨g9,0,none⟩ (Z8 y.num) (hbx.ZR 0)<|ZM (ZI rfl (y.num) (3) dF) <|
     Y0 ZY undef undef undef ZY ZY<|wn ?_
    simp only[pu];go_upto_region 12 with fail;refine wl<|ZV (Z5 g9 0)<|ZL rfl ⟨g9,0,none⟩ (Z8 y.num) (hbx.ZR 0)<|ZM (ZI rfl (y.num) (4) dF) <|
     Y0 ZY undef undef undef ZY ZY<|wn ?_
    simp only[pu];go_upto_region 14 with fail;refine wl<|ZV (Z5 g9 0)<|ZL rfl ⟨g9,0,none⟩ (Z8 y.num) (hbx.ZR 0)<|ZM (ZI rfl (y.num) (5) dF) <|
     Y0 ZY undef undef undef ZY ZY<|wn ?_
    simp only[pu];go_upto_region 16 with fail;refine wl<|ZV (Z5 g9 0)<|ZL rfl ⟨g9,0,none⟩ (Z8 y.num) (hbx.ZR 0)<|ZM (ZI rfl (y.num) (6) (decide_eq_true (hcs.1))) <|
     ZB ZW (Z5 g9 1)<|ZL rfl ⟨g9,1,none⟩ (Z8 y.kind) (hbx.ZR 1)<|ZM (ZI rfl (y.kind) (2) (decide_eq_false (hcs.2)))<|ZB ZY ZY<|wn ?_
    simp only[pu];obtain⟨XE,hZ⟩:=Zm (y:=⟨s1,m2,m3,m4,s5,A⟩) (a':=a6) (c':=c6) hX2;have YD:=Z9 (ZH Xy);have Zg:=Z9 (ZU X9.out HG2.out.1 (ZA ⟨s1,m2,m3,m4,s5,A⟩ a6 c6));have HRW:=Z9 ((WS (g:=g2) PV (ZA ⟨s1,m2,m3,m4,s5,A⟩ a6 c6) XA.out.1).base (B:=w.heap.size) Jf.out);have HE:=Z9 (UL.out _ ⟨s1,m2,m3,m4,s5,A⟩ false a6 c6 Zg.out MP.out HRW.out);generalize World.setRow _ g2 (ZA ⟨s1,m2,m3,m4,s5,A⟩ a6 c6)=V9 at *
    clear UL HRW Zg hX2 Xy PV;go_upto_region 5 with fail;refine wl<|ZL rfl ⟨g4,0,none⟩ (.agg (ZA ⟨s1,m2,m3,m4,s5,A⟩ a6 c6)) (YD.out)<|Zk rfl (XE)<|ZV ZY<|wn ?_;simp only[pu];go_wp2_with fail;exact bodyPost_ret (ZN (p:=2) (q:=3) rfl (by kernel_rfl) (ZH hZ) rfl) rfl HE.out
   ·have MP:=Z9 (HS2.out (by unfold PX; rw[if_neg (by omega),if_neg (by omega),if_neg (by omega),if_neg (by omega),if_neg (by omega),if_neg (by omega)]));clear Vl HS2 hba hbl hs6;go_upto_region 6 with fail;refine wl<|ZV (Z5 g9 0)<|ZL rfl ⟨g9,0,none⟩ (Z8 y.num) (hbx.ZR 0)<|ZM (ZI rfl (y.num) (1) dF) <|
     Y0 ZY undef undef undef ZY ZY<|wn ?_
    simp only[pu];go_upto_region 8 with fail;refine wl<|ZV (Z5 g9 0)<|ZL rfl ⟨g9,0,none⟩ (Z8 y.num) (hbx.ZR 0)<|ZM (ZI rfl (y.num) (2) dF) <|
     Y0 ZY undef undef undef ZY ZY<|wn ?_
    simp only[pu];go_upto_region 10 with fail;refine wl<|ZV (Z5 g9 0)<|ZL rfl ⟨g9,0,none⟩ (Z8 y.num) (hbx.ZR 0)<|ZM (ZI rfl (y.num) (3) dF) <|
     Y0 ZY undef undef undef ZY ZY<|wn ?_
    simp only[pu];go_upto_region 12 with fail;refine wl<|ZV (Z5 g9 0)<|ZL rfl ⟨g9,0,none⟩ (Z8 y.num) (hbx.ZR 0)<|ZM (ZI rfl (y.num) (4) dF) <|
     Y0 ZY undef undef undef ZY ZY<|wn ?_
    simp only[pu];go_upto_region 14 with fail;refine wl<|ZV (Z5 g9 0)<|ZL rfl ⟨g9,0,none⟩ (Z8 y.num) (hbx.ZR 0)<|ZM (ZI rfl (y.num) (5) dF) <|
     Y0 ZY undef undef undef ZY ZY<|wn ?_
    simp only[pu];go_upto_region 16 with fail;refine wl<|ZV (Z5 g9 0)<|ZL rfl ⟨g9,0,none⟩ (Z8 y.num) (hbx.ZR 0)<|ZM (ZI rfl (y.num) (6) dF) <|
     Y0 ZY undef undef undef ZY ZY<|wn ?_
    simp only[pu];obtain⟨XE,hZ⟩:=Zm (y:=⟨s1,m2,m3,m4,s5,A⟩) (a':=a6) (c':=c6) hX2;have YD:=Z9 (ZH Xy);have Zg:=Z9 (ZU X9.out HG2.out.1 (ZA ⟨s1,m2,m3,m4,s5,A⟩ a6 c6));have HRW:=Z9 ((WS (g:=g2) PV (ZA ⟨s1,m2,m3,m4,s5,A⟩ a6 c6) XA.out.1).base (B:=w.heap.size) Jf.out);have HE:=Z9 (UL.out _ ⟨s1,m2,m3,m4,s5,A⟩ false a6 c6 Zg.out MP.out HRW.out);generalize World.setRow _ g2 (ZA ⟨s1,m2,m3,m4,s5,A⟩ a6 c6)=V9 at *
    clear UL HRW Zg hX2 Xy PV;go_upto_region 5 with fail;refine wl<|ZL rfl ⟨g4,0,none⟩ (.agg (ZA ⟨s1,m2,m3,m4,s5,A⟩ a6 c6)) (YD.out)<|Zk rfl (XE)<|ZV ZY<|wn ?_;simp only[pu];go_wp2_with fail;exact bodyPost_ret (ZN (p:=2) (q:=3) rfl (by kernel_rfl) (ZH hZ) rfl) rfl HE.out
  ·have EW:=Z9 (HDN.out j _ HJ.out (by rw[List.length_map,HN.out]; omega));have hX2:=HB2.out;have Xy:=HB4.out;have PV:=Iy.out;have X9:=LD;clear HJ HB2 HB4 Iy hg;go_upto_region 3 with fail;refine wl<|ZM (Zr rfl (j) (n) dF)<|wn ?_;simp only[pu];obtain⟨XE,hZ⟩:=Zm (y:=⟨s1,m2,m3,m4,s5,A⟩) (a':=a6) (c':=c6) hX2;have YD:=Z9 (ZH Xy);have Zg:=Z9 (ZU X9.out HG2.out.1 (ZA ⟨s1,m2,m3,m4,s5,A⟩ a6 c6));have HRW:=Z9 ((WS (g:=g2) PV (ZA ⟨s1,m2,m3,m4,s5,A⟩ a6 c6) XA.out.1).base (B:=w.heap.size) Jf.out);have HE:=Z9 (UL.out _ ⟨s1,m2,m3,m4,s5,A⟩ true a6 c6 Zg.out EW.out HRW.out);generalize World.setRow _ g2 (ZA ⟨s1,m2,m3,m4,s5,A⟩ a6 c6)=V9 at *
   clear UL HRW Zg hX2 Xy PV;go_upto_region 22 with fail;refine wl<|ZL rfl ⟨g4,0,none⟩ (.agg (ZA ⟨s1,m2,m3,m4,s5,A⟩ a6 c6)) (YD.out)<|Zk rfl (XE)<|ZV ZW<|wn ?_;simp only[pu];go_wp2_with fail;exact bodyPost_ret (ZN (p:=2) (q:=3) rfl (by kernel_rfl) (ZH hZ) rfl) rfl HE.out
def Af (w:World)(r:YV×Int)(e:Ending)(w':World):Prop:=∃ a c,e=.returned (.tuple #[.agg (ZA r.1 a c),Z8 r.2])/\Yv w' w.heap.size (.slice a r.1.tr.length c) r.1.tr/\Below w.heap.size w w'
theorem ai5 {L:List Int}{t:YV}(h8:∀ x,x∈L->W8 x)(hl:L.length<=4096)(h:IE L=some t):Bo t:=by
 unfold IE at h
 split at h
 ·cases h
 rename_i hfl
 have hfl:(YO L).2.2=0:=by simpa using hfl
 rcases Ud (fun x hx=>h8 x hx) (by omega) with⟨-,q⟩ | ⟨P,e0,hm,hP⟩
 ·exact absurd hfl q
 rw[e0] at h;obtain⟨h1,h2,h3,h4,h5⟩:=Kv hP h;refine⟨h2,h3,h4,h5,?_⟩;have:=(Ot t).2;have e2:(form t).length=(msg P).length:=by rw[h1]; rfl
 rw[e2,hm] at this;omega
theorem IC {L:List Int}(hl:¬ 4096<L.length)(h:IE L=none):Zc L=(zX,4):=by
 unfold IE at h;unfold Zc;rw[if_neg hl]
 split at h
 ·rename_i hf; rw[if_pos hf]
 ·rename_i hf; rw[if_neg hf,h]
theorem IB {L:List Int}{t:YV}(hl:¬ 4096<L.length)(h:IE L=some t):Zc L=if Xv t=0 then (t,0) else (zX,Xv t):=by
 unfold IE at h;unfold Zc;rw[if_neg hl]
 split at h
 ·cases h
 ·rename_i hf; rw[if_neg hf,h]
theorem Oy (V:World)(x:YV)(a:Option Addr)(c:Nat):∃ V2,(Instr.storeAt 63 (Z5 V.heap.size 0) (.agg (ZA x a c))).run Tryz.prog (V.alloc (.cells (ZA zX none 0) 63))=.ok () V2/\Below V.heap.size V V2/\Bx V2 V.heap.size (ZA x a c) 63:=
 have hb:Bx (V.alloc (.cells (ZA zX none 0) 63)) V.heap.size (ZA zX none 0) 63:=heap_alloc_last V _
 ⟨_,(Zm hb).1,ZU ((Below.refl _ V).alloc (Nat.le_refl _) _) (Nat.le_refl _) _,(Zm hb).2⟩
theorem oL (a:Option Addr)(c:Nat)(L:List Int)(w:World)(hs:Sl w a c L)(hc:L.length<=c)(h8:∀ y,y∈L->W8 y) :
  Calls Tryz.prog 67 #[.slice a L.length c] w (Af w (Zc L)):=by
 have hb0:Below w.heap.size w (w.alloc (.cells (ZA zX none 0) 63)):=(Below.refl _ w).alloc (Nat.le_refl _) _;have hX0:Bx (w.alloc (.cells (ZA zX none 0) 63)) w.heap.size (ZA zX none 0) 63:=heap_alloc_last w _;have CR:=Z9 (fun(hl:L.length<=4096)=>ai6 a c L (w.alloc (.cells (ZA zX none 0) 63)) (ZP hs hb0) hc (by omega) h8);have AB:=Z9 (fun t (hl:L.length<=4096) h=>@ai5 L t h8 hl h);have UL:Hid (∀ V r a2 c2,Zc L=r->Below w.heap.size w V->Yv V w.heap.size (.slice a2 r.1.tr.length c2) r.1.tr->Af w (Zc L) (.returned (.tuple #[.agg (ZA r.1 a2 c2),Z8 r.2])) V):=Z9 fun V r a2 c2 e hb hr=>⟨a2,c2,by rw[e],by rw[e]; exact hr,hb⟩;have HD1:Hid (4096<L.length->Zc L=(zX,3)):=Z9 Em;have HD2:Hid (¬ 4096<L.length->IE L=none->Zc L=(zX,4)):=Z9 IC;have HD3:=Z9 (fun t h1 h2=>@IB L t h1 h2);generalize Zc L=DX at *
 generalize IE L=RL at *
 go_enter Tryz.func67,Tryz.ntmps67;go_upto_region 1 with fail;change Code.wp _ _ _ _ (w.alloc (.cells (ZA zX none 0) 63));generalize w.alloc (.cells (ZA zX none 0) 63)=W at *
 obtain⟨g2,hg2⟩:=ZQ w.heap.size;have HB0:=Z9 hb0;have HG2:Hid (w.heap.size<=g2):=Z9 (by omega);have XA:Hid (g2<W.heap.size):=Z9 (by rw[<- hg2]; exact hX0.lt);rw[hg2] at hX0;rw[hg2];have Jf:Hid (w.heap.size<=W.heap.size):=Z9 hb0.size;clear hb0 hg2 hs h8;by_cases hl:4096<L.length
 ·refine wl<|ZB (.slice a L.length c) (Z8 L.length)<|ZM (Zn rfl (L.length) (4096) dT)<|wn ?_;simp only[pu];obtain⟨XE,hZ⟩:=Zm (y:=zX) (a':=none) (c':=0) hX0;have Zg:=Z9 (ZU HB0.out HG2.out (ZA zX none 0));have HE:=Z9 (UL.out _ (zX,3) none 0 (HD1.out hl) Zg.out (Yv.nil _ _));generalize World.setRow _ g2 (ZA zX none 0)=V9 at *
  clear UL Zg;go_upto_region 2 with fail;refine wl<|ZV (.agg #[.string ⟨#[]⟩,Z7 0,Z7 0,Z7 0,.string ⟨#[]⟩,.slice none 0 0])<|Zk rfl (XE)<|ZV (Z8 3)<|wn ?_;simp only[pu];go_wp2_with fail;exact bodyPost_ret (ZN (p:=2) (q:=3) rfl (by kernel_rfl) (ZH hZ) rfl) rfl HE.out
 ·refine wl<|ZB (.slice a L.length c) (Z8 L.length)<|ZM (Zn rfl (L.length) (4096) dF)<|wn ?_;simp only[pu];have CRW:=CR.out (by omega);clear CR;go_upto_region 3 with fail;refine wl<|ZV (.slice a L.length c) <|
   XI (fun v w'=>∃ x ok a c,v=.tuple #[.agg (ZA x a c),.bool ok]/\RL=(if ok=true then some x else none)/\Yv w' W.heap.size (.slice a x.tr.length c) x.tr/\Below W.heap.size W w') (CRW.mono fun e w' q=>by obtain⟨x,ok,a,c,h1,h2⟩:=q; exact⟨_,h1,x,ok,a,c,rfl,h2⟩) (fun v5 V5 hq=>?_)
  obtain⟨x,ok,a5,c5,rfl,hok,hrt,hb5⟩:=hq;obtain⟨V6,VU,hb6,hbx⟩:=Oy V5 x a5 c5;refine Yr (.tuple #[.agg (ZA x a5 c5),.bool ok]) (.agg (ZA x a5 c5)) (.bool ok) ?_;refine Zy rfl (some 4) rfl (Z5 V5.heap.size 0) (V5.alloc (.cells (ZA zX none 0) 63)) (by kernel_rfl) ?_;refine Zk rfl (VU)<|ZV (.bool ok)<|wn ?_;simp only[pu];obtain⟨g4,hg4⟩:=ZQ V5.heap.size;have PY:=hb5.trans (hb6.mono hb5.size);have Xx:=Z9 (hX0.below hX0.lt PY);have X9:=Z9 (HB0.out.trans (PY.mono HB0.out.size));have Mc:=Z9 (hrt.below hb6);have Yh:=Z9 hbx;rw[hg4] at Yh ⊢;clear VU hg4 hb5 hb6 PY hX0 HB0 hrt hbx;clear CRW;go_upto_region 4 with fail;cases ok
  ·refine wl<|ZB ZY ZW<|wn ?_;simp only[pu];obtain⟨XE,hZ⟩:=Zm (y:=zX) (a':=none) (c':=0) Xx.out;have Zg:=Z9 (ZU X9.out HG2.out (ZA zX none 0));have HE:=Z9 (UL.out _ (zX,4) none 0 (HD2.out hl hok) Zg.out (Yv.nil _ _));generalize World.setRow _ g2 (ZA zX none 0)=V9 at *
   clear UL Zg;go_upto_region 5 with fail;refine wl<|ZV (.agg #[.string ⟨#[]⟩,Z7 0,Z7 0,Z7 0,.string ⟨#[]⟩,.slice none 0 0])<|Zk rfl (XE)<|ZV (Z8 4)<|wn ?_;simp only[pu];go_wp2_with fail;exact bodyPost_ret (ZN (p:=2) (q:=3) rfl (by kernel_rfl) (ZH hZ) rfl) rfl HE.out
  ·refine wl<|ZB ZW ZY<|wn ?_;simp only[pu];have Gx:Hid ((Xv x=0->DX=(x,0))/\(Xv x≠0->DX=(zX,Xv x))):=Z9 ⟨fun h=>by rw[HD3.out x hl hok,if_pos h],fun h=>by rw[HD3.out x hl hok,if_neg h]⟩;have Ae:=AB.out x (by omega) hok;obtain⟨ar,cr,er,hcr,-⟩:=Mc.out.cs;simp only[Value.slice.injEq,true_and] at er;obtain⟨rfl,rfl⟩:=er;have CV:=RP x a5 c5 V6 hcr Ae.b.s2;obtain⟨vx,Jm⟩:=ZQ (Xv x);rw[Jm] at CV;go_upto_region 6 with fail;refine wl<|ZL rfl ⟨g4,0,none⟩ (.agg (ZA x a5 c5)) (ZH Yh.out)<|YM (Z8 vx) (fun w'=>Below V6.heap.size V6 w') CV (fun V7 hb7=>?_);refine ZV (Z8 vx)<|wn ?_;simp only[pu];have PE:=Z9 (Xx.out.below Xx.out.lt hb7);have oK:=Z9 (Yh.out.below Yh.out.lt hb7);have TG:=Z9 (X9.out.trans (hb7.mono X9.out.size));have qC:=Z9 (Mc.out.below hb7);clear Xx Yh X9 Mc hb7 hcr CV;go_upto_region 7 with fail;by_cases hv:vx=0
   ·refine wl<|ZV (Z8 vx)<|ZM (YL rfl vx 0 (decide_eq_true hv))<|wn ?_;simp only[pu];obtain⟨XE,hZ⟩:=Zm (y:=x) (a':=a5) (c':=c5) PE.out;have YD:=Z9 (ZH oK.out);have Zg:=Z9 (ZU TG.out HG2.out (ZA x a5 c5));have HRW:=Z9 ((WS (g:=g2) qC.out (ZA x a5 c5) XA.out).base (B:=w.heap.size) Jf.out);have HE:=Z9 (UL.out _ (x,0) a5 c5 (Gx.out.1 (by rw[Jm]; exact hv)) Zg.out HRW.out);generalize World.setRow _ g2 (ZA x a5 c5)=V9 at *
    clear UL Zg HRW PE oK TG qC Gx;go_upto_region 9 with fail;refine wl<|ZL rfl ⟨g4,0,none⟩ (.agg (ZA x a5 c5)) (YD.out)<|Zk rfl (XE)<|ZV (Z8 0)<|wn ?_;simp only[pu];go_wp2_with fail;exact bodyPost_ret (ZN (p:=2) (q:=3) rfl (by kernel_rfl) (ZH hZ) rfl) rfl HE.out
   ·refine wl<|ZV (Z8 vx)<|ZM (YL rfl vx 0 (decide_eq_false hv))<|wn ?_;simp only[pu];have HDV:=Z9 (Gx.out.2 (by rw[Jm]; exact hv));rw[Jm] at HDV;clear Gx;obtain⟨XE,hZ⟩:=Zm (y:=zX) (a':=none) (c':=0) PE.out;have Zg:=Z9 (ZU TG.out HG2.out (ZA zX none 0));have HE:=Z9 (UL.out _ (zX,vx) none 0 HDV.out Zg.out (Yv.nil _ _));generalize World.setRow _ g2 (ZA zX none 0)=V9 at *
    clear UL Zg;go_upto_region 8 with fail;refine wl<|ZB (.agg #[.string ⟨#[]⟩,Z7 0,Z7 0,Z7 0,.string ⟨#[]⟩,.slice none 0 0]) (Z8 vx)<|Zk rfl (XE)<|ZV (Z8 vx)<|wn ?_;simp only[pu];go_wp2_with fail;exact bodyPost_ret (ZN (p:=2) (q:=3) rfl (by kernel_rfl) (ZH hZ) rfl) rfl HE.out
theorem Ad (a:Option Addr)(c:Nat)(L:List Int)(w:World)(hs:Sl w a c L)(hc:L.length<=c)(h8:∀ y,y∈L->W8 y) :
  Calls Tryz.prog 45 #[.slice a L.length c] w (Af w (Zc L)):=by
 have hb0:Below w.heap.size w (w.alloc (.cells (ZA zX none 0) 63)):=(Below.refl _ w).alloc (Nat.le_refl _) _;have hX0:Bx (w.alloc (.cells (ZA zX none 0) 63)) w.heap.size (ZA zX none 0) 63:=heap_alloc_last w _;have CF:=Z9 (fun(hl:L.length<=4096)=>Ku a c L (w.alloc (.cells (ZA zX none 0) 63)) (by omega) (ZP hs hb0) h8 hc);have Aa:=Z9 (fun(hl:L.length<=4096)=>(show(∀ f,f∈(YO L).1->Vf f)/\(YO L).1.length<=100000/\(∀ f,f∈(YO L).1->f.bytes.length<=100000)/\((YO L).2.2=0->msg (YO L).1=L)/\(msg (YO L).1).length<=4096 from by
  rcases Ud (fun y hy=>h8 y hy) (by omega) with⟨e,q⟩ | ⟨P,e,hm,hP⟩
  ·rw[e]; exact⟨(fun f h=>nomatch h),by simp,(fun f h=>nomatch h),fun h=>absurd h q,by simp[msg]⟩
  ·rw[e]; exact⟨hP,by have:=zZ P; rw[hm] at this; simp only; omega,fun f hf=>by have:=Ej hf; rw[hm] at this; omega,fun _=>hm,by rw[hm]; exact hl⟩))
 have H8:=Z9 h8;have fH:=Z9 hs;have UL:Hid (∀ V r a2 c2,Zc L=r->Below w.heap.size w V->Yv V w.heap.size (.slice a2 r.1.tr.length c2) r.1.tr->Af w (Zc L) (.returned (.tuple #[.agg (ZA r.1 a2 c2),Z8 r.2])) V):=Z9 fun V r a2 c2 e hb hr=>⟨a2,c2,by rw[e],by rw[e]; exact hr,hb⟩;have HD1:Hid (4096<L.length->Zc L=(zX,3)):=Z9 Em;have HD2:=Z9 (fun(h1:¬ 4096<L.length) (h2:(YO L).2.2≠0)=>oJ (by omega) h2);have HD3:Hid (¬ 4096<L.length->(YO L).2.2=0->xJ (YO L).1=none->Zc L=(zX,4)):=Z9 fun h1 h2 h3=>IC h1 (by unfold IE; rw[if_neg (by rw[h2]; decide),h3]);have HD4:Hid (∀ t,¬ 4096<L.length->(YO L).2.2=0->xJ (YO L).1=some t->Zc L=if Xv t=0 then (t,0) else (zX,Xv t)):=Z9 fun t h1 h2 h3=>IB h1 (by unfold IE; rw[if_neg (by rw[h2]; decide),h3]);generalize Zc L=DX at *
 generalize YO L=FR at *
 go_enter Tryz.func45,Tryz.ntmps45;go_upto_region 1 with fail;change Code.wp _ _ _ _ (w.alloc (.cells (ZA zX none 0) 63));generalize w.alloc (.cells (ZA zX none 0) 63)=W at *
 obtain⟨g2,hg2⟩:=ZQ w.heap.size;have HB0:=Z9 hb0;have HG2:Hid (w.heap.size<=g2):=Z9 (by omega);have XA:Hid (g2<W.heap.size):=Z9 (by rw[<- hg2]; exact hX0.lt);rw[hg2] at hX0;rw[hg2];have Jf:Hid (w.heap.size<=W.heap.size):=Z9 hb0.size;clear hb0 hg2 hs h8;by_cases hl:4096<L.length
 ·refine wl<|ZB (.slice a L.length c) (Z8 L.length)<|ZM (Zn rfl (L.length) (4096) dT)<|wn ?_;simp only[pu];obtain⟨XE,hZ⟩:=Zm (y:=zX) (a':=none) (c':=0) hX0;have Zg:=Z9 (ZU HB0.out HG2.out (ZA zX none 0));have HE:=Z9 (UL.out _ (zX,3) none 0 (HD1.out hl) Zg.out (Yv.nil _ _));generalize World.setRow _ g2 (ZA zX none 0)=V9 at *
  clear UL Zg;go_upto_region 2 with fail;refine wl<|ZV (.agg #[.string ⟨#[]⟩,Z7 0,Z7 0,Z7 0,.string ⟨#[]⟩,.slice none 0 0])<|Zk rfl (XE)<|ZV (Z8 3)<|wn ?_;simp only[pu];go_wp2_with fail;exact bodyPost_ret (ZN (p:=2) (q:=3) rfl (by kernel_rfl) (ZH hZ) rfl) rfl HE.out
 ·refine wl<|ZB (.slice a L.length c) (Z8 L.length)<|ZM (Zn rfl (L.length) (4096) dF)<|wn ?_;simp only[pu];have CFW:=CF.out (by omega);have hfv:=Aa.out (by omega);clear CF Aa;go_upto_region 3 with fail;refine wl<|ZV (.slice a L.length c) <|
   XI (fun v w'=>∃ a c ps,v=.tuple #[.slice a ps.length c,Z8 FR.2.1,Z8 FR.2.2]/\ps.map Prod.fst=FR.1/\ps.length<=c/\NH w' W.heap.size a ps/\Below W.heap.size W w') (CFW.mono fun e w' q=>by obtain⟨v,ps,h1,h2,h3,h4⟩:=q; obtain⟨a,c,rfl,hc,hf⟩:=h3.fsb; exact⟨_,h1,a,c,ps,rfl,h2,hc,hf,h4⟩) (fun v5 V4 hq=>?_)
  obtain⟨a4,c4,ps,rfl,hps,hc4,hF4,hb4⟩:=hq;refine Y0 (.tuple #[.slice a4 ps.length c4,Z8 FR.2.1,Z8 FR.2.2]) (.slice a4 ps.length c4) (Z8 FR.2.1) (Z8 FR.2.2) (.slice a4 ps.length c4) (Z8 FR.2.1)<|ZV (Z8 FR.2.2)<|wn ?_;simp only[pu];obtain⟨P,n5,e5⟩:=FR;dsimp only at *
  subst hps;have CR:=zY a4 c4 ps W.heap.size V4 hF4 hc4 hfv.1 hfv.2.2.1 (by have:=hfv.2.1; rwa [List.length_map] at this);have oI:=Z9 (az0 hfv.1 hfv.2.2.2.2);have AB:=Z9 (fun u h=>@oH (ps.map Prod.fst) u hfv.1 hfv.2.2.2.2 h);have HMS:=Z9 hfv.2.2.2.1;generalize Pz zX (ps.map Prod.fst)=RX at *
  have HB4:=Z9 hb4;clear hfv CFW hF4 hc4 hb4;go_upto_region 4 with fail;refine wl<|ZV (.slice a4 ps.length c4) <|
   XI (fun v w'=>∃ x ok a c,v=.tuple #[.agg (ZA x a c),.bool ok]/\RX=(if ok=true then some x else none)/\Yv w' V4.heap.size (.slice a x.tr.length c) x.tr/\Below V4.heap.size V4 w') (CR.mono fun e w' q=>by obtain⟨x,ok,a,c,h1,h2⟩:=q; exact⟨_,h1,x,ok,a,c,rfl,h2⟩) (fun v5 V5 hq=>?_)
  obtain⟨x,ok,a5,c5,rfl,hok,hrt,hb5⟩:=hq;have hrt:=hrt.base HB4.out.size;have hb5:=HB4.out.trans (hb5.mono HB4.out.size);obtain⟨V6,VU,hb6,hbx⟩:=Oy V5 x a5 c5;refine Yr (.tuple #[.agg (ZA x a5 c5),.bool ok]) (.agg (ZA x a5 c5)) (.bool ok) ?_;refine Zy rfl (some 7) rfl (Z5 V5.heap.size 0) (V5.alloc (.cells (ZA zX none 0) 63)) (by kernel_rfl) ?_;refine Zk rfl (VU)<|ZV (.bool ok)<|wn ?_;simp only[pu];obtain⟨g4,hg4⟩:=ZQ V5.heap.size;have PY:=hb5.trans (hb6.mono hb5.size);have Xx:=Z9 (hX0.below hX0.lt PY);have X9:=Z9 (HB0.out.trans (PY.mono HB0.out.size));have Mc:=Z9 (hrt.below hb6);have Yh:=Z9 hbx;have hs6:=ZP fH.out X9.out;rw[hg4] at Yh ⊢;clear VU hg4 hb5 hb6 PY hX0 HB0 hrt hbx CR HB4 fH;go_upto_region 5 with fail;by_cases he:e5=0
  ·cases ok
   ·have HDZ:=Z9 (HD3.out hl he (by rw[oI.out,hok]; rfl));refine wl<|ZV (Z8 e5)<|ZM (YL rfl e5 0 (decide_eq_true he))<|Y0 ZY ZY ZW ZW ZW undef<|Rf undef undef undef undef ZW<|wn ?_;simp only[pu];obtain⟨XE,hZ⟩:=Zm (y:=zX) (a':=none) (c':=0) Xx.out;have Zg:=Z9 (ZU X9.out HG2.out (ZA zX none 0));have HE:=Z9 (UL.out _ (zX,4) none 0 HDZ.out Zg.out (Yv.nil _ _));generalize World.setRow _ g2 (ZA zX none 0)=V9 at *
    clear UL Zg;go_upto_region 6 with fail;refine wl<|ZV (.agg #[.string ⟨#[]⟩,Z7 0,Z7 0,Z7 0,.string ⟨#[]⟩,.slice none 0 0])<|Zk rfl (XE)<|ZV (Z8 4)<|wn ?_;simp only[pu];go_wp2_with fail;exact bodyPost_ret (ZN (p:=2) (q:=3) rfl (by kernel_rfl) (ZH hZ) rfl) rfl HE.out
   ·have Ae:=AB.out x hok;obtain⟨ar,cr,er,hcr,-⟩:=Mc.out.cs;simp only[Value.slice.injEq,true_and] at er;obtain⟨rfl,rfl⟩:=er;have CFO:=Ei x a5 c5 V6 hcr Ae;have HFB:=Z9 (UQ Ae.vf);have HXD:Hid (xJ (ps.map Prod.fst)=if form x=L then some x else none):=Z9 (by rw[oI.out,hok,HMS.out he]; rfl);have HFF:Hid (form x=msg (Iz x)):=Z9 rfl;generalize form x=FO at *
    clear hcr;by_cases hm:FO=L
    ·have hdm:decide (FO=L)=true:=decide_eq_true hm;have Gx:Hid ((Xv x=0->DX=(x,0))/\(Xv x≠0->DX=(zX,Xv x))):=Z9 (by have h9:=HD4.out x hl he (by rw[HXD.out,if_pos hm]); exact⟨fun h=>by rw[h9,if_pos h],fun h=>by rw[h9,if_neg h]⟩);refine wl<|ZV (Z8 e5)<|ZM (YL rfl e5 0 (decide_eq_true he))<|Rf ZY ZW ZY ZY ZY<|ZL rfl ⟨g4,0,none⟩ (.agg (ZA x a5 c5)) (ZH Yh.out) <|
      XI (fun v w'=>Own w' V6.heap.size v FO/\Below V6.heap.size V6 w') CFO (fun u7 V7 hq=>?_)
     obtain⟨hO7,hb7⟩:=hq;obtain⟨b7,d7,rfl,hs7,-⟩:=hO7.sl;have CS:Calls Tryz.prog 76 #[.slice b7 FO.length d7,.slice a L.length c] V7 fun e w'=>e=.returned ZW/\V7=w':=(by have:=Kt b7 d7 FO a c L V7 hs7 (ZP hs6 hb7) (by rw[HFF.out]; exact HFB.out) H8.out; rwa [hdm] at this);refine ZV (.slice a L.length c)<|YM ZW (fun w'=>V7=w') (CS) (fun V9 VK=>?_);subst VK;refine ZB ZY ZY<|wn ?_;simp only[pu]
     replace Xx:=Z9 (Xx.out.below Xx.out.lt hb7)
     replace Yh:=Z9 (Yh.out.below Yh.out.lt hb7)
     replace X9:=Z9 (X9.out.trans (hb7.mono X9.out.size))
     replace Mc:=Z9 (Mc.out.below hb7)
     clear hb7 hO7 hs7 CS hs6 CFO;obtain⟨ar,cr,er,hcr,-⟩:=Mc.out.cs;simp only[Value.slice.injEq,true_and] at er;obtain⟨rfl,rfl⟩:=er;have CV:=U6 x a5 c5 V7 hcr Ae.b.s1 Ae.b.s2 Ae.b.s3;obtain⟨vx,Jm⟩:=ZQ (Xv x);rw[Jm] at CV;go_upto_region 7 with fail;refine wl<|ZL rfl ⟨g4,0,none⟩ (.agg (ZA x a5 c5)) (ZH Yh.out)<|YM (Z8 vx) (fun w'=>Below V7.heap.size V7 w') CV (fun V8 hb7=>?_);refine ZV (Z8 vx)<|wn ?_;simp only[pu];have PE:=Z9 (Xx.out.below Xx.out.lt hb7);have oK:=Z9 (Yh.out.below Yh.out.lt hb7);have TG:=Z9 (X9.out.trans (hb7.mono X9.out.size));have qC:=Z9 (Mc.out.below hb7);clear Xx Yh X9 Mc hb7 hcr CV;go_upto_region 8 with fail;by_cases hv:vx=0
     ·refine wl<|ZV (Z8 vx)<|ZM (YL rfl vx 0 (decide_eq_true hv))<|wn ?_;simp only[pu];obtain⟨XE,hZ⟩:=Zm (y:=x) (a':=a5) (c':=c5) PE.out;have YD:=Z9 (ZH oK.out);have Zg:=Z9 (ZU TG.out HG2.out (ZA x a5 c5));have HRW:=Z9 ((WS (g:=g2) qC.out (ZA x a5 c5) XA.out).base (B:=w.heap.size) Jf.out);have HE:=Z9 (UL.out _ (x,0) a5 c5 (Gx.out.1 (by rw[Jm]; exact hv)) Zg.out HRW.out);generalize World.setRow _ g2 (ZA x a5 c5)=V9 at *
      clear UL Zg HRW PE oK TG qC Gx;go_upto_region 10 with fail;refine wl<|ZL rfl ⟨g4,0,none⟩ (.agg (ZA x a5 c5)) (YD.out)<|Zk rfl (XE)<|ZV (Z8 0)<|wn ?_;simp only[pu];go_wp2_with fail;exact bodyPost_ret (ZN (p:=2) (q:=3) rfl (by kernel_rfl) (ZH hZ) rfl) rfl HE.out
     ·refine wl<|ZV (Z8 vx)<|ZM (YL rfl vx 0 (decide_eq_false hv))<|wn ?_;simp only[pu];have HDV:=Z9 (Gx.out.2 (by rw[Jm]; exact hv));rw[Jm] at HDV;clear Gx;obtain⟨XE,hZ⟩:=Zm (y:=zX) (a':=none) (c':=0) PE.out;have Zg:=Z9 (ZU TG.out HG2.out (ZA zX none 0));have HE:=Z9 (UL.out _ (zX,vx) none 0 HDV.out Zg.out (Yv.nil _ _));generalize World.setRow _ g2 (ZA zX none 0)=V9 at *
      clear UL Zg;go_upto_region 9 with fail;refine wl<|ZB (.agg #[.string ⟨#[]⟩,Z7 0,Z7 0,Z7 0,.string ⟨#[]⟩,.slice none 0 0]) (Z8 vx)<|Zk rfl (XE)<|ZV (Z8 vx)<|wn ?_;simp only[pu];go_wp2_with fail;exact bodyPost_ret (ZN (p:=2) (q:=3) rfl (by kernel_rfl) (ZH hZ) rfl) rfl HE.out
    ·have hdm:decide (FO=L)=false:=decide_eq_false hm;have HDZ:=Z9 (HD3.out hl he (by rw[HXD.out,if_neg hm]));refine wl<|ZV (Z8 e5)<|ZM (YL rfl e5 0 (decide_eq_true he))<|Rf ZY ZW ZY ZY ZY<|ZL rfl ⟨g4,0,none⟩ (.agg (ZA x a5 c5)) (ZH Yh.out) <|
      XI (fun v w'=>Own w' V6.heap.size v FO/\Below V6.heap.size V6 w') CFO (fun u7 V7 hq=>?_)
     obtain⟨hO7,hb7⟩:=hq;obtain⟨b7,d7,rfl,hs7,-⟩:=hO7.sl;have CS:Calls Tryz.prog 76 #[.slice b7 FO.length d7,.slice a L.length c] V7 fun e w'=>e=.returned ZY/\V7=w':=(by have:=Kt b7 d7 FO a c L V7 hs7 (ZP hs6 hb7) (by rw[HFF.out]; exact HFB.out) H8.out; rwa [hdm] at this);refine ZV (.slice a L.length c)<|YM ZY (fun w'=>V7=w') (CS) (fun V9 VK=>?_);subst VK;refine ZB ZW ZW<|wn ?_;simp only[pu]
     replace Xx:=Z9 (Xx.out.below Xx.out.lt hb7)
     replace Yh:=Z9 (Yh.out.below Yh.out.lt hb7)
     replace X9:=Z9 (X9.out.trans (hb7.mono X9.out.size))
     replace Mc:=Z9 (Mc.out.below hb7)
     clear hb7 hO7 hs7 CS hs6 CFO;obtain⟨XE,hZ⟩:=Zm (y:=zX) (a':=none) (c':=0) Xx.out;have Zg:=Z9 (ZU X9.out HG2.out (ZA zX none 0));have HE:=Z9 (UL.out _ (zX,4) none 0 HDZ.out Zg.out (Yv.nil _ _));generalize World.setRow _ g2 (ZA zX none 0)=V9 at *
     clear UL Zg;go_upto_region 6 with fail;refine wl<|ZV (.agg #[.string ⟨#[]⟩,Z7 0,Z7 0,Z7 0,.string ⟨#[]⟩,.slice none 0 0])<|Zk rfl (XE)<|ZV (Z8 4)<|wn ?_;simp only[pu];go_wp2_with fail;exact bodyPost_ret (ZN (p:=2) (q:=3) rfl (by kernel_rfl) (ZH hZ) rfl) rfl HE.out
  ·have HDZ:=Z9 (HD2.out hl he);refine wl<|ZV (Z8 e5)<|ZM (YL rfl e5 0 (decide_eq_false he))<|Y0 ZW undef undef ZW ZW undef<|Rf undef undef undef undef ZW<|wn ?_;simp only[pu];obtain⟨XE,hZ⟩:=Zm (y:=zX) (a':=none) (c':=0) Xx.out;have Zg:=Z9 (ZU X9.out HG2.out (ZA zX none 0));have HE:=Z9 (UL.out _ (zX,4) none 0 HDZ.out Zg.out (Yv.nil _ _));generalize World.setRow _ g2 (ZA zX none 0)=V9 at *
   clear UL Zg;go_upto_region 6 with fail;refine wl<|ZV (.agg #[.string ⟨#[]⟩,Z7 0,Z7 0,Z7 0,.string ⟨#[]⟩,.slice none 0 0])<|Zk rfl (XE)<|ZV (Z8 4)<|wn ?_;simp only[pu];go_wp2_with fail;exact bodyPost_ret (ZN (p:=2) (q:=3) rfl (by kernel_rfl) (ZH hZ) rfl) rfl HE.out
end Go.Proofs.YtfpnnmeblefkkaaGreatDoor
