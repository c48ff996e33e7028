/-
  Texts joined.
-/
import Derived.Test.YtnhlpahoomcgnaaGreatJ9
set_option maxRecDepth 100000
set_option maxHeartbeats 8000000
set_option linter.unusedSimpArgs false
set_option linter.unusedVariables false
namespace Go.Proofs.YtnhlpahoomcgnaaGreat
attribute [local irreducible] wpList wpQuiet
open Go.RowKit
def XJ (P:List Ze)(j:Nat)(t:Y8):Prop:=Qi zX P=Qi t (P.drop j)
theorem XJ.zero (P:List Ze):XJ P 0 zX:=by unfold XJ; rw[List.drop_zero]
theorem XJ.step {P:List Ze}{j:Nat}{t u:Y8}(h:XJ P j t)(hj:j<P.length)(hc:Qo t P[j]=some u):XJ P (j+1) u:=by
 unfold XJ at *
 rw[h,List.drop_eq_getElem_cons hj,VU,hc,Option.bind_some]
theorem XJ.fail {P:List Ze}{j:Nat}{t:Y8}(h:XJ P j t)(hj:j<P.length)(hc:Qo t P[j]=none):Qi zX P=none:=by
 unfold XJ at *
 rw[h,List.drop_eq_getElem_cons hj,VU,hc,Option.bind_none]
theorem XJ.done {P:List Ze}{j:Nat}{t:Y8}(h:XJ P j t)(hj:P.length<=j):Qi zX P=some t:=by
 unfold XJ at *
 rw[h,List.drop_eq_nil_of_le hj,Qi]
theorem Bz (a:Option Addr)(c:Nat)(ps:List (Ze×Value))(B:Nat)(w:World)(hF:Ov w B a ps)(hc:ps.length<=c)(hv:∀ f,f∈ps.map Prod.fst->Vf f)(hbl:∀ f,f∈ps.map Prod.fst->f.bytes.length<=100000)(hnl:ps.length<=100000) :
  Calls Tryz.prog 79 #[.slice a ps.length c] w (RdO w (Qi zX (ps.map Prod.fst))):=by
 have hb1:Below w.heap.size w (w.alloc (.cells (Zx zX none 0) 67)):=(Below.refl _ w).alloc (Nat.le_refl _) _;have hX1:Bx (w.alloc (.cells (Zx zX none 0) 67)) w.heap.size (Zx zX none 0) 67:=heap_alloc_last w _;have hsz1:(w.alloc (.cells (Zx zX none 0) 67)).heap.size=w.heap.size+1:=by simp
 have Un:Hid (∀ V t ok a2 c2,Below w.heap.size w V->Qi zX (ps.map Prod.fst)=(if ok=true then some t else none)->Yj V w.heap.size (.slice a2 t.tr.length c2) t.tr->RdO w (Qi zX (ps.map Prod.fst)) (.returned (.tuple #[.agg (Zx t a2 c2),.bool ok])) V):=Z9 fun V t ok a2 c2 hb e hr=>⟨t,ok,a2,c2,rfl,e,hr,hb⟩;have HVF:=Z9 hv;have HBL:=Z9 hbl;have U5:=Z9 hnl;have HF:=Z9 hF;have HCC:=Z9 hF.cap;have uI:=Z9 (XJ.zero (ps.map Prod.fst));have HST:=Z9 (fun j t u h hj hc=>@XJ.step (ps.map Prod.fst) j t u h hj hc);have ku:=Z9 (fun j t h hj hc=>@XJ.fail (ps.map Prod.fst) j t h hj hc);have lu:=Z9 (fun j t h hj=>@XJ.done (ps.map Prod.fst) j t h hj);generalize Qi zX (ps.map Prod.fst)=RR at *
 obtain⟨n,hn⟩:=ZR ps.length;have HN:=Z9 hn;rw[hn] at U5 ⊢;clear hF hc hv hbl hnl hn;go_enter Tryz.func79,Tryz.ntmps79;go_upto_region 1 with fail;change Code.wp _ _ _ _ (w.alloc (.cells (Zx zX none 0) 67));generalize w.alloc (.cells (Zx zX none 0) 67)=W1 at *
 apply wp_region_lit;refine Zy rfl (some 4) rfl (Z5 W1.heap.size 0) (W1.alloc (.cells (Zx zX none 0) 67)) (by kernel_rfl) ?_;simp only[pu];apply wpList_nil;have hb0:Below w.heap.size w (W1.alloc (.cells (Zx zX none 0) 67)):=hb1.alloc hb1.size _;have hX0:Bx (W1.alloc (.cells (Zx zX none 0) 67)) w.heap.size (Zx zX none 0) 67:=hX1.below hX1.lt ((Below.refl _ W1).alloc (Nat.le_refl _) _);have hY0:Bx (W1.alloc (.cells (Zx zX none 0) 67)) W1.heap.size (Zx zX none 0) 67:=heap_alloc_last W1 _;generalize W1.alloc (.cells (Zx zX none 0) 67)=W at *
 obtain⟨g2,hg2⟩:=ZR w.heap.size;obtain⟨g4,hg4⟩:=ZR W1.heap.size;have HB0:=Z9 hb0;have HG2:Hid (w.heap.size<=g2/\w.heap.size<=g4/\g2≠g4):=Z9 ⟨by omega,by omega,by omega⟩;rw[hg4] at hY0 ⊢;rw[hg2] at hX0 ⊢;have YK:=Z9 hX0;have YV:=Z9 hY0;have Xn:Hid (g2<W.heap.size/\g4<W.heap.size):=Z9 ⟨hX0.lt,hY0.lt⟩;have BH:Hid (w.heap.size<=W.heap.size):=Z9 hb0.size;clear hb0 hb1 hX1 hsz1 hg2 hg4 hX0 hY0;go_upto_region 2 with fail;refine wl<|Yr (.slice a n c) (Z8 n) (Z8 0)<|wn ?_;simp only[pu];go_wp2_with fail;go_loopg [11] n (fun gg s11 wx=>∃ (j:Nat) (s1:ByteArray) (m2 m3 m4:Int) (s5:ByteArray) (A:List Tf) (a6:Option Addr) (c6:Nat),s11=Z8 j/\j<=n/\Hid (A.length<=j)/\Hid (Bx wx g2 (Zx zX none 0) 67)/\Hid (Bx wx g4 (Zx ⟨s1,m2,m3,m4,s5,A⟩ a6 c6) 67)/\Hid (Yj wx W.heap.size (.slice a6 A.length c6) A)/\Hid (XJ (ps.map Prod.fst) j ⟨s1,m2,m3,m4,s5,A⟩)/\Hid (Below w.heap.size w wx)/\Hid (W.heap.size<=wx.heap.size)/\n-j=gg)
 case atStart=>exact⟨0,WE,0,0,0,WE,[],none,0,rfl,by omega,Z9 (Nat.zero_le _),YK,YV,Z9 (Yj.nil _ _),uI,HB0,Z9 (Nat.le_refl _),by omega⟩
 case round=>
  obtain⟨j,s1,m2,m3,m4,s5,A,a6,c6,rfl,hj,CZ,HB2,HB4,I5,HJ,MK,aF,hg⟩:=hrel;clear YK YV uI HB0;by_cases hlt:j<n
  ·have HG:Hid (n-(j+1)=gk-1/\0<gk/\j+1<=n/\j+1<=100000):=Z9 ⟨by omega,by omega,by omega,by have:=U5.out; omega⟩;have hjq:j<ps.length:=(by rw[HN.out]; exact hlt);obtain⟨b,off,ba,bc,rfl,hp2,hsl,hbox⟩:=(HF.out.below MK.out).fs j ps[j] (List.getElem?_eq_getElem hjq);have JH:=HVF.out ps[j].1 (by exact List.mem_map_of_mem (List.getElem_mem hjq));have hbl:=HBL.out ps[j].1 (by exact List.mem_map_of_mem (List.getElem_mem hjq));have hjm:j<(ps.map Prod.fst).length:=(by rw[List.length_map]; exact hjq);have hgx:(ps.map Prod.fst)[j]=ps[j].1:=List.getElem_map ..;have Vx:=Z9 (fun u (hc:Qo ⟨s1,m2,m3,m4,s5,A⟩ ps[j].1=some u)=>HST.out j _ u HJ.out hjm (by rw[hgx]; exact hc));have HS2:=Z9 (fun(hc:Qo ⟨s1,m2,m3,m4,s5,A⟩ ps[j].1=none)=>ku.out j _ HJ.out hjm (by rw[hgx]; exact hc));have hba:ps[j].1.bytes.length<=bc:=HCC.out ps[j] (List.getElem_mem hjq) ba ps[j].1.bytes.length bc hp2;generalize ps[j].1=y at *
   have hld:=RV (S9 hbox);obtain⟨V6,hst,hb6,hbx⟩:=Hf wr y ba bc;have hX2:=HB2.out.below HB2.out.lt hb6;have YA:=HB4.out.below HB4.out.lt hb6;have Qn:=I5.out.below hb6;have Yd:=Z9 (MK.out.trans (hb6.mono MK.out.size));have Np:Hid (W.heap.size<=V6.heap.size):=Z9 (Nat.le_trans aF.out hb6.size);have hs6:=ZK hsl hb6;clear hp2 hsl hbox hjm hgx HJ hb6 hg hjq HB2 HB4 I5 MK aF;have HVX:=Z9 JH;have hk0:y.kind=0∨y.kind=2:=(by rcases JH.1.2.2 with q | q; exact .inl q.1; exact .inr q.1);clear JH;go_upto_region 3 with fail;refine wl<|ZJ (Zv rfl (j) (n) dT)<|wn ?_;simp only[pu];go_upto_region 4 with fail;refine wl<|YG (Z5 b (off+j*4)) (Xr b off n c j hlt _ _ _ rfl (by kernel_rfl) (by kernel_rfl))<|ZL rfl ⟨b,off+j*4,none⟩ (.agg (Xd y ba bc)) (hld) ?_;refine Zy rfl (some 6) rfl (Z5 wr.heap.size 0) (wr.alloc (.cells (Xd VJ none 0) 111)) (by kernel_rfl) ?_;refine Zu rfl (hst)<|wn ?_;obtain⟨g9,FH⟩:=ZR wr.heap.size;rw[FH] at hbx ⊢;clear hst FH hld;have hall:(y.num=1/\y.kind=2)∨(y.num=2/\y.kind=0)∨(y.num=3/\y.kind=0)∨(y.num=4/\y.kind=0)∨(y.num=5/\y.kind=2)∨(y.num=6/\y.kind=2)∨(y.num=1/\y.kind≠2)∨(y.num=2/\y.kind≠0)∨(y.num=3/\y.kind≠0)∨(y.num=4/\y.kind≠0)∨(y.num=5/\y.kind≠2)∨(y.num=6/\y.kind≠2)∨(y.num<1∨6<y.num):=(by omega);rcases hall with hcs | hcs | hcs | hcs | hcs | hcs | hcs | hcs | hcs | hcs | hcs | hcs | hcs
   ·have hrf:Qo ⟨s1,m2,m3,m4,s5,A⟩ y=some ⟨(strOfNums y.bytes),m2,m3,m4,s5,A⟩:=(by unfold Qo; simp[hcs.1,hcs.2]);have qF:=Z9 (Vx.out _ hrf);go_upto_region 6 with fail;refine wl<|ZV (Z5 g9 0)<|ZL rfl ⟨g9,0,none⟩ (Z8 y.num) (hbx.ZP 0)<|ZJ (ZB rfl (y.num) (1) (decide_eq_true (hcs.1))) <|
     ZA ZW (Z5 g9 1)<|ZL rfl ⟨g9,1,none⟩ (Z8 y.kind) (hbx.ZP 1)<|ZJ (ZB rfl (y.kind) (2) (decide_eq_true (hcs.2)))<|ZA ZW ZW<|wn ?_
    simp only[pu];obtain⟨V8,XK,Wy,hb8,XT⟩:=Zn (i:=0) (ty:=9) (v:=.string (strOfNums y.bytes)) (cs':=Zx ⟨(strOfNums y.bytes),m2,m3,m4,s5,A⟩ a6 c6) YA Yd.out HG2.out.2.1 (by show 0<6; decide) rfl (by kernel_rfl) rfl;have KU:=Z9 Wy;have KQ:=Z9 (hX2.but XT HG2.out.2.2);have Bv:=Z9 (Qn.but XT Xn.out.2);have OX:=Z9 hb8;have qE:Hid (W.heap.size<=V8.heap.size):=Z9 (Nat.le_trans Np.out XT.1.size);have qC:Hid (A.length<=j+1):=Z9 (Nat.le_succ_of_le CZ.out);go_upto_region 7 with fail;refine wl<|ZV (Z5 g9 3)<|ZL rfl ⟨g9,3,none⟩ (.slice ba y.bytes.length bc) (hbx.ZP 3)<|YG (.string (strOfNums y.bytes)) (N8 rfl hs6 (by kernel_rfl))<|ZV (Z5 g4 0)<|Zu rfl (XK) <|
     wpList_nil ?_
    simp only[pu];clear XK Wy hb8 XT hX2 YA Qn hbx hs6 Vx HS2 hrf CZ Yd Np;go_upto_region 21 with fail;refine wl<|YG (Z8 (j+1:Nat)) (add_one rfl j (by have:=HG.out; omega) (by kernel_rfl) _)<|ZV (Z8 (j+1:Nat))<|wn ?_;simp only[pu];go_wp2_with fail;go_roundg (gk-1)
    case measure=>have:=HG.out; omega
    case rel=>exact⟨j+1,(strOfNums y.bytes),m2,m3,m4,s5,A,a6,c6,rfl,HG.out.2.2.1,qC,KQ,KU,Bv,qF,OX,qE,HG.out.1⟩
   ·have hrf:Qo ⟨s1,m2,m3,m4,s5,A⟩ y=some ⟨s1,y.val,m3,m4,s5,A⟩:=(by unfold Qo; simp[hcs.1,hcs.2]);have qF:=Z9 (Vx.out _ hrf);go_upto_region 6 with fail;refine wl<|ZV (Z5 g9 0)<|ZL rfl ⟨g9,0,none⟩ (Z8 y.num) (hbx.ZP 0)<|ZJ (ZB rfl (y.num) (1) dF) <|
     YW ZY undef undef undef ZY ZY<|wn ?_
    simp only[pu];go_upto_region 8 with fail;refine wl<|ZV (Z5 g9 0)<|ZL rfl ⟨g9,0,none⟩ (Z8 y.num) (hbx.ZP 0)<|ZJ (ZB rfl (y.num) (2) (decide_eq_true (hcs.1))) <|
     ZA ZW (Z5 g9 1)<|ZL rfl ⟨g9,1,none⟩ (Z8 y.kind) (hbx.ZP 1)<|ZJ (ZB rfl (y.kind) (0) (decide_eq_true (hcs.2)))<|ZA ZW ZW<|wn ?_
    simp only[pu];obtain⟨V8,XK,Wy,hb8,XT⟩:=Zn (i:=1) (ty:=27) (v:=Z4 y.val) (cs':=Zx ⟨s1,y.val,m3,m4,s5,A⟩ a6 c6) YA Yd.out HG2.out.2.1 (by show 1<6; decide) rfl (by kernel_rfl) rfl;have KU:=Z9 Wy;have KQ:=Z9 (hX2.but XT HG2.out.2.2);have Bv:=Z9 (Qn.but XT Xn.out.2);have OX:=Z9 hb8;have qE:Hid (W.heap.size<=V8.heap.size):=Z9 (Nat.le_trans Np.out XT.1.size);have qC:Hid (A.length<=j+1):=Z9 (Nat.le_succ_of_le CZ.out);go_upto_region 9 with fail;refine wl<|ZV (Z5 g9 2)<|ZL rfl ⟨g9,2,none⟩ (Z4 y.val) (hbx.ZP 2)<|ZV (Z5 g4 1)<|Zu rfl (XK)<|wn ?_;simp only[pu];clear XK Wy hb8 XT hX2 YA Qn hbx hs6 Vx HS2 hrf CZ Yd Np;go_upto_region 21 with fail;refine wl<|YG (Z8 (j+1:Nat)) (add_one rfl j (by have:=HG.out; omega) (by kernel_rfl) _)<|ZV (Z8 (j+1:Nat))<|wn ?_;simp only[pu];go_wp2_with fail;go_roundg (gk-1)
    case measure=>have:=HG.out; omega
    case rel=>exact⟨j+1,s1,y.val,m3,m4,s5,A,a6,c6,rfl,HG.out.2.2.1,qC,KQ,KU,Bv,qF,OX,qE,HG.out.1⟩
   ·have hrf:Qo ⟨s1,m2,m3,m4,s5,A⟩ y=some ⟨s1,m2,y.val,m4,s5,A⟩:=(by unfold Qo; simp[hcs.1,hcs.2]);have qF:=Z9 (Vx.out _ hrf);go_upto_region 6 with fail;refine wl<|ZV (Z5 g9 0)<|ZL rfl ⟨g9,0,none⟩ (Z8 y.num) (hbx.ZP 0)<|ZJ (ZB rfl (y.num) (1) dF) <|
     YW ZY undef undef undef ZY ZY<|wn ?_
    simp only[pu];go_upto_region 8 with fail;refine wl<|ZV (Z5 g9 0)<|ZL rfl ⟨g9,0,none⟩ (Z8 y.num) (hbx.ZP 0)<|ZJ (ZB rfl (y.num) (2) dF) <|
     YW ZY undef undef undef ZY ZY<|wn ?_
    simp only[pu];go_upto_region 10 with fail;refine wl<|ZV (Z5 g9 0)<|ZL rfl ⟨g9,0,none⟩ (Z8 y.num) (hbx.ZP 0)<|ZJ (ZB rfl (y.num) (3) (decide_eq_true (hcs.1))) <|
     ZA ZW (Z5 g9 1)<|ZL rfl ⟨g9,1,none⟩ (Z8 y.kind) (hbx.ZP 1)<|ZJ (ZB rfl (y.kind) (0) (decide_eq_true (hcs.2)))<|ZA ZW ZW<|wn ?_
    simp only[pu];obtain⟨V8,XK,Wy,hb8,XT⟩:=Zn (i:=2) (ty:=27) (v:=Z4 y.val) (cs':=Zx ⟨s1,m2,y.val,m4,s5,A⟩ a6 c6) YA Yd.out HG2.out.2.1 (by show 2<6; decide) rfl (by kernel_rfl) rfl;have KU:=Z9 Wy;have KQ:=Z9 (hX2.but XT HG2.out.2.2);have Bv:=Z9 (Qn.but XT Xn.out.2);have OX:=Z9 hb8;have qE:Hid (W.heap.size<=V8.heap.size):=Z9 (Nat.le_trans Np.out XT.1.size);have qC:Hid (A.length<=j+1):=Z9 (Nat.le_succ_of_le CZ.out);go_upto_region 11 with fail;refine wl<|ZV (Z5 g9 2)<|ZL rfl ⟨g9,2,none⟩ (Z4 y.val) (hbx.ZP 2)<|ZV (Z5 g4 2)<|Zu rfl (XK)<|wn ?_;simp only[pu];clear XK Wy hb8 XT hX2 YA Qn hbx hs6 Vx HS2 hrf CZ Yd Np;go_upto_region 21 with fail;refine wl<|YG (Z8 (j+1:Nat)) (add_one rfl j (by have:=HG.out; omega) (by kernel_rfl) _)<|ZV (Z8 (j+1:Nat))<|wn ?_;simp only[pu];go_wp2_with fail;go_roundg (gk-1)
    case measure=>have:=HG.out; omega
    case rel=>exact⟨j+1,s1,m2,y.val,m4,s5,A,a6,c6,rfl,HG.out.2.2.1,qC,KQ,KU,Bv,qF,OX,qE,HG.out.1⟩
   ·have hrf:Qo ⟨s1,m2,m3,m4,s5,A⟩ y=some ⟨s1,m2,m3,y.val,s5,A⟩:=(by unfold Qo; simp[hcs.1,hcs.2]);have qF:=Z9 (Vx.out _ hrf);go_upto_region 6 with fail;refine wl<|ZV (Z5 g9 0)<|ZL rfl ⟨g9,0,none⟩ (Z8 y.num) (hbx.ZP 0)<|ZJ (ZB rfl (y.num) (1) dF) <|
     YW ZY undef undef undef ZY ZY<|wn ?_
    simp only[pu];go_upto_region 8 with fail;refine wl<|ZV (Z5 g9 0)<|ZL rfl ⟨g9,0,none⟩ (Z8 y.num) (hbx.ZP 0)<|ZJ (ZB rfl (y.num) (2) dF) <|
     YW ZY undef undef undef ZY ZY<|wn ?_
    simp only[pu];go_upto_region 10 with fail;refine wl<|ZV (Z5 g9 0)<|ZL rfl ⟨g9,0,none⟩ (Z8 y.num) (hbx.ZP 0)<|ZJ (ZB rfl (y.num) (3) dF) <|
     YW ZY undef undef undef ZY ZY<|wn ?_
    simp only[pu];go_upto_region 12 with fail;refine wl<|ZV (Z5 g9 0)<|ZL rfl ⟨g9,0,none⟩ (Z8 y.num) (hbx.ZP 0)<|ZJ (ZB rfl (y.num) (4) (decide_eq_true (hcs.1))) <|
     ZA ZW (Z5 g9 1)<|ZL rfl ⟨g9,1,none⟩ (Z8 y.kind) (hbx.ZP 1)<|ZJ (ZB rfl (y.kind) (0) (decide_eq_true (hcs.2)))<|ZA ZW ZW<|wn ?_
    simp only[pu];obtain⟨V8,XK,Wy,hb8,XT⟩:=Zn (i:=3) (ty:=27) (v:=Z4 y.val) (cs':=Zx ⟨s1,m2,m3,y.val,s5,A⟩ a6 c6) YA Yd.out HG2.out.2.1 (by show 3<6; decide) rfl (by kernel_rfl) rfl;have KU:=Z9 Wy;have KQ:=Z9 (hX2.but XT HG2.out.2.2);have Bv:=Z9 (Qn.but XT Xn.out.2);have OX:=Z9 hb8;have qE:Hid (W.heap.size<=V8.heap.size):=Z9 (Nat.le_trans Np.out XT.1.size);have qC:Hid (A.length<=j+1):=Z9 (Nat.le_succ_of_le CZ.out);go_upto_region 13 with fail;refine wl<|ZV (Z5 g9 2)<|ZL rfl ⟨g9,2,none⟩ (Z4 y.val) (hbx.ZP 2)<|ZV (Z5 g4 3)<|Zu rfl (XK)<|wn ?_;simp only[pu];clear XK Wy hb8 XT hX2 YA Qn hbx hs6 Vx HS2 hrf CZ Yd Np;go_upto_region 21 with fail;refine wl<|YG (Z8 (j+1:Nat)) (add_one rfl j (by have:=HG.out; omega) (by kernel_rfl) _)<|ZV (Z8 (j+1:Nat))<|wn ?_;simp only[pu];go_wp2_with fail;go_roundg (gk-1)
    case measure=>have:=HG.out; omega
    case rel=>exact⟨j+1,s1,m2,m3,y.val,s5,A,a6,c6,rfl,HG.out.2.2.1,qC,KQ,KU,Bv,qF,OX,qE,HG.out.1⟩
   ·have hrf:Qo ⟨s1,m2,m3,m4,s5,A⟩ y=some ⟨s1,m2,m3,m4,(strOfNums y.bytes),A⟩:=(by unfold Qo; simp[hcs.1,hcs.2]);have qF:=Z9 (Vx.out _ hrf);go_upto_region 6 with fail;refine wl<|ZV (Z5 g9 0)<|ZL rfl ⟨g9,0,none⟩ (Z8 y.num) (hbx.ZP 0)<|ZJ (ZB rfl (y.num) (1) dF) <|
     YW ZY undef undef undef ZY ZY<|wn ?_
    simp only[pu];go_upto_region 8 with fail;refine wl<|ZV (Z5 g9 0)<|ZL rfl ⟨g9,0,none⟩ (Z8 y.num) (hbx.ZP 0)<|ZJ (ZB rfl (y.num) (2) dF) <|
     YW ZY undef undef undef ZY ZY<|wn ?_
    simp only[pu];go_upto_region 10 with fail;refine wl<|ZV (Z5 g9 0)<|ZL rfl ⟨g9,0,none⟩ (Z8 y.num) (hbx.ZP 0)<|ZJ (ZB rfl (y.num) (3) dF) <|
     YW ZY undef undef undef ZY ZY<|wn ?_
    simp only[pu];go_upto_region 12 with fail;refine wl<|ZV (Z5 g9 0)<|ZL rfl ⟨g9,0,none⟩ (Z8 y.num) (hbx.ZP 0)<|ZJ (ZB rfl (y.num) (4) dF) <|
     YW ZY undef undef undef ZY ZY<|wn ?_
    simp only[pu];go_upto_region 14 with fail;refine wl<|ZV (Z5 g9 0)<|ZL rfl ⟨g9,0,none⟩ (Z8 y.num) (hbx.ZP 0)<|ZJ (ZB rfl (y.num) (5) (decide_eq_true (hcs.1))) <|
     ZA ZW (Z5 g9 1)<|ZL rfl ⟨g9,1,none⟩ (Z8 y.kind) (hbx.ZP 1)<|ZJ (ZB rfl (y.kind) (2) (decide_eq_true (hcs.2)))<|ZA ZW ZW<|wn ?_
    simp only[pu];obtain⟨V8,XK,Wy,hb8,XT⟩:=Zn (i:=4) (ty:=9) (v:=.string (strOfNums y.bytes)) (cs':=Zx ⟨s1,m2,m3,m4,(strOfNums y.bytes),A⟩ a6 c6) YA Yd.out HG2.out.2.1 (by show 4<6; decide) rfl (by kernel_rfl) rfl;have KU:=Z9 Wy;have KQ:=Z9 (hX2.but XT HG2.out.2.2);have Bv:=Z9 (Qn.but XT Xn.out.2);have OX:=Z9 hb8;have qE:Hid (W.heap.size<=V8.heap.size):=Z9 (Nat.le_trans Np.out XT.1.size);have qC:Hid (A.length<=j+1):=Z9 (Nat.le_succ_of_le CZ.out);go_upto_region 15 with fail;refine wl<|ZV (Z5 g9 3)<|ZL rfl ⟨g9,3,none⟩ (.slice ba y.bytes.length bc) (hbx.ZP 3)<|YG (.string (strOfNums y.bytes)) (N8 rfl hs6 (by kernel_rfl))<|ZV (Z5 g4 4)<|Zu rfl (XK) <|
     wpList_nil ?_
    simp only[pu];clear XK Wy hb8 XT hX2 YA Qn hbx hs6 Vx HS2 hrf CZ Yd Np;go_upto_region 21 with fail;refine wl<|YG (Z8 (j+1:Nat)) (add_one rfl j (by have:=HG.out; omega) (by kernel_rfl) _)<|ZV (Z8 (j+1:Nat))<|wn ?_;simp only[pu];go_wp2_with fail;go_roundg (gk-1)
    case measure=>have:=HG.out; omega
    case rel=>exact⟨j+1,s1,m2,m3,m4,(strOfNums y.bytes),A,a6,c6,rfl,HG.out.2.2.1,qC,KQ,KU,Bv,qF,OX,qE,HG.out.1⟩
   ·have CR:=He ba bc y.bytes V6 hs6 hba hbl HVX.out.2.2.1;have qH:Hid (Qo ⟨s1,m2,m3,m4,s5,A⟩ y=(EN y.bytes).map fun x=>⟨s1,m2,m3,m4,s5,A++[x]⟩):=Z9 (by unfold Qo; simp[hcs.1,hcs.2]);generalize EN y.bytes=rx at *
    go_upto_region 6 with fail;refine wl<|ZV (Z5 g9 0)<|ZL rfl ⟨g9,0,none⟩ (Z8 y.num) (hbx.ZP 0)<|ZJ (ZB rfl (y.num) (1) dF) <|
     YW ZY undef undef undef ZY ZY<|wn ?_
    simp only[pu];go_upto_region 8 with fail;refine wl<|ZV (Z5 g9 0)<|ZL rfl ⟨g9,0,none⟩ (Z8 y.num) (hbx.ZP 0)<|ZJ (ZB rfl (y.num) (2) dF) <|
     YW ZY undef undef undef ZY ZY<|wn ?_
    simp only[pu];go_upto_region 10 with fail;refine wl<|ZV (Z5 g9 0)<|ZL rfl ⟨g9,0,none⟩ (Z8 y.num) (hbx.ZP 0)<|ZJ (ZB rfl (y.num) (3) dF) <|
     YW ZY undef undef undef ZY ZY<|wn ?_
    simp only[pu];go_upto_region 12 with fail;refine wl<|ZV (Z5 g9 0)<|ZL rfl ⟨g9,0,none⟩ (Z8 y.num) (hbx.ZP 0)<|ZJ (ZB rfl (y.num) (4) dF) <|
     YW ZY undef undef undef ZY ZY<|wn ?_
    simp only[pu];go_upto_region 14 with fail;refine wl<|ZV (Z5 g9 0)<|ZL rfl ⟨g9,0,none⟩ (Z8 y.num) (hbx.ZP 0)<|ZJ (ZB rfl (y.num) (5) dF) <|
     YW ZY undef undef undef ZY ZY<|wn ?_
    simp only[pu];go_upto_region 16 with fail;refine wl<|ZV (Z5 g9 0)<|ZL rfl ⟨g9,0,none⟩ (Z8 y.num) (hbx.ZP 0)<|ZJ (ZB rfl (y.num) (6) (decide_eq_true (hcs.1))) <|
     ZA ZW (Z5 g9 1)<|ZL rfl ⟨g9,1,none⟩ (Z8 y.kind) (hbx.ZP 1)<|ZJ (ZB rfl (y.kind) (2) (decide_eq_true (hcs.2)))<|ZA ZW ZW<|wn ?_
    simp only[pu];go_upto_region 17 with fail;refine wl<|ZV (Z5 g9 3)<|ZL rfl ⟨g9,3,none⟩ (.slice ba y.bytes.length bc) (hbx.ZP 3) <|
     Yi (fun v w'=>∃ x ok,v=.tuple #[.agg (Yx x),.bool ok]/\rx=(if ok=true then some x else none)/\Below V6.heap.size V6 w') (CR.mono fun e w' q=>by obtain⟨x,ok,h1,h2⟩:=q; exact⟨_,h1,x,ok,rfl,h2⟩) (fun v7 V7 hq=>?_)
    obtain⟨x,ok,rfl,hok,hb7⟩:=hq;obtain⟨V8,XK,hb8,Pg⟩:=TF V7 x;refine Yr (.tuple #[.agg (Yx x),.bool ok]) (.agg (Yx x)) (.bool ok) ?_;refine Zy rfl (some 7) rfl (Z5 V7.heap.size 0) (V7.alloc (.cells (Yx Uc) 64)) (by kernel_rfl) ?_;refine Zu rfl (XK)<|ZV (.bool ok)<|wn ?_;simp only[pu];obtain⟨g7,RF⟩:=ZR V7.heap.size;have KO:=hb7.trans (hb8.mono hb7.size)
    replace hX2:=hX2.below hX2.lt KO
    replace YA:=YA.below YA.lt KO
    replace Qn:=Qn.below KO
    replace Yd:=Z9 (Yd.out.trans (KO.mono Yd.out.size))
    replace Np:Hid (W.heap.size<=V8.heap.size):=Z9 (Nat.le_trans Np.out KO.size)
    rw[RF] at Pg ⊢;clear XK RF hb7 hb8 KO CR hbx hs6;go_upto_region 18 with fail;cases ok
    ·have NJ:=Z9 (HS2.out (by rw[qH.out,hok]; rfl));refine wl<|ZA ZY ZW<|wn ?_;simp only[pu];clear Vx HS2 qH hok;obtain⟨XA,hZ⟩:=Zg (y:=⟨s1,m2,m3,m4,s5,A⟩) (a':=a6) (c':=c6) hX2;have YO:=Z9 (Zz YA);have Zl:=Z9 (ZQ Yd.out HG2.out.1 (Zx ⟨s1,m2,m3,m4,s5,A⟩ a6 c6));have HRW:=Z9 ((WQ (g:=g2) Qn (Zx ⟨s1,m2,m3,m4,s5,A⟩ a6 c6) Xn.out.1).base (B:=w.heap.size) BH.out);have HE:=Z9 (Un.out _ ⟨s1,m2,m3,m4,s5,A⟩ false a6 c6 Zl.out NJ.out HRW.out);generalize World.setRow _ g2 (Zx ⟨s1,m2,m3,m4,s5,A⟩ a6 c6)=V9 at *
     clear Un HRW Zl hX2 YA Qn;go_upto_region 19 with fail;refine wl<|ZL rfl ⟨g4,0,none⟩ (.agg (Zx ⟨s1,m2,m3,m4,s5,A⟩ a6 c6)) (YO.out)<|Zu rfl (XA)<|ZV ZY<|wn ?_;simp only[pu];go_wp2_with fail;exact bodyPost_ret (ZO (p:=2) (q:=3) rfl (by kernel_rfl) (Zz hZ) rfl) rfl HE.out
    ·refine wl<|ZA ZW ZY<|wn ?_;simp only[pu];have qF:=Z9 (Vx.out _ (by rw[qH.out,hok]; rfl));obtain⟨a7,c7,V9,hap,Rx,Yb⟩:=MG Qn Np.out x (by have:=CZ.out; have:=HG.out; omega);have SY:Bx V9 g4 (Zx ⟨s1,m2,m3,m4,s5,A⟩ a6 c6) 67:=YA.below Xn.out.2 Yb;obtain⟨V10,EM,qB,aw9,Q5⟩:=Zn (i:=5) (ty:=65) (v:=.slice a7 (A++[x]).length c7) (cs':=Zx ⟨s1,m2,m3,m4,s5,A++[x]⟩ a7 c7) SY (Yd.out.trans (Yb.mono BH.out)) HG2.out.2.1 (by show 5<6; decide) rfl (by kernel_rfl) rfl;have KU:=Z9 qB;have KQ:=Z9 ((hX2.below Xn.out.1 Yb).but Q5 HG2.out.2.2);have Bv:=Z9 (Rx.but Q5 Xn.out.2);have OX:=Z9 aw9;have qE:Hid (W.heap.size<=V10.heap.size):=Z9 (Nat.le_trans (Nat.le_trans Np.out Yb.size) Q5.1.size);have qC:Hid ((A++[x]).length<=j+1):=Z9 (by rw[List.length_append]; have:=CZ.out; show A.length+1<=j+1; omega);clear Rx Yb SY qB Q5 aw9 Vx HS2 qH hok CZ Yd Np hX2 Qn;go_upto_region 20 with fail;refine wl<|ZV (Z5 g4 5)<|ZL rfl ⟨g4,5,none⟩ (.slice a6 A.length c6) (YA.ZP 5)<|ZL rfl ⟨g7,0,none⟩ (.agg (Yx x)) (Yu Pg) ?_;refine Zr (by kernel_rfl) (some 99) rfl 65 1 #[(0,.tmp 98)] rfl #[(0,.agg (Yx x))] (by kernel_rfl) (.slice (some ⟨V8.heap.size,0,none⟩) 1 1) _ (Ro x V8) ?_;refine Zh rfl (some 100) rfl 65 rfl (.tmp 97) (.tmp 99) 65 rfl (.slice a6 A.length c6) (.slice (some ⟨V8.heap.size,0,none⟩) 1 1) (.slice a7 (A++[x]).length c7) V9 (by kernel_rfl) (by kernel_rfl) hap ?_;refine ZV (Z5 g4 5)<|Zu rfl (EM)<|wn ?_;simp only[pu];clear hap EM YA Pg;go_upto_region 21 with fail;refine wl<|YG (Z8 (j+1:Nat)) (add_one rfl j (by have:=HG.out; omega) (by kernel_rfl) _)<|ZV (Z8 (j+1:Nat))<|wn ?_;simp only[pu];go_wp2_with fail;go_roundg (gk-1)
     case measure=>have:=HG.out; omega
     case rel=>exact⟨j+1,s1,m2,m3,m4,s5,A++[x],a7,c7,rfl,HG.out.2.2.1,qC,KQ,KU,Bv,qF,OX,qE,HG.out.1⟩
   ·have NJ:=Z9 (HS2.out (by unfold Qo; simp[hcs.1,hcs.2]));clear Vx HS2 hba hbl hs6;go_upto_region 6 with fail;refine wl<|ZV (Z5 g9 0)<|ZL rfl ⟨g9,0,none⟩ (Z8 y.num) (hbx.ZP 0)<|ZJ (ZB rfl (y.num) (1) (decide_eq_true (hcs.1))) <|
     ZA ZW (Z5 g9 1)<|ZL rfl ⟨g9,1,none⟩ (Z8 y.kind) (hbx.ZP 1)<|ZJ (ZB rfl (y.kind) (2) (decide_eq_false (hcs.2)))<|ZA ZY ZY<|wn ?_
    simp only[pu];go_upto_region 8 with fail;refine wl<|ZV (Z5 g9 0)<|ZL rfl ⟨g9,0,none⟩ (Z8 y.num) (hbx.ZP 0)<|ZJ (ZB rfl (y.num) (2) dF) <|
     YW ZY undef undef undef ZY ZY<|wn ?_
    simp only[pu];go_upto_region 10 with fail;refine wl<|ZV (Z5 g9 0)<|ZL rfl ⟨g9,0,none⟩ (Z8 y.num) (hbx.ZP 0)<|ZJ (ZB rfl (y.num) (3) dF) <|
     YW ZY undef undef undef ZY ZY<|wn ?_
    simp only[pu];go_upto_region 12 with fail;refine wl<|ZV (Z5 g9 0)<|ZL rfl ⟨g9,0,none⟩ (Z8 y.num) (hbx.ZP 0)<|ZJ (ZB rfl (y.num) (4) dF) <|
     YW ZY undef undef undef ZY ZY<|wn ?_
    simp only[pu];go_upto_region 14 with fail;refine wl<|ZV (Z5 g9 0)<|ZL rfl ⟨g9,0,none⟩ (Z8 y.num) (hbx.ZP 0)<|ZJ (ZB rfl (y.num) (5) dF) <|
     YW ZY undef undef undef ZY ZY<|wn ?_
    simp only[pu];go_upto_region 16 with fail;refine wl<|ZV (Z5 g9 0)<|ZL rfl ⟨g9,0,none⟩ (Z8 y.num) (hbx.ZP 0)<|ZJ (ZB rfl (y.num) (6) dF) <|
     YW ZY undef undef undef ZY ZY<|wn ?_
    simp only[pu];obtain⟨XA,hZ⟩:=Zg (y:=⟨s1,m2,m3,m4,s5,A⟩) (a':=a6) (c':=c6) hX2;have YO:=Z9 (Zz YA);have Zl:=Z9 (ZQ Yd.out HG2.out.1 (Zx ⟨s1,m2,m3,m4,s5,A⟩ a6 c6));have HRW:=Z9 ((WQ (g:=g2) Qn (Zx ⟨s1,m2,m3,m4,s5,A⟩ a6 c6) Xn.out.1).base (B:=w.heap.size) BH.out);have HE:=Z9 (Un.out _ ⟨s1,m2,m3,m4,s5,A⟩ false a6 c6 Zl.out NJ.out HRW.out);generalize World.setRow _ g2 (Zx ⟨s1,m2,m3,m4,s5,A⟩ a6 c6)=V9 at *
    clear Un HRW Zl hX2 YA Qn;go_upto_region 5 with fail;refine wl<|ZL rfl ⟨g4,0,none⟩ (.agg (Zx ⟨s1,m2,m3,m4,s5,A⟩ a6 c6)) (YO.out)<|Zu rfl (XA)<|ZV ZY<|wn ?_;simp only[pu];go_wp2_with fail;exact bodyPost_ret (ZO (p:=2) (q:=3) rfl (by kernel_rfl) (Zz hZ) rfl) rfl HE.out
   ·have NJ:=Z9 (HS2.out (by unfold Qo; simp[hcs.1,hcs.2]));clear Vx HS2 hba hbl hs6;go_upto_region 6 with fail;refine wl<|ZV (Z5 g9 0)<|ZL rfl ⟨g9,0,none⟩ (Z8 y.num) (hbx.ZP 0)<|ZJ (ZB rfl (y.num) (1) dF) <|
     YW ZY undef undef undef ZY ZY<|wn ?_
    simp only[pu];go_upto_region 8 with fail;refine wl<|ZV (Z5 g9 0)<|ZL rfl ⟨g9,0,none⟩ (Z8 y.num) (hbx.ZP 0)<|ZJ (ZB rfl (y.num) (2) (decide_eq_true (hcs.1))) <|
     ZA ZW (Z5 g9 1)<|ZL rfl ⟨g9,1,none⟩ (Z8 y.kind) (hbx.ZP 1)<|ZJ (ZB rfl (y.kind) (0) (decide_eq_false (hcs.2)))<|ZA ZY ZY<|wn ?_
    simp only[pu];go_upto_region 10 with fail;refine wl<|ZV (Z5 g9 0)<|ZL rfl ⟨g9,0,none⟩ (Z8 y.num) (hbx.ZP 0)<|ZJ (ZB rfl (y.num) (3) dF) <|
     YW ZY undef undef undef ZY ZY<|wn ?_
    simp only[pu];go_upto_region 12 with fail;refine wl<|ZV (Z5 g9 0)<|ZL rfl ⟨g9,0,none⟩ (Z8 y.num) (hbx.ZP 0)<|ZJ (ZB rfl (y.num) (4) dF) <|
     YW ZY undef undef undef ZY ZY<|wn ?_
    simp only[pu];go_upto_region 14 with fail;refine wl<|ZV (Z5 g9 0)<|ZL rfl ⟨g9,0,none⟩ (Z8 y.num) (hbx.ZP 0)<|ZJ (ZB rfl (y.num) (5) dF) <|
     YW ZY undef undef undef ZY ZY<|wn ?_
    simp only[pu];go_upto_region 16 with fail;refine wl<|ZV (Z5 g9 0)<|ZL rfl ⟨g9,0,none⟩ (Z8 y.num) (hbx.ZP 0)<|ZJ (ZB rfl (y.num) (6) dF) <|
     YW ZY undef undef undef ZY ZY<|wn ?_
    simp only[pu];obtain⟨XA,hZ⟩:=Zg (y:=⟨s1,m2,m3,m4,s5,A⟩) (a':=a6) (c':=c6) hX2;have YO:=Z9 (Zz YA);have Zl:=Z9 (ZQ Yd.out HG2.out.1 (Zx ⟨s1,m2,m3,m4,s5,A⟩ a6 c6));have HRW:=Z9 ((WQ (g:=g2) Qn (Zx ⟨s1,m2,m3,m4,s5,A⟩ a6 c6) Xn.out.1).base (B:=w.heap.size) BH.out);have HE:=Z9 (Un.out _ ⟨s1,m2,m3,m4,s5,A⟩ false a6 c6 Zl.out NJ.out HRW.out);generalize World.setRow _ g2 (Zx ⟨s1,m2,m3,m4,s5,A⟩ a6 c6)=V9 at *
    clear Un HRW Zl hX2 YA Qn;go_upto_region 5 with fail;refine wl<|ZL rfl ⟨g4,0,none⟩ (.agg (Zx ⟨s1,m2,m3,m4,s5,A⟩ a6 c6)) (YO.out)<|Zu rfl (XA)<|ZV ZY<|wn ?_;simp only[pu];go_wp2_with fail;exact bodyPost_ret (ZO (p:=2) (q:=3) rfl (by kernel_rfl) (Zz hZ) rfl) rfl HE.out
   ·have NJ:=Z9 (HS2.out (by unfold Qo; simp[hcs.1,hcs.2]));clear Vx HS2 hba hbl hs6;go_upto_region 6 with fail;refine wl<|ZV (Z5 g9 0)<|ZL rfl ⟨g9,0,none⟩ (Z8 y.num) (hbx.ZP 0)<|ZJ (ZB rfl (y.num) (1) dF) <|
     YW ZY undef undef undef ZY ZY<|wn ?_
    simp only[pu];go_upto_region 8 with fail;refine wl<|ZV (Z5 g9 0)<|ZL rfl ⟨g9,0,none⟩ (Z8 y.num) (hbx.ZP 0)<|ZJ (ZB rfl (y.num) (2) dF) <|
     YW ZY undef undef undef ZY ZY<|wn ?_
    simp only[pu];go_upto_region 10 with fail;refine wl<|ZV (Z5 g9 0)<|ZL rfl ⟨g9,0,none⟩ (Z8 y.num) (hbx.ZP 0)<|ZJ (ZB rfl (y.num) (3) (decide_eq_true (hcs.1))) <|
     ZA ZW (Z5 g9 1)<|ZL rfl ⟨g9,1,none⟩ (Z8 y.kind) (hbx.ZP 1)<|ZJ (ZB rfl (y.kind) (0) (decide_eq_false (hcs.2)))<|ZA ZY ZY<|wn ?_
    simp only[pu];go_upto_region 12 with fail;refine wl<|ZV (Z5 g9 0)<|ZL rfl ⟨g9,0,none⟩ (Z8 y.num) (hbx.ZP 0)<|ZJ (ZB rfl (y.num) (4) dF) <|
     YW ZY undef undef undef ZY ZY<|wn ?_
    simp only[pu];go_upto_region 14 with fail;refine wl<|ZV (Z5 g9 0)<|ZL rfl ⟨g9,0,none⟩ (Z8 y.num) (hbx.ZP 0)<|ZJ (ZB rfl (y.num) (5) dF) <|
     YW ZY undef undef undef ZY ZY<|wn ?_
    simp only[pu];go_upto_region 16 with fail;refine wl<|ZV (Z5 g9 0)<|ZL rfl ⟨g9,0,none⟩ (Z8 y.num) (hbx.ZP 0)<|ZJ (ZB rfl (y.num) (6) dF) <|
     YW ZY undef undef undef ZY ZY<|wn ?_
    simp only[pu];obtain⟨XA,hZ⟩:=Zg (y:=⟨s1,m2,m3,m4,s5,A⟩) (a':=a6) (c':=c6) hX2;have YO:=Z9 (Zz YA);have Zl:=Z9 (ZQ Yd.out HG2.out.1 (Zx ⟨s1,m2,m3,m4,s5,A⟩ a6 c6));have HRW:=Z9 ((WQ (g:=g2) Qn (Zx ⟨s1,m2,m3,m4,s5,A⟩ a6 c6) Xn.out.1).base (B:=w.heap.size) BH.out);have HE:=Z9 (Un.out _ ⟨s1,m2,m3,m4,s5,A⟩ false a6 c6 Zl.out NJ.out HRW.out);generalize World.setRow _ g2 (Zx ⟨s1,m2,m3,m4,s5,A⟩ a6 c6)=V9 at *
    clear Un HRW Zl hX2 YA Qn;go_upto_region 5 with fail;refine wl<|ZL rfl ⟨g4,0,none⟩ (.agg (Zx ⟨s1,m2,m3,m4,s5,A⟩ a6 c6)) (YO.out)<|Zu rfl (XA)<|ZV ZY<|wn ?_;simp only[pu];go_wp2_with fail;exact bodyPost_ret (ZO (p:=2) (q:=3) rfl (by kernel_rfl) (Zz hZ) rfl) rfl HE.out
   ·have NJ:=Z9 (HS2.out (by unfold Qo; simp[hcs.1,hcs.2]));clear Vx HS2 hba hbl hs6;go_upto_region 6 with fail;refine wl<|ZV (Z5 g9 0)<|ZL rfl ⟨g9,0,none⟩ (Z8 y.num) (hbx.ZP 0)<|ZJ (ZB rfl (y.num) (1) dF) <|
     YW ZY undef undef undef ZY ZY<|wn ?_
    simp only[pu];go_upto_region 8 with fail;refine wl<|ZV (Z5 g9 0)<|ZL rfl ⟨g9,0,none⟩ (Z8 y.num) (hbx.ZP 0)<|ZJ (ZB rfl (y.num) (2) dF) <|
     YW ZY undef undef undef ZY ZY<|wn ?_
    simp only[pu];go_upto_region 10 with fail;refine wl<|ZV (Z5 g9 0)<|ZL rfl ⟨g9,0,none⟩ (Z8 y.num) (hbx.ZP 0)<|ZJ (ZB rfl (y.num) (3) dF) <|
     YW ZY undef undef undef ZY ZY<|wn ?_
    simp only[pu];go_upto_region 12 with fail;refine wl<|ZV (Z5 g9 0)<|ZL rfl ⟨g9,0,none⟩ (Z8 y.num) (hbx.ZP 0)<|ZJ (ZB rfl (y.num) (4) (decide_eq_true (hcs.1))) <|
     ZA ZW (Z5 g9 1)<|ZL rfl ⟨g9,1,none⟩ (Z8 y.kind) (hbx.ZP 1)<|ZJ (ZB rfl (y.kind) (0) (decide_eq_false (hcs.2)))<|ZA ZY ZY<|wn ?_
    simp only[pu];go_upto_region 14 with fail;refine wl<|ZV (Z5 g9 0)<|ZL rfl ⟨g9,0,none⟩ (Z8 y.num) (hbx.ZP 0)<|ZJ (ZB rfl (y.num) (5) dF) <|
     YW ZY undef undef undef ZY ZY<|wn ?_
    simp only[pu];go_upto_region 16 with fail;refine wl<|ZV (Z5 g9 0)<|ZL rfl ⟨g9,0,none⟩ (Z8 y.num) (hbx.ZP 0)<|ZJ (ZB rfl (y.num) (6) dF) <|
     YW ZY undef undef undef ZY ZY<|wn ?_
    simp only[pu];obtain⟨XA,hZ⟩:=Zg (y:=⟨s1,m2,m3,m4,s5,A⟩) (a':=a6) (c':=c6) hX2;have YO:=Z9 (Zz YA);have Zl:=Z9 (ZQ Yd.out HG2.out.1 (Zx ⟨s1,m2,m3,m4,s5,A⟩ a6 c6));have HRW:=Z9 ((WQ (g:=g2) Qn (Zx ⟨s1,m2,m3,m4,s5,A⟩ a6 c6) Xn.out.1).base (B:=w.heap.size) BH.out);have HE:=Z9 (Un.out _ ⟨s1,m2,m3,m4,s5,A⟩ false a6 c6 Zl.out NJ.out HRW.out);generalize World.setRow _ g2 (Zx ⟨s1,m2,m3,m4,s5,A⟩ a6 c6)=V9 at *
    clear Un HRW Zl hX2 YA Qn;go_upto_region 5 with fail;refine wl<|ZL rfl ⟨g4,0,none⟩ (.agg (Zx ⟨s1,m2,m3,m4,s5,A⟩ a6 c6)) (YO.out)<|Zu rfl (XA)<|ZV ZY<|wn ?_;simp only[pu];go_wp2_with fail;exact bodyPost_ret (ZO (p:=2) (q:=3) rfl (by kernel_rfl) (Zz hZ) rfl) rfl HE.out
   ·have NJ:=Z9 (HS2.out (by unfold Qo; simp[hcs.1,hcs.2]));clear Vx HS2 hba hbl hs6;go_upto_region 6 with fail;refine wl<|ZV (Z5 g9 0)<|ZL rfl ⟨g9,0,none⟩ (Z8 y.num) (hbx.ZP 0)<|ZJ (ZB rfl (y.num) (1) dF) <|
     YW ZY undef undef undef ZY ZY<|wn ?_
    simp only[pu];go_upto_region 8 with fail;refine wl<|ZV (Z5 g9 0)<|ZL rfl ⟨g9,0,none⟩ (Z8 y.num) (hbx.ZP 0)<|ZJ (ZB rfl (y.num) (2) dF) <|
     YW ZY undef undef undef ZY ZY<|wn ?_
    simp only[pu];go_upto_region 10 with fail;refine wl<|ZV (Z5 g9 0)<|ZL rfl ⟨g9,0,none⟩ (Z8 y.num) (hbx.ZP 0)<|ZJ (ZB rfl (y.num) (3) dF) <|
     YW ZY undef undef undef ZY ZY<|wn ?_
    simp only[pu];go_upto_region 12 with fail;refine wl<|ZV (Z5 g9 0)<|ZL rfl ⟨g9,0,none⟩ (Z8 y.num) (hbx.ZP 0)<|ZJ (ZB rfl (y.num) (4) dF) <|
     YW ZY undef undef undef ZY ZY<|wn ?_
    simp only[pu];go_upto_region 14 with fail;refine wl<|ZV (Z5 g9 0)<|ZL rfl ⟨g9,0,none⟩ (Z8 y.num) (hbx.ZP 0)<|ZJ (ZB rfl (y.num) (5) (decide_eq_true (hcs.1))) <|
     ZA ZW (Z5 g9 1)<|ZL rfl ⟨g9,1,none⟩ (Z8 y.kind) (hbx.ZP 1)<|ZJ (ZB rfl (y.kind) (2) (decide_eq_false (hcs.2)))<|ZA ZY ZY<|wn ?_
    simp only[pu];go_upto_region 16 with fail;refine wl<|ZV (Z5 g9 0)<|ZL rfl ⟨g9,0,none⟩ (Z8 y.num) (hbx.ZP 0)<|ZJ (ZB rfl (y.num) (6) dF) <|
     YW ZY undef undef undef ZY ZY<|wn ?_
    simp only[pu];obtain⟨XA,hZ⟩:=Zg (y:=⟨s1,m2,m3,m4,s5,A⟩) (a':=a6) (c':=c6) hX2;have YO:=Z9 (Zz YA);have Zl:=Z9 (ZQ Yd.out HG2.out.1 (Zx ⟨s1,m2,m3,m4,s5,A⟩ a6 c6));have HRW:=Z9 ((WQ (g:=g2) Qn (Zx ⟨s1,m2,m3,m4,s5,A⟩ a6 c6) Xn.out.1).base (B:=w.heap.size) BH.out);have HE:=Z9 (Un.out _ ⟨s1,m2,m3,m4,s5,A⟩ false a6 c6 Zl.out NJ.out HRW.out);generalize World.setRow _ g2 (Zx ⟨s1,m2,m3,m4,s5,A⟩ a6 c6)=V9 at *
    clear Un HRW Zl hX2 YA Qn;go_upto_region 5 with fail;refine wl<|ZL rfl ⟨g4,0,none⟩ (.agg (Zx ⟨s1,m2,m3,m4,s5,A⟩ a6 c6)) (YO.out)<|Zu rfl (XA)<|ZV ZY<|wn ?_;simp only[pu];go_wp2_with fail;exact bodyPost_ret (ZO (p:=2) (q:=3) rfl (by kernel_rfl) (Zz hZ) rfl) rfl HE.out
   ·have NJ:=Z9 (HS2.out (by unfold Qo; simp[hcs.1,hcs.2]));clear Vx HS2 hba hbl hs6;go_upto_region 6 with fail;refine wl<|ZV (Z5 g9 0)<|ZL rfl ⟨g9,0,none⟩ (Z8 y.num) (hbx.ZP 0)<|ZJ (ZB rfl (y.num) (1) dF) <|
     YW ZY undef undef undef ZY ZY<|wn ?_
    simp only[pu];go_upto_region 8 with fail;refine wl<|ZV (Z5 g9 0)<|ZL rfl ⟨g9,0,none⟩ (Z8 y.num) (hbx.ZP 0)<|ZJ (ZB rfl (y.num) (2) dF) <|
     YW ZY undef undef undef ZY ZY<|wn ?_
    simp only[pu];go_upto_region 10 with fail;refine wl<|ZV (Z5 g9 0)<|ZL rfl ⟨g9,0,none⟩ (Z8 y.num) (hbx.ZP 0)<|ZJ (ZB rfl (y.num) (3) dF) <|
     YW ZY undef undef undef ZY ZY<|wn ?_
    simp only[pu];go_upto_region 12 with fail;refine wl<|ZV (Z5 g9 0)<|ZL rfl ⟨g9,0,none⟩ (Z8 y.num) (hbx.ZP 0)<|ZJ (ZB rfl (y.num) (4) dF) <|
     YW ZY undef undef undef ZY ZY<|wn ?_
    simp only[pu];go_upto_region 14 with fail;refine wl<|ZV (Z5 g9 0)<|ZL rfl ⟨g9,0,none⟩ (Z8 y.num) (hbx.ZP 0)<|ZJ (ZB rfl (y.num) (5) dF) <|
     YW ZY undef undef undef ZY ZY<|wn ?_
    simp only[pu];go_upto_region 16 with fail;refine wl<|ZV (Z5 g9 0)<|ZL rfl ⟨g9,0,none⟩ (Z8 y.num) (hbx.ZP 0)<|ZJ (ZB rfl (y.num) (6) (decide_eq_true (hcs.1))) <|
     ZA ZW (Z5 g9 1)<|ZL rfl ⟨g9,1,none⟩ (Z8 y.kind) (hbx.ZP 1)<|ZJ (ZB rfl (y.kind) (2) (decide_eq_false (hcs.2)))<|ZA ZY ZY<|wn ?_
    simp only[pu];obtain⟨XA,hZ⟩:=Zg (y:=⟨s1,m2,m3,m4,s5,A⟩) (a':=a6) (c':=c6) hX2;have YO:=Z9 (Zz YA);have Zl:=Z9 (ZQ Yd.out HG2.out.1 (Zx ⟨s1,m2,m3,m4,s5,A⟩ a6 c6));have HRW:=Z9 ((WQ (g:=g2) Qn (Zx ⟨s1,m2,m3,m4,s5,A⟩ a6 c6) Xn.out.1).base (B:=w.heap.size) BH.out);have HE:=Z9 (Un.out _ ⟨s1,m2,m3,m4,s5,A⟩ false a6 c6 Zl.out NJ.out HRW.out);generalize World.setRow _ g2 (Zx ⟨s1,m2,m3,m4,s5,A⟩ a6 c6)=V9 at *
    clear Un HRW Zl hX2 YA Qn;go_upto_region 5 with fail;refine wl<|ZL rfl ⟨g4,0,none⟩ (.agg (Zx ⟨s1,m2,m3,m4,s5,A⟩ a6 c6)) (YO.out)<|Zu rfl (XA)<|ZV ZY<|wn ?_;simp only[pu];go_wp2_with fail;exact bodyPost_ret (ZO (p:=2) (q:=3) rfl (by kernel_rfl) (Zz hZ) rfl) rfl HE.out
   ·have NJ:=Z9 (HS2.out (by unfold Qo; rw[if_neg (by omega),if_neg (by omega),if_neg (by omega),if_neg (by omega),if_neg (by omega),if_neg (by omega)]));clear Vx HS2 hba hbl hs6;go_upto_region 6 with fail;refine wl<|ZV (Z5 g9 0)<|ZL rfl ⟨g9,0,none⟩ (Z8 y.num) (hbx.ZP 0)<|ZJ (ZB rfl (y.num) (1) dF) <|
     YW ZY undef undef undef ZY ZY<|wn ?_
    simp only[pu];go_upto_region 8 with fail;refine wl<|ZV (Z5 g9 0)<|ZL rfl ⟨g9,0,none⟩ (Z8 y.num) (hbx.ZP 0)<|ZJ (ZB rfl (y.num) (2) dF) <|
     YW ZY undef undef undef ZY ZY<|wn ?_
    simp only[pu];go_upto_region 10 with fail;refine wl<|ZV (Z5 g9 0)<|ZL rfl ⟨g9,0,none⟩ (Z8 y.num) (hbx.ZP 0)<|ZJ (ZB rfl (y.num) (3) dF) <|
     YW ZY undef undef undef ZY ZY<|wn ?_
    simp only[pu];go_upto_region 12 with fail;refine wl<|ZV (Z5 g9 0)<|ZL rfl ⟨g9,0,none⟩ (Z8 y.num) (hbx.ZP 0)<|ZJ (ZB rfl (y.num) (4) dF) <|
     YW ZY undef undef undef ZY ZY<|wn ?_
    simp only[pu];go_upto_region 14 with fail;refine wl<|ZV (Z5 g9 0)<|ZL rfl ⟨g9,0,none⟩ (Z8 y.num) (hbx.ZP 0)<|ZJ (ZB rfl (y.num) (5) dF) <|
     YW ZY undef undef undef ZY ZY<|wn ?_
    simp only[pu];go_upto_region 16 with fail;refine wl<|ZV (Z5 g9 0)<|ZL rfl ⟨g9,0,none⟩ (Z8 y.num) (hbx.ZP 0)<|ZJ (ZB rfl (y.num) (6) dF) <|
     YW ZY undef undef undef ZY ZY<|wn ?_
    simp only[pu];obtain⟨XA,hZ⟩:=Zg (y:=⟨s1,m2,m3,m4,s5,A⟩) (a':=a6) (c':=c6) hX2;have YO:=Z9 (Zz YA);have Zl:=Z9 (ZQ Yd.out HG2.out.1 (Zx ⟨s1,m2,m3,m4,s5,A⟩ a6 c6));have HRW:=Z9 ((WQ (g:=g2) Qn (Zx ⟨s1,m2,m3,m4,s5,A⟩ a6 c6) Xn.out.1).base (B:=w.heap.size) BH.out);have HE:=Z9 (Un.out _ ⟨s1,m2,m3,m4,s5,A⟩ false a6 c6 Zl.out NJ.out HRW.out);generalize World.setRow _ g2 (Zx ⟨s1,m2,m3,m4,s5,A⟩ a6 c6)=V9 at *
    clear Un HRW Zl hX2 YA Qn;go_upto_region 5 with fail;refine wl<|ZL rfl ⟨g4,0,none⟩ (.agg (Zx ⟨s1,m2,m3,m4,s5,A⟩ a6 c6)) (YO.out)<|Zu rfl (XA)<|ZV ZY<|wn ?_;simp only[pu];go_wp2_with fail;exact bodyPost_ret (ZO (p:=2) (q:=3) rfl (by kernel_rfl) (Zz hZ) rfl) rfl HE.out
  ·have Jc:=Z9 (lu.out j _ HJ.out (by rw[List.length_map,HN.out]; omega));have hX2:=HB2.out;have YA:=HB4.out;have Qn:=I5.out;have Yd:=MK;clear HJ HB2 HB4 I5 hg;go_upto_region 3 with fail;refine wl<|ZJ (Zv rfl (j) (n) dF)<|wn ?_;simp only[pu];obtain⟨XA,hZ⟩:=Zg (y:=⟨s1,m2,m3,m4,s5,A⟩) (a':=a6) (c':=c6) hX2;have YO:=Z9 (Zz YA);have Zl:=Z9 (ZQ Yd.out HG2.out.1 (Zx ⟨s1,m2,m3,m4,s5,A⟩ a6 c6));have HRW:=Z9 ((WQ (g:=g2) Qn (Zx ⟨s1,m2,m3,m4,s5,A⟩ a6 c6) Xn.out.1).base (B:=w.heap.size) BH.out);have HE:=Z9 (Un.out _ ⟨s1,m2,m3,m4,s5,A⟩ true a6 c6 Zl.out Jc.out HRW.out);generalize World.setRow _ g2 (Zx ⟨s1,m2,m3,m4,s5,A⟩ a6 c6)=V9 at *
   clear Un HRW Zl hX2 YA Qn;go_upto_region 22 with fail;refine wl<|ZL rfl ⟨g4,0,none⟩ (.agg (Zx ⟨s1,m2,m3,m4,s5,A⟩ a6 c6)) (YO.out)<|Zu rfl (XA)<|ZV ZW<|wn ?_;simp only[pu];go_wp2_with fail;exact bodyPost_ret (ZO (p:=2) (q:=3) rfl (by kernel_rfl) (Zz hZ) rfl) rfl HE.out
def BI (w:World)(r:Y8×Int)(e:Ending)(w':World):Prop:=∃ a c,e=.returned (.tuple #[.agg (Zx r.1 a c),Z8 r.2])/\Yj w' w.heap.size (.slice a r.1.tr.length c) r.1.tr/\Below w.heap.size w w'
theorem ag2 {L:List Int}{t:Y8}(h8:∀ x,x∈L->W8 x)(hl:L.length<=4096)(h:Ja L=some t):Dh t:=by
 unfold Ja at h
 split at h
 ·cases h
 rename_i hfl
 have hfl:(YN L).2.2=0:=by simpa using hfl
 rcases TU (fun x hx=>h8 x hx) (by omega) with⟨-,q⟩ | ⟨P,e0,hm,hP⟩
 ·exact absurd hfl q
 rw[e0] at h;obtain⟨h1,h2,h3,h4,h5⟩:=KY hP h;refine⟨h2,h3,h4,h5,?_⟩;have:=(OY t).2;have e2:(form t).length=(msg P).length:=by rw[h1]; rfl
 rw[e2,hm] at this;omega
theorem I9 {L:List Int}(hl:¬ 4096<L.length)(h:Ja L=none):Zj L=(zX,4):=by
 unfold Ja at h;unfold Zj;rw[if_neg hl]
 split at h
 ·rename_i hf; rw[if_pos hf]
 ·rename_i hf; rw[if_neg hf,h]
theorem I8 {L:List Int}{t:Y8}(hl:¬ 4096<L.length)(h:Ja L=some t):Zj L=if Xu t=0 then (t,0) else (zX,Xu t):=by
 unfold Ja at h;unfold Zj;rw[if_neg hl]
 split at h
 ·cases h
 ·rename_i hf; rw[if_neg hf,h]
theorem O5 (V:World)(x:Y8)(a:Option Addr)(c:Nat):∃ V2,(Instr.storeAt 67 (Z5 V.heap.size 0) (.agg (Zx x a c))).run Tryz.prog (V.alloc (.cells (Zx zX none 0) 67))=.ok () V2/\Below V.heap.size V V2/\Bx V2 V.heap.size (Zx x a c) 67:=
 have hb:Bx (V.alloc (.cells (Zx zX none 0) 67)) V.heap.size (Zx zX none 0) 67:=heap_alloc_last V _
 ⟨_,(Zg hb).1,ZQ ((Below.refl _ V).alloc (Nat.le_refl _) _) (Nat.le_refl _) _,(Zg hb).2⟩
theorem qK (a:Option Addr)(c:Nat)(L:List Int)(w:World)(hs:Sl w a c L)(hc:L.length<=c)(h8:∀ y,y∈L->W8 y) :
  Calls Tryz.prog 71 #[.slice a L.length c] w (BI w (Zj L)):=by
 have hb0:Below w.heap.size w (w.alloc (.cells (Zx zX none 0) 67)):=(Below.refl _ w).alloc (Nat.le_refl _) _;have hX0:Bx (w.alloc (.cells (Zx zX none 0) 67)) w.heap.size (Zx zX none 0) 67:=heap_alloc_last w _;have CR:=Z9 (fun(hl:L.length<=4096)=>ag3 a c L (w.alloc (.cells (Zx zX none 0) 67)) (ZK hs hb0) hc (by omega) h8);have Ii:=Z9 (fun t (hl:L.length<=4096) h=>@ag2 L t h8 hl h);have Un:Hid (∀ V r a2 c2,Zj L=r->Below w.heap.size w V->Yj V w.heap.size (.slice a2 r.1.tr.length c2) r.1.tr->BI w (Zj L) (.returned (.tuple #[.agg (Zx r.1 a2 c2),Z8 r.2])) V):=Z9 fun V r a2 c2 e hb hr=>⟨a2,c2,by rw[e],by rw[e]; exact hr,hb⟩;have HD1:Hid (4096<L.length->Zj L=(zX,3)):=Z9 ER;have HD2:Hid (¬ 4096<L.length->Ja L=none->Zj L=(zX,4)):=Z9 I9;have HD3:=Z9 (fun t h1 h2=>@I8 L t h1 h2);generalize Zj L=DX at *
 generalize Ja L=RL at *
 go_enter Tryz.func71,Tryz.ntmps71;go_upto_region 1 with fail;change Code.wp _ _ _ _ (w.alloc (.cells (Zx zX none 0) 67));generalize w.alloc (.cells (Zx zX none 0) 67)=W at *
 obtain⟨g2,hg2⟩:=ZR w.heap.size;have HB0:=Z9 hb0;have HG2:Hid (w.heap.size<=g2):=Z9 (by omega);have Xn:Hid (g2<W.heap.size):=Z9 (by rw[<- hg2]; exact hX0.lt);rw[hg2] at hX0;rw[hg2];have BH:Hid (w.heap.size<=W.heap.size):=Z9 hb0.size;clear hb0 hg2 hs h8;by_cases hl:4096<L.length
 ·refine wl<|ZA (.slice a L.length c) (Z8 L.length)<|ZJ (Zo rfl (L.length) (4096) dT)<|wn ?_;simp only[pu];obtain⟨XA,hZ⟩:=Zg (y:=zX) (a':=none) (c':=0) hX0;have Zl:=Z9 (ZQ HB0.out HG2.out (Zx zX none 0));have HE:=Z9 (Un.out _ (zX,3) none 0 (HD1.out hl) Zl.out (Yj.nil _ _));generalize World.setRow _ g2 (Zx zX none 0)=V9 at *
  clear Un Zl;go_upto_region 2 with fail;refine wl<|ZV (.agg #[.string ⟨#[]⟩,Z4 0,Z4 0,Z4 0,.string ⟨#[]⟩,.slice none 0 0])<|Zu rfl (XA)<|ZV (Z8 3)<|wn ?_;simp only[pu];go_wp2_with fail;exact bodyPost_ret (ZO (p:=2) (q:=3) rfl (by kernel_rfl) (Zz hZ) rfl) rfl HE.out
 ·refine wl<|ZA (.slice a L.length c) (Z8 L.length)<|ZJ (Zo rfl (L.length) (4096) dF)<|wn ?_;simp only[pu];have CRW:=CR.out (by omega);clear CR;go_upto_region 3 with fail;refine wl<|ZV (.slice a L.length c) <|
   Yi (fun v w'=>∃ x ok a c,v=.tuple #[.agg (Zx x a c),.bool ok]/\RL=(if ok=true then some x else none)/\Yj w' W.heap.size (.slice a x.tr.length c) x.tr/\Below W.heap.size W w') (CRW.mono fun e w' q=>by obtain⟨x,ok,a,c,h1,h2⟩:=q; exact⟨_,h1,x,ok,a,c,rfl,h2⟩) (fun v5 V5 hq=>?_)
  obtain⟨x,ok,a5,c5,rfl,hok,hrt,hb5⟩:=hq;obtain⟨V6,Xc,hb6,hbx⟩:=O5 V5 x a5 c5;refine Yr (.tuple #[.agg (Zx x a5 c5),.bool ok]) (.agg (Zx x a5 c5)) (.bool ok) ?_;refine Zy rfl (some 4) rfl (Z5 V5.heap.size 0) (V5.alloc (.cells (Zx zX none 0) 67)) (by kernel_rfl) ?_;refine Zu rfl (Xc)<|ZV (.bool ok)<|wn ?_;simp only[pu];obtain⟨g4,hg4⟩:=ZR V5.heap.size;have Ud:=hb5.trans (hb6.mono hb5.size);have XQ:=Z9 (hX0.below hX0.lt Ud);have Yd:=Z9 (HB0.out.trans (Ud.mono HB0.out.size));have Pn:=Z9 (hrt.below hb6);have YV:=Z9 hbx;rw[hg4] at YV ⊢;clear Xc hg4 hb5 hb6 Ud hX0 HB0 hrt hbx;clear CRW;go_upto_region 4 with fail;cases ok
  ·refine wl<|ZA ZY ZW<|wn ?_;simp only[pu];obtain⟨XA,hZ⟩:=Zg (y:=zX) (a':=none) (c':=0) XQ.out;have Zl:=Z9 (ZQ Yd.out HG2.out (Zx zX none 0));have HE:=Z9 (Un.out _ (zX,4) none 0 (HD2.out hl hok) Zl.out (Yj.nil _ _));generalize World.setRow _ g2 (Zx zX none 0)=V9 at *
   clear Un Zl;go_upto_region 5 with fail;refine wl<|ZV (.agg #[.string ⟨#[]⟩,Z4 0,Z4 0,Z4 0,.string ⟨#[]⟩,.slice none 0 0])<|Zu rfl (XA)<|ZV (Z8 4)<|wn ?_;simp only[pu];go_wp2_with fail;exact bodyPost_ret (ZO (p:=2) (q:=3) rfl (by kernel_rfl) (Zz hZ) rfl) rfl HE.out
  ·refine wl<|ZA ZW ZY<|wn ?_;simp only[pu];have Hg:Hid ((Xu x=0->DX=(x,0))/\(Xu x≠0->DX=(zX,Xu x))):=Z9 ⟨fun h=>by rw[HD3.out x hl hok,if_pos h],fun h=>by rw[HD3.out x hl hok,if_neg h]⟩;have BG:=Ii.out x (by omega) hok;obtain⟨ar,cr,er,hcr,-⟩:=Pn.out.cs;simp only[Value.slice.injEq,true_and] at er;obtain⟨rfl,rfl⟩:=er;have CV:=Sz x a5 c5 V6 hcr BG.b.s2;obtain⟨vx,JH⟩:=ZR (Xu x);rw[JH] at CV;go_upto_region 6 with fail;refine wl<|ZL rfl ⟨g4,0,none⟩ (.agg (Zx x a5 c5)) (Zz YV.out)<|YS (Z8 vx) (fun w'=>Below V6.heap.size V6 w') CV (fun V7 hb7=>?_);refine ZV (Z8 vx)<|wn ?_;simp only[pu];have Tv:=Z9 (XQ.out.below XQ.out.lt hb7);have qJ:=Z9 (YV.out.below YV.out.lt hb7);have Sm:=Z9 (Yd.out.trans (hb7.mono Yd.out.size));have zL:=Z9 (Pn.out.below hb7);clear XQ YV Yd Pn hb7 hcr CV;go_upto_region 7 with fail;by_cases hv:vx=0
   ·refine wl<|ZV (Z8 vx)<|ZJ (YX rfl vx 0 (decide_eq_true hv))<|wn ?_;simp only[pu];obtain⟨XA,hZ⟩:=Zg (y:=x) (a':=a5) (c':=c5) Tv.out;have YO:=Z9 (Zz qJ.out);have Zl:=Z9 (ZQ Sm.out HG2.out (Zx x a5 c5));have HRW:=Z9 ((WQ (g:=g2) zL.out (Zx x a5 c5) Xn.out).base (B:=w.heap.size) BH.out);have HE:=Z9 (Un.out _ (x,0) a5 c5 (Hg.out.1 (by rw[JH]; exact hv)) Zl.out HRW.out);generalize World.setRow _ g2 (Zx x a5 c5)=V9 at *
    clear Un Zl HRW Tv qJ Sm zL Hg;go_upto_region 9 with fail;refine wl<|ZL rfl ⟨g4,0,none⟩ (.agg (Zx x a5 c5)) (YO.out)<|Zu rfl (XA)<|ZV (Z8 0)<|wn ?_;simp only[pu];go_wp2_with fail;exact bodyPost_ret (ZO (p:=2) (q:=3) rfl (by kernel_rfl) (Zz hZ) rfl) rfl HE.out
   ·refine wl<|ZV (Z8 vx)<|ZJ (YX rfl vx 0 (decide_eq_false hv))<|wn ?_;simp only[pu];have HDV:=Z9 (Hg.out.2 (by rw[JH]; exact hv));rw[JH] at HDV;clear Hg;obtain⟨XA,hZ⟩:=Zg (y:=zX) (a':=none) (c':=0) Tv.out;have Zl:=Z9 (ZQ Sm.out HG2.out (Zx zX none 0));have HE:=Z9 (Un.out _ (zX,vx) none 0 HDV.out Zl.out (Yj.nil _ _));generalize World.setRow _ g2 (Zx zX none 0)=V9 at *
    clear Un Zl;go_upto_region 8 with fail;refine wl<|ZA (.agg #[.string ⟨#[]⟩,Z4 0,Z4 0,Z4 0,.string ⟨#[]⟩,.slice none 0 0]) (Z8 vx)<|Zu rfl (XA)<|ZV (Z8 vx)<|wn ?_;simp only[pu];go_wp2_with fail;exact bodyPost_ret (ZO (p:=2) (q:=3) rfl (by kernel_rfl) (Zz hZ) rfl) rfl HE.out
theorem BF (a:Option Addr)(c:Nat)(L:List Int)(w:World)(hs:Sl w a c L)(hc:L.length<=c)(h8:∀ y,y∈L->W8 y) :
  Calls Tryz.prog 54 #[.slice a L.length c] w (BI w (Zj L)):=by
 have hb0:Below w.heap.size w (w.alloc (.cells (Zx zX none 0) 67)):=(Below.refl _ w).alloc (Nat.le_refl _) _;have hX0:Bx (w.alloc (.cells (Zx zX none 0) 67)) w.heap.size (Zx zX none 0) 67:=heap_alloc_last w _;have CF:=Z9 (fun(hl:L.length<=4096)=>KX a c L (w.alloc (.cells (Zx zX none 0) 67)) (by omega) (ZK hs hb0) h8 hc);have BD:=Z9 (fun(hl:L.length<=4096)=>(show(∀ f,f∈(YN L).1->Vf f)/\(YN L).1.length<=100000/\(∀ f,f∈(YN L).1->f.bytes.length<=100000)/\((YN L).2.2=0->msg (YN L).1=L)/\(msg (YN L).1).length<=4096 from by
  rcases TU (fun y hy=>h8 y hy) (by omega) with⟨e,q⟩ | ⟨P,e,hm,hP⟩
  ·rw[e]; exact⟨(fun f h=>nomatch h),by simp,(fun f h=>nomatch h),fun h=>absurd h q,by simp[msg]⟩
  ·rw[e]; exact⟨hP,by have:=BA P; rw[hm] at this; simp only; omega,fun f hf=>by have:=EP hf; rw[hm] at this; omega,fun _=>hm,by rw[hm]; exact hl⟩))
 have H8:=Z9 h8;have jh:=Z9 hs;have Un:Hid (∀ V r a2 c2,Zj L=r->Below w.heap.size w V->Yj V w.heap.size (.slice a2 r.1.tr.length c2) r.1.tr->BI w (Zj L) (.returned (.tuple #[.agg (Zx r.1 a2 c2),Z8 r.2])) V):=Z9 fun V r a2 c2 e hb hr=>⟨a2,c2,by rw[e],by rw[e]; exact hr,hb⟩;have HD1:Hid (4096<L.length->Zj L=(zX,3)):=Z9 ER;have HD2:=Z9 (fun(h1:¬ 4096<L.length) (h2:(YN L).2.2≠0)=>qI (by omega) h2);have HD3:Hid (¬ 4096<L.length->(YN L).2.2=0->yN (YN L).1=none->Zj L=(zX,4)):=Z9 fun h1 h2 h3=>I9 h1 (by unfold Ja; rw[if_neg (by rw[h2]; decide),h3]);have HD4:Hid (∀ t,¬ 4096<L.length->(YN L).2.2=0->yN (YN L).1=some t->Zj L=if Xu t=0 then (t,0) else (zX,Xu t)):=Z9 fun t h1 h2 h3=>I8 h1 (by unfold Ja; rw[if_neg (by rw[h2]; decide),h3]);generalize Zj L=DX at *
 generalize YN L=FR at *
 go_enter Tryz.func54,Tryz.ntmps54;go_upto_region 1 with fail;change Code.wp _ _ _ _ (w.alloc (.cells (Zx zX none 0) 67));generalize w.alloc (.cells (Zx zX none 0) 67)=W at *
 obtain⟨g2,hg2⟩:=ZR w.heap.size;have HB0:=Z9 hb0;have HG2:Hid (w.heap.size<=g2):=Z9 (by omega);have Xn:Hid (g2<W.heap.size):=Z9 (by rw[<- hg2]; exact hX0.lt);rw[hg2] at hX0;rw[hg2];have BH:Hid (w.heap.size<=W.heap.size):=Z9 hb0.size;clear hb0 hg2 hs h8;by_cases hl:4096<L.length
 ·refine wl<|ZA (.slice a L.length c) (Z8 L.length)<|ZJ (Zo rfl (L.length) (4096) dT)<|wn ?_;simp only[pu];obtain⟨XA,hZ⟩:=Zg (y:=zX) (a':=none) (c':=0) hX0;have Zl:=Z9 (ZQ HB0.out HG2.out (Zx zX none 0));have HE:=Z9 (Un.out _ (zX,3) none 0 (HD1.out hl) Zl.out (Yj.nil _ _));generalize World.setRow _ g2 (Zx zX none 0)=V9 at *
  clear Un Zl;go_upto_region 2 with fail;refine wl<|ZV (.agg #[.string ⟨#[]⟩,Z4 0,Z4 0,Z4 0,.string ⟨#[]⟩,.slice none 0 0])<|Zu rfl (XA)<|ZV (Z8 3)<|wn ?_;simp only[pu];go_wp2_with fail;exact bodyPost_ret (ZO (p:=2) (q:=3) rfl (by kernel_rfl) (Zz hZ) rfl) rfl HE.out
 ·refine wl<|ZA (.slice a L.length c) (Z8 L.length)<|ZJ (Zo rfl (L.length) (4096) dF)<|wn ?_;simp only[pu];have CFW:=CF.out (by omega);have hfv:=BD.out (by omega);clear CF BD;go_upto_region 3 with fail;refine wl<|ZV (.slice a L.length c) <|
   Yi (fun v w'=>∃ a c ps,v=.tuple #[.slice a ps.length c,Z8 FR.2.1,Z8 FR.2.2]/\ps.map Prod.fst=FR.1/\ps.length<=c/\Ov w' W.heap.size a ps/\Below W.heap.size W w') (CFW.mono fun e w' q=>by obtain⟨v,ps,h1,h2,h3,h4⟩:=q; obtain⟨a,c,rfl,hc,hf⟩:=h3.fsb; exact⟨_,h1,a,c,ps,rfl,h2,hc,hf,h4⟩) (fun v5 V4 hq=>?_)
  obtain⟨a4,c4,ps,rfl,hps,hc4,hF4,hb4⟩:=hq;refine YW (.tuple #[.slice a4 ps.length c4,Z8 FR.2.1,Z8 FR.2.2]) (.slice a4 ps.length c4) (Z8 FR.2.1) (Z8 FR.2.2) (.slice a4 ps.length c4) (Z8 FR.2.1)<|ZV (Z8 FR.2.2)<|wn ?_;simp only[pu];obtain⟨P,n5,e5⟩:=FR;dsimp only at *
  subst hps;have CR:=Bz a4 c4 ps W.heap.size V4 hF4 hc4 hfv.1 hfv.2.2.1 (by have:=hfv.2.1; rwa [List.length_map] at this);have qH:=Z9 (aw8 hfv.1 hfv.2.2.2.2);have Ii:=Z9 (fun u h=>@qG (ps.map Prod.fst) u hfv.1 hfv.2.2.2.2 h);have HMS:=Z9 hfv.2.2.2.1;generalize Qi zX (ps.map Prod.fst)=RX at *
  have HB4:=Z9 hb4;clear hfv CFW hF4 hc4 hb4;go_upto_region 4 with fail;refine wl<|ZV (.slice a4 ps.length c4) <|
   Yi (fun v w'=>∃ x ok a c,v=.tuple #[.agg (Zx x a c),.bool ok]/\RX=(if ok=true then some x else none)/\Yj w' V4.heap.size (.slice a x.tr.length c) x.tr/\Below V4.heap.size V4 w') (CR.mono fun e w' q=>by obtain⟨x,ok,a,c,h1,h2⟩:=q; exact⟨_,h1,x,ok,a,c,rfl,h2⟩) (fun v5 V5 hq=>?_)
  obtain⟨x,ok,a5,c5,rfl,hok,hrt,hb5⟩:=hq;have hrt:=hrt.base HB4.out.size;have hb5:=HB4.out.trans (hb5.mono HB4.out.size);obtain⟨V6,Xc,hb6,hbx⟩:=O5 V5 x a5 c5;refine Yr (.tuple #[.agg (Zx x a5 c5),.bool ok]) (.agg (Zx x a5 c5)) (.bool ok) ?_;refine Zy rfl (some 7) rfl (Z5 V5.heap.size 0) (V5.alloc (.cells (Zx zX none 0) 67)) (by kernel_rfl) ?_;refine Zu rfl (Xc)<|ZV (.bool ok)<|wn ?_;simp only[pu];obtain⟨g4,hg4⟩:=ZR V5.heap.size;have Ud:=hb5.trans (hb6.mono hb5.size);have XQ:=Z9 (hX0.below hX0.lt Ud);have Yd:=Z9 (HB0.out.trans (Ud.mono HB0.out.size));have Pn:=Z9 (hrt.below hb6);have YV:=Z9 hbx;have hs6:=ZK jh.out Yd.out;rw[hg4] at YV ⊢;clear Xc hg4 hb5 hb6 Ud hX0 HB0 hrt hbx CR HB4 jh;go_upto_region 5 with fail;by_cases he:e5=0
  ·cases ok
   ·have HDZ:=Z9 (HD3.out hl he (by rw[qH.out,hok]; rfl));refine wl<|ZV (Z8 e5)<|ZJ (YX rfl e5 0 (decide_eq_true he))<|YW ZY ZY ZW ZW ZW undef<|SG undef undef undef undef ZW<|wn ?_;simp only[pu];obtain⟨XA,hZ⟩:=Zg (y:=zX) (a':=none) (c':=0) XQ.out;have Zl:=Z9 (ZQ Yd.out HG2.out (Zx zX none 0));have HE:=Z9 (Un.out _ (zX,4) none 0 HDZ.out Zl.out (Yj.nil _ _));generalize World.setRow _ g2 (Zx zX none 0)=V9 at *
    clear Un Zl;go_upto_region 6 with fail;refine wl<|ZV (.agg #[.string ⟨#[]⟩,Z4 0,Z4 0,Z4 0,.string ⟨#[]⟩,.slice none 0 0])<|Zu rfl (XA)<|ZV (Z8 4)<|wn ?_;simp only[pu];go_wp2_with fail;exact bodyPost_ret (ZO (p:=2) (q:=3) rfl (by kernel_rfl) (Zz hZ) rfl) rfl HE.out
   ·have BG:=Ii.out x hok;obtain⟨ar,cr,er,hcr,-⟩:=Pn.out.cs;simp only[Value.slice.injEq,true_and] at er;obtain⟨rfl,rfl⟩:=er;have CFO:=EO x a5 c5 V6 hcr BG;have HFB:=Z9 (Tj BG.vf);have tH:Hid (yN (ps.map Prod.fst)=if form x=L then some x else none):=Z9 (by rw[qH.out,hok,HMS.out he]; rfl);have HFF:Hid (form x=msg (I7 x)):=Z9 rfl;generalize form x=FO at *
    clear hcr;by_cases hm:FO=L
    ·have hdm:decide (FO=L)=true:=decide_eq_true hm;have Hg:Hid ((Xu x=0->DX=(x,0))/\(Xu x≠0->DX=(zX,Xu x))):=Z9 (by have h9:=HD4.out x hl he (by rw[tH.out,if_pos hm]); exact⟨fun h=>by rw[h9,if_pos h],fun h=>by rw[h9,if_neg h]⟩);refine wl<|ZV (Z8 e5)<|ZJ (YX rfl e5 0 (decide_eq_true he))<|SG ZY ZW ZY ZY ZY<|ZL rfl ⟨g4,0,none⟩ (.agg (Zx x a5 c5)) (Zz YV.out) <|
      Yi (fun v w'=>Own w' V6.heap.size v FO/\Below V6.heap.size V6 w') CFO (fun u7 V7 hq=>?_)
     obtain⟨hO7,hb7⟩:=hq;obtain⟨b7,d7,rfl,hs7,-⟩:=hO7.sl;have CS:Calls Tryz.prog 80 #[.slice b7 FO.length d7,.slice a L.length c] V7 fun e w'=>e=.returned ZW/\V7=w':=(by have:=KW b7 d7 FO a c L V7 hs7 (ZK hs6 hb7) (by rw[HFF.out]; exact HFB.out) H8.out; rwa [hdm] at this);refine ZV (.slice a L.length c)<|YS ZW (fun w'=>V7=w') (CS) (fun V9 Xo=>?_);subst Xo;refine ZA ZY ZY<|wn ?_;simp only[pu]
     replace XQ:=Z9 (XQ.out.below XQ.out.lt hb7)
     replace YV:=Z9 (YV.out.below YV.out.lt hb7)
     replace Yd:=Z9 (Yd.out.trans (hb7.mono Yd.out.size))
     replace Pn:=Z9 (Pn.out.below hb7)
     clear hb7 hO7 hs7 CS hs6 CFO;obtain⟨ar,cr,er,hcr,-⟩:=Pn.out.cs;simp only[Value.slice.injEq,true_and] at er;obtain⟨rfl,rfl⟩:=er;have CV:=UJ x a5 c5 V7 hcr BG.b.s1 BG.b.s2 BG.b.s3;obtain⟨vx,JH⟩:=ZR (Xu x);rw[JH] at CV;go_upto_region 7 with fail;refine wl<|ZL rfl ⟨g4,0,none⟩ (.agg (Zx x a5 c5)) (Zz YV.out)<|YS (Z8 vx) (fun w'=>Below V7.heap.size V7 w') CV (fun V8 hb7=>?_);refine ZV (Z8 vx)<|wn ?_;simp only[pu];have Tv:=Z9 (XQ.out.below XQ.out.lt hb7);have qJ:=Z9 (YV.out.below YV.out.lt hb7);have Sm:=Z9 (Yd.out.trans (hb7.mono Yd.out.size));have zL:=Z9 (Pn.out.below hb7);clear XQ YV Yd Pn hb7 hcr CV;go_upto_region 8 with fail;by_cases hv:vx=0
     ·refine wl<|ZV (Z8 vx)<|ZJ (YX rfl vx 0 (decide_eq_true hv))<|wn ?_;simp only[pu];obtain⟨XA,hZ⟩:=Zg (y:=x) (a':=a5) (c':=c5) Tv.out;have YO:=Z9 (Zz qJ.out);have Zl:=Z9 (ZQ Sm.out HG2.out (Zx x a5 c5));have HRW:=Z9 ((WQ (g:=g2) zL.out (Zx x a5 c5) Xn.out).base (B:=w.heap.size) BH.out);have HE:=Z9 (Un.out _ (x,0) a5 c5 (Hg.out.1 (by rw[JH]; exact hv)) Zl.out HRW.out);generalize World.setRow _ g2 (Zx x a5 c5)=V9 at *
      clear Un Zl HRW Tv qJ Sm zL Hg;go_upto_region 10 with fail;refine wl<|ZL rfl ⟨g4,0,none⟩ (.agg (Zx x a5 c5)) (YO.out)<|Zu rfl (XA)<|ZV (Z8 0)<|wn ?_;simp only[pu];go_wp2_with fail;exact bodyPost_ret (ZO (p:=2) (q:=3) rfl (by kernel_rfl) (Zz hZ) rfl) rfl HE.out
     ·refine wl<|ZV (Z8 vx)<|ZJ (YX rfl vx 0 (decide_eq_false hv))<|wn ?_;simp only[pu];have HDV:=Z9 (Hg.out.2 (by rw[JH]; exact hv));rw[JH] at HDV;clear Hg;obtain⟨XA,hZ⟩:=Zg (y:=zX) (a':=none) (c':=0) Tv.out;have Zl:=Z9 (ZQ Sm.out HG2.out (Zx zX none 0));have HE:=Z9 (Un.out _ (zX,vx) none 0 HDV.out Zl.out (Yj.nil _ _));generalize World.setRow _ g2 (Zx zX none 0)=V9 at *
      clear Un Zl;go_upto_region 9 with fail;refine wl<|ZA (.agg #[.string ⟨#[]⟩,Z4 0,Z4 0,Z4 0,.string ⟨#[]⟩,.slice none 0 0]) (Z8 vx)<|Zu rfl (XA)<|ZV (Z8 vx)<|wn ?_;simp only[pu];go_wp2_with fail;exact bodyPost_ret (ZO (p:=2) (q:=3) rfl (by kernel_rfl) (Zz hZ) rfl) rfl HE.out
    ·have hdm:decide (FO=L)=false:=decide_eq_false hm;have HDZ:=Z9 (HD3.out hl he (by rw[tH.out,if_neg hm]));refine wl<|ZV (Z8 e5)<|ZJ (YX rfl e5 0 (decide_eq_true he))<|SG ZY ZW ZY ZY ZY<|ZL rfl ⟨g4,0,none⟩ (.agg (Zx x a5 c5)) (Zz YV.out) <|
      Yi (fun v w'=>Own w' V6.heap.size v FO/\Below V6.heap.size V6 w') CFO (fun u7 V7 hq=>?_)
     obtain⟨hO7,hb7⟩:=hq;obtain⟨b7,d7,rfl,hs7,-⟩:=hO7.sl;have CS:Calls Tryz.prog 80 #[.slice b7 FO.length d7,.slice a L.length c] V7 fun e w'=>e=.returned ZY/\V7=w':=(by have:=KW b7 d7 FO a c L V7 hs7 (ZK hs6 hb7) (by rw[HFF.out]; exact HFB.out) H8.out; rwa [hdm] at this);refine ZV (.slice a L.length c)<|YS ZY (fun w'=>V7=w') (CS) (fun V9 Xo=>?_);subst Xo;refine ZA ZW ZW<|wn ?_;simp only[pu]
     replace XQ:=Z9 (XQ.out.below XQ.out.lt hb7)
     replace YV:=Z9 (YV.out.below YV.out.lt hb7)
     replace Yd:=Z9 (Yd.out.trans (hb7.mono Yd.out.size))
     replace Pn:=Z9 (Pn.out.below hb7)
     clear hb7 hO7 hs7 CS hs6 CFO;obtain⟨XA,hZ⟩:=Zg (y:=zX) (a':=none) (c':=0) XQ.out;have Zl:=Z9 (ZQ Yd.out HG2.out (Zx zX none 0));have HE:=Z9 (Un.out _ (zX,4) none 0 HDZ.out Zl.out (Yj.nil _ _));generalize World.setRow _ g2 (Zx zX none 0)=V9 at *
     clear Un Zl;go_upto_region 6 with fail;refine wl<|ZV (.agg #[.string ⟨#[]⟩,Z4 0,Z4 0,Z4 0,.string ⟨#[]⟩,.slice none 0 0])<|Zu rfl (XA)<|ZV (Z8 4)<|wn ?_;simp only[pu];go_wp2_with fail;exact bodyPost_ret (ZO (p:=2) (q:=3) rfl (by kernel_rfl) (Zz hZ) rfl) rfl HE.out
  ·have HDZ:=Z9 (HD2.out hl he);refine wl<|ZV (Z8 e5)<|ZJ (YX rfl e5 0 (decide_eq_false he))<|YW ZW undef undef ZW ZW undef<|SG undef undef undef undef ZW<|wn ?_;simp only[pu];obtain⟨XA,hZ⟩:=Zg (y:=zX) (a':=none) (c':=0) XQ.out;have Zl:=Z9 (ZQ Yd.out HG2.out (Zx zX none 0));have HE:=Z9 (Un.out _ (zX,4) none 0 HDZ.out Zl.out (Yj.nil _ _));generalize World.setRow _ g2 (Zx zX none 0)=V9 at *
   clear Un Zl;go_upto_region 6 with fail;refine wl<|ZV (.agg #[.string ⟨#[]⟩,Z4 0,Z4 0,Z4 0,.string ⟨#[]⟩,.slice none 0 0])<|Zu rfl (XA)<|ZV (Z8 4)<|wn ?_;simp only[pu];go_wp2_with fail;exact bodyPost_ret (ZO (p:=2) (q:=3) rfl (by kernel_rfl) (Zz hZ) rfl) rfl HE.out
end Go.Proofs.YtnhlpahoomcgnaaGreat
