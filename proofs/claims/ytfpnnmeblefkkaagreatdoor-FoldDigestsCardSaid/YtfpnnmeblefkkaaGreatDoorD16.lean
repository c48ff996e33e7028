/-
  Texts joined.
-/
import Derived.Test.YtfpnnmeblefkkaaGreatDoorD15
import Derived.Lib.Mul64
import Derived.Lib.BitFns
set_option maxRecDepth 100000
set_option maxHeartbeats 8000000
set_option linter.unusedSimpArgs false
set_option linter.unusedVariables false
namespace Go.Proofs.YtfpnnmeblefkkaaGreatDoor.Lg
attribute [local irreducible] wpList wpQuiet
open Go.RowKit
theorem qB {A:List Ac}{j:Nat}(B:List Ac)(h:j<A.length):WJ B (A.drop j)=if isName (nums (aca A j).1)=false then ([],10) else if YS B (aca A j).1<B.length then ([],8) else WJ (Yt B (aca A j)) (A.drop (j+1)):=by
 rw[List.drop_eq_getElem_cons h,<- XF h];rfl
theorem iD (A B:List Ac):WJ B (A.drop A.length)=(B,0):=by rw[List.drop_length]; rfl
def vU (B:List Ac):List Ac×Int×Int:=if Xp B 0=true then (B,0,0) else ([],0,6)
def G6 (A:List Ac):List Ac×Int×Int:=((Q7 A).1,0,(Q7 A).2)
theorem qA {A:List Ac}(h:256<A.length):G6 A=([],0,3):=by unfold G6 Q7; rw[if_pos h]
theorem qy {A:List Ac}{e:Int}(h:¬ 256<A.length)(hg:WJ [] A=([],e))(he:e≠0):G6 A=([],0,e):=by
 unfold G6 Q7;rw[if_neg h,hg];simp only[ne_eq,he,not_false_eq_true,if_true]
theorem iC {A B:List Ac}(h:¬ 256<A.length)(hg:WJ [] A=(B,0)):G6 A=vU B:=by
 unfold G6 Q7 vU;rw[if_neg h,hg];simp only[ne_eq,not_true_eq_false,if_false]
 split <;> rfl
theorem G8 {w w0:World}{g B:Nat}{a a':Option Addr}{n n' k k':Nat}{c:Int}(h:Bx w g (ZT a n k c) 30)(hb:Below B w0 w)(hg:B<=g) :
  ∃ V,(Instr.storeAt 28 (Z5 g 0) (.slice a' n' k')).run Tryz.prog w=.ok () V/\Bx V g (ZT a' n' k' c) 30/\Below B w0 V/\But g w V:=
 Zl h hb hg (by simp) rfl (by kernel_rfl) rfl
theorem Au {w:World}{g B n:Nat}{v:Value}{A:List Ac}{x:Array Value}(h:w.ownsRow B 56 3 v n (acc A))(hg:g<B):(w.setRow g x).ownsRow B 56 3 v n (acc A):=Zo h (But.setRow _ _) hg
theorem EH (a:Option Addr)(k:Nat)(A:List Ac)(w:World)(hR:Cs w a (acc A))(hn:A.length<=4398046511104)(hw:Tz A)(hz:∀ x,x∈A->x.1.size<=140737488355328) :
  Calls Tryz.prog 64 #[.slice a A.length k] w (Xi w (G6 A)):=by
 obtain⟨hb0,hX0,P8⟩:=Ym w (ZT none 0 0 0) (ZT none 0 0 0) 30 30;have hb1:Below w.heap.size w (w.alloc (.cells (ZT none 0 0 0) 30)):=(Below.refl _ w).alloc (Nat.le_refl _) _;have hX1:Bx (w.alloc (.cells (ZT none 0 0 0) 30)) w.heap.size (ZT none 0 0 0) 30:=heap_alloc_last w _;have HA:=Z9 (hR.below hb0);have HZZ:=Z9 hz;have HAT:=Z9 (fun V (h:Below w.heap.size w V)=>hR.below h);have XA:Hid (∀ B j,j<=A.length->WJ [] A=WJ B (A.drop j)->Tz B->∀ P,WJ [] A=(P,0)->Tz P):=Z9 fun B j h1 h2 h3 P h4=>by
  have:=qx (A.drop j) B h3 (fun x hx=>Qo hw x (List.mem_of_mem_drop hx));rw[<- h2,h4] at this;exact this
 have HWJ:Hid (∀ B j,j<A.length->Tz B->Tz (Yt B (aca A j))):=Z9 fun B j h1 h2=>EK h2 (hw j h1);have HST:=Z9 (fun(j:Nat) (B:List Ac) (h:j<A.length)=>qB B h);have HEN:=Z9 (iD A);obtain⟨r,hr⟩:=ZQ (G6 A);have Bh:Hid (256<A.length->r=([],0,3)):=Z9 fun h=>by rw[<- hr]; exact qA h
 have NI:Hid (∀ e,¬ 256<A.length->WJ [] A=([],e)->e≠0->r=([],0,e)):=Z9 fun e h1 h2 h3=>by rw[<- hr]; exact qy h1 h2 h3
 have AB:Hid (∀ B,¬ 256<A.length->WJ [] A=(B,0)->r=vU B):=Z9 fun B h1 h2=>by rw[<- hr]; exact iC h1 h2
 have IV:Hid (WJ [] A=WJ [] (A.drop 0)):=Z9 (by rw[List.drop_zero]);obtain⟨n,hnn⟩:=ZQ A.length;have HN:=Z9 hnn;have Ui:Hid (n<=4398046511104):=Z9 (by omega);rw[hnn] at Bh NI AB HST HEN HWJ XA;rw[hnn,hr];generalize WJ [] A=GS0 at *
 clear hR hn hr hw hz;go_enter Tryz.func64,Tryz.ntmps64;go_upto_region 1 with fail;change Code.wp _ _ _ _ (w.alloc (.cells (ZT none 0 0 0) 30));by_cases hbig:256<n
 ·obtain rfl:=Bh.out hbig;generalize w.alloc (.cells (ZT none 0 0 0) 30)=W at *
  obtain⟨g1,hg1⟩:=ZQ w.heap.size;have KN:Hid (w.heap.size<=g1):=Z9 (by omega);rw[hg1] at hX1;simp only[hg1];have HB1:=Z9 hb1;refine wl<|ZB (.slice a n k) (Z8 n)<|ZM (Zn rfl (n) (256) dT)<|wn ?_;simp only[pu];have hst:=ZC (a':=none) (n':=0) (k':=0) (c':=0) hX1;have Zg:=Z9 (ZU HB1.out KN.out (ZT none 0 0 0));have YD:=Z9 (ZO hst.2);have hst1:=hst.1;generalize World.setRow W g1 (ZT none 0 0 0)=V9 at *
  clear hst;go_upto_region 2 with fail;refine wl<|ZV (.agg #[.slice none 0 0,Z7 0])<|Zk rfl (hst1)<|ZV (Z8 3)<|wn ?_;simp only[pu];clear hst1 hX1;go_wp2_with fail;exact bodyPost_ret (ZN (p:=2) (q:=3) rfl (by kernel_rfl) YD.out rfl) rfl (Xi.err Zg.out)
 have Uh:=Z9 hbig;refine wl<|ZB (.slice a n k) (Z8 n)<|ZM (Zn rfl (n) (256) dF)<|wn ?_;simp only[pu];clear hbig Bh hb1 hX1;go_upto_region 4 with fail;change Code.wp _ _ _ _ ((w.alloc (.cells (ZT none 0 0 0) 30)).alloc (.cells (ZT none 0 0 0) 30));generalize (w.alloc (.cells (ZT none 0 0 0) 30)).alloc (.cells (ZT none 0 0 0) 30)=W at *
 obtain⟨g1,hg1⟩:=ZQ w.heap.size;obtain⟨g2,hg2⟩:=ZQ (w.heap.size+1);have KN:Hid (w.heap.size<=g1):=Z9 (by omega);have aK4:Hid (w.heap.size<=g2):=Z9 (by omega);have av2:Hid (w.heap.size<=W.heap.size):=Z9 hb0.size;have RN:Hid (g1<W.heap.size/\g2<W.heap.size/\g1≠g2):=Z9 ⟨by have:=hX0.lt; omega,by have:=P8.lt; omega,by omega⟩;have HB0:=Z9 hb0;rw[hg2] at P8;rw[hg1] at hX0;simp only[hg1];rw[show g1+1=g2 by omega];have HX:=Z9 hX0;have HZ:=Z9 P8;clear hb0 hg1 hg2 hX0 P8 hnn;refine wl<|Yr (.slice a n k) (Z8 n) (Z8 0)<|wn ?_;simp only[pu];have Vl:Hid (∃ (a9:Option Addr) (k9:Nat) (B:List Ac),Bx W g2 (ZT a9 B.length k9 0) 30/\Zd W W.heap.size (.slice a9 B.length k9) B/\B.length=0/\Jk B/\Bg B/\Tz B/\GS0=WJ B (A.drop 0)):=Z9 ⟨none,0,[],HZ.out,LM _ _,rfl,yD,yC,Ug,IV.out⟩;clear IV HZ;go_wp2_with fail;go_loopg [15] n (fun gg s15 wx=>∃ j:Nat,s15=Z8 j/\j<=n/\Hid (∃ (a9:Option Addr) (k9:Nat) (B:List Ac),Bx wx g2 (ZT a9 B.length k9 0) 30/\Zd wx W.heap.size (.slice a9 B.length k9) B/\B.length=j/\Jk B/\Bg B/\Tz B/\GS0=WJ B (A.drop j))/\Hid (Bx wx g1 (ZT none 0 0 0) 30/\Below w.heap.size w wx/\Cs wx a (acc A)/\W.heap.size<=wx.heap.size)/\n-j=gg)
 case atStart=>exact⟨0,rfl,by omega,Vl,Z9 ⟨HX.out,HB0.out,HA.out,Nat.le_refl _⟩,by omega⟩
 case round=>
  clear Vl HA HX HB0;obtain⟨j,rfl,hj,HS,HQ,hg⟩:=hrel;have yB:=Ui.out;have HG:=Z9 hg;clear hg;by_cases hlt:j<n
  ·obtain⟨b,off,rfl,-,hrx⟩:=Yx HQ.out.2.2.1 (k:=j) (by rw[HN.out]; exact hlt);have EG:=Z9 (Xh hrx);have HSJ:=Z9 (HST.out j);have HYZ:=Z9 (HZZ.out (aca A j) (RJ (by rw[HN.out]; exact hlt)));have HWY:=Z9 (fun B=>HWJ.out B j hlt);generalize aca A j=y at *
   obtain⟨V2,hst,hb2,hbx⟩:=VN wr y;have CN:=RI y.1 V2 HYZ.out;generalize hnm:isName (nums y.1)=nm at *
   clear hrx;go_upto_region 5 with fail;refine wl<|ZM (Zr rfl (j) (n) dT)<|wn ?_;simp only[pu];go_upto_region 6 with fail;refine wl<|YI (Z5 b (off+j*3)) (YC b off n k j hlt _ _ _ rfl (by kernel_rfl) (by kernel_rfl))<|ZL rfl ⟨b,off+j*3,none⟩ (.agg (Zq y)) (EG.out) ?_;refine Zy rfl (some 6) rfl (Z5 wr.heap.size 0) (wr.alloc (.cells (Zq WE) 56)) (by kernel_rfl) ?_;refine Zk rfl (hst)<|wn ?_;obtain⟨g4,hg4⟩:=ZQ wr.heap.size;rw[hg4] at hbx ⊢;clear hst hg4 EG;go_upto_region 7 with fail;cases nm
   ·refine wl<|ZV (Z5 g4 0)<|ZL rfl ⟨g4,0,none⟩ (.string y.1) (hbx.ZR 0)<|YM ZY (fun w'=>V2=w') (CN) (fun V3 VQ=>?_);refine ZV ZW<|wn ?_;simp only[pu];subst VQ;have hb3:=hb2;have Yh:=Z9 hbx;clear hbx CN hb2;obtain⟨a9,k9,B,hq1,hq2,hq3,hq4,hq5,hq6,hq7⟩:=HS.out;have Jq:=Z9 (hq1.below hq1.lt hb3);have Hq:=Z9 (own_below hq2 hb3);have IU:=Z9 (HQ.out.1.below HQ.out.1.lt hb3);have Bf:=Z9 (HQ.out.2.1.trans (hb3.mono HQ.out.2.1.size));have HQA:=Z9 (HQ.out.2.2.1.below hb3);have HQW:Hid (W.heap.size<=V2.heap.size):=Z9 (Nat.le_trans HQ.out.2.2.2 hb3.size);have Aq:=HSJ.out B hlt;rw[<- hq7] at Aq;clear hq1 hq2 HS hb3 HQ HSJ;rw[if_pos rfl] at Aq;obtain rfl:=NI.out 10 Uh.out Aq (by decide);clear Aq hq3 hq4 hq5 hq6 hq7 HWY Jq Hq HQA Yh hnm;have hst:=ZC (a':=none) (n':=0) (k':=0) (c':=0) IU.out;have Zg:=Z9 (ZU Bf.out KN.out (ZT none 0 0 0));have YD:=Z9 (ZO hst.2);have hst1:=hst.1;generalize World.setRow V2 g1 (ZT none 0 0 0)=V9 at *
    clear hst;go_upto_region 8 with fail;refine wl<|ZV (.agg #[.slice none 0 0,Z7 0])<|Zk rfl (hst1)<|ZV (Z8 10)<|wn ?_;simp only[pu];clear hst1 IU;go_wp2_with fail;exact bodyPost_ret (ZN (p:=2) (q:=3) rfl (by kernel_rfl) YD.out rfl) rfl (Xi.err Zg.out)
   ·refine wl<|ZV (Z5 g4 0)<|ZL rfl ⟨g4,0,none⟩ (.string y.1) (hbx.ZR 0)<|YM ZW (fun w'=>V2=w') (CN) (fun V3 VQ=>?_);refine ZV ZY<|wn ?_;simp only[pu];subst VQ;have hb3:=hb2;have Yh:=Z9 hbx;clear hbx CN hb2;obtain⟨a9,k9,B,hq1,hq2,hq3,hq4,hq5,hq6,hq7⟩:=HS.out;have Jq:=Z9 (hq1.below hq1.lt hb3);have Hq:=Z9 (own_below hq2 hb3);have IU:=Z9 (HQ.out.1.below HQ.out.1.lt hb3);have Bf:=Z9 (HQ.out.2.1.trans (hb3.mono HQ.out.2.1.size));have HQA:=Z9 (HQ.out.2.2.1.below hb3);have HQW:Hid (W.heap.size<=V2.heap.size):=Z9 (Nat.le_trans HQ.out.2.2.2 hb3.size);have Aq:=HSJ.out B hlt;rw[<- hq7] at Aq;clear hq1 hq2 HS hb3 HQ HSJ;rw[if_neg (by simp)] at Aq;have HMB:Hid (B.length<=256):=Z9 (by have:=Uh.out; omega);obtain⟨m,hm⟩:=ZQ B.length;obtain⟨a8,k8,ea,hcb,hck⟩:=Yd Hq.out;simp only[Value.slice.injEq,true_and] at ea;obtain⟨rfl,rfl⟩:=ea;have CP:=OD a9 k9 B y.1 V2 hcb (by have:=HMB.out; omega);by_cases hf:YS B y.1<B.length
    ·rw[if_pos hf] at Aq;rw[show Pg B y.1=((YS B y.1:Nat):Int) from if_pos hf] at CP;obtain rfl:=NI.out 8 Uh.out Aq (by decide);generalize YS B y.1=li at *
     rw[hm] at Jq Hq CP;clear Aq hq4 hq5 hq6 hq7 HWY hcb hck hf hnm;go_upto_region 9 with fail;refine wl<|ZV (Z5 g2 0)<|ZL rfl ⟨g2,0,none⟩ (.slice a9 m k9) (Jq.out.ZR 0)<|ZV (Z5 g4 0)<|ZL rfl ⟨g4,0,none⟩ (.string y.1) (Yh.out.ZR 0) <|
      YM (Z8 li) (fun w'=>Below V2.heap.size V2 w') (CP) (fun V4 QT=>?_)
     refine ZM (Vg rfl li 0 dT)<|wn ?_;simp only[pu]
     replace IU:=Z9 (IU.out.below IU.out.lt QT)
     replace Bf:=Z9 (Bf.out.trans (QT.mono Bf.out.size))
     clear CP;clear Jq Hq HQA Yh QT;have hst:=ZC (a':=none) (n':=0) (k':=0) (c':=0) IU.out;have Zg:=Z9 (ZU Bf.out KN.out (ZT none 0 0 0));have YD:=Z9 (ZO hst.2);have hst1:=hst.1;generalize World.setRow V4 g1 (ZT none 0 0 0)=V9 at *
     clear hst;go_upto_region 10 with fail;refine wl<|ZV (.agg #[.slice none 0 0,Z7 0])<|Zk rfl (hst1)<|ZV (Z8 8)<|wn ?_;simp only[pu];clear hst1 IU;go_wp2_with fail;exact bodyPost_ret (ZN (p:=2) (q:=3) rfl (by kernel_rfl) YD.out rfl) rfl (Xi.err Zg.out)
    ·rw[if_neg hf] at Aq;rw[show Pg B y.1=-1 from if_neg hf] at CP;have CI:=fun V (h:Cs V a9 (acc B))=>LK a9 k9 B y V h hck (by have:=HMB.out; omega);have HPS:Hid (Jk (Yt B y)/\Bg (Yt B y)/\Tz (Yt B y)/\(Yt B y).length=j+1):=Z9 ⟨OC hq4,OB hq5 hnm,HWY.out B hq6,by rw[Wv,if_neg hf]; omega⟩;have HSP:=Z9 Aq;generalize Yt B y=P at *
     rw[hm] at Jq Hq CP CI;clear Aq hq4 hq5 hq6 hq7 HWY hcb hf hnm;go_upto_region 9 with fail;refine wl<|ZV (Z5 g2 0)<|ZL rfl ⟨g2,0,none⟩ (.slice a9 m k9) (Jq.out.ZR 0)<|ZV (Z5 g4 0)<|ZL rfl ⟨g4,0,none⟩ (.string y.1) (Yh.out.ZR 0) <|
      YM (Z8 (-1)) (fun w'=>Below V2.heap.size V2 w') (CP) (fun V4 QT=>?_)
     refine ZM (Vg rfl (-1) 0 dF)<|wn ?_;simp only[pu]
     replace IU:=Z9 (IU.out.below IU.out.lt QT)
     replace Bf:=Z9 (Bf.out.trans (QT.mono Bf.out.size))
     clear CP
     replace Jq:=Z9 (Jq.out.below Jq.out.lt QT)
     replace Hq:=Z9 (own_below Hq.out QT)
     replace HQA:=Z9 (HQA.out.below QT)
     replace HQW:Hid (W.heap.size<=V4.heap.size):=Z9 (Nat.le_trans HQW.out QT.size)
     have HY4:=Z9 (Yh.out.below Yh.out.lt QT);clear Yh QT;have CJ:=CI V4 (by obtain⟨a7,k7,e7,hc7,-⟩:=Yd Hq.out; simp only[Value.slice.injEq,true_and] at e7; obtain⟨rfl,rfl⟩:=e7; exact hc7);clear CI;go_upto_region 11 with fail;refine wl<|ZV (Z5 g2 0)<|ZL rfl ⟨g2,0,none⟩ (.slice a9 m k9) (Jq.out.ZR 0)<|ZL rfl ⟨g4,0,none⟩ (.agg (Zq y)) (Za HY4.out) <|
      XI (fun v w'=>Zd w' W.heap.size v P/\Below W.heap.size V4 w') (CJ.mono fun e w' q=>by obtain⟨v,h1,h2,h3⟩:=q; exact⟨v,h1,own_base h2 HQW.out,h3.mono HQW.out⟩) (fun v5 V5 hq=>?_)
     obtain⟨ND,hb5⟩:=hq;obtain⟨a5,k5,rfl,-,-⟩:=ND.cs;obtain⟨V6,VU,NC,hb6,Xt⟩:=G8 (a':=a5) (n':=P.length) (k':=k5) (Jq.out.below RN.out.2.1 hb5) (B:=w.heap.size) (w0:=w) (Bf.out.trans (hb5.mono (by have:=av2.out; omega))) (by have:=aK4.out; omega);refine ZV (Z5 g2 0)<|Zk rfl (VU)<|wn ?_;simp only[pu];have Bd:Hid (∃ (a9:Option Addr) (k9:Nat) (B:List Ac),Bx V6 g2 (ZT a9 B.length k9 0) 30/\Zd V6 W.heap.size (.slice a9 B.length k9) B/\B.length=j+1/\Jk B/\Bg B/\Tz B/\GS0=WJ B (A.drop (j+1))):=Z9 ⟨a5,k5,P,NC,Zo ND Xt RN.out.2.1,HPS.out.2.2.2,HPS.out.1,HPS.out.2.1,HPS.out.2.2.1,HSP.out⟩;have HQ6:Hid (Bx V6 g1 (ZT none 0 0 0) 30/\Below w.heap.size w V6/\Cs V6 (some ⟨b,off,none⟩) (acc A)/\W.heap.size<=V6.heap.size):=Z9 ⟨(IU.out.below RN.out.1 hb5).but Xt RN.out.2.2,hb6,HAT.out V6 hb6,Nat.le_trans HQW.out (Nat.le_trans hb5.size Xt.1.size)⟩;clear ND hb5 VU NC hb6 Xt CJ HY4 Jq Hq HQA IU Bf HQW HPS HSP;go_upto_region 12 with fail;refine wl<|Yn (Z8 (j+1:Nat)) (Zz rfl j 1 (by omega))<|ZV (Z8 (j+1:Nat))<|wn ?_;simp only[pu];go_wp2_with fail;go_roundg (n-(j+1))
     case measure=>have:=HG.out; omega
     case rel=>exact⟨j+1,rfl,hlt,Bd,HQ6,rfl⟩
  ·obtain rfl:n=j:=(by omega);obtain⟨a9,k9,B,hq1,hq2,hq3,hq4,hq5,hq6,hq7⟩:=HS.out;rw[HEN.out B] at hq7;obtain rfl:=AB.out B Uh.out hq7;obtain⟨a8,k8,ea,hcb,hck⟩:=hq2.cs;simp only[Value.slice.injEq,true_and] at ea;obtain⟨rfl,rfl⟩:=ea;have CT:=IQ a9 k9 B 0 wr hcb (by have:=Uh.out; omega) Xd hq6;have IU:=Z9 HQ.out.1;have Bf:=Z9 HQ.out.2.1;have Jq:=Z9 hq1;have Hq:=Z9 (show wr.ownsRow W.heap.size 56 3 (.slice a9 B.length k9) B.length (acc B) from hq2);have HRR:Hid (vU B=cond (Xp B 0) (B,0,0) ([],0,6)):=Z9 (by unfold vU; cases Xp B 0 <;> simp);clear HQ HS hq1 hq2 hq3 hq4 hq5 hq6 hq7 HEN AB NI HST XA HWJ HZZ hcb hck HAT;generalize hm:B.length=m at *
   generalize vU B=rr at *
   go_upto_region 5 with fail;refine wl<|ZM (Zr rfl (n) (n) dF)<|wn ?_;simp only[pu];generalize Jj B 0=tv at *
   generalize Xp B 0=tb at *
   cases tb
   ·obtain rfl:=HRR.out;go_upto_region 13 with fail;refine wl<|ZL rfl ⟨g2,0,none⟩ (.agg (ZT a9 m k9 0)) (ZO Jq.out)<|YM (.tuple #[Z7 tv,ZY]) (fun w'=>Below wr.heap.size wr w') (CT) (fun V4 QT=>?_);have ag5:=Z9 (IU.out.below IU.out.lt QT);have ag6:=Z9 (Bf.out.trans (QT.mono Bf.out.size));have av3:=Z9 (own_below Hq.out QT);have av4:=Z9 (Jq.out.below Jq.out.lt QT);refine Rf (.tuple #[Z7 tv,ZY]) (Z7 tv) ZY (Z7 tv) ZY<|wn ?_;simp only[pu];clear CT QT;go_upto_region 14 with fail;refine wl<|ZB ZY ZW<|wn ?_;simp only[pu];have hst:=ZC (a':=none) (n':=0) (k':=0) (c':=0) ag5.out;have Zg:=Z9 (ZU ag6.out KN.out (ZT none 0 0 0));have YD:=Z9 (ZO hst.2);have hst1:=hst.1;generalize World.setRow V4 g1 (ZT none 0 0 0)=V9 at *
    clear hst;go_upto_region 15 with fail;refine wl<|ZV (.agg #[.slice none 0 0,Z7 0])<|Zk rfl (hst1)<|ZV (Z8 6)<|wn ?_;simp only[pu];clear hst1;go_wp2_with fail;exact bodyPost_ret (ZN (p:=2) (q:=3) rfl (by kernel_rfl) YD.out rfl) rfl (Xi.err Zg.out)
   ·obtain rfl:=HRR.out;go_upto_region 13 with fail;refine wl<|ZL rfl ⟨g2,0,none⟩ (.agg (ZT a9 m k9 0)) (ZO Jq.out)<|YM (.tuple #[Z7 tv,ZW]) (fun w'=>Below wr.heap.size wr w') (CT) (fun V4 QT=>?_);have ag5:=Z9 (IU.out.below IU.out.lt QT);have ag6:=Z9 (Bf.out.trans (QT.mono Bf.out.size));have av3:=Z9 (own_below Hq.out QT);have av4:=Z9 (Jq.out.below Jq.out.lt QT);refine Rf (.tuple #[Z7 tv,ZW]) (Z7 tv) ZW (Z7 tv) ZW<|wn ?_;simp only[pu];clear CT QT;go_upto_region 14 with fail;refine wl<|ZB ZW ZY<|wn ?_;simp only[pu];have hst:=ZC (a':=a9) (n':=m) (k':=k9) (c':=0) ag5.out;have Zg:=Z9 (ZU ag6.out KN.out (ZT a9 m k9 0));have YD:=Z9 (ZO hst.2);have hst1:=hst.1;have HE:=Z9 (Au (x:=ZT a9 m k9 0) av3.out RN.out.1);generalize World.setRow V4 g1 (ZT a9 m k9 0)=V9 at *
    clear hst;go_upto_region 16 with fail;refine wl<|ZL rfl ⟨g2,0,none⟩ (.agg (ZT a9 m k9 0)) (ZO av4.out)<|Zk rfl (hst1)<|ZV (Z8 0)<|wn ?_;simp only[pu];clear hst1;go_wp2_with fail;exact bodyPost_ret (ZN (p:=2) (q:=3) rfl (by kernel_rfl) YD.out rfl) rfl ⟨a9,k9,by rw[hm]; rfl,by have:=own_base HE.out av2.out; rw[<- hm] at this; exact this,Zg.out⟩
theorem ag1 {A:List Ac}{c:Int}{a:Ac}(h:YE A c≠0):OH A c a=([],0,YE A c):=if_pos h
theorem ag2 {A:List Ac}{c:Int}{a:Ac}(h:YE A c=0)(h1:isName (nums a.1)=false):OH A c a=([],0,10):=by
 unfold OH;rw[if_neg (by rw[h]; simp),if_pos h1]
theorem qH {A:List Ac}{c:Int}{a:Ac}(h:YE A c=0)(h1:isName (nums a.1)=true)(h2:256<(Yt A a).length):OH A c a=([],0,3):=by
 unfold OH;rw[if_neg (by rw[h]; simp),if_neg (by rw[h1]; simp),if_pos h2]
theorem He {A:List Ac}{c:Int}{a:Ac}(h:YE A c=0)(h1:isName (nums a.1)=true)(h2:¬ 256<(Yt A a).length):OH A c a=cond (Xp (Yt A a) c) (Yt A a,c,0) ([],0,6):=by
 unfold OH;rw[if_neg (by rw[h]; simp),if_neg (by rw[h1]; simp),if_neg h2];cases Xp (Yt A a) c <;> simp
theorem Xo (w:World)(x y z:Array Value)(t u v:Nat):Below w.heap.size w (((w.alloc (.cells x t)).alloc (.cells y u)).alloc (.cells z v))/\Bx (((w.alloc (.cells x t)).alloc (.cells y u)).alloc (.cells z v)) w.heap.size x t/\Bx (((w.alloc (.cells x t)).alloc (.cells y u)).alloc (.cells z v)) (w.heap.size+1) y u/\Bx (((w.alloc (.cells x t)).alloc (.cells y u)).alloc (.cells z v)) (w.heap.size+2) z v:=by
 obtain⟨h1,h2,h3⟩:=Ym w x y t u;have hs:((w.alloc (.cells x t)).alloc (.cells y u)).heap.size=w.heap.size+2:=by simp
 have hb:Below ((w.alloc (.cells x t)).alloc (.cells y u)).heap.size ((w.alloc (.cells x t)).alloc (.cells y u)) (((w.alloc (.cells x t)).alloc (.cells y u)).alloc (.cells z v)):=(Below.refl _ _).alloc (Nat.le_refl _) _;have hz:Bx (((w.alloc (.cells x t)).alloc (.cells y u)).alloc (.cells z v)) ((w.alloc (.cells x t)).alloc (.cells y u)).heap.size z v:=heap_alloc_last _ _;rw[hs] at hz;exact⟨h1.trans (hb.mono h1.size),h2.below h2.lt hb,h3.below h3.lt hb,hz⟩
theorem Xi.ok {w V:World}{ad:Option Addr}{m kk:Nat}{P:List Ac}{c:Int}(hl:P.length=m)(hr:V.ownsRow w.heap.size 56 3 (.slice ad m kk) P.length (acc P))(hb:Below w.heap.size w V):Xi w (P,c,0) (.returned (.tuple #[.agg (ZT ad m kk c),Z8 0])) V:=by
 subst hl;exact⟨ad,kk,rfl,hr,hb⟩
theorem ag3 {w w':World}{B e s n:Nat}{v:Value}{xs:List Value}(h:w.ownsRow B e s v n xs)(hq:∀ q,v.ownBlock=some q->w'.heap[q]?=w.heap[q]?):w'.ownsRow B e s v n xs:=by
 refine⟨h.1,?_⟩;rcases h.2 with h1 | ⟨g,cap,cur,rfl,hB,hg,r⟩
 ·exact .inl h1
 ·exact .inr ⟨g,cap,cur,rfl,hB,(hq g rfl).trans hg,r⟩
theorem ab2 (a:Option Addr)(k:Nat)(A:List Ac)(c:Int)(x:Ac)(w:World)(hR:Cs w a (acc A))(hk:A.length<=k)(hn:A.length<=4398046511104)(hc:W64 c)(hw:Tz A)(hz:∀ x,x∈A->x.1.size<=140737488355328)(hxw:W64 x.2.1/\W64 x.2.2)(hxz:x.1.size<=140737488355328) :
  Calls Tryz.prog 111 #[.agg (ZT a A.length k c),.agg (Zq x)] w (Xi w (OH A c x)):=by
 obtain⟨hb0,hX0,hY0,P8⟩:=Xo w (ZT a A.length k c) (Zq x) (ZT none 0 0 0) 30 56 30;obtain⟨W0,hW0⟩:=ZQ (((w.alloc (.cells (ZT a A.length k c) 30)).alloc (.cells (Zq x) 56)).alloc (.cells (ZT none 0 0 0) 30));rw[hW0] at hb0 hX0 hY0 P8;have HA:=Z9 (hR.below hb0);have CV:=RP a k A c W0 (hR.below hb0) hn hc hw hz;have CN:=fun V=>OG x.1 V;have LP:=Z9 (fun V (h1:Jk A) (h2:A.length<=1000000) (h:Cs V a (acc A))=>iH a k A x.1 V h h1 h2);have HCL:=Z9 (fun V (h2:A.length<=1000) (h:Cs V a (acc A))=>G9 a k A V h (by omega));have HIN:=Z9 (fun(v:Value) (B:Nat) (V:World) (h:Zd V B v A) (h1:B<=V.heap.size) (h2:A.length<=1000)=>qG v A x (Yi A x.1) B V h h1 (QV A x.1) h2);have HLI:=Z9 (fun(ad:Option Addr) (kk:Nat) (V:World) (h:Cs V ad (acc (Yt A x))) (h1:(Yt A x).length<=4398046511104)=>IW ad kk (Yt A x) c V h h1 hc (EK hw hxw));have HPF:=Z9 (@UN A x);have HPN:=Z9 (@Qp A x);have iY:=Z9 (fun(h:Jk A) (hf:YS A x.1<A.length)=>yE h hf);obtain⟨r,hr⟩:=ZQ (OH A c x);have EI:Hid (YE A c≠0->r=([],0,YE A c)):=Z9 fun h=>by rw[<- hr]; exact ag1 h
 have HE2:Hid (YE A c=0->isName (nums x.1)=false->r=([],0,10)):=Z9 fun h h1=>by rw[<- hr]; exact ag2 h h1
 have iW:Hid (YE A c=0->isName (nums x.1)=true->256<(Yt A x).length->r=([],0,3)):=Z9 fun h h1 h2=>by rw[<- hr]; exact qH h h1 h2
 have HE4:Hid (YE A c=0->isName (nums x.1)=true->¬ 256<(Yt A x).length->r=cond (Xp (Yt A x) c) (Yt A x,c,0) ([],0,6)):=Z9 fun h h1 h2=>by rw[<- hr]; exact He h h1 h2
 have AB:=Z9 (@VE A c);have HFU:=Z9 (@qF A x);rw[hr];obtain⟨n,hnn⟩:=ZQ A.length;have HN:=Z9 hnn;have HKK:Hid (n<=k):=Z9 (by omega);rw[hnn] at hX0 hW0 CV AB HFU;rw[hnn];generalize hnm:isName (nums x.1)=nm at *
 generalize vV:YE A c=ve at *
 have av1:=Z9 hW0;clear hR hn hr hw hz hc hxw hxz hk hnm vV hW0;go_enter Tryz.func111,Tryz.ntmps111;go_upto_region 1 with fail;change Code.wp _ _ _ _ (((w.alloc (.cells (ZT a n k c) 30)).alloc (.cells (Zq x) 56)).alloc (.cells (ZT none 0 0 0) 30));rw[av1.out];clear av1;obtain⟨g0,hg0⟩:=ZQ w.heap.size;obtain⟨g1,hg1⟩:=ZQ (w.heap.size+1);obtain⟨g2,hg2⟩:=ZQ (w.heap.size+2);have RN:Hid (w.heap.size<=g0/\w.heap.size<=g2/\g0<W0.heap.size/\g1<W0.heap.size/\g2<W0.heap.size/\g1≠g0/\g2≠g0/\w.heap.size<=W0.heap.size):=Z9 ⟨by omega,by omega,by have:=hX0.lt; omega,by have:=hY0.lt; omega,by have:=P8.lt; omega,by omega,by omega,hb0.size⟩;have HB0:=Z9 hb0;rw[hg0] at hX0;rw[hg1] at hY0;rw[hg2] at P8;simp only[hg0];rw[show g0+1=g1 by omega,show g1+1=g2 by omega];have HX:=Z9 hX0;have HY:=Z9 hY0;have HZ:=Z9 P8;clear hb0 hg0 hg1 hg2 hX0 hY0 P8 hnn;refine wl<|ZL rfl ⟨g0,0,none⟩ (.agg (ZT a n k c)) (ZO HX.out)<|YM (Z8 ve) (fun w'=>Below W0.heap.size W0 w') (CV) (fun V1 hV1=>?_);have Wy:=Z9 (HX.out.below HX.out.lt hV1);have Jp:=Z9 (HY.out.below HY.out.lt hV1);have HZ1:=Z9 (HZ.out.below HZ.out.lt hV1);have HB1:=Z9 (HB0.out.trans (hV1.mono HB0.out.size));have HA1:=Z9 (HA.out.below hV1);have HW1:Hid (W0.heap.size<=V1.heap.size):=Z9 hV1.size;refine ZV (Z8 ve)<|wn ?_;simp only[pu];clear CV hV1 HX HY HZ HB0 HA;by_cases hv:ve=0
 ·subst hv;obtain⟨h256,hsrt,aK3,-⟩:=AB.out rfl;have HSR:=Z9 hsrt;have H256:=Z9 h256;clear hsrt aK3 h256 EI AB;go_upto_region 2 with fail;refine wl<|ZV (Z8 0)<|ZM (YL rfl 0 0 (decide_eq_true rfl))<|wn ?_;simp only[pu];have CN1:=CN V1;clear CN;go_upto_region 4 with fail;cases nm
  ·refine wl<|ZV (Z5 g1 0)<|ZL rfl ⟨g1,0,none⟩ (.string x.1) (Jp.out.ZR 0)<|YM ZY (fun w'=>Below V1.heap.size V1 w') (CN1) (fun V2 hV2=>?_)
   replace Wy:=Z9 (Wy.out.below Wy.out.lt hV2)
   replace Jp:=Z9 (Jp.out.below Jp.out.lt hV2)
   replace HZ1:=Z9 (HZ1.out.below HZ1.out.lt hV2)
   replace HB1:=Z9 (HB1.out.trans (hV2.mono HB1.out.size))
   replace HA1:=Z9 (HA1.out.below hV2)
   replace HW1:Hid (W0.heap.size<=V2.heap.size):=Z9 (Nat.le_trans HW1.out hV2.size)
   refine ZV ZW<|wn ?_;simp only[pu];clear CN1 hV2;obtain rfl:=HE2.out rfl rfl;have hst:=ZC (a':=none) (n':=0) (k':=0) (c':=0) HZ1.out;have Zg:=Z9 (ZU HB1.out RN.out.2.1 (ZT none 0 0 0));have YD:=Z9 (ZO hst.2);have hst1:=hst.1;generalize World.setRow V2 g2 (ZT none 0 0 0)=V9 at *
   clear hst;go_upto_region 5 with fail;refine wl<|ZV (.agg #[.slice none 0 0,Z7 0])<|Zk rfl (hst1)<|ZV (Z8 10)<|wn ?_;simp only[pu];clear hst1;go_wp2_with fail;exact bodyPost_ret (ZN (p:=4) (q:=5) rfl (by kernel_rfl) YD.out rfl) rfl (Xi.err Zg.out)
  ·refine wl<|ZV (Z5 g1 0)<|ZL rfl ⟨g1,0,none⟩ (.string x.1) (Jp.out.ZR 0)<|YM ZW (fun w'=>Below V1.heap.size V1 w') (CN1) (fun V2 hV2=>?_)
   replace Wy:=Z9 (Wy.out.below Wy.out.lt hV2)
   replace Jp:=Z9 (Jp.out.below Jp.out.lt hV2)
   replace HZ1:=Z9 (HZ1.out.below HZ1.out.lt hV2)
   replace HB1:=Z9 (HB1.out.trans (hV2.mono HB1.out.size))
   replace HA1:=Z9 (HA1.out.below hV2)
   replace HW1:Hid (W0.heap.size<=V2.heap.size):=Z9 (Nat.le_trans HW1.out hV2.size)
   refine ZV ZY<|wn ?_;simp only[pu];clear CN1 hV2;have ag4:=Z9 (iW.out rfl rfl);have iG:=Z9 (HE4.out rfl rfl);have qE:=Z9 (HFU.out H256.out);clear HE2 iW HE4 HFU;have CP:=LP.out V2 HSR.out (by rw[HN.out]; have:=H256.out; omega) HA1.out;rw[HN.out] at CP;by_cases hf:YS A x.1<n
   ·rw[decide_eq_true hf] at CP;have hle:=QV A x.1;rw[HN.out] at hle;have hfl:=iY.out HSR.out (by rw[HN.out]; exact hf);go_upto_region 6 with fail;refine wl<|ZV (Z5 g0 0)<|ZL rfl ⟨g0,0,none⟩ (.slice a n k) (Wy.out.ZR 0)<|ZV (Z5 g1 0)<|ZL rfl ⟨g1,0,none⟩ (.string x.1) (Jp.out.ZR 0) <|
     YM (.tuple #[Z8 (Yi A x.1:Nat),ZW]) (fun w'=>Below V2.heap.size V2 w') (CP) (fun V3 VQ=>?_)
    refine Rf (.tuple #[Z8 (Yi A x.1:Nat),ZW]) (Z8 (Yi A x.1:Nat)) ZW (Z8 (Yi A x.1:Nat)) ZW<|wn ?_;simp only[pu]
    replace Wy:=Z9 (Wy.out.below Wy.out.lt VQ)
    replace Jp:=Z9 (Jp.out.below Jp.out.lt VQ)
    replace HZ1:=Z9 (HZ1.out.below HZ1.out.lt VQ)
    replace HB1:=Z9 (HB1.out.trans (VQ.mono HB1.out.size))
    replace HA1:=Z9 (HA1.out.below VQ)
    replace HW1:Hid (W0.heap.size<=V3.heap.size):=Z9 (Nat.le_trans HW1.out VQ.size)
    clear CP VQ;go_upto_region 7 with fail;refine wl<|Y0 ZW ZY ZY undef undef undef<|ZB undef ZY<|wn ?_;simp only[pu];have CC:=HCL.out V3 (by rw[HN.out]; have:=H256.out; omega) HA1.out;rw[HN.out] at CC;go_upto_region 9 with fail;refine wl<|ZV (Z5 g0 0)<|ZL rfl ⟨g0,0,none⟩ (.slice a n k) (Wy.out.ZR 0)<|XI (fun v w'=>Zd w' V3.heap.size v A/\Below V3.heap.size V3 w') CC (fun v5 V5 hq=>?_);obtain⟨ND,hb5⟩:=hq;obtain⟨a5,k5,rfl,-,-⟩:=ND.cs;rw[HN.out];obtain⟨V6,VU,NC,hb6,Xt⟩:=G8 (a':=a5) (n':=n) (k':=k5) (Wy.out.below Wy.out.lt hb5) (B:=w.heap.size) (w0:=w) (HB1.out.trans (hb5.mono HB1.out.size)) RN.out.1;have IY:V6.ownsRow W0.heap.size 56 3 (.slice a5 n k5) n (acc A):=(by have:=own_base (Zo ND Xt (Nat.lt_of_lt_of_le RN.out.2.2.1 HW1.out)) HW1.out; rwa [HN.out] at this);have HY6:=Z9 ((Jp.out.below Jp.out.lt hb5).but Xt RN.out.2.2.2.2.2.1);have HZ6:=Z9 ((HZ1.out.below HZ1.out.lt hb5).but Xt RN.out.2.2.2.2.2.2.1);have X9:=Z9 hb6;have Xx:=Z9 NC;have Md:Hid (W0.heap.size<=V6.heap.size):=Z9 (Nat.le_trans HW1.out (Nat.le_trans hb5.size Xt.1.size));have Mc:=Z9 IY;refine ZV (Z5 g0 0)<|Zk rfl (VU)<|wn ?_;simp only[pu];clear ND hb5 VU NC hb6 Xt IY CC Wy Jp HZ1 HB1 HA1 HW1;go_upto_region 10 with fail;refine wl<|ZV ZW<|wn ?_;simp only[pu];obtain⟨g5,e5,hg5,-⟩:=Tv Mc.out (by omega);subst e5;obtain⟨V7,WZ,KO,hb7,G7⟩:=AA (show Zd V6 W0.heap.size (.slice (some ⟨g5,0,none⟩) n k5) A by unfold Zd; rw[HN.out]; exact Mc.out) HN.out.symm (i:=Yi A x.1) (by rw[HN.out]; omega) x;rw[hfl,<- HPF.out (by rw[HN.out]; exact hf)] at KO;have hpl:(Yt A x).length=n:=(by rw[Wv,if_pos (by rw[HN.out]; exact hf)]; exact HN.out);have HXB:=Z9 Xx.out;have PE:=Z9 (Xx.out.below RN.out.2.2.1 hb7);have iF:=Z9 (HZ6.out.below RN.out.2.2.2.2.1 hb7);have TG:=Z9 (X9.out.trans (hb7.mono RN.out.2.2.2.2.2.2.2));have qC:=Z9 KO;have iE:=Z9 hpl;clear hg5 KO hb7 G7 Xx HZ6 X9 Mc hpl;go_upto_region 11 with fail;refine wl<|ZV (Z5 g0 0)<|ZL rfl ⟨g0,0,none⟩ (.slice (some ⟨g5,0,none⟩) n k5) (HXB.out.ZR 0)<|ZV (Z8 (Yi A x.1:Nat))<|ZL rfl ⟨g1,0,none⟩ (.agg (Zq x)) (Za HY6.out) <|
     YI (Z5 g5 (0+Yi A x.1*3)) (YC g5 0 n k5 (Yi A x.1) (by omega) _ _ _ rfl (by kernel_rfl) (by kernel_rfl))<|Zk rfl (WZ)<|wn ?_
    simp only[pu];clear WZ HXB HY6;have OQ:=qC.out;obtain⟨a9,k9,e9,hc9,-⟩:=OQ.cs;rw[iE.out] at e9;simp only[Value.slice.injEq,true_and] at e9;obtain⟨rfl,rfl⟩:=e9;have CT:=HLI.out (some ⟨g5,0,none⟩) k5 V7 hc9 (by rw[iE.out]; have:=H256.out; omega);have NI:=iG.out (by intro h; have:=qE.out.1 h; exact this.1 hf);generalize hP:Yt A x=P at *
    generalize Xp P c=tb at *
    rw[iE.out] at CT;clear OQ hc9 iG ag4 qE;go_upto_region 13 with fail;cases tb
    ·obtain rfl:=NI;refine wl<|ZL rfl ⟨g0,0,none⟩ (.agg (ZT (some ⟨g5,0,none⟩) n k5 c)) (ZO PE.out)<|YM (.tuple #[.agg (ZT none 0 0 0),Z8 6]) (fun w'=>Below V7.heap.size V7 w') CT (fun V10 QU=>?_);have Az:=Z9 (iF.out.below iF.out.lt QU);have Aw:=Z9 (TG.out.trans (QU.mono TG.out.size));have hst:=ZC (a':=none) (n':=0) (k':=0) (c':=0) Az.out;have Zg:=Z9 (ZU Aw.out RN.out.2.1 (ZT none 0 0 0));have YD:=Z9 (ZO hst.2);have hst1:=hst.1;generalize World.setRow V10 g2 (ZT none 0 0 0)=V9 at *
     clear hst;refine ZB (.agg (ZT none 0 0 0)) (Z8 6)<|Zk rfl (hst1)<|ZV (Z8 6)<|wn ?_;simp only[pu];clear hst1 CT QU;go_wp2_with fail;exact bodyPost_ret (ZN (p:=4) (q:=5) rfl (by kernel_rfl) YD.out rfl) rfl (Xi.err Zg.out)
    ·obtain rfl:=NI;refine wl<|ZL rfl ⟨g0,0,none⟩ (.agg (ZT (some ⟨g5,0,none⟩) n k5 c)) (ZO PE.out)<|YM (.tuple #[.agg (ZT (some ⟨g5,0,none⟩) n k5 c),Z8 0]) (fun w'=>Below V7.heap.size V7 w') CT (fun V10 QU=>?_);have Az:=Z9 (iF.out.below iF.out.lt QU);have Aw:=Z9 (TG.out.trans (QU.mono TG.out.size));have hst:=ZC (a':=(some ⟨g5,0,none⟩)) (n':=n) (k':=k5) (c':=c) Az.out;have Zg:=Z9 (ZU Aw.out RN.out.2.1 (ZT (some ⟨g5,0,none⟩) n k5 c));have YD:=Z9 (ZO hst.2);have hst1:=hst.1;have HE:=Z9 (Zo (own_below qC.out QU) (But.setRow V10 (g:=g2) (ZT (some ⟨g5,0,none⟩) n k5 c)) RN.out.2.2.2.2.1);generalize World.setRow V10 g2 (ZT (some ⟨g5,0,none⟩) n k5 c)=V9 at *
     clear hst;refine ZB (.agg (ZT (some ⟨g5,0,none⟩) n k5 c)) (Z8 0)<|Zk rfl (hst1)<|ZV (Z8 0)<|wn ?_;simp only[pu];clear hst1 CT QU;go_wp2_with fail;exact bodyPost_ret (ZN (p:=4) (q:=5) rfl (by kernel_rfl) YD.out rfl) rfl (Xi.ok iE.out (own_base HE.out RN.out.2.2.2.2.2.2.2) Zg.out)
   ·rw[decide_eq_false hf] at CP;have hle:=QV A x.1;rw[HN.out] at hle;go_upto_region 6 with fail;refine wl<|ZV (Z5 g0 0)<|ZL rfl ⟨g0,0,none⟩ (.slice a n k) (Wy.out.ZR 0)<|ZV (Z5 g1 0)<|ZL rfl ⟨g1,0,none⟩ (.string x.1) (Jp.out.ZR 0) <|
     YM (.tuple #[Z8 (Yi A x.1:Nat),ZY]) (fun w'=>Below V2.heap.size V2 w') (CP) (fun V3 VQ=>?_)
    refine Rf (.tuple #[Z8 (Yi A x.1:Nat),ZY]) (Z8 (Yi A x.1:Nat)) ZY (Z8 (Yi A x.1:Nat)) ZY<|wn ?_;simp only[pu]
    replace Wy:=Z9 (Wy.out.below Wy.out.lt VQ)
    replace Jp:=Z9 (Jp.out.below Jp.out.lt VQ)
    replace HZ1:=Z9 (HZ1.out.below HZ1.out.lt VQ)
    replace HB1:=Z9 (HB1.out.trans (VQ.mono HB1.out.size))
    replace HA1:=Z9 (HA1.out.below VQ)
    replace HW1:Hid (W0.heap.size<=V3.heap.size):=Z9 (Nat.le_trans HW1.out VQ.size)
    clear CP VQ;by_cases h25:n=256
    ·obtain rfl:=ag4.out (qE.out.2 ⟨hf,h25⟩);go_upto_region 7 with fail;refine wl<|U8 ZY ZW ZW (Z5 g0 0)<|ZL rfl ⟨g0,0,none⟩ (.slice a n k) (Wy.out.ZR 0)<|ZV (Z8 n) <|
      ZM (ZI rfl n 256 dT)<|ZV ZW<|wn ?_
     simp only[pu];have hst:=ZC (a':=none) (n':=0) (k':=0) (c':=0) HZ1.out;have Zg:=Z9 (ZU HB1.out RN.out.2.1 (ZT none 0 0 0));have YD:=Z9 (ZO hst.2);have hst1:=hst.1;generalize World.setRow V3 g2 (ZT none 0 0 0)=V9 at *
     clear hst;go_upto_region 8 with fail;refine wl<|ZV (.agg #[.slice none 0 0,Z7 0])<|Zk rfl (hst1)<|ZV (Z8 3)<|wn ?_;simp only[pu];clear hst1;go_wp2_with fail;exact bodyPost_ret (ZN (p:=4) (q:=5) rfl (by kernel_rfl) YD.out rfl) rfl (Xi.err Zg.out)
    ·go_upto_region 7 with fail;refine wl<|U8 ZY ZW ZW (Z5 g0 0)<|ZL rfl ⟨g0,0,none⟩ (.slice a n k) (Wy.out.ZR 0)<|ZV (Z8 n) <|
      ZM (ZI rfl n 256 dF)<|ZV ZY<|wn ?_
     simp only[pu];have CC:=HCL.out V3 (by rw[HN.out]; have:=H256.out; omega) HA1.out;rw[HN.out] at CC;go_upto_region 9 with fail;refine wl<|ZV (Z5 g0 0)<|ZL rfl ⟨g0,0,none⟩ (.slice a n k) (Wy.out.ZR 0)<|XI (fun v w'=>Zd w' V3.heap.size v A/\Below V3.heap.size V3 w') CC (fun v5 V5 hq=>?_);obtain⟨ND,hb5⟩:=hq;obtain⟨a5,k5,rfl,-,-⟩:=ND.cs;rw[HN.out];obtain⟨V6,VU,NC,hb6,Xt⟩:=G8 (a':=a5) (n':=n) (k':=k5) (Wy.out.below Wy.out.lt hb5) (B:=w.heap.size) (w0:=w) (HB1.out.trans (hb5.mono HB1.out.size)) RN.out.1;have IY:V6.ownsRow W0.heap.size 56 3 (.slice a5 n k5) n (acc A):=(by have:=own_base (Zo ND Xt (Nat.lt_of_lt_of_le RN.out.2.2.1 HW1.out)) HW1.out; rwa [HN.out] at this);have HY6:=Z9 ((Jp.out.below Jp.out.lt hb5).but Xt RN.out.2.2.2.2.2.1);have HZ6:=Z9 ((HZ1.out.below HZ1.out.lt hb5).but Xt RN.out.2.2.2.2.2.2.1);have X9:=Z9 hb6;have Xx:=Z9 NC;have Md:Hid (W0.heap.size<=V6.heap.size):=Z9 (Nat.le_trans HW1.out (Nat.le_trans hb5.size Xt.1.size));have Mc:=Z9 IY;refine ZV (Z5 g0 0)<|Zk rfl (VU)<|wn ?_;simp only[pu];clear ND hb5 VU NC hb6 Xt IY CC Wy Jp HZ1 HB1 HA1 HW1;go_upto_region 10 with fail;refine wl<|ZV ZY<|wn ?_;simp only[pu];have CI:=HIN.out (.slice a5 n k5) W0.heap.size V6 (by unfold Zd; rw[HN.out]; exact Mc.out) Md.out (by rw[HN.out]; have:=H256.out; omega);rw[<- HPN.out (by rw[HN.out]; exact hf)] at CI;have hpl:(Yt A x).length=n+1:=(by rw[Wv,if_neg (by rw[HN.out]; exact hf),HN.out]);go_upto_region 12 with fail;refine wl<|ZV (Z5 g0 0)<|ZL rfl ⟨g0,0,none⟩ (.slice a5 n k5) (Xx.out.ZR 0)<|ZV (Z8 (Yi A x.1:Nat))<|ZL rfl ⟨g1,0,none⟩ (.agg (Zq x)) (Za HY6.out) <|
      XI (fun v w'=>Zd w' W0.heap.size v (Yt A x)/\Below W0.heap.size V6 w') CI (fun v7 V7 hq=>?_)
     obtain⟨KO,hb7⟩:=hq;obtain⟨a7,k7,rfl,-,-⟩:=KO.cs;rw[hpl];obtain⟨V8,XQ,OE,hb8,Yk⟩:=G8 (a':=a7) (n':=n+1) (k':=k7) (Xx.out.below RN.out.2.2.1 hb7) (B:=w.heap.size) (w0:=w) (X9.out.trans (hb7.mono RN.out.2.2.2.2.2.2.2)) RN.out.1;have qC:Hid (Zd V8 W0.heap.size (.slice a7 (n+1) k7) (Yt A x)):=Z9 (by rw[<- hpl]; exact Zo KO Yk RN.out.2.2.1);have PE:=Z9 OE;have iF:=Z9 ((HZ6.out.below RN.out.2.2.2.2.1 hb7).but Yk RN.out.2.2.2.2.2.2.1);have TG:=Z9 hb8;refine ZV (Z5 g0 0)<|Zk rfl (XQ)<|wn ?_;simp only[pu];have iE:=Z9 hpl;clear KO hb7 XQ OE hb8 Yk CI Xx HY6 HZ6 X9 Mc hpl;have OQ:=qC.out;obtain⟨a9,k9,e9,hc9,-⟩:=OQ.cs;rw[iE.out] at e9;simp only[Value.slice.injEq,true_and] at e9;obtain⟨rfl,rfl⟩:=e9;have CT:=HLI.out a7 k7 V8 hc9 (by rw[iE.out]; have:=H256.out; omega);have NI:=iG.out (by intro h; have:=qE.out.1 h; exact h25 this.2);generalize hP:Yt A x=P at *
     generalize Xp P c=tb at *
     rw[iE.out] at CT;clear OQ hc9 iG ag4 qE;go_upto_region 13 with fail;cases tb
     ·obtain rfl:=NI;refine wl<|ZL rfl ⟨g0,0,none⟩ (.agg (ZT a7 (n+1) k7 c)) (ZO PE.out)<|YM (.tuple #[.agg (ZT none 0 0 0),Z8 6]) (fun w'=>Below V8.heap.size V8 w') CT (fun V10 QU=>?_);have Az:=Z9 (iF.out.below iF.out.lt QU);have Aw:=Z9 (TG.out.trans (QU.mono TG.out.size));have hst:=ZC (a':=none) (n':=0) (k':=0) (c':=0) Az.out;have Zg:=Z9 (ZU Aw.out RN.out.2.1 (ZT none 0 0 0));have YD:=Z9 (ZO hst.2);have hst1:=hst.1;generalize World.setRow V10 g2 (ZT none 0 0 0)=V9 at *
      clear hst;refine ZB (.agg (ZT none 0 0 0)) (Z8 6)<|Zk rfl (hst1)<|ZV (Z8 6)<|wn ?_;simp only[pu];clear hst1 CT QU;go_wp2_with fail;exact bodyPost_ret (ZN (p:=4) (q:=5) rfl (by kernel_rfl) YD.out rfl) rfl (Xi.err Zg.out)
     ·obtain rfl:=NI;refine wl<|ZL rfl ⟨g0,0,none⟩ (.agg (ZT a7 (n+1) k7 c)) (ZO PE.out)<|YM (.tuple #[.agg (ZT a7 (n+1) k7 c),Z8 0]) (fun w'=>Below V8.heap.size V8 w') CT (fun V10 QU=>?_);have Az:=Z9 (iF.out.below iF.out.lt QU);have Aw:=Z9 (TG.out.trans (QU.mono TG.out.size));have hst:=ZC (a':=a7) (n':=(n+1)) (k':=k7) (c':=c) Az.out;have Zg:=Z9 (ZU Aw.out RN.out.2.1 (ZT a7 (n+1) k7 c));have YD:=Z9 (ZO hst.2);have hst1:=hst.1;have HE:=Z9 (Zo (own_below qC.out QU) (But.setRow V10 (g:=g2) (ZT a7 (n+1) k7 c)) RN.out.2.2.2.2.1);generalize World.setRow V10 g2 (ZT a7 (n+1) k7 c)=V9 at *
      clear hst;refine ZB (.agg (ZT a7 (n+1) k7 c)) (Z8 0)<|Zk rfl (hst1)<|ZV (Z8 0)<|wn ?_;simp only[pu];clear hst1 CT QU;go_wp2_with fail;exact bodyPost_ret (ZN (p:=4) (q:=5) rfl (by kernel_rfl) YD.out rfl) rfl (Xi.ok iE.out (own_base HE.out RN.out.2.2.2.2.2.2.2) Zg.out)
 ·obtain rfl:=EI.out hv;go_upto_region 2 with fail;refine wl<|ZV (Z8 ve)<|ZM (YL rfl ve 0 (decide_eq_false hv))<|wn ?_;simp only[pu];have hst:=ZC (a':=none) (n':=0) (k':=0) (c':=0) HZ1.out;have Zg:=Z9 (ZU HB1.out RN.out.2.1 (ZT none 0 0 0));have YD:=Z9 (ZO hst.2);have hst1:=hst.1;generalize World.setRow V1 g2 (ZT none 0 0 0)=V9 at *
  clear hst;go_upto_region 3 with fail;refine wl<|ZB (.agg #[.slice none 0 0,Z7 0]) (Z8 ve)<|Zk rfl (hst1)<|ZV (Z8 ve)<|wn ?_;simp only[pu];clear hst1;go_wp2_with fail;exact bodyPost_ret (ZN (p:=4) (q:=5) rfl (by kernel_rfl) YD.out rfl) rfl (Xi.err Zg.out)
structure K6 (W:World)(P:List Ac)(c:Int)(b3 b6 b7 b8:Bool)(x24 x7:Value)(V:World):Prop where
 bel:Below W.heap.size W V
 row:b3=true->Zd V W.heap.size x24 P
 o3:b8=true->b3=true
 o6:b6=true->b3=true
 o7:b8=true->b7=true
 box:b7=true->∃ g,x7=Z5 g 0/\W.heap.size<=g/\(b8=false->Bx V g (ZT none 0 0 0) 30)/\(b3=true->x24.ownBlock≠some g)/\(b8=true->∃ ad kk,x24=.slice ad P.length kk/\Bx V g (ZT ad P.length kk c) 30)
end Go.Proofs.YtfpnnmeblefkkaaGreatDoor.Lg
namespace Go.Proofs.YtfpnnmeblefkkaaGreatDoor.Lg
open Go.RowKit
theorem iI (a:Option Addr)(cap:Nat)(l:List Int)(w:World)(hl:l.length<=9223372036854775807)(hc:∀ k,k<l.length->∃ b off,a=some ⟨b,off,none⟩/\w.cell? ⟨b,off+k,none⟩=some (Z7 (l.getD k 0)))(hw:∀ k,k<l.length->W64 (l.getD k 0)) :
  Calls Tryz.prog 81 #[.slice a l.length cap] w fun e w'=>e=.returned (.tuple #[Z7 (KP l),.bool (KQ l)])/\w=w':=by
 go_enter Tryz.func81,Tryz.ntmps81;go_wp2_with fail;go_loopg [4,11] l.length (fun g s4 s11 wx=>w=wx/\∃ k:Nat,k<=l.length/\s4=Z7 (tot (l.take k))/\s11=Z8 k/\l.length-k=g/\Hid (tot (l.take k)<18446744073709551616))
 case atStart=>exact⟨rfl,0,by omega,rfl,rfl,rfl,Z9 (by simp[tot])⟩
 case round=>
  obtain⟨rfl,k,hk,rfl,rfl,rfl,ht⟩:=hrel;by_cases hlt:k<l.length
  ·obtain⟨b,off,ea,hcell⟩:=hc k hlt;have hx:=hw k hlt;have hts:=EJ l k hlt;have ht0:=WL (l.take k) (fun x hx=>(NG l hw x (List.mem_of_mem_take hx)).1);have hA:=fun w=>yF (tot (l.take k)) (l.getD k 0) w ⟨ht0,by have:=ht.out; omega⟩ hx;have hle:=Uj l hw (k+1);obtain⟨x,hxe⟩:=ZQ (l.getD k 0);obtain⟨t,hte⟩:=ZQ (tot (l.take k));rw[hxe] at hcell hx hts hA;rw[hte] at hts hA ht0 ht;rw[hts] at hle;rw[hte];subst ea;clear hxe hte hc hw;by_cases hs:t+x<18446744073709551616
   ·have e1:MB t x=t+x:=if_pos hs;have e2:Me t x=true:=decide_eq_true hs;rw[e1,e2] at hA;have HS:=Z9 hts;have hs':=Z9 hs;clear e1 e2 hts hle;go_wp2_with (go_at_call 112; refine(hA _).mono ?_; rintro e w' ⟨rfl,rfl⟩)
    go_roundg (l.length-(k+1))
    case measure=>omega
    case rel=>exact⟨rfl,k+1,by omega,by rw[HS.out],by first | rfl | go_num,rfl,by rw[HS.out]; exact hs'⟩
   ·have e1:MB t x=0:=if_neg hs;have e2:Me t x=false:=decide_eq_false hs;rw[e1,e2] at hA;have f1:=Z9 (show KP l=0 from if_neg (by omega));have f2:=Z9 (show KQ l=false from decide_eq_false (by omega));clear e1 e2 hts hle;go_wp2_with (go_at_call 112; refine(hA _).mono ?_; rintro e w' ⟨rfl,rfl⟩)
    go_ret2;exact⟨by rw[f1.out,f2.out]; rfl,rfl⟩
  ·obtain rfl:k=l.length:=(by omega);rw[List.take_length] at ht ⊢;have f1:=Z9 (show KP l=tot l from if_pos ht.out);have f2:=Z9 (show KQ l=true from decide_eq_true ht.out);clear hc hw;go_wp2_with fail;go_ret2;exact⟨by rw[f1.out,f2.out]; rfl,rfl⟩
end Go.Proofs.YtfpnnmeblefkkaaGreatDoor.Lg
namespace Go.Proofs.YtfpnnmeblefkkaaGreatDoor.Mo.Ar
theorem Yw (q y1 y0:Nat):q*(y1*4294967296+y0)=q*y1*4294967296+q*y0:=by
 rw[Nat.mul_add,Nat.mul_assoc]
theorem ae1 (u d y1 y0 q r:Nat)(hi:q*y1+r=u)(h:q*y0<=4294967296*r+d):q*(y1*4294967296+y0)<=u*4294967296+d:=by
 rw[Yw];generalize q*y1=a at *
 generalize q*y0=b at *
 omega
theorem aC5 (u d y1 y0 q r:Nat)(hi:q*y1+r=u)(h:4294967296*r+d<q*y0):u*4294967296+d<q*(y1*4294967296+y0):=by
 rw[Yw];generalize q*y1=a at *
 generalize q*y0=b at *
 omega
theorem aC6 (u d y1 y0 q r:Nat)(hi:q*y1+r=u)(hr:4294967296<=r)(hq:q<=4294967296)(hy:y0<4294967296):q*(y1*4294967296+y0)<=u*4294967296+d:=by
 refine ae1 u d y1 y0 q r hi ?_;have:=Nat.mul_le_mul hq (Nat.le_of_lt_succ (Nat.lt_succ_of_lt hy));omega
def bY (u d y1 y0 q r:Nat):Prop:=
 q*y1+r=u/\(u*4294967296+d) / (y1*4294967296+y0)<=q/\q<=4294967297/\r<4294967296
theorem JQ (u d V:Nat)(hu:u<V)(hd:d<4294967296):(u*4294967296+d) / V<4294967296:=by
 rw[Nat.div_lt_iff_lt_mul (by omega)];omega
theorem Ic (u d y1 y0:Nat)(hy1:2147483648<=y1)(hy1':y1<4294967296)(hy0:y0<4294967296)(hd:d<4294967296)(hu:u<y1*4294967296+y0) :
  bY u d y1 y0 (u / y1) (u % y1):=by
 have h1:u / y1*y1+u % y1=u:=Nat.div_add_mod' u y1;have h2:u % y1<y1:=Nat.mod_lt _ (by omega);refine⟨h1,?_,?_,by omega⟩
 ·rw[<- Nat.lt_succ_iff,Nat.div_lt_iff_lt_mul (by omega)];have:=Yw (u / y1).succ y1 y0;rw[this,Nat.succ_mul];generalize u / y1*y1=a at *
  have h0:0<=(u / y1).succ*y0:=Nat.zero_le _;generalize (u / y1).succ*y0=b at *
  omega
 ·rw[<- Nat.lt_succ_iff,Nat.div_lt_iff_lt_mul (by omega)];omega
theorem Du (u d y1 y0 q r:Nat)(aS2:2147483648<=y1)(hu:u<y1*4294967296+y0)(hd:d<4294967296)(h:bY u d y1 y0 q r)
  (ht:4294967296<=q∨4294967296*r+d<q*y0) :
  1<=q/\(q-1)*y1+(r+y1)=u/\(u*4294967296+d) / (y1*4294967296+y0)<=q-1/\q-1<=4294967296:=by
 obtain⟨hi,hq,hq',hr⟩:=h;have hlt:=JQ u d (y1*4294967296+y0) hu hd;have hs:(u*4294967296+d) / (y1*4294967296+y0)<q:=by
  rcases ht with ht | ht
  ·exact Nat.lt_of_lt_of_le hlt ht
  ·rw[Nat.div_lt_iff_lt_mul (by omega)];exact aC5 u d y1 y0 q r hi ht
 have hq1:1<=q:=Nat.lt_of_le_of_lt (Nat.zero_le _) hs;have hq2:=Nat.le_sub_one_of_lt hs;clear hs hlt hq;obtain⟨k,rfl⟩:∃ k,q=k+1:=⟨q-1,by omega⟩;refine⟨by omega,?_,hq2,by omega⟩;rw[Nat.add_sub_cancel];rw[Nat.succ_mul] at hi;omega
theorem Dt (u d y1 y0 q:Nat)(hy1:2147483648<=y1)(hq:(u*4294967296+d) / (y1*4294967296+y0)<=q)(h:q*(y1*4294967296+y0)<=u*4294967296+d) :
  q=(u*4294967296+d) / (y1*4294967296+y0):=by
 have:=(Nat.le_div_iff_mul_le (show 0<y1*4294967296+y0 by omega)).2 h;omega
theorem Ih (u d y1 y0 q r:Nat)(hy1:2147483648<=y1)(h:bY u d y1 y0 q r)(ht:q*y0<=4294967296*r+d) :
  q=(u*4294967296+d) / (y1*4294967296+y0):=
 Dt u d y1 y0 q hy1 h.2.1 (ae1 u d y1 y0 q r h.1 ht)
theorem Ii (u d y1 y0 q r:Nat)(hy1:2147483648<=y1)(hy0:y0<4294967296)(hi:q*y1+r=u)(hq:(u*4294967296+d) / (y1*4294967296+y0)<=q)(hq':q<=4294967296)(hr:4294967296<=r) :
  q=(u*4294967296+d) / (y1*4294967296+y0):=
 Dt u d y1 y0 q hy1 hq (aC6 u d y1 y0 q r hi hr hq' hy0)
theorem zn (u d V a b:Nat)(h1:a+b=u*4294967296+d)(h2:b<V)(hV':V<18446744073709551616) :
  (((u*4294967296 % 18446744073709551616+d) % 18446744073709551616:Nat)-((a % 18446744073709551616:Nat):Int)) % 18446744073709551616=(b:Int):=by
 omega
theorem Ie (u d V:Nat)(hV:0<V)(hV':V<18446744073709551616) :
  (((u*4294967296 % 18446744073709551616+d) % 18446744073709551616:Nat)-(((u*4294967296+d) / V*V % 18446744073709551616:Nat):Int)) % 18446744073709551616=(((u*4294967296+d) % V:Nat):Int):=by
 exact zn u d V _ _ (Nat.div_add_mod' (u*4294967296+d) V) (Nat.mod_lt _ hV) hV'
theorem Dq (T p y u l1 l0 q1 r1 q0 r0:Nat)(hp:0<p)(hv:0<y*p)(hT:T*p=u*18446744073709551616+(l1*4294967296+l0))
  (e1:q1*(y*p)+r1=u*4294967296+l1) (e2:q0*(y*p)+r0=r1*4294967296+l0) (e3:r0<y*p) :
  q1*4294967296+q0=T / y/\r0 / p=T % y:=by
 have e:T*p=(q1*4294967296+q0)*(y*p)+r0:=by
  rw[hT,Nat.add_mul,Nat.mul_right_comm];omega
 have d1:T*p / (y*p)=q1*4294967296+q0:=by
  rw[e,Nat.mul_comm _ (y*p),Nat.mul_add_div hv,Nat.div_eq_of_lt e3,Nat.add_zero]
 have d2:T*p % (y*p)=r0:=by
  rw[e,Nat.mul_comm _ (y*p),Nat.mul_add_mod,Nat.mod_eq_of_lt e3]
 rw[Nat.mul_div_mul_right _ _ hp] at d1;rw[Nat.mul_mod_mul_right] at d2;exact⟨d1.symm,by rw[<- d2,Nat.mul_div_cancel _ hp]⟩
theorem zo (T p y u l1 l0:Nat)(hp:0<p)(hy:0<y)(hT:T*p=u*18446744073709551616+(l1*4294967296+l0)) :
  (u*4294967296+l1) / (y*p)*4294967296+((u*4294967296+l1) % (y*p)*4294967296+l0) / (y*p)=T / y /\
  ((u*4294967296+l1) % (y*p)*4294967296+l0) % (y*p) / p=T % y:=by
 have hv:0<y*p:=Nat.mul_pos hy hp;exact Dq T p y u l1 l0 _ _ _ _ hp hv hT (Nat.div_add_mod' _ _) (Nat.div_add_mod' _ _) (Nat.mod_lt _ hv)
theorem shifted (hi lo s:Nat)(hs:s<=63)(aS3:lo<18446744073709551616) :
  (hi*18446744073709551616+lo)*2 ^ s=(hi*2 ^ s+lo / 2 ^ (64-s))*18446744073709551616+(lo*2 ^ s % 18446744073709551616):=by
 have e:(18446744073709551616:Nat)=2 ^ (64-s)*2 ^ s:=by
  rw[<- Nat.pow_add];rw[show 64-s+s=64 by omega]
 have h:lo*2 ^ s / 18446744073709551616=lo / 2 ^ (64-s):=by
  rw[e,Nat.mul_div_mul_right _ _ (Nat.two_pow_pos s)]
 have h2:=Nat.div_add_mod' (lo*2 ^ s) 18446744073709551616;rw[h] at h2;rw[Nat.add_mul,Nat.add_mul,Nat.mul_right_comm,<- h2,<- Nat.add_assoc];simp only[Nat.mul_add_mod_self_right,Nat.mod_mod]
theorem zq (hi lo y s:Nat)(hs:s<=63)(hlo:lo<18446744073709551616)(h:hi<y) :
  hi*2 ^ s+lo / 2 ^ (64-s)<y*2 ^ s:=by
 have e:(18446744073709551616:Nat)=2 ^ s*2 ^ (64-s):=by
  rw[<- Nat.pow_add];rw[show s+(64-s)=64 by omega]
 have h1:lo / 2 ^ (64-s)<2 ^ s:=by
  rw[Nat.div_lt_iff_lt_mul (Nat.two_pow_pos _),<- e];exact hlo
 have h2:=Nat.mul_le_mul_right (2 ^ s) h;rw[Nat.succ_mul] at h2;omega
theorem kT (q y0:Nat)(hq:q<4294967296)(hy:y0<4294967296):(q:Int)*(y0:Int)<=18446744065119617025/\q*y0<=18446744065119617025:=by
 have h:q*y0<=4294967295*4294967295:=Nat.mul_le_mul (by omega) (by omega);rw[<- Int.natCast_mul];omega
theorem Lc (r d q y0:Nat)(h:4294967296*r+d<q*y0):4294967296*(r:Int)+(d:Int)<(q:Int)*(y0:Int):=by
 rw[<- Int.natCast_mul];omega
theorem wQ (r d q y0:Nat)(h:q*y0<=4294967296*r+d):(q:Int)*(y0:Int)<=4294967296*(r:Int)+(d:Int):=by
 rw[<- Int.natCast_mul];omega
end Go.Proofs.YtfpnnmeblefkkaaGreatDoor.Mo.Ar
namespace Go.Proofs.YtfpnnmeblefkkaaGreatDoor.Mo
open Go.RowKit
theorem Vx (a:Nat)(h:a<18446744073709551616):bits .and .u64 (a:Int) 4294967295=((a % 4294967296:Nat):Int):=
 (and_low32 (a:Int) (Int.natCast_nonneg a) (by omega)).trans (by omega)
theorem Dx (a:Nat):(a:Int) / 4294967296=((a / 4294967296:Nat):Int):=(Int.natCast_ediv a 4294967296).symm
theorem Ld (a b:Nat):(a:Int)*(b:Int)=((a*b:Nat):Int):=by simp
theorem castAdd (a b:Nat):(a:Int)+(b:Int)=((a+b:Nat):Int):=by simp
theorem TQ (a:Nat):IntKind.u64.wrap (a:Int)=((a % 18446744073709551616:Nat):Int):=(IntKind.wrap_u64 a).trans (by omega)
theorem YA (a:Nat)(h:a<18446744073709551616):IntKind.u64.wrap (a:Int)=(a:Int):=by rw[TQ,Nat.mod_eq_of_lt h]
theorem halves (x y:Nat)(hx:x<18446744073709551616)(hy:y<18446744073709551616) :
  x % 4294967296*(y % 4294967296)<18446744073709551616/\x / 4294967296*(y % 4294967296)<18446744073709551616/\x % 4294967296*(y / 4294967296)<18446744073709551616/\x / 4294967296*(y / 4294967296)<18446744073709551616 /\
  x / 4294967296*(y % 4294967296)+x % 4294967296*(y % 4294967296) / 4294967296<18446744073709551616 /\
  (x / 4294967296*(y % 4294967296)+x % 4294967296*(y % 4294967296) / 4294967296) % 4294967296+x % 4294967296*(y / 4294967296)<18446744073709551616 /\
  x / 4294967296*(y / 4294967296)+(x / 4294967296*(y % 4294967296)+x % 4294967296*(y % 4294967296) / 4294967296) / 4294967296<18446744073709551616 /\
  x*y / 18446744073709551616<18446744073709551616 /\
  x / 4294967296*(y / 4294967296)+(x / 4294967296*(y % 4294967296)+x % 4294967296*(y % 4294967296) / 4294967296) / 4294967296 +
   ((x / 4294967296*(y % 4294967296)+x % 4294967296*(y % 4294967296) / 4294967296) % 4294967296+x % 4294967296*(y / 4294967296)) / 4294967296=x*y / 18446744073709551616:=by
 have e:=Lib.split_mul (x / 4294967296) (x % 4294967296) (y / 4294967296) (y % 4294967296) 4294967296;rw[Nat.div_add_mod',Nat.div_add_mod'] at e;have top:x*y / 18446744073709551616<18446744073709551616:=by
  rw[Nat.div_lt_iff_lt_mul (by omega)];exact Nat.lt_of_le_of_lt (Nat.mul_le_mul_right y (Nat.le_of_lt hx)) (Nat.mul_lt_mul_of_pos_left hy (by omega))
 have k1:=Lib.half_mul_le (a:=x % 4294967296) (b:=y % 4294967296) (by omega) (by omega);have k2:=Lib.half_mul_le (a:=x / 4294967296) (b:=y % 4294967296) (by omega) (by omega);have k3:=Lib.half_mul_le (a:=x % 4294967296) (b:=y / 4294967296) (by omega) (by omega);have k4:=Lib.half_mul_le (a:=x / 4294967296) (b:=y / 4294967296) (by omega) (by omega);generalize x*y=t at *
 generalize x % 4294967296*(y % 4294967296)=p at *
 generalize x / 4294967296*(y % 4294967296)=q at *
 generalize x % 4294967296*(y / 4294967296)=r at *
 generalize x / 4294967296*(y / 4294967296)=u at *
 clear hx hy;refine⟨?_,?_,?_,?_,?_,?_,?_,top,?_⟩ <;> omega
theorem xW (x y:Int)(hx:0<=x)(hy:0<=y)(w:World):(callFunc 156 #[Z7 x,Z7 y,Z7 0]).run Tryz.prog w =
  .ok (.value (.tuple #[Z7 ((x+y) % 18446744073709551616),Z7 ((x+y) / 18446744073709551616)])) w:=by
 rw[run_callFunc_extern Tryz.func156 (by kernel_rfl) (by kernel_rfl) (by kernel_rfl) (e:=add64Entry) (by kernel_rfl),run_add64 x y 0 hx hy (by omega) (by omega)];simp only[Result.andThen,Int.add_zero]
theorem ad7 (x y:Nat)(hx:x<18446744073709551616)(hy:y<18446744073709551616)(w:World) :
  Calls Tryz.prog 104 #[Z7 x,Z7 y] w fun e w'=>e=.returned (.tuple #[Z7 ((x*y / 18446744073709551616:Nat):Int),Z7 ((x*y % 18446744073709551616:Nat):Int)])/\w=w':=by
 obtain⟨c1,c2,c3,c4,c5,c6,c7,c8,c9⟩:=halves x y hx hy;have C:=Z9 c9;have c10:=c9 ▸ c8;clear c8 c9;go_enter Tryz.func104,Tryz.ntmps104;go_wp2;simp only[Vx x hx,Vx y hy,Dx,Ld,castAdd,YA _ c1,YA _ c2,YA _ c3,YA _ c4,YA _ c5,Vx _ c5,YA _ c6,YA _ c7,YA _ c10];rw[C.out,TQ];go_ret2;exact⟨rfl,rfl⟩
theorem len8_get (i:Int)(h0:0<=i)(h1:i<=255)(h:i.toNat<Lib.len8tab.size):(Lib.len8tab[i.toNat].toNat:Int)=(Lib.bitLen i.toNat:Int):=by
 rw[<- Lib.len8_of i h0 h1];unfold Lib.len8;rw[ByteArray.getElem?_lt' _ _ h,Option.getD_some]
theorem WC (i:Int)(n:Nat)(h0:0<=i)(h1:i<=255)(h:i.toNat<Lib.len8tab.size)(hn:n<=56):wrap64 ((n:Int)+wrap64 (Lib.len8tab[i.toNat].toNat:Int))=((n+Lib.bitLen i.toNat:Nat):Int):=by
 have l:=Lib.bitLen_le8' i h0 h1;rw[len8_get i h0 h1 h];unfold wrap64;omega
theorem zl (i:Int)(h0:0<=i)(h1:i<=255)(h:i.toNat<Lib.len8tab.size):wrap64 (wrap64 (Lib.len8tab[i.toNat].toNat:Int))=((Lib.bitLen i.toNat:Nat):Int):=by
 have:=WC i 0 h0 h1 h (by omega);simpa using this
theorem aC7 (x:Int)(w:World)(h0:0<=x)(h1:x<=18446744073709551615) :
  Calls Tryz.prog 123 #[Z7 x] w fun e w'=>e=.returned (Z8 (Lib.bitLen x.toNat))/\w=w':=by
 have hsz:=Lib.len8tab_size;go_enter Tryz.func123,Tryz.ntmps123;go_wp2;all_goals (go_ret; refine⟨congrArg Ending.returned (congrArg (Value.int IntKind.i64) ?_),rfl⟩)
 ·exact(WC (x / 4294967296 / 65536 / 256) 56 (by omega) (by omega) (by omega) (by omega)).trans (by rw[show(x / 4294967296 / 65536 / 256).toNat=x.toNat / 72057594037927936 from by omega,<- Lib.bitLen_shift56 x.toNat (by omega) (by omega)])
 ·exact(WC (x / 4294967296 / 65536) 48 (by omega) (by omega) (by omega) (by omega)).trans (by rw[show(x / 4294967296 / 65536).toNat=x.toNat / 281474976710656 from by omega,<- Lib.bitLen_shift48 x.toNat (by omega) (by omega)])
 ·exact(WC (x / 4294967296 / 256) 40 (by omega) (by omega) (by omega) (by omega)).trans (by rw[show(x / 4294967296 / 256).toNat=x.toNat / 1099511627776 from by omega,<- Lib.bitLen_shift40 x.toNat (by omega) (by omega)])
 ·exact(WC (x / 4294967296) 32 (by omega) (by omega) (by omega) (by omega)).trans (by rw[show(x / 4294967296).toNat=x.toNat / 4294967296 from by omega,<- Lib.bitLen_shift32 x.toNat (by omega) (by omega)])
 ·exact(WC (x / 65536 / 256) 24 (by omega) (by omega) (by omega) (by omega)).trans (by rw[show(x / 65536 / 256).toNat=x.toNat / 16777216 from by omega,<- Lib.bitLen_shift24 x.toNat (by omega) (by omega)])
 ·exact(WC (x / 65536) 16 (by omega) (by omega) (by omega) (by omega)).trans (by rw[show(x / 65536).toNat=x.toNat / 65536 from by omega,<- Lib.bitLen_shift16 x.toNat (by omega) (by omega)])
 ·exact(WC (x / 256) 8 (by omega) (by omega) (by omega) (by omega)).trans (by rw[show(x / 256).toNat=x.toNat / 256 from by omega,<- Lib.bitLen_shift8 x.toNat (by omega) (by omega)])
 ·exact zl x h0 (by omega) (by omega)
def lz (y:Nat):Nat:=64-Lib.bitLen y
theorem FN (f:Nat):∀ x:Nat,x<2 ^ f->x<2 ^ Lib.bitLenAux f x:=by
 induction f with
 | zero=>intro x hx; simpa [Lib.bitLenAux] using hx
 | succ f ih=>
  intro x hx;simp only[Lib.bitLenAux]
  split
  ·subst_vars; simp
  ·have:=ih (x / 2) (by rw[Nat.pow_succ] at hx; omega);rw[Nat.add_comm,Nat.pow_succ];omega
theorem FM (f:Nat):∀ x:Nat,x<2 ^ f->0<x->2 ^ (Lib.bitLenAux f x-1)<=x:=by
 induction f with
 | zero=>intro x hx h; simp at hx; omega
 | succ f ih=>
  intro x hx h;simp only[Lib.bitLenAux];rw[if_neg (by omega),Nat.add_sub_cancel_left];by_cases h2:x / 2=0
  ·have:Lib.bitLenAux f (x / 2)=0:=(by rw[h2]; cases f <;> simp[Lib.bitLenAux]);rw[this];omega
  ·have h3:=ih (x / 2) (by rw[Nat.pow_succ] at hx; omega) (by omega);have h4:1<=Lib.bitLenAux f (x / 2):=by
    cases f with
    | zero=>simp at hx; omega
    | succ f=>simp[Lib.bitLenAux,h2]
   generalize Lib.bitLenAux f (x / 2)=k at *
   obtain⟨j,rfl⟩:∃ j,k=j+1:=⟨k-1,by omega⟩;rw[Nat.add_sub_cancel] at h3;rw[Nat.pow_succ];omega
theorem Ig (y:Nat)(h0:0<y)(h1:y<18446744073709551616):lz y<=63/\Lib.bitLen y<=64/\9223372036854775808<=y*2 ^ lz y/\y*2 ^ lz y<18446744073709551616:=by
 have a:=FN 64 y (by omega);have b:=FM 64 y (by omega) h0;have c:=Lib.bitLen_le y 64 (by omega) (by omega);unfold lz;change Lib.bitLenAux 64 y<=64 at c;change 64-Lib.bitLenAux 64 y<=63/\Lib.bitLenAux 64 y<=64/\_<=y*2 ^ (64-Lib.bitLenAux 64 y)/\y*2 ^ (64-Lib.bitLenAux 64 y)<_;generalize Lib.bitLenAux 64 y=k at *
 have hk:1<=k:=by
  cases k with
  | zero=>simp at a; omega
  | succ k=>omega
 refine⟨by omega,c,?_,?_⟩
 ·have:=Nat.mul_le_mul_right (2 ^ (64-k)) b;rw[<- Nat.pow_add,show k-1+(64-k)=63 by omega] at this;exact this
 ·have:=Nat.mul_lt_mul_of_pos_right a (Nat.two_pow_pos (64-k));rw[<- Nat.pow_add,show k+(64-k)=64 by omega] at this;exact this
theorem aN7 (y:Nat)(w:World)(h0:0<y)(h1:y<18446744073709551616) :
  Calls Tryz.prog 134 #[Z7 y] w fun e w'=>e=.returned (Z8 (lz y))/\w=w':=by
 obtain⟨_,hb,_,_⟩:=Ig y h0 h1;have e8:(64-(Lib.bitLen y:Int))=(lz y:Int):=by unfold lz; omega
 go_enter Tryz.func134,Tryz.ntmps134;go_wp2_with (go_at_call 123; refine(aC7 (y:Int) _ (by omega) (by omega)).mono ?_; rintro e w' ⟨rfl,rfl⟩)
 go_ret;exact⟨by simp,rfl⟩
end Go.Proofs.YtfpnnmeblefkkaaGreatDoor.Mo
