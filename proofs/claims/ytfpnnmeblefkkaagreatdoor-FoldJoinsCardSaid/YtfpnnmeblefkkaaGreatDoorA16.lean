/-
  Texts joined.
-/
import Derived.Test.YtfpnnmeblefkkaaGreatDoorA15
set_option maxRecDepth 100000
set_option maxHeartbeats 8000000
set_option linter.unusedSimpArgs false
set_option linter.unusedVariables false
namespace Go.Proofs.YtfpnnmeblefkkaaGreatDoor.Lg
attribute [local irreducible] wpList wpQuiet
open Go.RowKit
theorem qG {A:List Ac}{j:Nat}(B:List Ac)(h:j<A.length):WS B (A.drop j)=if isName (nums (aca A j).1)=false then ([],10) else if YV B (aca A j).1<B.length then ([],8) else WS (Yt B (aca A j)) (A.drop (j+1)):=by
 rw[List.drop_eq_getElem_cons h,<- XL h];rfl
theorem iW (A B:List Ac):WS B (A.drop A.length)=(B,0):=by rw[List.drop_length]; rfl
def vY (B:List Ac):List Ac×Int×Int:=if Xu B 0=true then (B,0,0) else ([],0,6)
def G6 (A:List Ac):List Ac×Int×Int:=((Rx A).1,0,(Rx A).2)
theorem qF {A:List Ac}(h:256<A.length):G6 A=([],0,3):=by unfold G6 Rx; rw[if_pos h]
theorem qE {A:List Ac}{e:Int}(h:¬ 256<A.length)(hg:WS [] A=([],e))(he:e≠0):G6 A=([],0,e):=by
 unfold G6 Rx;rw[if_neg h,hg];simp only[ne_eq,he,not_false_eq_true,if_true]
theorem iV {A B:List Ac}(h:¬ 256<A.length)(hg:WS [] A=(B,0)):G6 A=vY B:=by
 unfold G6 Rx vY;rw[if_neg h,hg];simp only[ne_eq,not_true_eq_false,if_false]
 split <;> rfl
theorem G8 {w w0:World}{g B:Nat}{a a':Option Addr}{n n' k k':Nat}{c:Int}(h:Bx w g (ZU a n k c) 30)(hb:Below B w0 w)(hg:B<=g) :
  ∃ V,(Instr.storeAt 28 (Z5 g 0) (.slice a' n' k')).run Tryz.prog w=.ok () V/\Bx V g (ZU a' n' k' c) 30/\Below B w0 V/\But g w V:=
 Zm h hb hg (by simp) rfl (by kernel_rfl) rfl
theorem AQ {w:World}{g B n:Nat}{v:Value}{A:List Ac}{x:Array Value}(h:w.ownsRow B 56 3 v n (acc A))(hg:g<B):(w.setRow g x).ownsRow B 56 3 v n (acc A):=Zq h (But.setRow _ _) hg
theorem EF (a:Option Addr)(k:Nat)(A:List Ac)(w:World)(hR:Cs w a (acc A))(hn:A.length<=4398046511104)(hw:TM A)(hz:∀ x,x∈A->x.1.size<=140737488355328) :
  Calls Tryz.prog 64 #[.slice a A.length k] w (Xj w (G6 A)):=by
 obtain⟨hb0,hX0,Ro⟩:=YA w (ZU none 0 0 0) (ZU none 0 0 0) 30 30;have hb1:Below w.heap.size w (w.alloc (.cells (ZU none 0 0 0) 30)):=(Below.refl _ w).alloc (Nat.le_refl _) _;have hX1:Bx (w.alloc (.cells (ZU none 0 0 0) 30)) w.heap.size (ZU none 0 0 0) 30:=heap_alloc_last w _;have HA:=Z9 (hR.below hb0);have HZZ:=Z9 hz;have HAT:=Z9 (fun V (h:Below w.heap.size w V)=>hR.below h);have Xi:Hid (∀ B j,j<=A.length->WS [] A=WS B (A.drop j)->TM B->∀ P,WS [] A=(P,0)->TM P):=Z9 fun B j h1 h2 h3 P h4=>by
  have:=qC (A.drop j) B h3 (fun x hx=>Qy hw x (List.mem_of_mem_drop hx));rw[<- h2,h4] at this;exact this
 have HWJ:Hid (∀ B j,j<A.length->TM B->TM (Yt B (aca A j))):=Z9 fun B j h1 h2=>EI h2 (hw j h1);have HST:=Z9 (fun(j:Nat) (B:List Ac) (h:j<A.length)=>qG B h);have HEN:=Z9 (iW A);obtain⟨r,hr⟩:=ZR (G6 A);have Bv:Hid (256<A.length->r=([],0,3)):=Z9 fun h=>by rw[<- hr]; exact qF h
 have Oa:Hid (∀ e,¬ 256<A.length->WS [] A=([],e)->e≠0->r=([],0,e)):=Z9 fun e h1 h2 h3=>by rw[<- hr]; exact qE h1 h2 h3
 have AZ:Hid (∀ B,¬ 256<A.length->WS [] A=(B,0)->r=vY B):=Z9 fun B h1 h2=>by rw[<- hr]; exact iV h1 h2
 have IX:Hid (WS [] A=WS [] (A.drop 0)):=Z9 (by rw[List.drop_zero]);obtain⟨n,hnn⟩:=ZR A.length;have HN:=Z9 hnn;have Vh:Hid (n<=4398046511104):=Z9 (by omega);rw[hnn] at Bv Oa AZ HST HEN HWJ Xi;rw[hnn,hr];generalize WS [] A=GS0 at *
 clear hR hn hr hw hz;go_enter Tryz.func64,Tryz.ntmps64;go_upto_region 1 with fail;change Code.wp _ _ _ _ (w.alloc (.cells (ZU none 0 0 0) 30));by_cases hbig:256<n
 ·obtain rfl:=Bv.out hbig;generalize w.alloc (.cells (ZU none 0 0 0) 30)=W at *
  obtain⟨g1,hg1⟩:=ZR w.heap.size;have Jp:Hid (w.heap.size<=g1):=Z9 (by omega);rw[hg1] at hX1;simp only[hg1];have HB1:=Z9 hb1;refine wl<|ZG (.slice a n k) (Z8 n)<|ZN (Zo rfl (n) (256) dT)<|wn ?_;simp only[pu];have hst:=ZF (a':=none) (n':=0) (k':=0) (c':=0) hX1;have Zp:=Z9 (ZT HB1.out Jp.out (ZU none 0 0 0));have YL:=Z9 (ZP hst.2);have hst1:=hst.1;generalize World.setRow W g1 (ZU none 0 0 0)=V9 at *
  clear hst;go_upto_region 2 with fail;refine wl<|ZV (.agg #[.slice none 0 0,Z7 0])<|Zr rfl (hst1)<|ZV (Z8 3)<|wn ?_;simp only[pu];clear hst1 hX1;go_wp2_with fail;exact bodyPost_ret (ZO (p:=2) (q:=3) rfl (by kernel_rfl) YL.out rfl) rfl (Xj.err Zp.out)
 have UQ:=Z9 hbig;refine wl<|ZG (.slice a n k) (Z8 n)<|ZN (Zo rfl (n) (256) dF)<|wn ?_;simp only[pu];clear hbig Bv hb1 hX1;go_upto_region 4 with fail;change Code.wp _ _ _ _ ((w.alloc (.cells (ZU none 0 0 0) 30)).alloc (.cells (ZU none 0 0 0) 30));generalize (w.alloc (.cells (ZU none 0 0 0) 30)).alloc (.cells (ZU none 0 0 0) 30)=W at *
 obtain⟨g1,hg1⟩:=ZR w.heap.size;obtain⟨g2,hg2⟩:=ZR (w.heap.size+1);have Jp:Hid (w.heap.size<=g1):=Z9 (by omega);have aL6:Hid (w.heap.size<=g2):=Z9 (by omega);have av1:Hid (w.heap.size<=W.heap.size):=Z9 hb0.size;have Rf:Hid (g1<W.heap.size/\g2<W.heap.size/\g1≠g2):=Z9 ⟨by have:=hX0.lt; omega,by have:=Ro.lt; omega,by omega⟩;have HB0:=Z9 hb0;rw[hg2] at Ro;rw[hg1] at hX0;simp only[hg1];rw[show g1+1=g2 by omega];have HX:=Z9 hX0;have HZ:=Z9 Ro;clear hb0 hg1 hg2 hX0 Ro hnn;refine wl<|YG (.slice a n k) (Z8 n) (Z8 0)<|wn ?_;simp only[pu];have U9:Hid (∃ (a9:Option Addr) (k9:Nat) (B:List Ac),Bx W g2 (ZU a9 B.length k9 0) 30/\Zf W W.heap.size (.slice a9 B.length k9) B/\B.length=0/\Jq B/\Bq B/\TM B/\GS0=WS B (A.drop 0)):=Z9 ⟨none,0,[],HZ.out,MB _ _,rfl,yE,yD,Ue,IX.out⟩;clear IX HZ;go_wp2_with fail;go_loopg [15] n (fun gg s15 wx=>∃ j:Nat,s15=Z8 j/\j<=n/\Hid (∃ (a9:Option Addr) (k9:Nat) (B:List Ac),Bx wx g2 (ZU a9 B.length k9 0) 30/\Zf wx W.heap.size (.slice a9 B.length k9) B/\B.length=j/\Jq B/\Bq B/\TM B/\GS0=WS B (A.drop j))/\Hid (Bx wx g1 (ZU none 0 0 0) 30/\Below w.heap.size w wx/\Cs wx a (acc A)/\W.heap.size<=wx.heap.size)/\n-j=gg)
 case atStart=>exact⟨0,rfl,by omega,U9,Z9 ⟨HX.out,HB0.out,HA.out,Nat.le_refl _⟩,by omega⟩
 case round=>
  clear U9 HA HX HB0;obtain⟨j,rfl,hj,HS,HQ,hg⟩:=hrel;have EU:=Vh.out;have HG:=Z9 hg;clear hg;by_cases hlt:j<n
  ·obtain⟨b,off,rfl,-,hrx⟩:=YJ HQ.out.2.2.1 (k:=j) (by rw[HN.out]; exact hlt);have ED:=Z9 (XK hrx);have HSJ:=Z9 (HST.out j);have HYZ:=Z9 (HZZ.out (aca A j) (Sr (by rw[HN.out]; exact hlt)));have HWY:=Z9 (fun B=>HWJ.out B j hlt);generalize aca A j=y at *
   obtain⟨V2,hst,hb2,hbx⟩:=VL wr y;have CN:=Sm y.1 V2 HYZ.out;generalize hnm:isName (nums y.1)=nm at *
   clear hrx;go_upto_region 5 with fail;refine wl<|ZN (Zy rfl (j) (n) dT)<|wn ?_;simp only[pu];go_upto_region 6 with fail;refine wl<|YN (Z5 b (off+j*3)) (YK b off n k j hlt _ _ _ rfl (by kernel_rfl) (by kernel_rfl))<|ZK rfl ⟨b,off+j*3,none⟩ (.agg (Zt y)) (ED.out) ?_;refine Zz rfl (some 6) rfl (Z5 wr.heap.size 0) (wr.alloc (.cells (Zt WJ) 56)) (by kernel_rfl) ?_;refine Zr rfl (hst)<|wn ?_;obtain⟨g4,hg4⟩:=ZR wr.heap.size;rw[hg4] at hbx ⊢;clear hst hg4 ED;go_upto_region 7 with fail;cases nm
   ·refine wl<|ZV (Z5 g4 0)<|ZK rfl ⟨g4,0,none⟩ (.string y.1) (hbx.ZQ 0)<|YW ZY (fun w'=>V2=w') (CN) (fun V3 VR=>?_);refine ZV ZW<|wn ?_;simp only[pu];subst VR;have hb3:=hb2;have Yl:=Z9 hbx;clear hbx CN hb2;obtain⟨a9,k9,B,hq1,hq2,hq3,hq4,hq5,hq6,hq7⟩:=HS.out;have Jv:=Z9 (hq1.below hq1.lt hb3);have Ho:=Z9 (own_below hq2 hb3);have IW:=Z9 (HQ.out.1.below HQ.out.1.lt hb3);have Bo:=Z9 (HQ.out.2.1.trans (hb3.mono HQ.out.2.1.size));have HQA:=Z9 (HQ.out.2.2.1.below hb3);have HQW:Hid (W.heap.size<=V2.heap.size):=Z9 (Nat.le_trans HQ.out.2.2.2 hb3.size);have EC:=HSJ.out B hlt;rw[<- hq7] at EC;clear hq1 hq2 HS hb3 HQ HSJ;rw[if_pos rfl] at EC;obtain rfl:=Oa.out 10 UQ.out EC (by decide);clear EC hq3 hq4 hq5 hq6 hq7 HWY Jv Ho HQA Yl hnm;have hst:=ZF (a':=none) (n':=0) (k':=0) (c':=0) IW.out;have Zp:=Z9 (ZT Bo.out Jp.out (ZU none 0 0 0));have YL:=Z9 (ZP hst.2);have hst1:=hst.1;generalize World.setRow V2 g1 (ZU none 0 0 0)=V9 at *
    clear hst;go_upto_region 8 with fail;refine wl<|ZV (.agg #[.slice none 0 0,Z7 0])<|Zr rfl (hst1)<|ZV (Z8 10)<|wn ?_;simp only[pu];clear hst1 IW;go_wp2_with fail;exact bodyPost_ret (ZO (p:=2) (q:=3) rfl (by kernel_rfl) YL.out rfl) rfl (Xj.err Zp.out)
   ·refine wl<|ZV (Z5 g4 0)<|ZK rfl ⟨g4,0,none⟩ (.string y.1) (hbx.ZQ 0)<|YW ZW (fun w'=>V2=w') (CN) (fun V3 VR=>?_);refine ZV ZY<|wn ?_;simp only[pu];subst VR;have hb3:=hb2;have Yl:=Z9 hbx;clear hbx CN hb2;obtain⟨a9,k9,B,hq1,hq2,hq3,hq4,hq5,hq6,hq7⟩:=HS.out;have Jv:=Z9 (hq1.below hq1.lt hb3);have Ho:=Z9 (own_below hq2 hb3);have IW:=Z9 (HQ.out.1.below HQ.out.1.lt hb3);have Bo:=Z9 (HQ.out.2.1.trans (hb3.mono HQ.out.2.1.size));have HQA:=Z9 (HQ.out.2.2.1.below hb3);have HQW:Hid (W.heap.size<=V2.heap.size):=Z9 (Nat.le_trans HQ.out.2.2.2 hb3.size);have EC:=HSJ.out B hlt;rw[<- hq7] at EC;clear hq1 hq2 HS hb3 HQ HSJ;rw[if_neg (by simp)] at EC;have HMB:Hid (B.length<=256):=Z9 (by have:=UQ.out; omega);obtain⟨m,hm⟩:=ZR B.length;obtain⟨a8,k8,ea,hcb,hck⟩:=YH Ho.out;simp only[Value.slice.injEq,true_and] at ea;obtain⟨rfl,rfl⟩:=ea;have CP:=OM a9 k9 B y.1 V2 hcb (by have:=HMB.out; omega);by_cases hf:YV B y.1<B.length
    ·rw[if_pos hf] at EC;rw[show Pq B y.1=((YV B y.1:Nat):Int) from if_pos hf] at CP;obtain rfl:=Oa.out 8 UQ.out EC (by decide);generalize YV B y.1=li at *
     rw[hm] at Jv Ho CP;clear EC hq4 hq5 hq6 hq7 HWY hcb hck hf hnm;go_upto_region 9 with fail;refine wl<|ZV (Z5 g2 0)<|ZK rfl ⟨g2,0,none⟩ (.slice a9 m k9) (Jv.out.ZQ 0)<|ZV (Z5 g4 0)<|ZK rfl ⟨g4,0,none⟩ (.string y.1) (Yl.out.ZQ 0) <|
      YW (Z8 li) (fun w'=>Below V2.heap.size V2 w') (CP) (fun V4 RF=>?_)
     refine ZN (U8 rfl li 0 dT)<|wn ?_;simp only[pu]
     replace IW:=Z9 (IW.out.below IW.out.lt RF)
     replace Bo:=Z9 (Bo.out.trans (RF.mono Bo.out.size))
     clear CP;clear Jv Ho HQA Yl RF;have hst:=ZF (a':=none) (n':=0) (k':=0) (c':=0) IW.out;have Zp:=Z9 (ZT Bo.out Jp.out (ZU none 0 0 0));have YL:=Z9 (ZP hst.2);have hst1:=hst.1;generalize World.setRow V4 g1 (ZU none 0 0 0)=V9 at *
     clear hst;go_upto_region 10 with fail;refine wl<|ZV (.agg #[.slice none 0 0,Z7 0])<|Zr rfl (hst1)<|ZV (Z8 8)<|wn ?_;simp only[pu];clear hst1 IW;go_wp2_with fail;exact bodyPost_ret (ZO (p:=2) (q:=3) rfl (by kernel_rfl) YL.out rfl) rfl (Xj.err Zp.out)
    ·rw[if_neg hf] at EC;rw[show Pq B y.1=-1 from if_neg hf] at CP;have CI:=fun V (h:Cs V a9 (acc B))=>Me a9 k9 B y V h hck (by have:=HMB.out; omega);have HPS:Hid (Jq (Yt B y)/\Bq (Yt B y)/\TM (Yt B y)/\(Yt B y).length=j+1):=Z9 ⟨OL hq4,OJ hq5 hnm,HWY.out B hq6,by rw[Wv,if_neg hf]; omega⟩;have HSP:=Z9 EC;generalize Yt B y=P at *
     rw[hm] at Jv Ho CP CI;clear EC hq4 hq5 hq6 hq7 HWY hcb hf hnm;go_upto_region 9 with fail;refine wl<|ZV (Z5 g2 0)<|ZK rfl ⟨g2,0,none⟩ (.slice a9 m k9) (Jv.out.ZQ 0)<|ZV (Z5 g4 0)<|ZK rfl ⟨g4,0,none⟩ (.string y.1) (Yl.out.ZQ 0) <|
      YW (Z8 (-1)) (fun w'=>Below V2.heap.size V2 w') (CP) (fun V4 RF=>?_)
     refine ZN (U8 rfl (-1) 0 dF)<|wn ?_;simp only[pu]
     replace IW:=Z9 (IW.out.below IW.out.lt RF)
     replace Bo:=Z9 (Bo.out.trans (RF.mono Bo.out.size))
     clear CP
     replace Jv:=Z9 (Jv.out.below Jv.out.lt RF)
     replace Ho:=Z9 (own_below Ho.out RF)
     replace HQA:=Z9 (HQA.out.below RF)
     replace HQW:Hid (W.heap.size<=V4.heap.size):=Z9 (Nat.le_trans HQW.out RF.size)
     have HY4:=Z9 (Yl.out.below Yl.out.lt RF);clear Yl RF;have CJ:=CI V4 (by obtain⟨a7,k7,e7,hc7,-⟩:=YH Ho.out; simp only[Value.slice.injEq,true_and] at e7; obtain⟨rfl,rfl⟩:=e7; exact hc7);clear CI;go_upto_region 11 with fail;refine wl<|ZV (Z5 g2 0)<|ZK rfl ⟨g2,0,none⟩ (.slice a9 m k9) (Jv.out.ZQ 0)<|ZK rfl ⟨g4,0,none⟩ (.agg (Zt y)) (Y9 HY4.out) <|
      XZ (fun v w'=>Zf w' W.heap.size v P/\Below W.heap.size V4 w') (CJ.mono fun e w' q=>by obtain⟨v,h1,h2,h3⟩:=q; exact⟨v,h1,own_base h2 HQW.out,h3.mono HQW.out⟩) (fun v5 V5 hq=>?_)
     obtain⟨NV,hb5⟩:=hq;obtain⟨a5,k5,rfl,-,-⟩:=NV.cs;obtain⟨V6,VX,NU,hb6,Xw⟩:=G8 (a':=a5) (n':=P.length) (k':=k5) (Jv.out.below Rf.out.2.1 hb5) (B:=w.heap.size) (w0:=w) (Bo.out.trans (hb5.mono (by have:=av1.out; omega))) (by have:=aL6.out; omega);refine ZV (Z5 g2 0)<|Zr rfl (VX)<|wn ?_;simp only[pu];have Bj:Hid (∃ (a9:Option Addr) (k9:Nat) (B:List Ac),Bx V6 g2 (ZU a9 B.length k9 0) 30/\Zf V6 W.heap.size (.slice a9 B.length k9) B/\B.length=j+1/\Jq B/\Bq B/\TM B/\GS0=WS B (A.drop (j+1))):=Z9 ⟨a5,k5,P,NU,Zq NV Xw Rf.out.2.1,HPS.out.2.2.2,HPS.out.1,HPS.out.2.1,HPS.out.2.2.1,HSP.out⟩;have HQ6:Hid (Bx V6 g1 (ZU none 0 0 0) 30/\Below w.heap.size w V6/\Cs V6 (some ⟨b,off,none⟩) (acc A)/\W.heap.size<=V6.heap.size):=Z9 ⟨(IW.out.below Rf.out.1 hb5).but Xw Rf.out.2.2,hb6,HAT.out V6 hb6,Nat.le_trans HQW.out (Nat.le_trans hb5.size Xw.1.size)⟩;clear NV hb5 VX NU hb6 Xw CJ HY4 Jv Ho HQA IW Bo HQW HPS HSP;go_upto_region 12 with fail;refine wl<|YC (Z8 (j+1:Nat)) (ZH rfl j 1 (by omega))<|ZV (Z8 (j+1:Nat))<|wn ?_;simp only[pu];go_wp2_with fail;go_roundg (n-(j+1))
     case measure=>have:=HG.out; omega
     case rel=>exact⟨j+1,rfl,hlt,Bj,HQ6,rfl⟩
  ·obtain rfl:n=j:=(by omega);obtain⟨a9,k9,B,hq1,hq2,hq3,hq4,hq5,hq6,hq7⟩:=HS.out;rw[HEN.out B] at hq7;obtain rfl:=AZ.out B UQ.out hq7;obtain⟨a8,k8,ea,hcb,hck⟩:=hq2.cs;simp only[Value.slice.injEq,true_and] at ea;obtain⟨rfl,rfl⟩:=ea;have CT:=IV a9 k9 B 0 wr hcb (by have:=UQ.out; omega) WO hq6;have IW:=Z9 HQ.out.1;have Bo:=Z9 HQ.out.2.1;have Jv:=Z9 hq1;have Ho:=Z9 (show wr.ownsRow W.heap.size 56 3 (.slice a9 B.length k9) B.length (acc B) from hq2);have HRR:Hid (vY B=cond (Xu B 0) (B,0,0) ([],0,6)):=Z9 (by unfold vY; cases Xu B 0 <;> simp);clear HQ HS hq1 hq2 hq3 hq4 hq5 hq6 hq7 HEN AZ Oa HST Xi HWJ HZZ hcb hck HAT;generalize hm:B.length=m at *
   generalize vY B=rr at *
   go_upto_region 5 with fail;refine wl<|ZN (Zy rfl (n) (n) dF)<|wn ?_;simp only[pu];generalize Jo B 0=tv at *
   generalize Xu B 0=tb at *
   cases tb
   ·obtain rfl:=HRR.out;go_upto_region 13 with fail;refine wl<|ZK rfl ⟨g2,0,none⟩ (.agg (ZU a9 m k9 0)) (ZP Jv.out)<|YW (.tuple #[Z7 tv,ZY]) (fun w'=>Below wr.heap.size wr w') (CT) (fun V4 RF=>?_);have ag5:=Z9 (IW.out.below IW.out.lt RF);have ag6:=Z9 (Bo.out.trans (RF.mono Bo.out.size));have av2:=Z9 (own_below Ho.out RF);have av3:=Z9 (Jv.out.below Jv.out.lt RF);refine Rq (.tuple #[Z7 tv,ZY]) (Z7 tv) ZY (Z7 tv) ZY<|wn ?_;simp only[pu];clear CT RF;go_upto_region 14 with fail;refine wl<|ZG ZY ZW<|wn ?_;simp only[pu];have hst:=ZF (a':=none) (n':=0) (k':=0) (c':=0) ag5.out;have Zp:=Z9 (ZT ag6.out Jp.out (ZU none 0 0 0));have YL:=Z9 (ZP hst.2);have hst1:=hst.1;generalize World.setRow V4 g1 (ZU none 0 0 0)=V9 at *
    clear hst;go_upto_region 15 with fail;refine wl<|ZV (.agg #[.slice none 0 0,Z7 0])<|Zr rfl (hst1)<|ZV (Z8 6)<|wn ?_;simp only[pu];clear hst1;go_wp2_with fail;exact bodyPost_ret (ZO (p:=2) (q:=3) rfl (by kernel_rfl) YL.out rfl) rfl (Xj.err Zp.out)
   ·obtain rfl:=HRR.out;go_upto_region 13 with fail;refine wl<|ZK rfl ⟨g2,0,none⟩ (.agg (ZU a9 m k9 0)) (ZP Jv.out)<|YW (.tuple #[Z7 tv,ZW]) (fun w'=>Below wr.heap.size wr w') (CT) (fun V4 RF=>?_);have ag5:=Z9 (IW.out.below IW.out.lt RF);have ag6:=Z9 (Bo.out.trans (RF.mono Bo.out.size));have av2:=Z9 (own_below Ho.out RF);have av3:=Z9 (Jv.out.below Jv.out.lt RF);refine Rq (.tuple #[Z7 tv,ZW]) (Z7 tv) ZW (Z7 tv) ZW<|wn ?_;simp only[pu];clear CT RF;go_upto_region 14 with fail;refine wl<|ZG ZW ZY<|wn ?_;simp only[pu];have hst:=ZF (a':=a9) (n':=m) (k':=k9) (c':=0) ag5.out;have Zp:=Z9 (ZT ag6.out Jp.out (ZU a9 m k9 0));have YL:=Z9 (ZP hst.2);have hst1:=hst.1;have HE:=Z9 (AQ (x:=ZU a9 m k9 0) av2.out Rf.out.1);generalize World.setRow V4 g1 (ZU a9 m k9 0)=V9 at *
    clear hst;go_upto_region 16 with fail;refine wl<|ZK rfl ⟨g2,0,none⟩ (.agg (ZU a9 m k9 0)) (ZP av3.out)<|Zr rfl (hst1)<|ZV (Z8 0)<|wn ?_;simp only[pu];clear hst1;go_wp2_with fail;exact bodyPost_ret (ZO (p:=2) (q:=3) rfl (by kernel_rfl) YL.out rfl) rfl ⟨a9,k9,by rw[hm]; rfl,by have:=own_base HE.out av1.out; rw[<- hm] at this; exact this,Zp.out⟩
theorem ag0 {A:List Ac}{c:Int}{a:Ac}(h:YE A c≠0):OT A c a=([],0,YE A c):=if_pos h
theorem ag1 {A:List Ac}{c:Int}{a:Ac}(h:YE A c=0)(h1:isName (nums a.1)=false):OT A c a=([],0,10):=by
 unfold OT;rw[if_neg (by rw[h]; simp),if_pos h1]
theorem qM {A:List Ac}{c:Int}{a:Ac}(h:YE A c=0)(h1:isName (nums a.1)=true)(h2:256<(Yt A a).length):OT A c a=([],0,3):=by
 unfold OT;rw[if_neg (by rw[h]; simp),if_neg (by rw[h1]; simp),if_pos h2]
theorem He {A:List Ac}{c:Int}{a:Ac}(h:YE A c=0)(h1:isName (nums a.1)=true)(h2:¬ 256<(Yt A a).length):OT A c a=cond (Xu (Yt A a) c) (Yt A a,c,0) ([],0,6):=by
 unfold OT;rw[if_neg (by rw[h]; simp),if_neg (by rw[h1]; simp),if_neg h2];cases Xu (Yt A a) c <;> simp
theorem Xt (w:World)(x y z:Array Value)(t u v:Nat):Below w.heap.size w (((w.alloc (.cells x t)).alloc (.cells y u)).alloc (.cells z v))/\Bx (((w.alloc (.cells x t)).alloc (.cells y u)).alloc (.cells z v)) w.heap.size x t/\Bx (((w.alloc (.cells x t)).alloc (.cells y u)).alloc (.cells z v)) (w.heap.size+1) y u/\Bx (((w.alloc (.cells x t)).alloc (.cells y u)).alloc (.cells z v)) (w.heap.size+2) z v:=by
 obtain⟨h1,h2,h3⟩:=YA w x y t u;have hs:((w.alloc (.cells x t)).alloc (.cells y u)).heap.size=w.heap.size+2:=by simp
 have hb:Below ((w.alloc (.cells x t)).alloc (.cells y u)).heap.size ((w.alloc (.cells x t)).alloc (.cells y u)) (((w.alloc (.cells x t)).alloc (.cells y u)).alloc (.cells z v)):=(Below.refl _ _).alloc (Nat.le_refl _) _;have hz:Bx (((w.alloc (.cells x t)).alloc (.cells y u)).alloc (.cells z v)) ((w.alloc (.cells x t)).alloc (.cells y u)).heap.size z v:=heap_alloc_last _ _;rw[hs] at hz;exact⟨h1.trans (hb.mono h1.size),h2.below h2.lt hb,h3.below h3.lt hb,hz⟩
theorem Xj.ok {w V:World}{ad:Option Addr}{m kk:Nat}{P:List Ac}{c:Int}(hl:P.length=m)(hr:V.ownsRow w.heap.size 56 3 (.slice ad m kk) P.length (acc P))(hb:Below w.heap.size w V):Xj w (P,c,0) (.returned (.tuple #[.agg (ZU ad m kk c),Z8 0])) V:=by
 subst hl;exact⟨ad,kk,rfl,hr,hb⟩
theorem ag2 {w w':World}{B e s n:Nat}{v:Value}{xs:List Value}(h:w.ownsRow B e s v n xs)(hq:∀ q,v.ownBlock=some q->w'.heap[q]?=w.heap[q]?):w'.ownsRow B e s v n xs:=by
 refine⟨h.1,?_⟩;rcases h.2 with h1 | ⟨g,cap,cur,rfl,hB,hg,r⟩
 ·exact .inl h1
 ·exact .inr ⟨g,cap,cur,rfl,hB,(hq g rfl).trans hg,r⟩
theorem aa8 (a:Option Addr)(k:Nat)(A:List Ac)(c:Int)(x:Ac)(w:World)(hR:Cs w a (acc A))(hk:A.length<=k)(hn:A.length<=4398046511104)(hc:W64 c)(hw:TM A)(hz:∀ x,x∈A->x.1.size<=140737488355328)(hxw:W64 x.2.1/\W64 x.2.2)(hxz:x.1.size<=140737488355328) :
  Calls Tryz.prog 111 #[.agg (ZU a A.length k c),.agg (Zt x)] w (Xj w (OT A c x)):=by
 obtain⟨hb0,hX0,hY0,Ro⟩:=Xt w (ZU a A.length k c) (Zt x) (ZU none 0 0 0) 30 56 30;obtain⟨W0,hW0⟩:=ZR (((w.alloc (.cells (ZU a A.length k c) 30)).alloc (.cells (Zt x) 56)).alloc (.cells (ZU none 0 0 0) 30));rw[hW0] at hb0 hX0 hY0 Ro;have HA:=Z9 (hR.below hb0);have CV:=Sv a k A c W0 (hR.below hb0) hn hc hw hz;have CN:=fun V=>OQ x.1 V;have MF:=Z9 (fun V (h1:Jq A) (h2:A.length<=1000000) (h:Cs V a (acc A))=>je a k A x.1 V h h1 h2);have HCL:=Z9 (fun V (h2:A.length<=1000) (h:Cs V a (acc A))=>G9 a k A V h (by omega));have HIN:=Z9 (fun(v:Value) (B:Nat) (V:World) (h:Zf V B v A) (h1:B<=V.heap.size) (h2:A.length<=1000)=>qL v A x (Yf A x.1) B V h h1 (Rh A x.1) h2);have HLI:=Z9 (fun(ad:Option Addr) (kk:Nat) (V:World) (h:Cs V ad (acc (Yt A x))) (h1:(Yt A x).length<=4398046511104)=>IZ ad kk (Yt A x) c V h h1 hc (EI hw hxw));have HPF:=Z9 (@UR A x);have HPN:=Z9 (@Qz A x);have jA:=Z9 (fun(h:Jq A) (hf:YV A x.1<A.length)=>yF h hf);obtain⟨r,hr⟩:=ZR (OT A c x);have EG:Hid (YE A c≠0->r=([],0,YE A c)):=Z9 fun h=>by rw[<- hr]; exact ag0 h
 have HE2:Hid (YE A c=0->isName (nums x.1)=false->r=([],0,10)):=Z9 fun h h1=>by rw[<- hr]; exact ag1 h h1
 have MC:Hid (YE A c=0->isName (nums x.1)=true->256<(Yt A x).length->r=([],0,3)):=Z9 fun h h1 h2=>by rw[<- hr]; exact qM h h1 h2
 have HE4:Hid (YE A c=0->isName (nums x.1)=true->¬ 256<(Yt A x).length->r=cond (Xu (Yt A x) c) (Yt A x,c,0) ([],0,6)):=Z9 fun h h1 h2=>by rw[<- hr]; exact He h h1 h2
 have AZ:=Z9 (@Vx A c);have HFU:=Z9 (@qK A x);rw[hr];obtain⟨n,hnn⟩:=ZR A.length;have HN:=Z9 hnn;have HKK:Hid (n<=k):=Z9 (by omega);rw[hnn] at hX0 hW0 CV AZ HFU;rw[hnn];generalize hnm:isName (nums x.1)=nm at *
 generalize vZ:YE A c=ve at *
 have au9:=Z9 hW0;clear hR hn hr hw hz hc hxw hxz hk hnm vZ hW0;go_enter Tryz.func111,Tryz.ntmps111;go_upto_region 1 with fail;change Code.wp _ _ _ _ (((w.alloc (.cells (ZU a n k c) 30)).alloc (.cells (Zt x) 56)).alloc (.cells (ZU none 0 0 0) 30));rw[au9.out];clear au9;obtain⟨g0,hg0⟩:=ZR w.heap.size;obtain⟨g1,hg1⟩:=ZR (w.heap.size+1);obtain⟨g2,hg2⟩:=ZR (w.heap.size+2);have Rf:Hid (w.heap.size<=g0/\w.heap.size<=g2/\g0<W0.heap.size/\g1<W0.heap.size/\g2<W0.heap.size/\g1≠g0/\g2≠g0/\w.heap.size<=W0.heap.size):=Z9 ⟨by omega,by omega,by have:=hX0.lt; omega,by have:=hY0.lt; omega,by have:=Ro.lt; omega,by omega,by omega,hb0.size⟩;have HB0:=Z9 hb0;rw[hg0] at hX0;rw[hg1] at hY0;rw[hg2] at Ro;simp only[hg0];rw[show g0+1=g1 by omega,show g1+1=g2 by omega];have HX:=Z9 hX0;have HY:=Z9 hY0;have HZ:=Z9 Ro;clear hb0 hg0 hg1 hg2 hX0 hY0 Ro hnn;refine wl<|ZK rfl ⟨g0,0,none⟩ (.agg (ZU a n k c)) (ZP HX.out)<|YW (Z8 ve) (fun w'=>Below W0.heap.size W0 w') (CV) (fun V1 hV1=>?_);have WB:=Z9 (HX.out.below HX.out.lt hV1);have Ju:=Z9 (HY.out.below HY.out.lt hV1);have HZ1:=Z9 (HZ.out.below HZ.out.lt hV1);have HB1:=Z9 (HB0.out.trans (hV1.mono HB0.out.size));have HA1:=Z9 (HA.out.below hV1);have HW1:Hid (W0.heap.size<=V1.heap.size):=Z9 hV1.size;refine ZV (Z8 ve)<|wn ?_;simp only[pu];clear CV hV1 HX HY HZ HB0 HA;by_cases hv:ve=0
 ·subst hv;obtain⟨h256,hsrt,aL5,-⟩:=AZ.out rfl;have HSR:=Z9 hsrt;have H256:=Z9 h256;clear hsrt aL5 h256 EG AZ;go_upto_region 2 with fail;refine wl<|ZV (Z8 0)<|ZN (Za rfl 0 0 (decide_eq_true rfl))<|wn ?_;simp only[pu];have CN1:=CN V1;clear CN;go_upto_region 4 with fail;cases nm
  ·refine wl<|ZV (Z5 g1 0)<|ZK rfl ⟨g1,0,none⟩ (.string x.1) (Ju.out.ZQ 0)<|YW ZY (fun w'=>Below V1.heap.size V1 w') (CN1) (fun V2 hV2=>?_)
   replace WB:=Z9 (WB.out.below WB.out.lt hV2)
   replace Ju:=Z9 (Ju.out.below Ju.out.lt hV2)
   replace HZ1:=Z9 (HZ1.out.below HZ1.out.lt hV2)
   replace HB1:=Z9 (HB1.out.trans (hV2.mono HB1.out.size))
   replace HA1:=Z9 (HA1.out.below hV2)
   replace HW1:Hid (W0.heap.size<=V2.heap.size):=Z9 (Nat.le_trans HW1.out hV2.size)
   refine ZV ZW<|wn ?_;simp only[pu];clear CN1 hV2;obtain rfl:=HE2.out rfl rfl;have hst:=ZF (a':=none) (n':=0) (k':=0) (c':=0) HZ1.out;have Zp:=Z9 (ZT HB1.out Rf.out.2.1 (ZU none 0 0 0));have YL:=Z9 (ZP hst.2);have hst1:=hst.1;generalize World.setRow V2 g2 (ZU none 0 0 0)=V9 at *
   clear hst;go_upto_region 5 with fail;refine wl<|ZV (.agg #[.slice none 0 0,Z7 0])<|Zr rfl (hst1)<|ZV (Z8 10)<|wn ?_;simp only[pu];clear hst1;go_wp2_with fail;exact bodyPost_ret (ZO (p:=4) (q:=5) rfl (by kernel_rfl) YL.out rfl) rfl (Xj.err Zp.out)
  ·refine wl<|ZV (Z5 g1 0)<|ZK rfl ⟨g1,0,none⟩ (.string x.1) (Ju.out.ZQ 0)<|YW ZW (fun w'=>Below V1.heap.size V1 w') (CN1) (fun V2 hV2=>?_)
   replace WB:=Z9 (WB.out.below WB.out.lt hV2)
   replace Ju:=Z9 (Ju.out.below Ju.out.lt hV2)
   replace HZ1:=Z9 (HZ1.out.below HZ1.out.lt hV2)
   replace HB1:=Z9 (HB1.out.trans (hV2.mono HB1.out.size))
   replace HA1:=Z9 (HA1.out.below hV2)
   replace HW1:Hid (W0.heap.size<=V2.heap.size):=Z9 (Nat.le_trans HW1.out hV2.size)
   refine ZV ZY<|wn ?_;simp only[pu];clear CN1 hV2;have ag3:=Z9 (MC.out rfl rfl);have jd:=Z9 (HE4.out rfl rfl);have qJ:=Z9 (HFU.out H256.out);clear HE2 MC HE4 HFU;have CP:=MF.out V2 HSR.out (by rw[HN.out]; have:=H256.out; omega) HA1.out;rw[HN.out] at CP;by_cases hf:YV A x.1<n
   ·rw[decide_eq_true hf] at CP;have hle:=Rh A x.1;rw[HN.out] at hle;have hfl:=jA.out HSR.out (by rw[HN.out]; exact hf);go_upto_region 6 with fail;refine wl<|ZV (Z5 g0 0)<|ZK rfl ⟨g0,0,none⟩ (.slice a n k) (WB.out.ZQ 0)<|ZV (Z5 g1 0)<|ZK rfl ⟨g1,0,none⟩ (.string x.1) (Ju.out.ZQ 0) <|
     YW (.tuple #[Z8 (Yf A x.1:Nat),ZW]) (fun w'=>Below V2.heap.size V2 w') (CP) (fun V3 VR=>?_)
    refine Rq (.tuple #[Z8 (Yf A x.1:Nat),ZW]) (Z8 (Yf A x.1:Nat)) ZW (Z8 (Yf A x.1:Nat)) ZW<|wn ?_;simp only[pu]
    replace WB:=Z9 (WB.out.below WB.out.lt VR)
    replace Ju:=Z9 (Ju.out.below Ju.out.lt VR)
    replace HZ1:=Z9 (HZ1.out.below HZ1.out.lt VR)
    replace HB1:=Z9 (HB1.out.trans (VR.mono HB1.out.size))
    replace HA1:=Z9 (HA1.out.below VR)
    replace HW1:Hid (W0.heap.size<=V3.heap.size):=Z9 (Nat.le_trans HW1.out VR.size)
    clear CP VR;go_upto_region 7 with fail;refine wl<|Zc ZW ZY ZY undef undef undef<|ZG undef ZY<|wn ?_;simp only[pu];have CC:=HCL.out V3 (by rw[HN.out]; have:=H256.out; omega) HA1.out;rw[HN.out] at CC;go_upto_region 9 with fail;refine wl<|ZV (Z5 g0 0)<|ZK rfl ⟨g0,0,none⟩ (.slice a n k) (WB.out.ZQ 0)<|XZ (fun v w'=>Zf w' V3.heap.size v A/\Below V3.heap.size V3 w') CC (fun v5 V5 hq=>?_);obtain⟨NV,hb5⟩:=hq;obtain⟨a5,k5,rfl,-,-⟩:=NV.cs;rw[HN.out];obtain⟨V6,VX,NU,hb6,Xw⟩:=G8 (a':=a5) (n':=n) (k':=k5) (WB.out.below WB.out.lt hb5) (B:=w.heap.size) (w0:=w) (HB1.out.trans (hb5.mono HB1.out.size)) Rf.out.1;have I5:V6.ownsRow W0.heap.size 56 3 (.slice a5 n k5) n (acc A):=(by have:=own_base (Zq NV Xw (Nat.lt_of_lt_of_le Rf.out.2.2.1 HW1.out)) HW1.out; rwa [HN.out] at this);have HY6:=Z9 ((Ju.out.below Ju.out.lt hb5).but Xw Rf.out.2.2.2.2.2.1);have HZ6:=Z9 ((HZ1.out.below HZ1.out.lt hb5).but Xw Rf.out.2.2.2.2.2.2.1);have Yh:=Z9 hb6;have XP:=Z9 NU;have MV:Hid (W0.heap.size<=V6.heap.size):=Z9 (Nat.le_trans HW1.out (Nat.le_trans hb5.size Xw.1.size));have MS:=Z9 I5;refine ZV (Z5 g0 0)<|Zr rfl (VX)<|wn ?_;simp only[pu];clear NV hb5 VX NU hb6 Xw I5 CC WB Ju HZ1 HB1 HA1 HW1;go_upto_region 10 with fail;refine wl<|ZV ZW<|wn ?_;simp only[pu];obtain⟨g5,e5,hg5,-⟩:=TL MS.out (by omega);subst e5;obtain⟨V7,Xe,KZ,hb7,G7⟩:=AY (show Zf V6 W0.heap.size (.slice (some ⟨g5,0,none⟩) n k5) A by unfold Zf; rw[HN.out]; exact MS.out) HN.out.symm (i:=Yf A x.1) (by rw[HN.out]; omega) x;rw[hfl,<- HPF.out (by rw[HN.out]; exact hf)] at KZ;have hpl:(Yt A x).length=n:=(by rw[Wv,if_pos (by rw[HN.out]; exact hf)]; exact HN.out);have HXB:=Z9 XP.out;have PX:=Z9 (XP.out.below Rf.out.2.2.1 hb7);have jc:=Z9 (HZ6.out.below Rf.out.2.2.2.2.1 hb7);have Vd:=Z9 (Yh.out.trans (hb7.mono Rf.out.2.2.2.2.2.2.2));have qI:=Z9 KZ;have iZ:=Z9 hpl;clear hg5 KZ hb7 G7 XP HZ6 Yh MS hpl;go_upto_region 11 with fail;refine wl<|ZV (Z5 g0 0)<|ZK rfl ⟨g0,0,none⟩ (.slice (some ⟨g5,0,none⟩) n k5) (HXB.out.ZQ 0)<|ZV (Z8 (Yf A x.1:Nat))<|ZK rfl ⟨g1,0,none⟩ (.agg (Zt x)) (Y9 HY6.out) <|
     YN (Z5 g5 (0+Yf A x.1*3)) (YK g5 0 n k5 (Yf A x.1) (by omega) _ _ _ rfl (by kernel_rfl) (by kernel_rfl))<|Zr rfl (Xe)<|wn ?_
    simp only[pu];clear Xe HXB HY6;have OZ:=qI.out;obtain⟨a9,k9,e9,hc9,-⟩:=OZ.cs;rw[iZ.out] at e9;simp only[Value.slice.injEq,true_and] at e9;obtain⟨rfl,rfl⟩:=e9;have CT:=HLI.out (some ⟨g5,0,none⟩) k5 V7 hc9 (by rw[iZ.out]; have:=H256.out; omega);have Oa:=jd.out (by intro h; have:=qJ.out.1 h; exact this.1 hf);generalize hP:Yt A x=P at *
    generalize Xu P c=tb at *
    rw[iZ.out] at CT;clear OZ hc9 jd ag3 qJ;go_upto_region 13 with fail;cases tb
    ·obtain rfl:=Oa;refine wl<|ZK rfl ⟨g0,0,none⟩ (.agg (ZU (some ⟨g5,0,none⟩) n k5 c)) (ZP PX.out)<|YW (.tuple #[.agg (ZU none 0 0 0),Z8 6]) (fun w'=>Below V7.heap.size V7 w') CT (fun V10 Q9=>?_);have AX:=Z9 (jc.out.below jc.out.lt Q9);have AV:=Z9 (Vd.out.trans (Q9.mono Vd.out.size));have hst:=ZF (a':=none) (n':=0) (k':=0) (c':=0) AX.out;have Zp:=Z9 (ZT AV.out Rf.out.2.1 (ZU none 0 0 0));have YL:=Z9 (ZP hst.2);have hst1:=hst.1;generalize World.setRow V10 g2 (ZU none 0 0 0)=V9 at *
     clear hst;refine ZG (.agg (ZU none 0 0 0)) (Z8 6)<|Zr rfl (hst1)<|ZV (Z8 6)<|wn ?_;simp only[pu];clear hst1 CT Q9;go_wp2_with fail;exact bodyPost_ret (ZO (p:=4) (q:=5) rfl (by kernel_rfl) YL.out rfl) rfl (Xj.err Zp.out)
    ·obtain rfl:=Oa;refine wl<|ZK rfl ⟨g0,0,none⟩ (.agg (ZU (some ⟨g5,0,none⟩) n k5 c)) (ZP PX.out)<|YW (.tuple #[.agg (ZU (some ⟨g5,0,none⟩) n k5 c),Z8 0]) (fun w'=>Below V7.heap.size V7 w') CT (fun V10 Q9=>?_);have AX:=Z9 (jc.out.below jc.out.lt Q9);have AV:=Z9 (Vd.out.trans (Q9.mono Vd.out.size));have hst:=ZF (a':=(some ⟨g5,0,none⟩)) (n':=n) (k':=k5) (c':=c) AX.out;have Zp:=Z9 (ZT AV.out Rf.out.2.1 (ZU (some ⟨g5,0,none⟩) n k5 c));have YL:=Z9 (ZP hst.2);have hst1:=hst.1;have HE:=Z9 (Zq (own_below qI.out Q9) (But.setRow V10 (g:=g2) (ZU (some ⟨g5,0,none⟩) n k5 c)) Rf.out.2.2.2.2.1);generalize World.setRow V10 g2 (ZU (some ⟨g5,0,none⟩) n k5 c)=V9 at *
     clear hst;refine ZG (.agg (ZU (some ⟨g5,0,none⟩) n k5 c)) (Z8 0)<|Zr rfl (hst1)<|ZV (Z8 0)<|wn ?_;simp only[pu];clear hst1 CT Q9;go_wp2_with fail;exact bodyPost_ret (ZO (p:=4) (q:=5) rfl (by kernel_rfl) YL.out rfl) rfl (Xj.ok iZ.out (own_base HE.out Rf.out.2.2.2.2.2.2.2) Zp.out)
   ·rw[decide_eq_false hf] at CP;have hle:=Rh A x.1;rw[HN.out] at hle;go_upto_region 6 with fail;refine wl<|ZV (Z5 g0 0)<|ZK rfl ⟨g0,0,none⟩ (.slice a n k) (WB.out.ZQ 0)<|ZV (Z5 g1 0)<|ZK rfl ⟨g1,0,none⟩ (.string x.1) (Ju.out.ZQ 0) <|
     YW (.tuple #[Z8 (Yf A x.1:Nat),ZY]) (fun w'=>Below V2.heap.size V2 w') (CP) (fun V3 VR=>?_)
    refine Rq (.tuple #[Z8 (Yf A x.1:Nat),ZY]) (Z8 (Yf A x.1:Nat)) ZY (Z8 (Yf A x.1:Nat)) ZY<|wn ?_;simp only[pu]
    replace WB:=Z9 (WB.out.below WB.out.lt VR)
    replace Ju:=Z9 (Ju.out.below Ju.out.lt VR)
    replace HZ1:=Z9 (HZ1.out.below HZ1.out.lt VR)
    replace HB1:=Z9 (HB1.out.trans (VR.mono HB1.out.size))
    replace HA1:=Z9 (HA1.out.below VR)
    replace HW1:Hid (W0.heap.size<=V3.heap.size):=Z9 (Nat.le_trans HW1.out VR.size)
    clear CP VR;by_cases h25:n=256
    ·obtain rfl:=ag3.out (qJ.out.2 ⟨hf,h25⟩);go_upto_region 7 with fail;refine wl<|WM ZY ZW ZW (Z5 g0 0)<|ZK rfl ⟨g0,0,none⟩ (.slice a n k) (WB.out.ZQ 0)<|ZV (Z8 n) <|
      ZN (ZI rfl n 256 dT)<|ZV ZW<|wn ?_
     simp only[pu];have hst:=ZF (a':=none) (n':=0) (k':=0) (c':=0) HZ1.out;have Zp:=Z9 (ZT HB1.out Rf.out.2.1 (ZU none 0 0 0));have YL:=Z9 (ZP hst.2);have hst1:=hst.1;generalize World.setRow V3 g2 (ZU none 0 0 0)=V9 at *
     clear hst;go_upto_region 8 with fail;refine wl<|ZV (.agg #[.slice none 0 0,Z7 0])<|Zr rfl (hst1)<|ZV (Z8 3)<|wn ?_;simp only[pu];clear hst1;go_wp2_with fail;exact bodyPost_ret (ZO (p:=4) (q:=5) rfl (by kernel_rfl) YL.out rfl) rfl (Xj.err Zp.out)
    ·go_upto_region 7 with fail;refine wl<|WM ZY ZW ZW (Z5 g0 0)<|ZK rfl ⟨g0,0,none⟩ (.slice a n k) (WB.out.ZQ 0)<|ZV (Z8 n) <|
      ZN (ZI rfl n 256 dF)<|ZV ZY<|wn ?_
     simp only[pu];have CC:=HCL.out V3 (by rw[HN.out]; have:=H256.out; omega) HA1.out;rw[HN.out] at CC;go_upto_region 9 with fail;refine wl<|ZV (Z5 g0 0)<|ZK rfl ⟨g0,0,none⟩ (.slice a n k) (WB.out.ZQ 0)<|XZ (fun v w'=>Zf w' V3.heap.size v A/\Below V3.heap.size V3 w') CC (fun v5 V5 hq=>?_);obtain⟨NV,hb5⟩:=hq;obtain⟨a5,k5,rfl,-,-⟩:=NV.cs;rw[HN.out];obtain⟨V6,VX,NU,hb6,Xw⟩:=G8 (a':=a5) (n':=n) (k':=k5) (WB.out.below WB.out.lt hb5) (B:=w.heap.size) (w0:=w) (HB1.out.trans (hb5.mono HB1.out.size)) Rf.out.1;have I5:V6.ownsRow W0.heap.size 56 3 (.slice a5 n k5) n (acc A):=(by have:=own_base (Zq NV Xw (Nat.lt_of_lt_of_le Rf.out.2.2.1 HW1.out)) HW1.out; rwa [HN.out] at this);have HY6:=Z9 ((Ju.out.below Ju.out.lt hb5).but Xw Rf.out.2.2.2.2.2.1);have HZ6:=Z9 ((HZ1.out.below HZ1.out.lt hb5).but Xw Rf.out.2.2.2.2.2.2.1);have Yh:=Z9 hb6;have XP:=Z9 NU;have MV:Hid (W0.heap.size<=V6.heap.size):=Z9 (Nat.le_trans HW1.out (Nat.le_trans hb5.size Xw.1.size));have MS:=Z9 I5;refine ZV (Z5 g0 0)<|Zr rfl (VX)<|wn ?_;simp only[pu];clear NV hb5 VX NU hb6 Xw I5 CC WB Ju HZ1 HB1 HA1 HW1;go_upto_region 10 with fail;refine wl<|ZV ZY<|wn ?_;simp only[pu];have CI:=HIN.out (.slice a5 n k5) W0.heap.size V6 (by unfold Zf; rw[HN.out]; exact MS.out) MV.out (by rw[HN.out]; have:=H256.out; omega);rw[<- HPN.out (by rw[HN.out]; exact hf)] at CI;have hpl:(Yt A x).length=n+1:=(by rw[Wv,if_neg (by rw[HN.out]; exact hf),HN.out]);go_upto_region 12 with fail;refine wl<|ZV (Z5 g0 0)<|ZK rfl ⟨g0,0,none⟩ (.slice a5 n k5) (XP.out.ZQ 0)<|ZV (Z8 (Yf A x.1:Nat))<|ZK rfl ⟨g1,0,none⟩ (.agg (Zt x)) (Y9 HY6.out) <|
      XZ (fun v w'=>Zf w' W0.heap.size v (Yt A x)/\Below W0.heap.size V6 w') CI (fun v7 V7 hq=>?_)
     obtain⟨KZ,hb7⟩:=hq;obtain⟨a7,k7,rfl,-,-⟩:=KZ.cs;rw[hpl];obtain⟨V8,XW,OO,hb8,Yw⟩:=G8 (a':=a7) (n':=n+1) (k':=k7) (XP.out.below Rf.out.2.2.1 hb7) (B:=w.heap.size) (w0:=w) (Yh.out.trans (hb7.mono Rf.out.2.2.2.2.2.2.2)) Rf.out.1;have qI:Hid (Zf V8 W0.heap.size (.slice a7 (n+1) k7) (Yt A x)):=Z9 (by rw[<- hpl]; exact Zq KZ Yw Rf.out.2.2.1);have PX:=Z9 OO;have jc:=Z9 ((HZ6.out.below Rf.out.2.2.2.2.1 hb7).but Yw Rf.out.2.2.2.2.2.2.1);have Vd:=Z9 hb8;refine ZV (Z5 g0 0)<|Zr rfl (XW)<|wn ?_;simp only[pu];have iZ:=Z9 hpl;clear KZ hb7 XW OO hb8 Yw CI XP HY6 HZ6 Yh MS hpl;have OZ:=qI.out;obtain⟨a9,k9,e9,hc9,-⟩:=OZ.cs;rw[iZ.out] at e9;simp only[Value.slice.injEq,true_and] at e9;obtain⟨rfl,rfl⟩:=e9;have CT:=HLI.out a7 k7 V8 hc9 (by rw[iZ.out]; have:=H256.out; omega);have Oa:=jd.out (by intro h; have:=qJ.out.1 h; exact h25 this.2);generalize hP:Yt A x=P at *
     generalize Xu P c=tb at *
     rw[iZ.out] at CT;clear OZ hc9 jd ag3 qJ;go_upto_region 13 with fail;cases tb
     ·obtain rfl:=Oa;refine wl<|ZK rfl ⟨g0,0,none⟩ (.agg (ZU a7 (n+1) k7 c)) (ZP PX.out)<|YW (.tuple #[.agg (ZU none 0 0 0),Z8 6]) (fun w'=>Below V8.heap.size V8 w') CT (fun V10 Q9=>?_);have AX:=Z9 (jc.out.below jc.out.lt Q9);have AV:=Z9 (Vd.out.trans (Q9.mono Vd.out.size));have hst:=ZF (a':=none) (n':=0) (k':=0) (c':=0) AX.out;have Zp:=Z9 (ZT AV.out Rf.out.2.1 (ZU none 0 0 0));have YL:=Z9 (ZP hst.2);have hst1:=hst.1;generalize World.setRow V10 g2 (ZU none 0 0 0)=V9 at *
      clear hst;refine ZG (.agg (ZU none 0 0 0)) (Z8 6)<|Zr rfl (hst1)<|ZV (Z8 6)<|wn ?_;simp only[pu];clear hst1 CT Q9;go_wp2_with fail;exact bodyPost_ret (ZO (p:=4) (q:=5) rfl (by kernel_rfl) YL.out rfl) rfl (Xj.err Zp.out)
     ·obtain rfl:=Oa;refine wl<|ZK rfl ⟨g0,0,none⟩ (.agg (ZU a7 (n+1) k7 c)) (ZP PX.out)<|YW (.tuple #[.agg (ZU a7 (n+1) k7 c),Z8 0]) (fun w'=>Below V8.heap.size V8 w') CT (fun V10 Q9=>?_);have AX:=Z9 (jc.out.below jc.out.lt Q9);have AV:=Z9 (Vd.out.trans (Q9.mono Vd.out.size));have hst:=ZF (a':=a7) (n':=(n+1)) (k':=k7) (c':=c) AX.out;have Zp:=Z9 (ZT AV.out Rf.out.2.1 (ZU a7 (n+1) k7 c));have YL:=Z9 (ZP hst.2);have hst1:=hst.1;have HE:=Z9 (Zq (own_below qI.out Q9) (But.setRow V10 (g:=g2) (ZU a7 (n+1) k7 c)) Rf.out.2.2.2.2.1);generalize World.setRow V10 g2 (ZU a7 (n+1) k7 c)=V9 at *
      clear hst;refine ZG (.agg (ZU a7 (n+1) k7 c)) (Z8 0)<|Zr rfl (hst1)<|ZV (Z8 0)<|wn ?_;simp only[pu];clear hst1 CT Q9;go_wp2_with fail;exact bodyPost_ret (ZO (p:=4) (q:=5) rfl (by kernel_rfl) YL.out rfl) rfl (Xj.ok iZ.out (own_base HE.out Rf.out.2.2.2.2.2.2.2) Zp.out)
 ·obtain rfl:=EG.out hv;go_upto_region 2 with fail;refine wl<|ZV (Z8 ve)<|ZN (Za rfl ve 0 (decide_eq_false hv))<|wn ?_;simp only[pu];have hst:=ZF (a':=none) (n':=0) (k':=0) (c':=0) HZ1.out;have Zp:=Z9 (ZT HB1.out Rf.out.2.1 (ZU none 0 0 0));have YL:=Z9 (ZP hst.2);have hst1:=hst.1;generalize World.setRow V1 g2 (ZU none 0 0 0)=V9 at *
  clear hst;go_upto_region 3 with fail;refine wl<|ZG (.agg #[.slice none 0 0,Z7 0]) (Z8 ve)<|Zr rfl (hst1)<|ZV (Z8 ve)<|wn ?_;simp only[pu];clear hst1;go_wp2_with fail;exact bodyPost_ret (ZO (p:=4) (q:=5) rfl (by kernel_rfl) YL.out rfl) rfl (Xj.err Zp.out)
structure K6 (W:World)(P:List Ac)(c:Int)(b3 b6 b7 b8:Bool)(x24 x7:Value)(V:World):Prop where
 bel:Below W.heap.size W V
 row:b3=true->Zf V W.heap.size x24 P
 o3:b8=true->b3=true
 o6:b6=true->b3=true
 o7:b8=true->b7=true
 box:b7=true->∃ g,x7=Z5 g 0/\W.heap.size<=g/\(b8=false->Bx V g (ZU none 0 0 0) 30)/\(b3=true->x24.ownBlock≠some g)/\(b8=true->∃ ad kk,x24=.slice ad P.length kk/\Bx V g (ZU ad P.length kk c) 30)
theorem ag4 {ρ:Operand->Value}{o:Oper}{x y:Operand}(ho:o.op=.binOp .neq 24 x y 24)(a:Int)(hx:ρ x=Z7 a)(hy:ρ y=Z7 a)(w:World):(execOp ρ o).run Tryz.prog w=.ok (.value ZY) w:=by
 unfold execOp;simp only[ho,hx,hy];go_simp
theorem iY {ρ:Operand->Value}{o:Oper}{x y:Operand}(ho:o.op=.binOp .neq 56 x y 56)(a:Ac)(hx:ρ x=.agg (Zt a))(hy:ρ y=.agg (Zt a))(w:World):(execOp ρ o).run Tryz.prog w=.ok (.value ZY) w:=by
 unfold execOp;simp only[ho,hx,hy];go_simp
theorem Uf (A:List Ac)(c:Int)(a1 a2:Option Addr)(c1 c2:Nat)(w:World)(h1:Cs w a1 (acc A))(h2:Cs w a2 (acc A))(hn:A.length<=4398046511104) :
  Calls Tryz.prog 13 #[.agg (ZU a1 A.length c1 c),.agg (ZU a2 A.length c2 c)] w fun e w'=>e=.returned ZW/\Below w.heap.size w w':=by
 obtain⟨hb0,hX0,hY0⟩:=YA w (ZU a1 A.length c1 c) (ZU a2 A.length c2 c) 30 30;have HA1:=Z9 (h1.below hb0);have HA2:=Z9 (h2.below hb0);obtain⟨n,hnn⟩:=ZR A.length;have HN:=Z9 hnn;rw[hnn] at hb0 hX0 hY0 HA1 HA2 hn ⊢;clear hnn h1 h2;go_enter Tryz.func13,Tryz.ntmps13;go_upto_region 1 with fail;change Code.wp _ _ _ _ ((w.alloc (.cells (ZU a1 n c1 c) 30)).alloc (.cells (ZU a2 n c2 c) 30));generalize (w.alloc (.cells (ZU a1 n c1 c) 30)).alloc (.cells (ZU a2 n c2 c) 30)=W at *
 obtain⟨g0,hg0⟩:=ZR w.heap.size;obtain⟨g2,hg2⟩:=ZR (w.heap.size+1);have HB0:=Z9 hb0;rw[hg2] at hY0;rw[hg0] at hX0;simp only[hg0];rw[show g0+1=g2 by omega];have HX:=Z9 hX0;have HY:=Z9 hY0;clear hb0 hg0 hg2 hX0 hY0;refine wl<|ZV (Z5 g0 0)<|ZK rfl ⟨g0,0,none⟩ (.slice a1 n c1) (HX.out.ZQ 0)<|ZG (Z8 n) (Z5 g2 0)<|ZK rfl ⟨g2,0,none⟩ (.slice a2 n c2) (HY.out.ZQ 0) <|
  ZV (Z8 n)<|ZN (IY rfl n n (decide_eq_true rfl))<|ZG ZY (Z5 g0 1)<|ZK rfl ⟨g0,1,none⟩ (Z7 c) (HX.out.ZQ 1)<|ZV (Z5 g2 1) <|
  ZK rfl ⟨g2,1,none⟩ (Z7 c) (HY.out.ZQ 1)<|YC ZY (ag4 rfl c)<|ZV ZY<|wn ?_
 simp only[pu];go_upto_region 3 with fail;refine wl<|ZV (Z5 g0 0)<|ZK rfl ⟨g0,0,none⟩ (.slice a1 n c1) (HX.out.ZQ 0)<|ZG (Z8 n) (Z8 0)<|wn ?_;simp only[pu];go_wp2_with fail;go_loopg [23] n (fun gg s23 wx=>∃ j:Nat,s23=Z8 j/\j<=n/\Hid (Below W.heap.size W wx)/\n-j=gg)
 case atStart=>exact⟨0,rfl,by omega,Z9 (Below.refl _ _),by omega⟩
 case round=>
  obtain⟨j,rfl,hj,HB,hg⟩:=hrel;by_cases hlt:j<n
  ·have HG:Hid (n-(j+1)=gk-1/\0<gk/\j+1<=n/\j+1<=4398046511104):=Z9 ⟨by omega,by omega,by omega,by omega⟩;have hjm:j<A.length:=(by rw[HN.out]; exact hlt);obtain⟨b1,o1,rfl,-,hr1⟩:=YJ (HA1.out.below HB.out) (k:=j) hjm;obtain⟨b2,o2,rfl,-,hr2⟩:=YJ (HA2.out.below HB.out) (k:=j) hjm;have qH:Hid ((Instr.loadAt 56 (Z5 b1 (o1+j*3))).run Tryz.prog wr.drew=.ok (.agg (Zt (aca A j))) wr.drew):=Z9 (XK (w:=wr.drew) hr1);have HL2:Hid ((Instr.loadAt 56 (Z5 b2 (o2+j*3))).run Tryz.prog wr.drew=.ok (.agg (Zt (aca A j))) wr.drew):=Z9 (XK (w:=wr.drew) hr2);have AU:=Z9 (HX.out.below HX.out.lt HB.out.drew);have HY9:=Z9 (HY.out.below HY.out.lt HB.out.drew);have Zp:=Z9 HB.out.drew;generalize aca A j=y at *
   clear hr1 hr2 hjm hg HB;go_upto_region 4 with fail;refine wl<|ZN (Zy rfl (j) (n) dT)<|wn ?_;simp only[pu];go_upto_region 5 with fail;refine wl<|ZG (Z8 j) (Z8 j)<|wn ?_;simp only[pu];go_upto_region 6 with fail;refine ZJ (C:=fun U=>U=wr.drew) (by kernel_rfl) (by kernel_rfl) (rfl) ?_;refine gy (Z5 g0 0)<|VN rfl ⟨g0,0,none⟩ (.slice (some ⟨b1,o1,none⟩) n c1) (fun U hU=>by rw[hU]; exact AU.out.ZQ 0)<|gy (Z8 j) <|
     X0 (Z5 b1 (o1+j*3)) (fun U hU=>YK b1 o1 n c1 j hlt _ _ _ rfl (by kernel_rfl) (by kernel_rfl))<|VN rfl ⟨b1,o1+j*3,none⟩ (.agg (Zt y)) (fun U hU=>by rw[hU]; exact qH.out)<|gy (Z5 g2 0) <|
     VN rfl ⟨g2,0,none⟩ (.slice (some ⟨b2,o2,none⟩) n c2) (fun U hU=>by rw[hU]; exact HY9.out.ZQ 0)<|gy (Z8 j)<|X0 (Z5 b2 (o2+j*3)) (fun U hU=>YK b2 o2 n c2 j hlt _ _ _ rfl (by kernel_rfl) (by kernel_rfl)) <|
     VN rfl ⟨b2,o2+j*3,none⟩ (.agg (Zt y)) (fun U hU=>by rw[hU]; exact HL2.out)<|X0 ZY (fun U hU=>iY rfl y (by kernel_rfl) (by kernel_rfl) _) ?_
   simp only[pu];apply wpQuiet_nil;intro U hU;subst hU;clear qH HL2 AU HY9;go_upto_region 8 with fail;refine wl<|YC (Z8 (j+1:Nat)) (ZH rfl j 1 (by have:=HG.out; omega))<|ZV (Z8 (j+1:Nat))<|wn ?_;simp only[pu];go_wp2_with fail;go_roundg (gk-1)
   case measure=>have:=HG.out; omega
   case rel=>exact⟨j+1,rfl,HG.out.2.2.1,Zp,HG.out.1⟩
  ·have Zp:=Z9 (HB0.out.trans (HB.out.mono HB0.out.size));clear HB hg;go_upto_region 4 with fail;refine wl<|ZN (Zy rfl (j) (n) dF)<|wn ?_;simp only[pu];go_upto_region 9 with fail;refine wl<|ZV ZW<|wn ?_;simp only[pu];go_wp2_with fail;go_ret;exact⟨rfl,Zp.out⟩
end Go.Proofs.YtfpnnmeblefkkaaGreatDoor.Lg
namespace Go.Proofs.YtfpnnmeblefkkaaGreatDoor.Lg
open Go.RowKit
theorem jg (a:Option Addr)(cap:Nat)(l:List Int)(w:World)(hl:l.length<=9223372036854775807)(hc:∀ k,k<l.length->∃ b off,a=some ⟨b,off,none⟩/\w.cell? ⟨b,off+k,none⟩=some (Z7 (l.getD k 0)))(hw:∀ k,k<l.length->W64 (l.getD k 0)) :
  Calls Tryz.prog 81 #[.slice a l.length cap] w fun e w'=>e=.returned (.tuple #[Z7 (La l),.bool (Lc l)])/\w=w':=by
 go_enter Tryz.func81,Tryz.ntmps81;go_wp2_with fail;go_loopg [4,11] l.length (fun g s4 s11 wx=>w=wx/\∃ k:Nat,k<=l.length/\s4=Z7 (tot (l.take k))/\s11=Z8 k/\l.length-k=g/\Hid (tot (l.take k)<18446744073709551616))
 case atStart=>exact⟨rfl,0,by omega,rfl,rfl,rfl,Z9 (by simp[tot])⟩
 case round=>
  obtain⟨rfl,k,hk,rfl,rfl,rfl,ht⟩:=hrel;by_cases hlt:k<l.length
  ·obtain⟨b,off,ea,hcell⟩:=hc k hlt;have hx:=hw k hlt;have hts:=EH l k hlt;have ht0:=WT (l.take k) (fun x hx=>(NW l hw x (List.mem_of_mem_take hx)).1);have hA:=fun w=>yG (tot (l.take k)) (l.getD k 0) w ⟨ht0,by have:=ht.out; omega⟩ hx;have hle:=Ug l hw (k+1);obtain⟨x,hxe⟩:=ZR (l.getD k 0);obtain⟨t,hte⟩:=ZR (tot (l.take k));rw[hxe] at hcell hx hts hA;rw[hte] at hts hA ht0 ht;rw[hts] at hle;rw[hte];subst ea;clear hxe hte hc hw;by_cases hs:t+x<18446744073709551616
   ·have e1:MX t x=t+x:=if_pos hs;have e2:MW t x=true:=decide_eq_true hs;rw[e1,e2] at hA;have HS:=Z9 hts;have hs':=Z9 hs;clear e1 e2 hts hle;go_wp2_with (go_at_call 112; refine(hA _).mono ?_; rintro e w' ⟨rfl,rfl⟩)
    go_roundg (l.length-(k+1))
    case measure=>omega
    case rel=>exact⟨rfl,k+1,by omega,by rw[HS.out],by first | rfl | go_num,rfl,by rw[HS.out]; exact hs'⟩
   ·have e1:MX t x=0:=if_neg hs;have e2:MW t x=false:=decide_eq_false hs;rw[e1,e2] at hA;have f1:=Z9 (show La l=0 from if_neg (by omega));have f2:=Z9 (show Lc l=false from decide_eq_false (by omega));clear e1 e2 hts hle;go_wp2_with (go_at_call 112; refine(hA _).mono ?_; rintro e w' ⟨rfl,rfl⟩)
    go_ret2;exact⟨by rw[f1.out,f2.out]; rfl,rfl⟩
  ·obtain rfl:k=l.length:=(by omega);rw[List.take_length] at ht ⊢;have f1:=Z9 (show La l=tot l from if_pos ht.out);have f2:=Z9 (show Lc l=true from decide_eq_true ht.out);clear hc hw;go_wp2_with fail;go_ret2;exact⟨by rw[f1.out,f2.out]; rfl,rfl⟩
end Go.Proofs.YtfpnnmeblefkkaaGreatDoor.Lg
namespace Go.Proofs.YtfpnnmeblefkkaaGreatDoor.Mo.Ar
theorem Yx (q y1 y0:Nat):q*(y1*4294967296+y0)=q*y1*4294967296+q*y0:=by
 rw[Nat.mul_add,Nat.mul_assoc]
theorem ad8 (u d y1 y0 q r:Nat)(hi:q*y1+r=u)(h:q*y0<=4294967296*r+d):q*(y1*4294967296+y0)<=u*4294967296+d:=by
 rw[Yx];generalize q*y1=a at *
 generalize q*y0=b at *
 omega
theorem aC3 (u d y1 y0 q r:Nat)(hi:q*y1+r=u)(h:4294967296*r+d<q*y0):u*4294967296+d<q*(y1*4294967296+y0):=by
 rw[Yx];generalize q*y1=a at *
 generalize q*y0=b at *
 omega
theorem aC4 (u d y1 y0 q r:Nat)(hi:q*y1+r=u)(hr:4294967296<=r)(hq:q<=4294967296)(hy:y0<4294967296):q*(y1*4294967296+y0)<=u*4294967296+d:=by
 refine ad8 u d y1 y0 q r hi ?_;have:=Nat.mul_le_mul hq (Nat.le_of_lt_succ (Nat.lt_succ_of_lt hy));omega
def dO (u d y1 y0 q r:Nat):Prop:=
 q*y1+r=u/\(u*4294967296+d) / (y1*4294967296+y0)<=q/\q<=4294967297/\r<4294967296
theorem JR (u d V:Nat)(hu:u<V)(hd:d<4294967296):(u*4294967296+d) / V<4294967296:=by
 rw[Nat.div_lt_iff_lt_mul (by omega)];omega
theorem Ig (u d y1 y0:Nat)(hy1:2147483648<=y1)(hy1':y1<4294967296)(hy0:y0<4294967296)(hd:d<4294967296)(hu:u<y1*4294967296+y0) :
  dO u d y1 y0 (u / y1) (u % y1):=by
 have h1:u / y1*y1+u % y1=u:=Nat.div_add_mod' u y1;have h2:u % y1<y1:=Nat.mod_lt _ (by omega);refine⟨h1,?_,?_,by omega⟩
 ·rw[<- Nat.lt_succ_iff,Nat.div_lt_iff_lt_mul (by omega)];have:=Yx (u / y1).succ y1 y0;rw[this,Nat.succ_mul];generalize u / y1*y1=a at *
  have h0:0<=(u / y1).succ*y0:=Nat.zero_le _;generalize (u / y1).succ*y0=b at *
  omega
 ·rw[<- Nat.lt_succ_iff,Nat.div_lt_iff_lt_mul (by omega)];omega
theorem Dx (u d y1 y0 q r:Nat)(aT5:2147483648<=y1)(hu:u<y1*4294967296+y0)(hd:d<4294967296)(h:dO u d y1 y0 q r)
  (ht:4294967296<=q∨4294967296*r+d<q*y0) :
  1<=q/\(q-1)*y1+(r+y1)=u/\(u*4294967296+d) / (y1*4294967296+y0)<=q-1/\q-1<=4294967296:=by
 obtain⟨hi,hq,hq',hr⟩:=h;have hlt:=JR u d (y1*4294967296+y0) hu hd;have hs:(u*4294967296+d) / (y1*4294967296+y0)<q:=by
  rcases ht with ht | ht
  ·exact Nat.lt_of_lt_of_le hlt ht
  ·rw[Nat.div_lt_iff_lt_mul (by omega)];exact aC3 u d y1 y0 q r hi ht
 have hq1:1<=q:=Nat.lt_of_le_of_lt (Nat.zero_le _) hs;have hq2:=Nat.le_sub_one_of_lt hs;clear hs hlt hq;obtain⟨k,rfl⟩:∃ k,q=k+1:=⟨q-1,by omega⟩;refine⟨by omega,?_,hq2,by omega⟩;rw[Nat.add_sub_cancel];rw[Nat.succ_mul] at hi;omega
theorem Dw (u d y1 y0 q:Nat)(hy1:2147483648<=y1)(hq:(u*4294967296+d) / (y1*4294967296+y0)<=q)(h:q*(y1*4294967296+y0)<=u*4294967296+d) :
  q=(u*4294967296+d) / (y1*4294967296+y0):=by
 have:=(Nat.le_div_iff_mul_le (show 0<y1*4294967296+y0 by omega)).2 h;omega
theorem Ij (u d y1 y0 q r:Nat)(hy1:2147483648<=y1)(h:dO u d y1 y0 q r)(ht:q*y0<=4294967296*r+d) :
  q=(u*4294967296+d) / (y1*4294967296+y0):=
 Dw u d y1 y0 q hy1 h.2.1 (ad8 u d y1 y0 q r h.1 ht)
theorem Ik (u d y1 y0 q r:Nat)(hy1:2147483648<=y1)(hy0:y0<4294967296)(hi:q*y1+r=u)(hq:(u*4294967296+d) / (y1*4294967296+y0)<=q)(hq':q<=4294967296)(hr:4294967296<=r) :
  q=(u*4294967296+d) / (y1*4294967296+y0):=
 Dw u d y1 y0 q hy1 hq (aC4 u d y1 y0 q r hi hr hq' hy0)
theorem zF (u d V a b:Nat)(h1:a+b=u*4294967296+d)(h2:b<V)(hV':V<18446744073709551616) :
  (((u*4294967296 % 18446744073709551616+d) % 18446744073709551616:Nat)-((a % 18446744073709551616:Nat):Int)) % 18446744073709551616=(b:Int):=by
 omega
theorem Ih (u d V:Nat)(hV:0<V)(hV':V<18446744073709551616) :
  (((u*4294967296 % 18446744073709551616+d) % 18446744073709551616:Nat)-(((u*4294967296+d) / V*V % 18446744073709551616:Nat):Int)) % 18446744073709551616=(((u*4294967296+d) % V:Nat):Int):=by
 exact zF u d V _ _ (Nat.div_add_mod' (u*4294967296+d) V) (Nat.mod_lt _ hV) hV'
theorem Dv (T p y u l1 l0 q1 r1 q0 r0:Nat)(hp:0<p)(hv:0<y*p)(hT:T*p=u*18446744073709551616+(l1*4294967296+l0))
  (e1:q1*(y*p)+r1=u*4294967296+l1) (e2:q0*(y*p)+r0=r1*4294967296+l0) (e3:r0<y*p) :
  q1*4294967296+q0=T / y/\r0 / p=T % y:=by
 have e:T*p=(q1*4294967296+q0)*(y*p)+r0:=by
  rw[hT,Nat.add_mul,Nat.mul_right_comm];omega
 have d1:T*p / (y*p)=q1*4294967296+q0:=by
  rw[e,Nat.mul_comm _ (y*p),Nat.mul_add_div hv,Nat.div_eq_of_lt e3,Nat.add_zero]
 have d2:T*p % (y*p)=r0:=by
  rw[e,Nat.mul_comm _ (y*p),Nat.mul_add_mod,Nat.mod_eq_of_lt e3]
 rw[Nat.mul_div_mul_right _ _ hp] at d1;rw[Nat.mul_mod_mul_right] at d2;exact⟨d1.symm,by rw[<- d2,Nat.mul_div_cancel _ hp]⟩
theorem zG (T p y u l1 l0:Nat)(hp:0<p)(hy:0<y)(hT:T*p=u*18446744073709551616+(l1*4294967296+l0)) :
  (u*4294967296+l1) / (y*p)*4294967296+((u*4294967296+l1) % (y*p)*4294967296+l0) / (y*p)=T / y /\
  ((u*4294967296+l1) % (y*p)*4294967296+l0) % (y*p) / p=T % y:=by
 have hv:0<y*p:=Nat.mul_pos hy hp;exact Dv T p y u l1 l0 _ _ _ _ hp hv hT (Nat.div_add_mod' _ _) (Nat.div_add_mod' _ _) (Nat.mod_lt _ hv)
theorem shifted (hi lo s:Nat)(hs:s<=63)(aT6:lo<18446744073709551616) :
  (hi*18446744073709551616+lo)*2 ^ s=(hi*2 ^ s+lo / 2 ^ (64-s))*18446744073709551616+(lo*2 ^ s % 18446744073709551616):=by
 have e:(18446744073709551616:Nat)=2 ^ (64-s)*2 ^ s:=by
  rw[<- Nat.pow_add];rw[show 64-s+s=64 by omega]
 have h:lo*2 ^ s / 18446744073709551616=lo / 2 ^ (64-s):=by
  rw[e,Nat.mul_div_mul_right _ _ (Nat.two_pow_pos s)]
 have h2:=Nat.div_add_mod' (lo*2 ^ s) 18446744073709551616;rw[h] at h2;rw[Nat.add_mul,Nat.add_mul,Nat.mul_right_comm,<- h2,<- Nat.add_assoc];simp only[Nat.mul_add_mod_self_right,Nat.mod_mod]
theorem zH (hi lo y s:Nat)(hs:s<=63)(hlo:lo<18446744073709551616)(h:hi<y) :
  hi*2 ^ s+lo / 2 ^ (64-s)<y*2 ^ s:=by
 have e:(18446744073709551616:Nat)=2 ^ s*2 ^ (64-s):=by
  rw[<- Nat.pow_add];rw[show s+(64-s)=64 by omega]
 have h1:lo / 2 ^ (64-s)<2 ^ s:=by
  rw[Nat.div_lt_iff_lt_mul (Nat.two_pow_pos _),<- e];exact hlo
 have h2:=Nat.mul_le_mul_right (2 ^ s) h;rw[Nat.succ_mul] at h2;omega
theorem lH (q y0:Nat)(hq:q<4294967296)(hy:y0<4294967296):(q:Int)*(y0:Int)<=18446744065119617025/\q*y0<=18446744065119617025:=by
 have h:q*y0<=4294967295*4294967295:=Nat.mul_le_mul (by omega) (by omega);rw[<- Int.natCast_mul];omega
theorem LD (r d q y0:Nat)(h:4294967296*r+d<q*y0):4294967296*(r:Int)+(d:Int)<(q:Int)*(y0:Int):=by
 rw[<- Int.natCast_mul];omega
theorem wU (r d q y0:Nat)(h:q*y0<=4294967296*r+d):(q:Int)*(y0:Int)<=4294967296*(r:Int)+(d:Int):=by
 rw[<- Int.natCast_mul];omega
end Go.Proofs.YtfpnnmeblefkkaaGreatDoor.Mo.Ar
