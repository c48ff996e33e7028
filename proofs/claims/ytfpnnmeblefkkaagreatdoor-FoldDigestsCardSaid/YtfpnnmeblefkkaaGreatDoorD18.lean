/-
  Texts joined.
-/
import Derived.Test.YtfpnnmeblefkkaaGreatDoorD17
set_option maxRecDepth 100000
set_option maxHeartbeats 8000000
set_option linter.unusedSimpArgs false
set_option linter.unusedVariables false
namespace Go.Proofs.YtfpnnmeblefkkaaGreatDoor.Lg
attribute [local irreducible] wpList wpQuiet
open Mo (YK YR Yl Yw)
open Go.RowKit
theorem Dk (t:YV):(VX t).length=t.tr.length+1:=by simp[VX]
def Nc (t:YV)(j:Nat):List Int:=t.Y8::(t.tr.take j).map (·.2)
theorem Ib {t:YV}{j:Nat}(h:j<t.tr.length):Nc t (j+1)=Nc t j++[(tfa t.tr j).2]:=by
 unfold Nc;rw[List.take_succ_eq_append_getElem h,List.map_append,VF h];rfl
theorem Dj (t:YV)(j:Nat):(Nc t j).length<=t.tr.length+1:=by
 unfold Nc;rw[List.length_cons,List.length_map,List.length_take];omega
theorem Di (t:YV):Nc t t.tr.length=VX t:=by unfold Nc VX; rw[List.take_length]
theorem kJ {t:YV}(hf:W64 t.Y8)(ha:∀ x,x∈t.tr->W64 x.2):∀ k,k<(VX t).length->W64 ((VX t).getD k 0):=fun k hk=>by
 have hm:∀ x,x∈VX t->W64 x:=fun x hx=>by
  rcases List.mem_cons.1 hx with h | h
  ·rw[h]; exact hf
  ·obtain⟨y,hy,rfl⟩:=List.mem_map.1 h;exact ha y hy
 rw[List.getD_eq_getElem?_getD,List.getElem?_eq_getElem hk];exact hm _ (List.getElem_mem hk)
theorem Dp (t:YV)(a:Option Addr)(k:Nat)(w:World)(hR:Cs w a (QZ t.tr))(hn:t.tr.length<=100000)(hf:W64 t.Y8)(ha:∀ x,x∈t.tr->W64 x.2) :
  Calls Tryz.prog 48 #[.agg (ZA t a k)] w fun e w'=>e=.returned (.tuple #[Z7 (YN t),.bool (VP t)])/\Below w.heap.size w w':=by
 have hb0:Below w.heap.size w (w.alloc (.cells (ZA t a k) 63)):=(Below.refl _ w).alloc (Nat.le_refl _) _;have hX0:Bx (w.alloc (.cells (ZA t a k) 63)) w.heap.size (ZA t a k) 63:=heap_alloc_last w _;have HA:=Z9 (hR.below hb0);have HSM:=Z9 (fun(al:Option Addr) (cl:Nat) (V:World) (h:Cs V al (Vj (VX t)))=>iI al cl (VX t) V (by rw[Dk]; omega) (fun q hq=>by
  obtain⟨b,off,e,-,h1⟩:=h q (Z7 ((VX t).getD q 0)) (by
   unfold Vj;rw[List.getElem?_map,List.getElem?_eq_getElem hq,List.getD_eq_getElem?_getD,List.getElem?_eq_getElem hq];rfl)
  exact⟨b,off,e,h1⟩) (kJ hf ha))
 have HST:=Z9 (fun j (h:j<t.tr.length)=>Ib h);have nP:=Z9 (Dj t);have HJA:=Z9 (Di t);have rH:Hid (Nc t 0=[t.Y8]):=Z9 (by unfold Nc; rw[List.take_zero,List.map_nil]);have A8:Hid (KP (VX t)=YN t/\KQ (VX t)=VP t):=Z9 ⟨rfl,rfl⟩;generalize Nc t=J at *
 generalize VX t=AM at *
 generalize YN t=tv at *
 generalize VP t=tb at *
 obtain⟨snd,sq,Zx,Y8,memo,A⟩:=t;simp only at *
 obtain⟨n,hnn⟩:=ZQ A.length;have Ui:Hid (n<=100000):=Z9 (by omega);simp only[ZA,hnn] at hb0 hX0 HA HST nP HJA ⊢;have HN:=Z9 hnn;clear hR hn hnn hf ha;go_enter Tryz.func48,Tryz.ntmps48;go_upto_region 1 with fail;change Code.wp _ _ _ _ (w.alloc (.cells #[.string snd,Z7 sq,Z7 Zx,Z7 Y8,.string memo,.slice a n k] 63));generalize w.alloc (.cells #[.string snd,Z7 sq,Z7 Zx,Z7 Y8,.string memo,.slice a n k] 63)=W at *
 obtain⟨g0,hg0⟩:=ZQ w.heap.size;have HB0:=Z9 hb0;rw[hg0] at hX0;simp only[hg0];have HX:=Z9 hX0;clear hb0 hg0 hX0;have hbu:=Qn Y8 W;have hou:=qh Y8 W;refine wl<|ZV (Z5 g0 3)<|ZL rfl ⟨g0,3,none⟩ (Z7 Y8) (HX.out.ZR 3) ?_;refine Zv (by kernel_rfl) (some 9) rfl 34 1 #[(0,.tmp 8)] rfl #[(0,Z7 Y8)] (by kernel_rfl) (.slice (some ⟨W.heap.size,0,none⟩) 1 1) _ hbu ?_;refine ZV (.slice (some ⟨W.heap.size,0,none⟩) 1 1)<|wn ?_;simp only[pu];have hb1:Below W.heap.size W (W.alloc (.cells #[Z7 Y8] 24)):=(Below.refl _ W).alloc (Nat.le_refl _) _;clear hbu;obtain⟨v1,hv1⟩:=ZQ (Value.slice (some ⟨W.heap.size,0,none⟩) 1 1);rw[hv1] at hou ⊢;generalize W.alloc (.cells #[Z7 Y8] 24)=W1 at *
 have HR1:Hid (Ny W1 W.heap.size v1 (J 0)):=Z9 (by rw[rH.out]; exact hou);have HB1:=Z9 hb1;have Wy:=Z9 (HX.out.below HX.out.lt hb1);clear hv1 hou hb1;go_upto_region 2 with fail;refine wl<|ZV (Z5 g0 5)<|ZL rfl ⟨g0,5,none⟩ (.slice a n k) (Wy.out.ZR 5)<|ZB (Z8 n) (Z8 0)<|wn ?_;simp only[pu];go_wp2_with fail;go_loopg [4,13] n (fun gg s4 s13 wx=>∃ (j:Nat) (v4:Value),s4=v4/\s13=Z8 j/\j<=n/\Hid (Ny wx W.heap.size v4 (J j))/\Hid (Below W.heap.size W wx)/\n-j=gg)
 case atStart=>exact⟨0,v1,rfl,rfl,by omega,HR1,HB1,by omega⟩
 case round=>
  obtain⟨j,v4,rfl,rfl,hj,pY,HB,hg⟩:=hrel;have yB:=Ui.out;by_cases hlt:j<n
  ·obtain⟨b,off,rfl,-,hrx⟩:=Ux (HA.out.below HB.out) (k:=j) (by rw[HN.out]; exact hlt);have YD:=Z9 (Ub hrx);have Ey:=Z9 (HST.out j hlt);generalize tfa A j=y at *
   have HG:=Z9 hg;obtain⟨V2,hst,hb2,hbx⟩:=Tt wr y;obtain⟨v3,V3,hap,hr3,hb3⟩:=Ai (own_below pY.out hb2) (by have:=HB.out.size; have:=hb2.size; omega) y.2 (by have:=nP.out j; omega);have HR3:Hid (Ny V3 W.heap.size v3 (J (j+1))):=Z9 (by rw[Ey.out]; exact hr3);have HB3:=Z9 ((HB.out.trans (hb2.mono HB.out.size)).trans hb3);have hbu:=Qn y.2 V2;clear hrx hg hb2 hr3 hb3 Ey;go_upto_region 3 with fail;refine wl<|ZM (Zr rfl (j) (n) dT)<|wn ?_;simp only[pu];go_upto_region 4 with fail;refine wl<|YI (Z5 b (off+j*2)) (O7 b off n k j hlt _ _ _ rfl (by kernel_rfl) (by kernel_rfl))<|ZL rfl ⟨b,off+j*2,none⟩ (.agg (Yy y)) (YD.out) ?_;refine Zy rfl (some 6) rfl (Z5 wr.heap.size 0) (wr.alloc (.cells (Yy Un) 60)) (by kernel_rfl) ?_;refine Zk rfl (hst)<|wn ?_;obtain⟨g4,hg4⟩:=ZQ wr.heap.size;rw[hg4] at hbx ⊢;obtain⟨g5,hg5⟩:=ZQ V2.heap.size;rw[hg5] at hap hbu;clear hst hg4 hg5 YD;go_upto_region 5 with fail;refine wl<|ZB (u4) (Z5 g4 1)<|ZL rfl ⟨g4,1,none⟩ (Z7 y.2) (hbx.ZR 1) ?_;refine Zv (by kernel_rfl) (some 20) rfl 34 1 #[(0,.tmp 19)] rfl #[(0,Z7 y.2)] (by kernel_rfl) (.slice (some ⟨g5,0,none⟩) 1 1) _ hbu ?_;refine Zh rfl (some 21) rfl 34 rfl (.tmp 17) (.tmp 20) 34 rfl (u4) (.slice (some ⟨g5,0,none⟩) 1 1) (v3) V3 (by kernel_rfl) (by kernel_rfl) hap ?_;refine ZV (v3)<|wn ?_;simp only[pu];clear hap hbu hbx;go_upto_region 6 with fail;refine wl<|Yn (Z8 (j+1:Nat)) (Zz rfl j 1 (by omega))<|ZV (Z8 (j+1:Nat))<|wn ?_;simp only[pu];go_wp2_with fail;go_roundg (n-(j+1))
   case measure=>have:=HG.out; omega
   case rel=>exact⟨j+1,v3,rfl,rfl,hlt,HR3,HB3,rfl⟩
  ·obtain rfl:n=j:=(by omega);obtain⟨al,cl,rfl,hcs,-⟩:=Yd pY.out;rw[HJA.out] at hcs ⊢;have CS:=HSM.out al cl wr hcs;rw[A8.out.1,A8.out.2] at CS;generalize AM.length=m at *
   have Zg:=Z9 (HB0.out.trans (HB.out.mono HB0.out.size));clear hg pY HSM A8 hcs HB;go_upto_region 3 with fail;refine wl<|ZM (Zr rfl (n) (n) dF)<|wn ?_;simp only[pu];go_upto_region 7 with fail;refine wl<|ZV (.slice al m cl)<|YM (.tuple #[Z7 tv,.bool tb]) (fun w'=>wr=w') (CS) (fun V9 VK=>?_);subst VK;refine U8 (Z7 tv) (.bool tb) (Z7 tv) (.bool tb)<|wn ?_;simp only[pu];clear CS;go_wp2_with fail;go_ret2;exact⟨rfl,Zg.out⟩
theorem an7 (t:YV)(a:Option Addr)(k:Nat)(w:World)(hR:Cs w a (QZ t.tr))(hn:t.tr.length<=100000)(hf:W64 t.Y8)(ha:∀ x,x∈t.tr->W64 x.2) :
  Calls Tryz.prog 109 #[.agg (ZA t a k)] w fun e w'=>e=.returned (.tuple #[Z7 (YN t),.bool (VP t)])/\Below w.heap.size w w':=by
 have hb0:Below w.heap.size w (w.alloc (.cells (ZA t a k) 63)):=(Below.refl _ w).alloc (Nat.le_refl _) _;have hX0:Bx (w.alloc (.cells (ZA t a k) 63)) w.heap.size (ZA t a k) 63:=heap_alloc_last w _;have HA:=Z9 (hR.below hb0);have HSM:=Z9 (fun(al:Option Addr) (cl:Nat) (V:World) (h:Cs V al (Vj (VX t)))=>II al cl (VX t) V (by rw[Dk]; omega) (fun q hq=>by
  obtain⟨b,off,e,-,h1⟩:=h q (Z7 ((VX t).getD q 0)) (by
   unfold Vj;rw[List.getElem?_map,List.getElem?_eq_getElem hq,List.getD_eq_getElem?_getD,List.getElem?_eq_getElem hq];rfl)
  exact⟨b,off,e,h1⟩) (kJ hf ha))
 have HST:=Z9 (fun j (h:j<t.tr.length)=>Ib h);have nP:=Z9 (Dj t);have HJA:=Z9 (Di t);have rH:Hid (Nc t 0=[t.Y8]):=Z9 (by unfold Nc; rw[List.take_zero,List.map_nil]);have A8:Hid (KP (VX t)=YN t/\KQ (VX t)=VP t):=Z9 ⟨rfl,rfl⟩;generalize Nc t=J at *
 generalize VX t=AM at *
 generalize YN t=tv at *
 generalize VP t=tb at *
 obtain⟨snd,sq,Zx,Y8,memo,A⟩:=t;simp only at *
 obtain⟨n,hnn⟩:=ZQ A.length;have Ui:Hid (n<=100000):=Z9 (by omega);simp only[ZA,hnn] at hb0 hX0 HA HST nP HJA ⊢;have HN:=Z9 hnn;clear hR hn hnn hf ha;go_enter Tryz.func109,Tryz.ntmps109;go_upto_region 1 with fail;change Code.wp _ _ _ _ (w.alloc (.cells #[.string snd,Z7 sq,Z7 Zx,Z7 Y8,.string memo,.slice a n k] 63));generalize w.alloc (.cells #[.string snd,Z7 sq,Z7 Zx,Z7 Y8,.string memo,.slice a n k] 63)=W at *
 obtain⟨g0,hg0⟩:=ZQ w.heap.size;have HB0:=Z9 hb0;rw[hg0] at hX0;simp only[hg0];have HX:=Z9 hX0;clear hb0 hg0 hX0;have hbu:=Qn Y8 W;have hou:=qh Y8 W;refine wl<|ZV (Z5 g0 3)<|ZL rfl ⟨g0,3,none⟩ (Z7 Y8) (HX.out.ZR 3) ?_;refine Zv (by kernel_rfl) (some 9) rfl 34 1 #[(0,.tmp 8)] rfl #[(0,Z7 Y8)] (by kernel_rfl) (.slice (some ⟨W.heap.size,0,none⟩) 1 1) _ hbu ?_;refine ZV (.slice (some ⟨W.heap.size,0,none⟩) 1 1)<|wn ?_;simp only[pu];have hb1:Below W.heap.size W (W.alloc (.cells #[Z7 Y8] 24)):=(Below.refl _ W).alloc (Nat.le_refl _) _;clear hbu;obtain⟨v1,hv1⟩:=ZQ (Value.slice (some ⟨W.heap.size,0,none⟩) 1 1);rw[hv1] at hou ⊢;generalize W.alloc (.cells #[Z7 Y8] 24)=W1 at *
 have HR1:Hid (Ny W1 W.heap.size v1 (J 0)):=Z9 (by rw[rH.out]; exact hou);have HB1:=Z9 hb1;have Wy:=Z9 (HX.out.below HX.out.lt hb1);clear hv1 hou hb1;go_upto_region 2 with fail;refine wl<|ZV (Z5 g0 5)<|ZL rfl ⟨g0,5,none⟩ (.slice a n k) (Wy.out.ZR 5)<|ZB (Z8 n) (Z8 0)<|wn ?_;simp only[pu];go_wp2_with fail;go_loopg [4,13] n (fun gg s4 s13 wx=>∃ (j:Nat) (v4:Value),s4=v4/\s13=Z8 j/\j<=n/\Hid (Ny wx W.heap.size v4 (J j))/\Hid (Below W.heap.size W wx)/\n-j=gg)
 case atStart=>exact⟨0,v1,rfl,rfl,by omega,HR1,HB1,by omega⟩
 case round=>
  obtain⟨j,v4,rfl,rfl,hj,pY,HB,hg⟩:=hrel;have yB:=Ui.out;by_cases hlt:j<n
  ·obtain⟨b,off,rfl,-,hrx⟩:=Ux (HA.out.below HB.out) (k:=j) (by rw[HN.out]; exact hlt);have YD:=Z9 (Ub hrx);have Ey:=Z9 (HST.out j hlt);generalize tfa A j=y at *
   have HG:=Z9 hg;obtain⟨V2,hst,hb2,hbx⟩:=Tt wr y;obtain⟨v3,V3,hap,hr3,hb3⟩:=Ai (own_below pY.out hb2) (by have:=HB.out.size; have:=hb2.size; omega) y.2 (by have:=nP.out j; omega);have HR3:Hid (Ny V3 W.heap.size v3 (J (j+1))):=Z9 (by rw[Ey.out]; exact hr3);have HB3:=Z9 ((HB.out.trans (hb2.mono HB.out.size)).trans hb3);have hbu:=Qn y.2 V2;clear hrx hg hb2 hr3 hb3 Ey;go_upto_region 3 with fail;refine wl<|ZM (Zr rfl (j) (n) dT)<|wn ?_;simp only[pu];go_upto_region 4 with fail;refine wl<|YI (Z5 b (off+j*2)) (O7 b off n k j hlt _ _ _ rfl (by kernel_rfl) (by kernel_rfl))<|ZL rfl ⟨b,off+j*2,none⟩ (.agg (Yy y)) (YD.out) ?_;refine Zy rfl (some 6) rfl (Z5 wr.heap.size 0) (wr.alloc (.cells (Yy Un) 60)) (by kernel_rfl) ?_;refine Zk rfl (hst)<|wn ?_;obtain⟨g4,hg4⟩:=ZQ wr.heap.size;rw[hg4] at hbx ⊢;obtain⟨g5,hg5⟩:=ZQ V2.heap.size;rw[hg5] at hap hbu;clear hst hg4 hg5 YD;go_upto_region 5 with fail;refine wl<|ZB (u4) (Z5 g4 1)<|ZL rfl ⟨g4,1,none⟩ (Z7 y.2) (hbx.ZR 1) ?_;refine Zv (by kernel_rfl) (some 20) rfl 34 1 #[(0,.tmp 19)] rfl #[(0,Z7 y.2)] (by kernel_rfl) (.slice (some ⟨g5,0,none⟩) 1 1) _ hbu ?_;refine Zh rfl (some 21) rfl 34 rfl (.tmp 17) (.tmp 20) 34 rfl (u4) (.slice (some ⟨g5,0,none⟩) 1 1) (v3) V3 (by kernel_rfl) (by kernel_rfl) hap ?_;refine ZV (v3)<|wn ?_;simp only[pu];clear hap hbu hbx;go_upto_region 6 with fail;refine wl<|Yn (Z8 (j+1:Nat)) (Zz rfl j 1 (by omega))<|ZV (Z8 (j+1:Nat))<|wn ?_;simp only[pu];go_wp2_with fail;go_roundg (n-(j+1))
   case measure=>have:=HG.out; omega
   case rel=>exact⟨j+1,v3,rfl,rfl,hlt,HR3,HB3,rfl⟩
  ·obtain rfl:n=j:=(by omega);obtain⟨al,cl,rfl,hcs,-⟩:=Yd pY.out;rw[HJA.out] at hcs ⊢;have CS:=HSM.out al cl wr hcs;rw[A8.out.1,A8.out.2] at CS;generalize AM.length=m at *
   have Zg:=Z9 (HB0.out.trans (HB.out.mono HB0.out.size));clear hg pY HSM A8 hcs HB;go_upto_region 3 with fail;refine wl<|ZM (Zr rfl (n) (n) dF)<|wn ?_;simp only[pu];go_upto_region 7 with fail;refine wl<|ZV (.slice al m cl)<|YM (.tuple #[Z7 tv,.bool tb]) (fun w'=>wr=w') (CS) (fun V9 VK=>?_);subst VK;refine U8 (Z7 tv) (.bool tb) (Z7 tv) (.bool tb)<|wn ?_;simp only[pu];clear CS;go_wp2_with fail;go_ret2;exact⟨rfl,Zg.out⟩
section
variable {ρ : Operand -> Value} {o : Oper} {x y : Operand}
theorem OX (ho:o.op=.binOp .add 24 x y 24)(a b:Int)(h:W64 (a+b))(hx:ρ x=Z7 a)(hy:ρ y=Z7 b)(w:World):(execOp ρ o).run Tryz.prog w=.ok (.value (Z7 (a+b))) w:=by
 have hw:IntKind.u64.wrap (a+b)=a+b:=by obtain⟨h0,h1⟩:=h; rw[IntKind.wrap_u64]; omega
 unfold execOp;simp only[ho,hx,hy];go_simp
theorem an4 (ho:o.op=.binOp .sub 24 x y 24)(a b:Int)(h:W64 (a-b))(hx:ρ x=Z7 a)(hy:ρ y=Z7 b)(w:World):(execOp ρ o).run Tryz.prog w=.ok (.value (Z7 (a-b))) w:=by
 have hw:IntKind.u64.wrap (a-b)=a-b:=by obtain⟨h0,h1⟩:=h; rw[IntKind.wrap_u64]; omega
 unfold execOp;simp only[ho,hx,hy];go_simp
end
structure Ja (A:List Ac)(c:Int)(t:YV):Prop where
 w:Tz A
 cw:W64 c
 n:A.length<=256
 tt:c+tot (Ze A)<18446744073709551616
 g:(Zi A t.snd).2=true
 q:(Zi A t.snd).1.2.2<18446744073709551615
 cb:VP t=true
 cv:YN t<=(Zi A t.snd).1.2.1
 f:W64 t.Y8
 a:∀ x,x∈t.tr->W64 x.2
 m:t.tr.length<=16
theorem Ja.c0 {A:List Ac}{c:Int}{t:YV}(h:Ja A c t):0<=YN t/\t.Y8<=YN t/\YN t=tot (VX t):=by
 have h1:=(Hg h.cb).1;have h2:=OI t;have h3:=(Hf h.a t.tr.length).1;have:=h.f.1;exact⟨by omega,by omega,h1⟩
theorem Ja.j0 {A:List Ac}{c:Int}{t:YV}(h:Ja A c t):yG A t 0 (VO A t):=yG.start h.w h.g h.q h.cb h.cv h.c0.1
theorem Ja.js {A B:List Ac}{c:Int}{t:YV}(h:Ja A c t){j:Nat}(hJ:yG A t j B)(hj:j<t.tr.length):yG A t (j+1) (Vu B (tfa t.tr j))/\W64 ((Vw B (tfa t.tr j).1).2.1+(tfa t.tr j).2):=
 hJ.step hj (by have:=h.tt; have:=h.cw.1; omega) h.a h.f.1
theorem Ja.yw {A:List Ac}{c:Int}{t:YV}(h:Ja A c t):W64 ((Zi A t.snd).1.2.1-YN t)/\W64 ((Zi A t.snd).1.2.2+1):=by
 obtain⟨h1,h2,h3⟩:=Vt h.g;have hwi:=h.w _ h1;rw[<- h2] at hwi;obtain⟨⟨p0,p1⟩,q0,q1⟩:=hwi;have h4:=h.c0.1;have h5:=h.cv;have h6:=h.q;exact⟨⟨by omega,by omega⟩,by omega,by omega⟩
theorem Ja.cf {A:List Ac}{c:Int}{t:YV}(h:Ja A c t):W64 (c+t.Y8):=by
 obtain⟨h1,h2,h3⟩:=Vt h.g;have h4:=qL h.w h1;rw[<- h2] at h4;have h5:=h.c0;have:=h.cv; have:=h.tt; have:=h.cw.1; have:=h.f.1;exact⟨by omega,by omega⟩
theorem Dl {A:List Ac}{c:Int}{t:YV}(h:Ja A c t):∀ j,j<=t.tr.length->yG A t j (PG A t j)
 | 0,_=>h.j0
 | j+1,hj=>by rw[Ph hj]; exact(h.js (Dl h j (by omega)) hj).1
theorem wO {A:List Ac}{c:Int}{t:YV}(h:Ja A c t):yG A t t.tr.length (Yb A t):=Dl h _ (Nat.le_refl _)
theorem tK (B:List Ac)(s:ByteArray):(YS B s<B.length/\Pg B s=(YS B s:Nat)/\Vw B s=aca B (YS B s))∨(¬ YS B s<B.length/\Pg B s=-1/\Vw B s=(s,0,0)):=by
 by_cases h:YS B s<B.length
 ·exact .inl ⟨h,if_pos h,if_pos h⟩
 ·exact .inr ⟨h,if_neg h,if_neg h⟩
def bI (w:World)(B:List Ac)(c:Int)(e:Ending)(w':World):Prop:=∃ ad k,e=.returned (.agg (ZT ad B.length k c))/\Zd w' w.heap.size (.slice ad B.length k) B/\Below w.heap.size w w'
theorem Dn (A:List Ac)(c:Int)(t:YV)(la ta:Option Addr)(lk tk:Nat)(w:World)(hL:Cs w la (acc A))(hlk:A.length<=lk)(hT:Cs w ta (QZ t.tr))(hQ:Ja A c t) :
  Calls Tryz.prog 49 #[.agg (ZT la A.length lk c),.agg (ZA t ta tk),Z7 (YN t)] w (bI w (Yb A t) (c+t.Y8)):=by
 obtain⟨hb0,VJ,Xy,Ws⟩:=Xo w (ZT la A.length lk c) (ZA t ta tk) (ZT none 0 0 0) 30 63 30;have hA:=hL.below hb0;have hT0:=hT.below hb0;have HQ:=Z9 hQ;have HYW:=Z9 hQ.yw;have HCF:=Z9 hQ.cf;have Ui:Hid (A.length<=256/\t.tr.length<=16):=Z9 ⟨hQ.n,hQ.m⟩;have rH:=Z9 hQ.j0;clear hL hT hQ;go_enter Tryz.func49,Tryz.ntmps49;go_upto_region 1 with fail;change Code.wp _ _ _ _ (((w.alloc (.cells (ZT la A.length lk c) 30)).alloc (.cells (ZA t ta tk) 63)).alloc (.cells (ZT none 0 0 0) 30));generalize ((w.alloc (.cells (ZT la A.length lk c) 30)).alloc (.cells (ZA t ta tk) 63)).alloc (.cells (ZT none 0 0 0) 30)=W at *
 obtain⟨g3,hg3⟩:=ZQ w.heap.size;obtain⟨g4,hg4⟩:=ZQ (g3+1);obtain⟨g6,S9⟩:=ZQ (g4+1);have HB0:=Z9 hb0;rw[show w.heap.size+2=g6 by omega] at Ws;rw[show w.heap.size+1=g4 by omega] at Xy;have HG6:Hid (w.heap.size<=g6):=Z9 (by omega);have aO1:Hid (g6<W.heap.size):=Z9 Ws.lt;rw[hg3] at VJ;simp only[hg3];simp only[hg4];simp only[S9];have Xr:=Z9 VJ;have Yh:=Z9 Xy;have Xx:=Z9 Ws;have HA:=Z9 hA;have HT:=Z9 hT0;have CG:=yA la lk A c t.snd W hA (by have:=Ui.out; omega);obtain⟨y,hy⟩:=ZQ ((Zi A t.snd).1);have hS:VO A t=Yt A (y.1,y.2.1-YN t,y.2.2+1):=by rw[<- hy]; rfl
 rw[HQ.out.g,hy] at CG;have HS:=Z9 hS;rw[hy] at HYW;clear hb0 VJ Xy Ws hA hT0 hg3 hg4 S9 hy hS;refine wl<|ZL rfl ⟨g3,0,none⟩ (.agg (ZT la A.length lk c)) (ZO Xr.out)<|ZV (Z5 g4 0)<|ZL rfl ⟨g4,0,none⟩ (.string t.snd) (Yh.out.ZR 0) <|
  YM (.tuple #[.agg (Zq y),ZW]) (fun w'=>Below W.heap.size W w') CG (fun W1 hW1=>?_)
 obtain⟨V2,hst2,hb2,hbx2⟩:=VN W1 y;refine Yr (.tuple #[.agg (Zq y),ZW]) (.agg (Zq y)) ZW ?_;refine Zy rfl (some 7) rfl (Z5 W1.heap.size 0) (W1.alloc (.cells (Zq WE) 56)) (by kernel_rfl) ?_;refine Zk rfl (hst2)<|ZV ZW<|wn ?_;simp only[pu];have hb3:=hW1.trans (hb2.mono hW1.size);obtain⟨g7,P6⟩:=ZQ W1.heap.size;have hG7:W.heap.size<=g7:=by rw[<- P6]; exact hW1.size
 rw[P6] at hbx2 ⊢;obtain⟨V3,hst3,an5,hb4,-⟩:=Zl (i:=1) (ty:=24) (v:=Z7 (y.2.1-YN t)) (cs':=Zq (y.1,y.2.1-YN t,y.2.2)) hbx2 hb3 hG7 (by show 1<3; decide) rfl (by kernel_rfl) rfl;obtain⟨V4,Nu,aD7,hb5,-⟩:=Zl (i:=2) (ty:=24) (v:=Z7 (y.2.2+1)) (cs':=Zq (y.1,y.2.1-YN t,y.2.2+1)) an5 hb4 hG7 (by show 2<3; decide) rfl (by kernel_rfl) rfl;clear CG hW1 hst2 hb2 P6;go_upto_region 2 with fail;refine wl<|ZV (Z5 g7 1)<|ZL rfl ⟨g7,1,none⟩ (Z7 y.2.1) (hbx2.ZR 1)<|ZV (Z7 (YN t))<|Yn (Z7 (y.2.1-YN t)) (an4 rfl y.2.1 (YN t) HYW.out.1) <|
  ZV (Z5 g7 1)<|Zk rfl (hst3)<|wn ?_
 simp only[pu];go_upto_region 3 with fail;refine wl<|ZV (Z5 g7 2)<|ZL rfl ⟨g7,2,none⟩ (Z7 y.2.2) (an5.ZR 2)<|Yn (Z7 (y.2.2+1)) (OX rfl y.2.2 1 HYW.out.2)<|ZV (Z5 g7 2)<|Zk rfl (Nu) <|
  wpList_nil ?_
 simp only[pu];have CP:=LK la lk A (y.1,y.2.1-YN t,y.2.2+1) V4 (HA.out.below hb5) hlk (by have:=Ui.out; omega);rw[<- HS.out] at CP;have Q8:=Z9 hb5;have kK:=Z9 (Xr.out.below Xr.out.lt hb5);clear hst3 Nu hb3 hb4 hbx2 an5 hb5;go_upto_region 4 with fail;refine wl<|ZV (Z5 g3 0)<|ZL rfl ⟨g3,0,none⟩ (.slice la A.length lk) (kK.out.ZR 0)<|ZL rfl ⟨g7,0,none⟩ (.agg (Zq (y.1,y.2.1-YN t,y.2.2+1))) (Za aD7) <|
  XI (fun v w'=>Zd w' V4.heap.size v (VO A t)/\Below V4.heap.size V4 w') (CP.mono fun e w' q=>by obtain⟨v,h1,h2,h3⟩:=q; exact⟨v,h1,h2,h3⟩) (fun vV5 V5 hq=>?_)
 refine ZV (vV5)<|wn ?_;simp only[pu];obtain⟨ND,hb6⟩:=hq;have X9:=Z9 (Q8.out.trans (hb6.mono Q8.out.size));have Mc:=Z9 (own_base ND Q8.out.size);have aD8:=Z9 (Yh.out.below Yh.out.lt X9.out);clear CP aD7 ND hb6 kK HS HYW;go_upto_region 5 with fail;refine wl<|ZV (Z5 g4 5)<|ZL rfl ⟨g4,5,none⟩ (.slice ta t.tr.length tk) (aD8.out.ZR 5)<|ZB (Z8 t.tr.length) (Z8 0)<|wn ?_;simp only[pu];go_wp2_with fail;clear aD8;go_loopg [9,37] t.tr.length (fun gg s9 s37 wx=>∃ (j:Nat) (B:List Ac) (v9:Value),s9=v9/\s37=Z8 j/\j<=t.tr.length/\Hid (yG A t j B)/\Hid (Zd wx W.heap.size v9 B)/\Hid (Below W.heap.size W wx)/\t.tr.length-j=gg)
 case atStart=>exact⟨0,VO A t,vV5,rfl,rfl,by omega,rH,Mc,X9,by omega⟩
 case round=>
  obtain⟨j,B,v9,rfl,rfl,hj,HJ,HR,HB,hg⟩:=hrel;clear rH Mc X9;obtain⟨ad,cd,rfl,hcs,hcd⟩:=HR.out.cs;have hBn:B.length<=300:=by have:=HJ.out.n; have:=Ui.out; omega
  by_cases hlt:j<t.tr.length
  ·obtain⟨b,off,rfl,-,hrx⟩:=Ux (HT.out.below HB.out) hlt;have YD:=Z9 (Ub hrx);obtain⟨hJ1,hW1⟩:=HQ.out.js HJ.out hlt;have qV:Vu B (tfa t.tr j)=Yt B ((Vw B (tfa t.tr j).1).1,(Vw B (tfa t.tr j).1).2.1+(tfa t.tr j).2,(Vw B (tfa t.tr j).1).2.2):=rfl;have HJ1:=Z9 hJ1;generalize tfa t.tr j=x at *
   have hn16:=Ui.out.2;have HG:=Z9 hg;obtain⟨V2,hst,hb2,hbx⟩:=Tt wr x;obtain⟨V3,hst3,hb3,hbz⟩:=VN V2 (x.1,0,0);have hbv:=hb2.trans (hb3.mono hb2.size);have CF:=OD ad cd B x.1 V3 (hcs.below hbv) (by omega);have hcx:=tK B x.1;generalize Vu B x=B2 at *
   generalize Vw B x.1=z at *
   generalize Pg B x.1=fi at *
   clear hrx hg hJ1 HJ;go_upto_region 6 with fail;refine wl<|ZM (Zr rfl (j) (t.tr.length) dT)<|wn ?_;simp only[pu];go_upto_region 7 with fail;refine wl<|YI (Z5 b (off+j*2)) (O7 b off t.tr.length tk j hlt _ _ _ rfl (by kernel_rfl) (by kernel_rfl))<|ZL rfl ⟨b,off+j*2,none⟩ (.agg (Yy x)) (YD.out) ?_;refine Zy rfl (some 11) rfl (Z5 wr.heap.size 0) (wr.alloc (.cells (Yy Un) 60)) (by kernel_rfl) ?_;refine Zk rfl (hst)<|wn ?_;obtain⟨g11,NW⟩:=ZQ wr.heap.size;have Uo:=hbx.below hbx.lt hb3;rw[NW] at hbx Uo hst ⊢;clear hst YD;go_upto_region 8 with fail;refine wl<|ZV (Z5 g11 0)<|ZL rfl ⟨g11,0,none⟩ (.string x.1) (hbx.ZR 0)<|ZV (.agg #[.string x.1,Z7 0,Z7 0]) ?_;refine Zy rfl (some 12) rfl (Z5 V2.heap.size 0) (V2.alloc (.cells (Zq WE) 56)) (by kernel_rfl) ?_;refine Zk rfl (hst3)<|wn ?_;obtain⟨g12,zh⟩:=ZQ V2.heap.size;have an6:wr.heap.size<=g12:=(by rw[<- zh]; exact hb2.size);rw[zh] at hbz hst3 ⊢;clear hst3;go_upto_region 9 with fail;refine wl<|ZB (.slice ad B.length cd) (Z5 g11 0)<|ZL rfl ⟨g11,0,none⟩ (.string x.1) (Uo.ZR 0)<|YM (Z8 fi) (fun w'=>Below V3.heap.size V3 w') (CF) (fun V4 QT=>?_);refine ZV (Z8 fi)<|wn ?_;simp only[pu];have hb4:=hbv.trans (QT.mono hbv.size);have bH:=hbz.below hbz.lt QT;have P7:=Uo.below Uo.lt QT;have hne:g11≠g12:=(by rw[<- NW,<- zh]; have:=hbx.lt; rw[<- NW] at this; omega);clear CF QT hbz hbx Uo hb2 hb3 hbv NW zh;rcases hcx with⟨hf,rfl,rfl⟩ | ⟨hf,rfl,rfl⟩
   ·obtain⟨bb,bo,e1,-,hrz⟩:=Yx (hcs.below hb4) hf;subst e1;have HLZ:=Z9 (Xh hrz);obtain⟨hst5,Jh⟩:=XP (y:=aca B (YS B x.1)) bH;have fQ:=P7.but (But.setRow (g:=g12) V4 (Zq (aca B (YS B x.1)))) hne;have hb5:Below wr.heap.size wr (V4.setRow g12 (Zq (aca B (YS B x.1)))):=ZU hb4 an6 _;generalize YS B x.1=fl at *
    generalize aca B fl=z at *
    generalize V4.setRow g12 (Zq z)=V5 at *
    clear hrz P7 bH;go_upto_region 10 with fail;refine wl<|ZV (Z8 (fl:Nat))<|ZM (Vg rfl (fl:Nat) 0 dT)<|wn ?_;simp only[pu];go_upto_region 11 with fail;refine wl<|ZB (.slice (some ⟨bb,bo,none⟩) B.length cd) (Z8 (fl:Nat))<|YI (Z5 bb (bo+fl*3)) (YC bb bo B.length cd fl hf _ _ _ rfl (by kernel_rfl) (by kernel_rfl))<|ZL rfl ⟨bb,bo+fl*3,none⟩ (.agg (Zq z)) (HLZ.out) <|
     Zk rfl (hst5)<|wn ?_
    simp only[pu];clear hst5 HLZ;obtain⟨V6,VU,Eo,hb6,-⟩:=Zl (i:=1) (ty:=24) (v:=Z7 (z.2.1+x.2)) (cs':=Zq (z.1,z.2.1+x.2,z.2.2)) Jh hb5 an6 (by show 1<3; decide) rfl (by kernel_rfl) rfl;have CP:=LK (some ⟨bb,bo,none⟩) cd B (z.1,z.2.1+x.2,z.2.2) V6 (hcs.below hb6) hcd (by omega);rw[<- qV] at CP;go_upto_region 12 with fail;refine wl<|ZV (Z5 g12 1)<|ZL rfl ⟨g12,1,none⟩ (Z7 z.2.1) (Jh.ZR 1)<|ZV (Z5 g11 1)<|ZL rfl ⟨g11,1,none⟩ (Z7 x.2) (fQ.ZR 1) <|
     Yn (Z7 (z.2.1+x.2)) (OX rfl z.2.1 x.2 hW1)<|ZV (Z5 g12 1)<|Zk rfl (VU)<|wn ?_
    simp only[pu];go_upto_region 13 with fail;refine wl<|ZV (.slice (some ⟨bb,bo,none⟩) B.length cd)<|ZL rfl ⟨g12,0,none⟩ (.agg (Zq (z.1,z.2.1+x.2,z.2.2))) (Za Eo) <|
     XI (fun v w'=>Zd w' V6.heap.size v (B2)/\Below V6.heap.size V6 w') (CP.mono fun e w' q=>by obtain⟨v,h1,h2,h3⟩:=q; exact⟨v,h1,h2,h3⟩) (fun vV7 V7 hq=>?_)
    refine ZV (vV7)<|wn ?_;simp only[pu];obtain⟨KO,hb7⟩:=hq;have hb8:=hb6.trans (hb7.mono hb6.size);have Qr:=Z9 (HB.out.trans (hb8.mono HB.out.size));have Hr:=Z9 (own_base KO (Nat.le_trans HB.out.size hb6.size));clear CP VU Eo hb6 KO hb7 hb8;go_upto_region 14 with fail;refine wl<|Yn (Z8 (j+1:Nat)) (Zz rfl j 1 (by omega))<|ZV (Z8 (j+1:Nat))<|wn ?_;simp only[pu];go_wp2_with fail;go_roundg (t.tr.length-(j+1))
    case measure=>have:=HG.out; omega
    case rel=>exact⟨j+1,B2,vV7,rfl,rfl,hlt,HJ1,Hr,Qr,rfl⟩
   ·go_upto_region 10 with fail;refine wl<|ZV (Z8 (-1))<|ZM (Vg rfl (-1) 0 dF)<|wn ?_;simp only[pu];obtain⟨V6,VU,Eo,hb6,-⟩:=Zl (i:=1) (ty:=24) (v:=Z7 ((x.1,0,0).2.1+x.2)) (cs':=Zq ((x.1,0,0).1,(x.1,0,0).2.1+x.2,(x.1,0,0).2.2)) bH hb4 an6 (by show 1<3; decide) rfl (by kernel_rfl) rfl;have CP:=LK ad cd B ((x.1,0,0).1,(x.1,0,0).2.1+x.2,(x.1,0,0).2.2) V6 (hcs.below hb6) hcd (by omega);rw[<- qV] at CP;go_upto_region 12 with fail;refine wl<|ZV (Z5 g12 1)<|ZL rfl ⟨g12,1,none⟩ (Z7 (x.1,0,0).2.1) (bH.ZR 1)<|ZV (Z5 g11 1)<|ZL rfl ⟨g11,1,none⟩ (Z7 x.2) (P7.ZR 1) <|
     Yn (Z7 ((x.1,0,0).2.1+x.2)) (OX rfl (x.1,0,0).2.1 x.2 hW1)<|ZV (Z5 g12 1)<|Zk rfl (VU)<|wn ?_
    simp only[pu];go_upto_region 13 with fail;refine wl<|ZV (.slice ad B.length cd)<|ZL rfl ⟨g12,0,none⟩ (.agg (Zq ((x.1,0,0).1,(x.1,0,0).2.1+x.2,(x.1,0,0).2.2))) (Za Eo) <|
     XI (fun v w'=>Zd w' V6.heap.size v (B2)/\Below V6.heap.size V6 w') (CP.mono fun e w' q=>by obtain⟨v,h1,h2,h3⟩:=q; exact⟨v,h1,h2,h3⟩) (fun vV7 V7 hq=>?_)
    refine ZV (vV7)<|wn ?_;simp only[pu];obtain⟨KO,hb7⟩:=hq;have hb8:=hb6.trans (hb7.mono hb6.size);have Qr:=Z9 (HB.out.trans (hb8.mono HB.out.size));have Hr:=Z9 (own_base KO (Nat.le_trans HB.out.size hb6.size));clear CP VU Eo hb6 KO hb7 hb8;go_upto_region 14 with fail;refine wl<|Yn (Z8 (j+1:Nat)) (Zz rfl j 1 (by omega))<|ZV (Z8 (j+1:Nat))<|wn ?_;simp only[pu];go_wp2_with fail;go_roundg (t.tr.length-(j+1))
    case measure=>have:=HG.out; omega
    case rel=>exact⟨j+1,B2,vV7,rfl,rfl,hlt,HJ1,Hr,Qr,rfl⟩
  ·obtain rfl:t.tr.length=j:=(by omega);have hfin:Yb A t=B:=(HJ.out.is).symm;have Xr:=Z9 (Xr.out.below Xr.out.lt HB.out);have Yh:=Z9 (Yh.out.below Yh.out.lt HB.out);obtain⟨UY,SI⟩:=ZC (a':=ad) (n':=B.length) (k':=cd) (c':=c+t.Y8) (Xx.out.below Xx.out.lt HB.out);have hrow:=Zo HR.out (But.setRow (g:=g6) wr (ZT ad B.length cd (c+t.Y8))) aO1.out;have XG:=ZU (HB0.out.trans (HB.out.mono HB0.out.size)) HG6.out (ZT ad B.length cd (c+t.Y8));have HE:Hid (Zd (wr.setRow g6 (ZT ad B.length cd (c+t.Y8))) w.heap.size (.slice ad B.length cd) B/\Below w.heap.size w (wr.setRow g6 (ZT ad B.length cd (c+t.Y8)))):=Z9 ⟨own_base hrow HB0.out.size,XG⟩;generalize wr.setRow g6 (ZT ad B.length cd (c+t.Y8))=V9 at *
   have HFN:=Z9 hfin;clear hrow XG HJ hfin hcs;go_upto_region 6 with fail;refine wl<|ZM (Zr rfl (t.tr.length) (t.tr.length) dF)<|wn ?_;simp only[pu];go_upto_region 15 with fail;refine wl<|ZB (.slice ad B.length cd) (Z5 g3 1)<|ZL rfl ⟨g3,1,none⟩ (Z7 c) (Xr.out.ZR 1)<|ZV (Z5 g4 3)<|ZL rfl ⟨g4,3,none⟩ (Z7 t.Y8) (Yh.out.ZR 3) <|
    Yn (Z7 (c+t.Y8)) (OX rfl c t.Y8 HCF.out)<|ZV (.agg (ZT ad B.length cd (c+t.Y8)))<|Zk rfl (UY)<|wn ?_
   simp only[pu];go_wp2_with fail;exact bodyPost_ret (XU rfl (by kernel_rfl) (ZO SI)) rfl (by show bI w (Yb A t) (c+t.Y8) _ _; rw[HFN.out]; exact⟨ad,cd,rfl,HE.out⟩)
section
variable {ρ : Operand -> Value} {o : Oper} {x y : Operand}
theorem FI (ho:o.op=.binOp .neq 24 x y 24)(a b:Int){t:Bool}(ht:decide (a=b)=t)(hx:ρ x=Z7 a)(hy:ρ y=Z7 b)(w:World):(execOp ρ o).run Tryz.prog w=.ok (.value (.bool (!t))) w:=by
 have e:(a != b) = !t:=by rw[<- ht]; rfl
 unfold execOp;simp only[ho,hx,hy];go_simp
theorem KU (ho:o.op=.binOp .eql 24 x y 24)(a b:Int){t:Bool}(ht:decide (a=b)=t)(hx:ρ x=Z7 a)(hy:ρ y=Z7 b)(w:World):(execOp ρ o).run Tryz.prog w=.ok (.value (.bool t)) w:=by
 have e:(a == b)=t:=ht;unfold execOp;simp only[ho,hx,hy];go_simp
theorem Tj (ho:o.op=.binOp .lss 24 x y 24)(a b:Int){t:Bool}(ht:decide (a<b)=t)(hx:ρ x=Z7 a)(hy:ρ y=Z7 b)(w:World):(execOp ρ o).run Tryz.prog w=.ok (.value (.bool t)) w:=by
 rw[<- ht];unfold execOp;simp only[ho,hx,hy];go_simp
end
structure FaQ (A:List Ac)(c price:Int)(t:YV):Prop where
 v:YE A c=0
 w:Tz A
 cw:W64 c
 p:W64 price
 sq:W64 t.sq
 Zx:W64 t.Zx
 f:W64 t.Y8
 a:∀ x,x∈t.tr->W64 x.2
 m:t.tr.length<=16
theorem FaQ.dn {A:List Ac}{c price:Int}{t:YV}(h:FaQ A c price t)(h1:(Zi A t.snd).2=true)(h2:(Zi A t.snd).1.2.2=t.sq)(h3:¬ t.sq=18446744073709551615)(h4:VP t=true)(h5:¬ (Zi A t.snd).1.2.1<YN t):Ja A c t:=by
 obtain⟨v1,v2,v3,v4⟩:=VE h.v;have v5:tot (c::Ze A)<18446744073709551616:=of_decide_eq_true v4;rw[Ya] at v5;have:=h.sq.2;exact⟨h.w,h.cw,v1,v5,h1,by omega,h4,by omega,h.f,h.a,h.m⟩
theorem tX (A:List Ac)(c price size:Int)(t:YV)(la ta:Option Addr)(lk tk:Nat)(w:World)(hL:Cs w la (acc A))(hlk:A.length<=lk)(hT:Cs w ta (QZ t.tr))(hQ:FaQ A c price t) :
  Calls Tryz.prog 46 #[.agg (ZT la A.length lk c),Z7 price,.agg (ZA t ta tk),Z8 size] w fun e w'=>e=.returned (Z8 (Yc A price t size))/\Below w.heap.size w w':=by
 obtain⟨hb0,Xy,Ws⟩:=Ym w (ZT la A.length lk c) (ZA t ta tk) 30 63;have hA:=hL.below hb0;have hT0:=hT.below hb0;have HQ:=Z9 hQ;have hn:=(VE hQ.v).1;have Ui:Hid (A.length<=256/\t.tr.length<=16):=Z9 ⟨hn,hQ.m⟩;have HDN:=Z9 (fun h1 h2 h3 h4 h5=>hQ.dn h1 h2 h3 h4 h5);obtain⟨f8,h8⟩:∃ v:Int,v=(if 256<(Yb A t).length then 3 else 0):=⟨_,rfl⟩;obtain⟨f7,h7⟩:∃ v:Int,v=(if (Zi A t.snd).1.2.1<YN t then 17 else f8):=⟨_,rfl⟩;obtain⟨f6,h6⟩:∃ v:Int,v=(if VP t=false then 6 else f7):=⟨_,rfl⟩;obtain⟨f5,h5⟩:∃ v:Int,v=(if t.Y8<Yw t.Zx price then 16 else f6):=⟨_,rfl⟩;obtain⟨f4,h4⟩:∃ v:Int,v=(if Yl t.Zx price=false then 6 else f5):=⟨_,rfl⟩;obtain⟨f3,h3⟩:∃ v:Int,v=(if t.Zx<YK size t.tr.length then 15 else f4):=⟨_,rfl⟩;obtain⟨f2,h2⟩:∃ v:Int,v=(if t.sq=18446744073709551615 then 6 else f3):=⟨_,rfl⟩;obtain⟨f1,h1⟩:∃ v:Int,v=(if (Zi A t.snd).1.2.2≠t.sq then 14 else f2):=⟨_,rfl⟩;have h0:Yc A price t size=(if (Zi A t.snd).2=false then 13 else f1):=by rw[h1,h2,h3,h4,h5,h6,h7,h8]; rfl
 obtain⟨f0,hf0⟩:∃ v:Int,v=Yc A price t size:=⟨_,rfl⟩;rw[<- hf0] at h0 ⊢;have CC:=Z9 (fun V (h:Cs V ta (QZ t.tr))=>Dp t ta tk V h (by have:=hQ.m; omega) hQ.f hQ.a);have CU:=fun V=>Mo.lu size t.tr.length V;have CN:=fun V=>Mo.kY t.Zx price V hQ.Zx hQ.p;obtain⟨y,hy⟩:=ZQ ((Zi A t.snd).1);obtain⟨gb,hgb⟩:=ZQ ((Zi A t.snd).2);rw[hy] at h1 h7;rw[hgb] at h0;have HY:=Z9 hy;have HGB:=Z9 hgb;generalize YK size t.tr.length=us at *
 generalize Yw t.Zx price=mv at *
 generalize Yl t.Zx price=mb at *
 have H0:=Z9 h0; have H1:=Z9 h1; have H2:=Z9 h2; have H3:=Z9 h3; have H4:=Z9 h4; have H5:=Z9 h5; have H6:=Z9 h6; have H7:=Z9 h7; have H8:=Z9 h8;clear h0 h1 h2 h3 h4 h5 h6 h7 h8 hf0 hL hT hQ hn;go_enter Tryz.func46,Tryz.ntmps46;go_upto_region 1 with fail;change Code.wp _ _ _ _ ((w.alloc (.cells (ZT la A.length lk c) 30)).alloc (.cells (ZA t ta tk) 63));generalize (w.alloc (.cells (ZT la A.length lk c) 30)).alloc (.cells (ZA t ta tk) 63)=W at *
 obtain⟨g4,hg4⟩:=ZQ w.heap.size;obtain⟨g6,S9⟩:=ZQ (g4+1);have HB0:=Z9 hb0;rw[show w.heap.size+1=g6 by omega] at Ws;rw[hg4] at Xy;simp only[hg4];simp only[S9];have Yh:=Z9 Xy;have Xx:=Z9 Ws;have HA:=Z9 hA;have HT:=Z9 hT0;have CG:=yA la lk A c t.snd W hA (by have:=Ui.out; omega);rw[hy,hgb] at CG;clear hb0 Xy Ws hA hT0 hg4 S9 hy hgb;refine wl<|ZL rfl ⟨g4,0,none⟩ (.agg (ZT la A.length lk c)) (ZO Yh.out)<|ZV (Z5 g6 0)<|ZL rfl ⟨g6,0,none⟩ (.string t.snd) (Xx.out.ZR 0)<|YM (.tuple #[.agg (Zq y),.bool gb]) (fun w'=>Below W.heap.size W w') CG (fun W1 hW1=>?_);obtain⟨V2,hst2,hb2,hbx2⟩:=VN W1 y;refine Yr (.tuple #[.agg (Zq y),.bool gb]) (.agg (Zq y)) (.bool gb) ?_;refine Zy rfl (some 9) rfl (Z5 W1.heap.size 0) (W1.alloc (.cells (Zq WE) 56)) (by kernel_rfl) ?_;refine Zk rfl (hst2)<|ZV (.bool gb)<|wn ?_;simp only[pu];have hb3:=hW1.trans (hb2.mono hW1.size);obtain⟨g9,oG⟩:=ZQ W1.heap.size;rw[oG] at hbx2 ⊢;have HX9:=Z9 hbx2;have HB2:=Z9 hb3;have Rk:=Z9 (Xx.out.below Xx.out.lt hb3);clear CG hW1 hst2 hb2 oG hbx2 hb3;cases gb
 ·go_upto_region 2 with fail;refine wl<|Yr ZY ZW ZW<|wn ?_;simp only[pu];obtain rfl:f0=13:=by rw[H0.out]; rfl
  go_upto_region 3 with fail;refine wl<|ZV (Z8 13)<|wn ?_;simp only[pu];go_wp2_with fail;go_ret;exact⟨rfl,HB0.out.trans (HB2.out.mono HB0.out.size)⟩
 ·have E0:=Z9 (show f0=f1 by rw[H0.out]; rfl);clear H0;go_upto_region 2 with fail;refine wl<|Yr ZW ZY ZY<|wn ?_;simp only[pu];by_cases hs:y.2.2=t.sq
  ·have E1:=Z9 (show f1=f2 by rw[H1.out,if_neg (by simpa using hs)]);clear H1;go_upto_region 4 with fail;refine wl<|ZV (Z5 g9 2)<|ZL rfl ⟨g9,2,none⟩ (Z7 y.2.2) (HX9.out.ZR 2)<|ZV (Z5 g6 1)<|ZL rfl ⟨g6,1,none⟩ (Z7 t.sq) (Rk.out.ZR 1) <|
    ZM (FI rfl y.2.2 t.sq (decide_eq_true hs))<|ZV ZY<|wn ?_
   simp only[pu];by_cases hm:t.sq=18446744073709551615
   ·go_upto_region 6 with fail;refine wl<|ZV (Z5 g6 1)<|ZL rfl ⟨g6,1,none⟩ (Z7 t.sq) (Rk.out.ZR 1)<|ZM (KU rfl t.sq 18446744073709551615 (decide_eq_true hm))<|ZV ZW <|
     wpList_nil ?_
    simp only[pu];obtain rfl:f0=6:=(by rw[E0.out,E1.out,H2.out,if_pos hm]);go_upto_region 7 with fail;refine wl<|ZV (Z8 6)<|wn ?_;simp only[pu];go_wp2_with fail;go_ret;exact⟨rfl,HB0.out.trans (HB2.out.mono HB0.out.size)⟩
   ·have E2:=Z9 (show f2=f3 by rw[H2.out,if_neg hm]);clear H2;go_upto_region 6 with fail;refine wl<|ZV (Z5 g6 1)<|ZL rfl ⟨g6,1,none⟩ (Z7 t.sq) (Rk.out.ZR 1)<|ZM (KU rfl t.sq 18446744073709551615 (decide_eq_false hm))<|ZV ZY <|
     wpList_nil ?_
    simp only[pu];by_cases hga:t.Zx<us
    ·go_upto_region 8 with fail;have qW:Hid (Bx V2.drew g6 (ZA t ta tk) 63):=Z9 Rk.out;refine ZJ (C:=fun U=>U=V2.drew) (by kernel_rfl) (by kernel_rfl) (rfl) ?_;refine gy (Z5 g6 2)<|U7 rfl ⟨g6,2,none⟩ (Z7 t.Zx) (fun U hU=>by rw[hU]; exact qW.out.ZR 2)<|gy (Z8 size)<|gy (Z5 g6 5) <|
       U7 rfl ⟨g6,5,none⟩ (.slice ta t.tr.length tk) (fun U hU=>by rw[hU]; exact qW.out.ZR 5)<|gy (Z8 t.tr.length) ?_
     refine Vy (by kernel_rfl) (some 42) rfl 78 #[Z8 size,Z8 t.tr.length] (Z7 us) (fun U hU=>by kernel_rfl) (fun U hU=>(CU U).mono fun e w2 q=>⟨q.1,q.2 ▸ hU⟩) ?_;refine XK ZW (fun U hU=>Tj rfl t.Zx us (decide_eq_true hga) (by kernel_rfl) (by kernel_rfl) _)<|gy ZW ?_;simp only[pu];apply wpQuiet_nil;intro U hU;have HB2:Hid (Below W.heap.size W U):=Z9 (by rw[hU]; exact HB2.out.drew);have HX9:Hid (Bx U g9 (Zq y) 56):=Z9 (by rw[hU]; exact HX9.out);have Rk:Hid (Bx U g6 (ZA t ta tk) 63):=Z9 (by rw[hU]; exact Rk.out);clear hU;obtain rfl:f0=15:=(by rw[E0.out,E1.out,E2.out,H3.out,if_pos hga]);go_upto_region 9 with fail;refine wl<|ZV (Z8 15)<|wn ?_;simp only[pu];go_wp2_with fail;go_ret;exact⟨rfl,HB0.out.trans (HB2.out.mono HB0.out.size)⟩
    ·have E3:=Z9 (show f3=f4 by rw[H3.out,if_neg hga]);clear H3;go_upto_region 8 with fail;have qW:Hid (Bx V2.drew g6 (ZA t ta tk) 63):=Z9 Rk.out;refine ZJ (C:=fun U=>U=V2.drew) (by kernel_rfl) (by kernel_rfl) (rfl) ?_;refine gy (Z5 g6 2)<|U7 rfl ⟨g6,2,none⟩ (Z7 t.Zx) (fun U hU=>by rw[hU]; exact qW.out.ZR 2)<|gy (Z8 size)<|gy (Z5 g6 5) <|
       U7 rfl ⟨g6,5,none⟩ (.slice ta t.tr.length tk) (fun U hU=>by rw[hU]; exact qW.out.ZR 5)<|gy (Z8 t.tr.length) ?_
     refine Vy (by kernel_rfl) (some 42) rfl 78 #[Z8 size,Z8 t.tr.length] (Z7 us) (fun U hU=>by kernel_rfl) (fun U hU=>(CU U).mono fun e w2 q=>⟨q.1,q.2 ▸ hU⟩) ?_;refine XK ZY (fun U hU=>Tj rfl t.Zx us (decide_eq_false hga) (by kernel_rfl) (by kernel_rfl) _)<|gy ZY ?_;simp only[pu];apply wpQuiet_nil;intro U hU;have HB2:Hid (Below W.heap.size W U):=Z9 (by rw[hU]; exact HB2.out.drew);have HX9:Hid (Bx U g9 (Zq y) 56):=Z9 (by rw[hU]; exact HX9.out);have Rk:Hid (Bx U g6 (ZA t ta tk) 63):=Z9 (by rw[hU]; exact Rk.out);clear hU;go_upto_region 10 with fail;refine wl<|ZV (Z5 g6 2)<|ZL rfl ⟨g6,2,none⟩ (Z7 t.Zx) (Rk.out.ZR 2)<|ZV (Z7 price)<|YM (.tuple #[Z7 mv,.bool mb]) (fun w'=>U=w') (CN U) (fun V9 VK=>?_);subst VK;refine Rf (.tuple #[Z7 mv,.bool mb]) (Z7 mv) (.bool mb) (Z7 mv) (.bool mb)<|wn ?_;simp only[pu];go_upto_region 11 with fail;refine wl<|ZL rfl ⟨g6,0,none⟩ (.agg (ZA t ta tk)) (ZH Rk.out)<|YM (.tuple #[Z7 (YN t),.bool (VP t)]) (fun w'=>Below U.heap.size U w') (CC.out U (HT.out.below HB2.out)) (fun V3 VQ=>?_);refine Rf (.tuple #[Z7 (YN t),.bool (VP t)]) (Z7 (YN t)) (.bool (VP t)) (Z7 (YN t)) (.bool (VP t))<|wn ?_;simp only[pu];have HB3:=Z9 (HB2.out.trans (VQ.mono HB2.out.size));have aD6:=Z9 (HX9.out.below HX9.out.lt VQ);have OY:=Z9 (Rk.out.below Rk.out.lt VQ);clear VQ CU CN;cases mb
     ·go_upto_region 12 with fail;refine wl<|Yr ZY ZW ZW<|wn ?_;simp only[pu];obtain rfl:f0=6:=(by rw[E0.out,E1.out,E2.out,E3.out,H4.out]; rfl);go_upto_region 13 with fail;refine wl<|ZV (Z8 6)<|wn ?_;simp only[pu];go_wp2_with fail;go_ret;exact⟨rfl,HB0.out.trans (HB3.out.mono HB0.out.size)⟩
     ·have E4:=Z9 (show f4=f5 by rw[H4.out]; rfl);clear H4;go_upto_region 12 with fail;refine wl<|Yr ZW ZY ZY<|wn ?_;simp only[pu];by_cases hfe:t.Y8<mv
      ·go_upto_region 14 with fail;refine wl<|ZV (Z5 g6 3)<|ZL rfl ⟨g6,3,none⟩ (Z7 t.Y8) (OY.out.ZR 3)<|ZV (Z7 mv)<|ZM (Tj rfl t.Y8 mv (decide_eq_true hfe))<|ZV ZW <|
        wpList_nil ?_
       simp only[pu];obtain rfl:f0=16:=(by rw[E0.out,E1.out,E2.out,E3.out,E4.out,H5.out,if_pos hfe]);go_upto_region 15 with fail;refine wl<|ZV (Z8 16)<|wn ?_;simp only[pu];go_wp2_with fail;go_ret;exact⟨rfl,HB0.out.trans (HB3.out.mono HB0.out.size)⟩
      ·have E5:=Z9 (show f5=f6 by rw[H5.out,if_neg hfe]);clear H5;go_upto_region 14 with fail;refine wl<|ZV (Z5 g6 3)<|ZL rfl ⟨g6,3,none⟩ (Z7 t.Y8) (OY.out.ZR 3)<|ZV (Z7 mv)<|ZM (Tj rfl t.Y8 mv (decide_eq_false hfe)) <|
        ZV ZY<|wn ?_
       simp only[pu];cases hcb:VP t
       ·go_upto_region 16 with fail;refine wl<|Yr ZY ZW ZW<|wn ?_;simp only[pu];obtain rfl:f0=6:=(by rw[E0.out,E1.out,E2.out,E3.out,E4.out,E5.out,H6.out,if_pos hcb]);go_upto_region 17 with fail;refine wl<|ZV (Z8 6)<|wn ?_;simp only[pu];go_wp2_with fail;go_ret;exact⟨rfl,HB0.out.trans (HB3.out.mono HB0.out.size)⟩
       ·have E6:=Z9 (show f6=f7 by rw[H6.out,if_neg (by rw[hcb]; decide)]);clear H6;go_upto_region 16 with fail;refine wl<|Yr ZW ZY ZY<|wn ?_;simp only[pu];by_cases hfu:y.2.1<YN t
        ·go_upto_region 18 with fail;refine wl<|ZV (Z5 g9 1)<|ZL rfl ⟨g9,1,none⟩ (Z7 y.2.1) (aD6.out.ZR 1)<|ZV (Z7 (YN t))<|ZM (Tj rfl y.2.1 (YN t) (decide_eq_true hfu)) <|
          ZV ZW<|wn ?_
         simp only[pu];obtain rfl:f0=17:=(by rw[E0.out,E1.out,E2.out,E3.out,E4.out,E5.out,E6.out,H7.out,if_pos hfu]);go_upto_region 19 with fail;refine wl<|ZV (Z8 17)<|wn ?_;simp only[pu];go_wp2_with fail;go_ret;exact⟨rfl,HB0.out.trans (HB3.out.mono HB0.out.size)⟩
        ·have E7:=Z9 (show f7=f8 by rw[H7.out,if_neg hfu]);clear H7;go_upto_region 18 with fail;refine wl<|ZV (Z5 g9 1)<|ZL rfl ⟨g9,1,none⟩ (Z7 y.2.1) (aD6.out.ZR 1)<|ZV (Z7 (YN t))<|ZM (Tj rfl y.2.1 (YN t) (decide_eq_false hfu)) <|
          ZV ZY<|wn ?_
         simp only[pu];have qX:=HDN.out HGB.out (by rw[HY.out]; exact hs) hm hcb (by rw[HY.out]; exact hfu);have CD:=Dn A c t la ta lk tk V3 (HA.out.below HB3.out) hlk (HT.out.below HB3.out) qX;have JJ:=Z9 (Yh.out.below Yh.out.lt HB3.out);have hdl:(Yb A t).length<=300:=(by have h1:=qX.n; have h2:=qX.m; have h3:=(wO qX).n; omega);generalize Yb A t=DL at *
         by_cases hli:256<DL.length
         ·go_upto_region 20 with fail;refine wl<|ZL rfl ⟨g4,0,none⟩ (.agg (ZT la A.length lk c)) (ZO JJ.out)<|ZL rfl ⟨g6,0,none⟩ (.agg (ZA t ta tk)) (ZH OY.out)<|ZV (Z7 (YN t)) <|
           XI (fun v w'=>(∃ ad kk,v=.agg (ZT ad DL.length kk (c+t.Y8)))/\Below V3.heap.size V3 w') (CD.mono fun e w' q=>by obtain⟨ad,kk,h1,-,h3⟩:=q; exact⟨_,h1,⟨ad,kk,rfl⟩,h3⟩) (fun vv V4 hq=>?_)
          obtain⟨⟨ad,kk,rfl⟩,QT⟩:=hq;refine ZB (.slice ad DL.length kk) (Z8 DL.length)<|ZM (Zn rfl DL.length 256 dT)<|wn ?_;simp only[pu];have HB4:=Z9 (HB3.out.trans (QT.mono HB3.out.size));clear QT CD;obtain rfl:f0=3:=(by rw[E0.out,E1.out,E2.out,E3.out,E4.out,E5.out,E6.out,E7.out,H8.out,if_pos hli]);go_upto_region 21 with fail;refine wl<|ZV (Z8 3)<|wn ?_;simp only[pu];go_wp2_with fail;go_ret;exact⟨rfl,HB0.out.trans (HB4.out.mono HB0.out.size)⟩
         ·go_upto_region 20 with fail;refine wl<|ZL rfl ⟨g4,0,none⟩ (.agg (ZT la A.length lk c)) (ZO JJ.out)<|ZL rfl ⟨g6,0,none⟩ (.agg (ZA t ta tk)) (ZH OY.out)<|ZV (Z7 (YN t)) <|
           XI (fun v w'=>(∃ ad kk,v=.agg (ZT ad DL.length kk (c+t.Y8)))/\Below V3.heap.size V3 w') (CD.mono fun e w' q=>by obtain⟨ad,kk,h1,-,h3⟩:=q; exact⟨_,h1,⟨ad,kk,rfl⟩,h3⟩) (fun vv V4 hq=>?_)
          obtain⟨⟨ad,kk,rfl⟩,QT⟩:=hq;refine ZB (.slice ad DL.length kk) (Z8 DL.length)<|ZM (Zn rfl DL.length 256 dF)<|wn ?_;simp only[pu];have HB4:=Z9 (HB3.out.trans (QT.mono HB3.out.size));clear QT CD;obtain rfl:f0=0:=(by rw[E0.out,E1.out,E2.out,E3.out,E4.out,E5.out,E6.out,E7.out,H8.out,if_neg hli]);go_upto_region 22 with fail;refine wl<|ZV (Z8 0)<|wn ?_;simp only[pu];go_wp2_with fail;go_ret;exact⟨rfl,HB0.out.trans (HB4.out.mono HB0.out.size)⟩
  ·go_upto_region 4 with fail;refine wl<|ZV (Z5 g9 2)<|ZL rfl ⟨g9,2,none⟩ (Z7 y.2.2) (HX9.out.ZR 2)<|ZV (Z5 g6 1)<|ZL rfl ⟨g6,1,none⟩ (Z7 t.sq) (Rk.out.ZR 1) <|
    ZM (FI rfl y.2.2 t.sq (decide_eq_false hs))<|ZV ZW<|wn ?_
   simp only[pu];obtain rfl:f0=14:=(by rw[E0.out,H1.out,if_pos hs]);go_upto_region 5 with fail;refine wl<|ZV (Z8 14)<|wn ?_;simp only[pu];go_wp2_with fail;go_ret;exact⟨rfl,HB0.out.trans (HB2.out.mono HB0.out.size)⟩
end Go.Proofs.YtfpnnmeblefkkaaGreatDoor.Lg
namespace Go.Proofs.YtfpnnmeblefkkaaGreatDoor.Lg
open Mo (YK YR Yl Yw)
open Go.RowKit
theorem res_one (r:X6):(ZE r).all (·.oneCell')=true:=by simp[Value.oneCell']
theorem XL {w:World}{g:Nat}{r q:X6}(h:Bx w g (ZE r) 47):(Instr.storeAt 47 (Z5 g 0) (.agg (ZE q))).run Tryz.prog w=.ok () (w.setRow g (ZE q))/\Bx (w.setRow g (ZE q)) g (ZE q) 47:=
 ⟨Yj h rfl (res_one q) (by kernel_rfl),h.set⟩
theorem XY {w:World}{g k:Nat}{r:X6}(h:Bx w g (ZE r) k):(Instr.loadAt 47 (Z5 g 0)).run Tryz.prog w=.ok (.agg (ZE r)) w:=
 run_loadAt_mid w g 0 47 (ZE r).toList _ (fun j v hv=>by
  rw[cell_of_row w g _ _ _ (0,0) h];simpa using hv) Tryz.underlying47 rfl (by kernel_rfl)
theorem WH {fn:Func}{tmps:Array Value}{w:World}{p ty g q ty2 g2:Nat}{v v2:Value}(hr:fn.results=#[.cell p ty,.cell q ty2])(h2:tmps.getD p undef=Z5 g 0)(hl:(Instr.loadAt ty (Z5 g 0)).run Tryz.prog w=.ok v w)(h4:tmps.getD q undef=Z5 g2 0)(hl2:(Instr.loadAt ty2 (Z5 g2 0)).run Tryz.prog w=.ok v2 w):(results fn tmps).run Tryz.prog w=.ok (.tuple #[v,v2]) w:=by
 unfold results;rw[hr];have h2':tmps[p]?.getD undef=Z5 g 0:=by simpa using h2
 have h4':tmps[q]?.getD undef=Z5 g2 0:=by simpa using h4
 have hl':=hl;have aD5:=hl2;simp only[Instr.loadAt,Instr.sureAddr,Sem.run_bind,Sem.run_pure,Result.andThen_ok] at hl' aD5;simp[h2',h4',asAddr,hl',aD5,Result.andThen]
def kL (w:World)(la:Option Addr)(A:List Ac)(X:(List Ac×Int)×X6)(e:Ending)(w':World):Prop:=∃ ad k,e=.returned (.tuple #[.agg (ZT ad X.1.1.length k X.1.2),.agg (ZE X.2)])/\Cs w' ad (acc X.1.1)/\X.1.1.length<=k/\((ad=la/\X.1.1=A)∨∀ x,ad=some x->w.heap.size<=x.block)/\Below w.heap.size w w'
theorem JK {w:World}{B n k:Nat}{ad:Option Addr}{A:List Ac}(h:Zd w B (.slice ad n k) A):∀ x,ad=some x->B<=x.block:=fun x hx=>by
 rcases h.2 with⟨e,-⟩ | ⟨g,cap,cur,e,hB,-⟩
 ·simp only[Value.slice.injEq] at e; rw[e.1] at hx; cases hx
 ·simp only[Value.slice.injEq] at e; rw[e.1] at hx; cases hx; exact hB
structure KT (W:World)(r:X6)(bA bS:Bool)(x:Value)(V:World):Prop where
 bel:Below W.heap.size W V
 o:bS=true->bA=true
 box:bA=true->∃ g,x=Z5 g 0/\W.heap.size<=g/\(bS=false->Bx V g (ZE (YP 0)) 47)/\(bS=true->Bx V g (ZE r) 47)
theorem KT.alloc {W:World}{r:X6}{bS:Bool}{x:Value}{V:World}(h:KT W r false bS x V):KT W r true bS (Z5 V.heap.size 0) (V.alloc (.cells (ZE (YP 0)) 47)):=by
 obtain rfl:=ff h.o rfl;have hb:Below V.heap.size V (V.alloc (.cells (ZE (YP 0)) 47)):=(Below.refl _ V).alloc (Nat.le_refl _) _;exact⟨h.bel.trans (hb.mono h.bel.size),fun _=>rfl,fun _=>⟨V.heap.size,rfl,h.bel.size,fun _=>heap_alloc_last V _,(fun e=>nomatch e)⟩⟩
theorem KT.more {W:World}{r:X6}{bA bS:Bool}{x:Value}{V V2:World}(h:KT W r bA bS x V)(hb:Below V.heap.size V V2):KT W r bA bS x V2:=
 ⟨h.bel.trans (hb.mono h.bel.size),h.o,fun e=>by
  obtain⟨g,h1,h2,h3,h4⟩:=h.box e;exact⟨g,h1,h2,fun e=>(h3 e).below (h3 e).lt hb,fun e=>(h4 e).below (h4 e).lt hb⟩⟩
theorem KT.store {W:World}{r:X6}{x:Value}{V:World}(h:KT W r true false x V):∃ g V2,x=Z5 g 0/\(Instr.storeAt 47 (Z5 g 0) (.agg (ZE r))).run Tryz.prog V=.ok () V2/\KT W r true true (Z5 g 0) V2:=by
 obtain⟨g,rfl,h2,h3,-⟩:=h.box rfl;have hst:=XL (q:=r) (h3 rfl);exact⟨g,_,rfl,hst.1,ZU h.bel h2 _,fun _=>rfl,fun _=>⟨g,rfl,h2,(fun e=>nomatch e),fun _=>hst.2⟩⟩
structure PZ (g3 g8 g10 B:Nat)(lc:Array Value)(t:YV)(ta:Option Addr)(tk:Nat)(r:X6)(V:World):Prop where
 x3:Bx V g3 lc 30
 x8:Bx V g8 (ZA t ta tk) 63
 x10:Bx V g10 (ZE r) 47
 row:Yv V B (.slice ta t.tr.length tk) t.tr
theorem PZ.but {g3 g8 g10 B g:Nat}{lc:Array Value}{t:YV}{ta:Option Addr}{tk:Nat}{r:X6}{V V2:World}(h:PZ g3 g8 g10 B lc t ta tk r V)(hb:But g V V2)(h3:g3≠g)(h8:g8≠g)(h10:g10≠g)(hB:g<B):PZ g3 g8 g10 B lc t ta tk r V2:=
 ⟨h.x3.but hb h3,h.x8.but hb h8,h.x10.but hb h10,Zo h.row hb hB⟩
theorem PZ.more {g3 g8 g10 B:Nat}{lc:Array Value}{t:YV}{ta:Option Addr}{tk:Nat}{r:X6}{V V2:World}(h:PZ g3 g8 g10 B lc t ta tk r V)(hb:Below V.heap.size V V2):PZ g3 g8 g10 B lc t ta tk r V2:=
 ⟨h.x3.below h.x3.lt hb,h.x8.below h.x8.lt hb,h.x10.below h.x10.lt hb,own_below h.row hb⟩
structure KS (w:World)(g6 g7 B:Nat)(P:World->Prop)(Q:List Ac)(cc:Int)(r:X6)(bC s6 s7:Bool)(x:Value)(V:World):Prop where
 bel:Below w.heap.size w V
 p:P V
 o:s6=true->bC=true
 row:bC=true->∃ ad k,x=.agg (ZT ad Q.length k cc)/\Q.length<=k/\Zd V B (.slice ad Q.length k) Q
 x6:s6=false->Bx V g6 (ZT none 0 0 0) 30
 y6:s6=true->∃ ad k,x=.agg (ZT ad Q.length k cc)/\Bx V g6 (ZT ad Q.length k cc) 30
 x7:Bx V g7 (ZE (cond s7 r (YP 0))) 47
theorem KS.call {w:World}{g6 g7 B:Nat}{P:World->Prop}{Q:List Ac}{cc:Int}{r:X6}{s6 s7:Bool}{x:Value}{V V2:World}(h:KS w g6 g7 B P Q cc r false s6 s7 x V)(hB:B<=V.heap.size)(hP:P V2)(hb:Below V.heap.size V V2){ad:Option Addr}{k:Nat}(hr:Zd V2 V.heap.size (.slice ad Q.length k) Q):KS w g6 g7 B P Q cc r true s6 s7 (.agg (ZT ad Q.length k cc)) V2:=by
 obtain rfl:=ff h.o rfl;obtain⟨a9,k9,e9,-,hk⟩:=hr.cs;simp only[Value.slice.injEq,true_and] at e9;obtain⟨rfl,rfl⟩:=e9;exact⟨h.bel.trans (hb.mono h.bel.size),hP,(fun e=>nomatch e),fun _=>⟨_,_,rfl,hk,own_base hr hB⟩,fun e=>(h.x6 e).below (h.x6 e).lt hb,(fun e=>nomatch e),h.x7.below h.x7.lt hb⟩
theorem KS.st6 {w:World}{g6 g7 B:Nat}{P:World->Prop}{Q:List Ac}{cc:Int}{r:X6}{s7:Bool}{x:Value}{V:World}(h:KS w g6 g7 B P Q cc r true false s7 x V)(hP:∀ V2,But g6 V V2->P V2)(h6:w.heap.size<=g6)(hB:g6<B)(hn:g7≠g6):∃ ad k V2,x=.agg (ZT ad Q.length k cc)/\(Instr.storeAt 30 (Z5 g6 0) (.agg (ZT ad Q.length k cc))).run Tryz.prog V=.ok () V2/\KS w g6 g7 B P Q cc r true true s7 (.agg (ZT ad Q.length k cc)) V2:=by
 obtain⟨ad,k,rfl,hk,hr⟩:=h.row rfl;have hst:=ZC (a':=ad) (n':=Q.length) (k':=k) (c':=cc) (h.x6 rfl);have hbt:But g6 V (V.setRow g6 (ZT ad Q.length k cc)):=But.setRow _ _;exact⟨ad,k,_,rfl,hst.1,ZU h.bel h6 _,hP _ hbt,fun _=>rfl,fun _=>⟨ad,k,rfl,hk,Zo hr hbt hB⟩,(fun e=>nomatch e),fun _=>⟨ad,k,rfl,hst.2⟩,h.x7.but hbt hn⟩
theorem KS.st7 {w:World}{g6 g7 B:Nat}{P:World->Prop}{Q:List Ac}{cc:Int}{r:X6}{bC s6:Bool}{x:Value}{V:World}(h:KS w g6 g7 B P Q cc r bC s6 false x V)(hP:∀ V2,But g7 V V2->P V2)(h7:w.heap.size<=g7)(hB:g7<B)(hn:g6≠g7):∃ V2,(Instr.storeAt 47 (Z5 g7 0) (.agg (ZE r))).run Tryz.prog V=.ok () V2/\KS w g6 g7 B P Q cc r bC s6 true x V2:=by
 have hst:=XL (q:=r) h.x7;have hbt:But g7 V (V.setRow g7 (ZE r)):=But.setRow _ _;exact⟨_,hst.1,ZU h.bel h7 _,hP _ hbt,h.o,fun e=>by obtain⟨ad,k,e1,hk,hr⟩:=h.row e; exact⟨ad,k,e1,hk,Zo hr hbt hB⟩,fun e=>(h.x6 e).but hbt hn,fun e=>by obtain⟨ad,k,e1,h2⟩:=h.y6 e; exact⟨ad,k,e1,h2.but hbt hn⟩,hst.2⟩
structure K8 (w:World)(g6 g7:Nat)(P:World->Prop)(lc:Array Value)(r:X6)(s6 s7:Bool)(V:World):Prop where
 bel:Below w.heap.size w V
 p:P V
 x6:Bx V g6 (cond s6 lc (ZT none 0 0 0)) 30
 x7:Bx V g7 (ZE (cond s7 r (YP 0))) 47
theorem K8.st6 {w:World}{g6 g7:Nat}{P:World->Prop}{la:Option Addr}{n k:Nat}{c:Int}{r:X6}{s7:Bool}{V:World}(h:K8 w g6 g7 P (ZT la n k c) r false s7 V)(hP:∀ V2,But g6 V V2->P V2)(h6:w.heap.size<=g6)(hn:g7≠g6):∃ V2,(Instr.storeAt 30 (Z5 g6 0) (.agg (ZT la n k c))).run Tryz.prog V=.ok () V2/\K8 w g6 g7 P (ZT la n k c) r true s7 V2:=by
 have hst:=ZC (a':=la) (n':=n) (k':=k) (c':=c) h.x6;have hbt:But g6 V (V.setRow g6 (ZT la n k c)):=But.setRow _ _;exact⟨_,hst.1,ZU h.bel h6 _,hP _ hbt,hst.2,h.x7.but hbt hn⟩
theorem K8.st7 {w:World}{g6 g7:Nat}{P:World->Prop}{lc:Array Value}{r:X6}{s6:Bool}{V:World}(h:K8 w g6 g7 P lc r s6 false V)(hP:∀ V2,But g7 V V2->P V2)(h7:w.heap.size<=g7)(hn:g6≠g7):∃ V2,(Instr.storeAt 47 (Z5 g7 0) (.agg (ZE r))).run Tryz.prog V=.ok () V2/\K8 w g6 g7 P lc r s6 true V2:=by
 have hst:=XL (q:=r) h.x7;have hbt:But g7 V (V.setRow g7 (ZE r)):=But.setRow _ _;exact⟨_,hst.1,ZU h.bel h7 _,hP _ hbt,h.x6.but hbt hn,hst.2⟩
theorem K8.start {w V:World}{g6 g7:Nat}{P:World->Prop}{lc:Array Value}{r:X6}(hb:Below w.heap.size w V)(hp:P V.drew)(h6:Bx V g6 (ZT none 0 0 0) 30)(h7:Bx V g7 (ZE (YP 0)) 47):K8 w g6 g7 P lc r false false V.drew:=⟨hb.drew,hp,h6,h7⟩
theorem KS.start {w V:World}{g6 g7 B:Nat}{P:World->Prop}{Q:List Ac}{cc:Int}{r:X6}(hb:Below w.heap.size w V)(hp:P V.drew)(h6:Bx V g6 (ZT none 0 0 0) 30)(h7:Bx V g7 (ZE (YP 0)) 47):KS w g6 g7 B P Q cc r false false false undef V.drew:=⟨hb.drew,hp,(fun e=>nomatch e),(fun e=>nomatch e),fun _=>h6,(fun e=>nomatch e),h7⟩
theorem KT.start (V:World)(r:X6):KT V r false false undef V.drew:=⟨(Below.refl _ V).drew,(fun e=>nomatch e),(fun e=>nomatch e)⟩
theorem PZ.drew {g3 g8 g10 B:Nat}{lc:Array Value}{t:YV}{ta:Option Addr}{tk:Nat}{r:X6}{V:World}(h:PZ g3 g8 g10 B lc t ta tk r V):PZ g3 g8 g10 B lc t ta tk r V.drew:=⟨h.x3,h.x8,h.x10,h.row⟩
theorem am4 {A:List Ac}{c price:Int}{L:List Int}(h:YE A c≠0):TF A c price L=((A,c),YP 1):=if_pos h
theorem am9 {A:List Ac}{c price:Int}{L:List Int}(h:YE A c=0)(h2:(Zc L).2≠0):TF A c price L=((A,c),YP (Zc L).2):=by
 unfold TF; rw[if_neg (by rw[h]; decide),if_pos h2]
theorem aC9 {A:List Ac}{c price:Int}{L:List Int}(h:YE A c=0)(h2:(Zc L).2=0)(h3:Yc A price (Zc L).1 L.length≠0):TF A c price L=((A,c),⟨Yc A price (Zc L).1 L.length,(Zc L).1.snd,(Zc L).1.sq,(Zc L).1.Zx,YR (Zc L).1.Y8 (Zc L).1.Zx⟩):=by
 unfold TF; rw[if_neg (by rw[h]; decide),if_neg (by rw[h2]; decide),if_pos h3]
theorem aC8 {A:List Ac}{c price:Int}{L:List Int}(h:YE A c=0)(h2:(Zc L).2=0)(h3:Yc A price (Zc L).1 L.length=0):TF A c price L=((Yb A (Zc L).1,c+(Zc L).1.Y8),⟨Yc A price (Zc L).1 L.length,(Zc L).1.snd,(Zc L).1.sq,(Zc L).1.Zx,YR (Zc L).1.Y8 (Zc L).1.Zx⟩):=by
 unfold TF; rw[if_neg (by rw[h]; decide),if_neg (by rw[h2]; decide),if_neg (by rw[h3]; decide),h3]
theorem am8 {A:List Ac}{c price:Int}{L:List Int}(h8:∀ y,y∈L->W8 y)(hv:YE A c=0)(hw:Tz A)(hc:W64 c)(hp:W64 price)(h2:(Zc L).2=0):FaQ A c price (Zc L).1:=by
 obtain⟨h3,-,h4,-⟩:=Gg (t:=(Zc L).1) (fun x hx=>h8 x hx) (by rw[<- h2]);exact⟨hv,hw,hc,hp,h4.sq,h4.Zx,h4.Y8,h4.am,(val_ok h3 h4.sq h4.Zx h4.Y8 h4.am).2.2⟩
theorem wM {A:List Ac}{c price size:Int}{t:YV}(h:FaQ A c price t)(h0:Yc A price t size=0):Ja A c t/\(Yb A t).length<=256:=by
 unfold Yc at h0
 split at h0
 ·omega
 rename_i c1
 split at h0
 ·omega
 rename_i c2
 split at h0
 ·omega
 rename_i c3
 split at h0
 ·omega
 split at h0
 ·omega
 split at h0
 ·omega
 split at h0
 ·omega
 rename_i c4
 split at h0
 ·omega
 rename_i c5
 split at h0
 ·omega
 rename_i c6
 exact⟨h.dn (by simpa using c1) (by simpa using c2) c3 (by simpa using c4) c5,by omega⟩
end Go.Proofs.YtfpnnmeblefkkaaGreatDoor.Lg
