/-
  Texts joined.
-/
import Derived.Test.YtnelmomagdcmnaaGreatJ23
set_option maxRecDepth 100000
set_option maxHeartbeats 8000000
set_option linter.unusedSimpArgs false
set_option linter.unusedVariables false
namespace Go.Proofs.YtnelmomagdcmnaaGreat.Cg
attribute [local irreducible] wpList wpQuiet
open Go.RowKit
theorem yT (w:World):Calls Tryz.prog 53 #[] w fun e w'=>e=.returned (.agg (Zu Ru))/\Below w.heap.size w w':=by
 obtain⟨V2,hst,hb,hY⟩:=Zk (c:=#[Z9 0,Z9 0,Z9 0,Z9 0,Z9 0,Z9 0,ZY,Z9 0,Z9 0,ZV 0,Z9 0,Z9 0]) (c':=#[Z9 100,Z9 65536,Z9 1024,Z9 200,Z9 0,Z9 0,ZY,Z9 32768,Z9 (-1),ZV 1,Z9 0,Z9 1]) (ty:=25) w rfl (by kernel_rfl) (by kernel_rfl);have Vf:=Z8 (zG hY);have HE:=Z8 hb;clear hb hY;go_enter Tryz.func53,Tryz.ntmps53;go_upto_region 1 with fail;change Code.wp _ _ _ _ (w.alloc (.cells #[Z9 0,Z9 0,Z9 0,Z9 0,Z9 0,Z9 0,ZY,Z9 0,Z9 0,ZV 0,Z9 0,Z9 0] 25));generalize w.alloc (.cells #[Z9 0,Z9 0,Z9 0,Z9 0,Z9 0,Z9 0,ZY,Z9 0,Z9 0,ZV 0,Z9 0,Z9 0] 25)=W at *
 obtain⟨g0,hg0⟩:=ZR w.heap.size;simp only[hg0] at hst Vf ⊢;refine wl<|ZQ (.agg #[Z9 100,Z9 65536,Z9 1024,Z9 200,Z9 0,Z9 0,ZY,Z9 32768,Z9 (-1),ZV 1,Z9 0,Z9 1])<|Yb rfl (hst)<|wn ?_;simp only[pu];go_wp2_with fail;exact bodyPost_ret (YV rfl (by kernel_rfl) Vf.out) rfl ⟨rfl,HE.out⟩
def StV (g:Nat)(w:World)(v:Value)(w':World):Prop:=∃ gs,v=.slice (some ⟨gs,0,none⟩) 12 12/\Bx w' gs (dD g).toArray 152/\w.heap.size<=gs/\Below w.heap.size w w'
theorem Ef (g:Nat)(w:World):Calls Tryz.prog 82 #[Z7 g 0] w fun e w'=>∃ v,e=.returned v/\StV g w v w':=Bl g w
theorem af6 (b off n c k:Nat)(hk:k<n)(V:World)(ρ:Operand->Value)(o:Oper){x y:Operand}(ho:o.op=.indexAddr 148 x y)(hx:ρ x=.slice (some ⟨b,off,none⟩) n c)(hy:ρ y=Z9 k):(execOp ρ o).run Tryz.prog V=.ok (.value (Z7 b (off+k*4))) V:=by
 have hs:(sizeOf (Tryz.prog.elem 148)).run Tryz.prog V=.ok 4 V:=by kernel_rfl
 have hlm:(k:Int)<(n:Int):=by omega
 unfold execOp;simp only[ho,hx,hy];go_simp
theorem jf {w:World}{gs g k:Nat}(h:Bx w gs (dD g).toArray k){i:Nat}(hi:i<12):(Instr.loadAt 152 (Z7 gs (0+i*4))).run Tryz.prog w=.ok (.agg (zF g i)) w:=by
 obtain⟨b,off,e,-,hr⟩:=Yf (f:=sgL g) (s:=4) (fun _=>rfl) (by omega) 0 (L:=List.range 12) (Cs.block h) (i:=i) (by rw[List.length_range]; exact hi);cases e;rw[show(List.range 12).getD i 0=i by simp[List.getD_eq_getElem?_getD,hi]] at hr;exact run_loadAt_mid w _ _ 152 (sgL g i) _ hr Tryz.underlying152 rfl (by kernel_rfl)
theorem je {c:List Int}(hc:VU c){i:Nat}(hi:i<12):(decide (X8.getD i 0<=c.getD i 0) && decide (c.getD i 0<=grP.getD i 0))=true↔Gz c i:=by
 rw[Bool.and_eq_true,decide_eq_true_eq,decide_eq_true_eq];unfold Gz;obtain⟨-,h6,h90,h91,hn⟩:=hc;match i,hi with
 | 0,_=>exact⟨fun h=>.inr h,fun h=>h.elim (fun e=>absurd e (by decide)) id⟩
 | 1,_=>exact⟨fun h=>.inr h,fun h=>h.elim (fun e=>absurd e (by decide)) id⟩
 | 2,_=>exact⟨fun h=>.inr h,fun h=>h.elim (fun e=>absurd e (by decide)) id⟩
 | 3,_=>exact⟨fun h=>.inr h,fun h=>h.elim (fun e=>absurd e (by decide)) id⟩
 | 4,_=>exact⟨fun h=>.inr h,fun h=>h.elim (fun e=>absurd e (by decide)) id⟩
 | 5,_=>exact⟨fun h=>.inr h,fun h=>h.elim (fun e=>absurd e (by decide)) id⟩
 | 6,_=>exact⟨fun h=>.inr h,fun h=>h.elim (fun e=>absurd e (by decide)) id⟩
 | 7,_=>exact⟨fun h=>.inr h,fun h=>h.elim (fun e=>absurd e (by decide)) id⟩
 | 8,_=>exact⟨fun h=>.inr h,fun h=>h.elim (fun e=>absurd e (by decide)) id⟩
 | 9,_=>exact⟨fun _=>.inl rfl,fun _=>⟨h90,by show c.getD 9 0<=18446744073709551615; omega⟩⟩
 | 10,_=>exact⟨fun h=>.inr h,fun h=>h.elim (fun e=>absurd e (by decide)) id⟩
 | 11,_=>exact⟨fun h=>.inr h,fun h=>h.elim (fun e=>absurd e (by decide)) id⟩
theorem af7 (g j:Nat):(zF g j).all (·.oneCell')=true:=by simp[zF,Value.oneCell']
theorem jd {i:Nat}(hi:i<12):-9223372036854775808<=X8.getD i 0/\X8.getD i 0<9223372036854775808:=by
 have h:∀ i,i<12->-9223372036854775808<=X8.getD i 0/\X8.getD i 0<9223372036854775808:=by decide +kernel
 exact h i hi
theorem jc {i:Nat}(hi:i<12):0<=grP.getD i 0:=by
 have h:∀ i,i<12->0<=grP.getD i 0:=by decide +kernel
 exact h i hi
theorem xI {g:Nat}{i:Nat}(hi:i<12)(v:Int)(w:World):Calls Tryz.prog 83 #[.agg (zF g i),.agg (Bj (decide (v<0)) (Rz v))] w fun e w'=>e=.returned (.bool (decide (X8.getD i 0<=v) && decide (v<=grP.getD i 0)))/\Below w.heap.size w w':=by
 rw[<- iZ (jc hi)];exact qg _ _ rfl rfl (jd hi) _ _ w
theorem AP {c:List Int}(hc:VU c)(w:World):Calls Tryz.prog 52 #[.agg (Zu c)] w fun e w'=>e=.returned (Z9 (Ve c))/\Below w.heap.size w w':=by
 have hb0:Below w.heap.size w (w.alloc (.cells (Zu c) 25)):=(Below.refl _ w).alloc (Nat.le_refl _) _;have hX0:Bx (w.alloc (.cells (Zu c) 25)) w.heap.size (Zu c) 25:=heap_alloc_last w _;obtain⟨W,hW⟩:=ZR (w.alloc (.cells (Zu c) 25));rw[hW] at hb0 hX0;have HB0:=Z8 hb0;have HBAD:Hid (∀ i,i<12->¬ Gz c i->(1:Int)=Ve c):=Z8 fun i hi h=>(IE hi h).symm;have RF:Hid ((∀ i,i<12->Gz c i)->(if c.getD 10 0<c.getD 11 0 then (0:Int) else 1)=Ve c):=Z8 fun h=>(GV h).symm;have HOK:Hid (∀ i,i<12->((decide (X8.getD i 0<=c.getD i 0) && decide (c.getD i 0<=grP.getD i 0))=true↔Gz c i)):=Z8 fun i hi=>je hc hi;have HV:Hid (∀ i:Nat,i<12->∀ V g,Bx V g (Zu c) 25->Calls Tryz.prog 84 #[.agg (zF g i)] V fun e w'=>e=.returned (.agg (Bj (decide (c.getD i 0<0)) (Rz (c.getD i 0))))/\Below V.heap.size V w'):=Z8 fun i hi V g h=>iY hc i hi V h;have H10:Hid (∀ V g,Bx V g (Zu c) 25->(Instr.loadAt 3 (Z7 g 10)).run Tryz.prog V=.ok (Z9 (c.getD 10 0)) V/\(Instr.loadAt 3 (Z7 g 11)).run Tryz.prog V=.ok (Z9 (c.getD 11 0)) V):=Z8 fun V g h=>⟨h.ZM 10,h.ZM 11⟩;obtain⟨z,hz⟩:=ZR (Ve c);rw[hz] at HBAD RF ⊢;clear hz hb0 hc;go_enter Tryz.func52,Tryz.ntmps52;go_upto_region 1 with fail;obtain⟨g1,hg1⟩:=ZR w.heap.size;rw[hg1] at hX0;simp only[hg1];generalize Zu c=CC at *
 clear hW hg1;refine wl<|XQ (StV g1 W) (Ef g1 W) (fun vv W1 hq=>?_);obtain⟨gs1,rfl,ap6,aw1,af8⟩:=hq;refine ZB (Z9 12) (Z9 0)<|wn ?_;simp only[pu];have LU:=Z8 (hX0.below hX0.lt af8);have oG:=Z8 ap6;have HB1:=Z8 (HB0.out.trans (af8.mono HB0.out.size));clear hX0 ap6 af8 HB0 aw1;go_wp2_with fail;go_loopg [7] 12 (fun gg s7 wx=>∃ (i:Nat),s7=Z9 i/\i<=12/\gg+i=12/\Hid (∀ j,j<i->Gz c j)/\Hid (Below W1.heap.size W1 wx))
 case atStart=>exact⟨0,rfl,by omega,by omega,Z8 (fun j hj=>absurd hj (Nat.not_lt_zero j)),Z8 (Below.refl _ _)⟩
 case round=>
  obtain⟨i,rfl,hin,hg,HP,HR⟩:=hrel;have WH:Hid (gk+i=12):=Z8 hg;have hX:=LU.out.below LU.out.lt HR.out;have hS:=oG.out.below oG.out.lt HR.out;clear hg;by_cases hlt:i<12
  ·have hls:=jf hS hlt;obtain⟨V2,hst2,af9,hY2⟩:=Zk (c:=#[.string ByteArray.empty,.nilIface,Z9 0,ZV 0]) (c':=zF g1 i) (ty:=152) wr rfl (af7 g1 i) (by kernel_rfl);have hX2:=hX.below hX.lt af9;have CV:=fun V hV=>HV.out i hlt V g1 hV;have CL:=fun V=>xI (g:=g1) hlt (c.getD i 0) V;have Uk:Hid (∀ V k,Bx V k (zF g1 i) 152->(Instr.loadAt 152 (Z7 k 0)).run Tryz.prog V=.ok (.agg (zF g1 i)) V):=Z8 fun V k h=>run_loadAt_mid V k 0 152 (zF g1 i).toList _ (ZU (cs:=(zF g1 i).toList) h) Tryz.underlying152 rfl (by kernel_rfl);have HOI:=Z8 (HOK.out i hlt);have HST:Hid (Gz c i->∀ j,j<i+1->Gz c j):=Z8 fun h j hj=>if hh:j<i then HP.out j hh else by rw[show j=i by omega]; exact h
   have HB2:Hid (¬ Gz c i->(1:Int)=z):=Z8 fun h=>HBAD.out i hlt h;generalize (decide (X8.getD i 0<=c.getD i 0) && decide (c.getD i 0<=grP.getD i 0))=q at *
   generalize decide (c.getD i 0<0)=b at *
   generalize Rz (c.getD i 0)=s at *
   generalize zF g1 i=SG at *
   go_upto_region 2 with fail;refine wl<|Zg (ZG rfl (i) (12) dT)<|wn ?_;simp only[pu];go_upto_region 3 with fail;refine wl<|Za (Z7 gs1 (0+i*4)) (af6 gs1 0 12 12 i hlt _ _ _ rfl (by kernel_rfl) (by kernel_rfl))<|ZC rfl ⟨gs1,0+i*4,none⟩ (.agg SG) (hls) ?_;refine Zj rfl (some 4) rfl (Z7 wr.heap.size 0) (wr.alloc (.cells #[.string ByteArray.empty,.nilIface,Z9 0,ZV 0] 152)) (by kernel_rfl) ?_;refine Yb rfl (hst2)<|wn ?_;obtain⟨g4,hg4⟩:=ZR wr.heap.size;rw[hg4] at hY2;simp only[hg4];have HR2:=Z8 (HR.out.trans (af9.mono HR.out.size));clear hls hst2 hS hg4 af9 hX;cases q
   ·go_upto_region 4 with fail;refine ZT (C:=fun U=>Below V2.heap.size V2 U) (by kernel_rfl) (by kernel_rfl) ((Below.refl _ V2).drew) ?_;refine Zx rfl ⟨g4,0,none⟩ (.agg SG) (fun U hU=>Uk.out U _ (hY2.below hY2.lt hU))<|Zx rfl ⟨g4,0,none⟩ (.agg SG) (fun U hU=>Uk.out U _ (hY2.below hY2.lt hU)) ?_;refine ZA (by kernel_rfl) (some 13) rfl 84 #[.agg SG] (.agg #[.bool b,ZV s]) (fun U hU=>by kernel_rfl) (fun U hU=>(CV U (hX2.below hX2.lt hU)).mono fun e w2 z=>⟨z.1,hU.trans (z.2.mono hU.size)⟩) ?_;refine ZA (by kernel_rfl) (some 14) rfl 83 #[.agg SG,.agg #[.bool b,ZV s]] ZY (fun U hU=>by kernel_rfl) (fun U hU=>(CL U).mono fun e w2 z=>⟨z.1,hU.trans (z.2.mono hU.size)⟩) ?_;refine gy ZX ?_;simp only[pu];apply wpQuiet_nil;intro V hV;have HR3:=Z8 (HR2.out.trans (hV.mono HR2.out.size));clear CV CL hX2 hY2 hV;have hno:¬ Gz c i:=fun h=>Bool.noConfusion (HOI.out.2 h);obtain rfl:=HB2.out hno;clear hno;have HE:=Z8 (HB1.out.trans (HR3.out.mono HB1.out.size));clear HV HBAD RF H10 HOK HOI HST HB2 HP;go_upto_region 5 with fail;refine wl<|ZQ (Z9 1)<|wn ?_;simp only[pu];go_wp2_with fail;go_ret;exact⟨rfl,HE.out⟩
   ·go_upto_region 4 with fail;refine ZT (C:=fun U=>Below V2.heap.size V2 U) (by kernel_rfl) (by kernel_rfl) ((Below.refl _ V2).drew) ?_;refine Zx rfl ⟨g4,0,none⟩ (.agg SG) (fun U hU=>Uk.out U _ (hY2.below hY2.lt hU))<|Zx rfl ⟨g4,0,none⟩ (.agg SG) (fun U hU=>Uk.out U _ (hY2.below hY2.lt hU)) ?_;refine ZA (by kernel_rfl) (some 13) rfl 84 #[.agg SG] (.agg #[.bool b,ZV s]) (fun U hU=>by kernel_rfl) (fun U hU=>(CV U (hX2.below hX2.lt hU)).mono fun e w2 z=>⟨z.1,hU.trans (z.2.mono hU.size)⟩) ?_;refine ZA (by kernel_rfl) (some 14) rfl 83 #[.agg SG,.agg #[.bool b,ZV s]] ZX (fun U hU=>by kernel_rfl) (fun U hU=>(CL U).mono fun e w2 z=>⟨z.1,hU.trans (z.2.mono hU.size)⟩) ?_;refine gy ZY ?_;simp only[pu];apply wpQuiet_nil;intro V hV;have HR3:=Z8 (HR2.out.trans (hV.mono HR2.out.size));clear CV CL hX2 hY2 hV;have HP2:=Z8 (HST.out (HOI.out.1 rfl));clear HST HB2 HP HOI;go_upto_region 6 with fail;refine wl<|Za (Z9 (i+1:Nat)) (add_one rfl i (by omega) (by kernel_rfl) _)<|ZQ (Z9 (i+1:Nat))<|wn ?_;simp only[pu];go_wp2_with fail;go_roundg (12-(i+1))
    case measure=>have:=WH.out; omega
    case rel=>exact⟨i+1,rfl,by omega,by omega,HP2,HR3⟩
  ·obtain rfl:i=12:=(by omega);have hf:=RF.out HP.out;obtain⟨hl1,hl2⟩:=H10.out _ _ hX;have HE:=Z8 (HB1.out.trans (HR.out.mono HB1.out.size));generalize c.getD 10 0=a at *
   generalize c.getD 11 0=b at *
   clear HP HBAD RF H10 HV hX HOK hS;go_upto_region 2 with fail;refine wl<|Zg (ZG rfl ((12:Nat)) (12) dF)<|wn ?_;simp only[pu];by_cases hab:a<b
   ·rw[if_pos hab] at hf;obtain rfl:=hf;go_upto_region 7 with fail;refine wl<|ZQ (Z7 g1 10)<|ZC rfl ⟨g1,10,none⟩ (Z9 a) (hl1)<|ZQ (Z7 g1 11)<|ZC rfl ⟨g1,11,none⟩ (Z9 b) (hl2)<|Zg (Va rfl a b dF) <|
     wpList_nil ?_
    simp only[pu];clear hl1 hl2;go_upto_region 9 with fail;refine wl<|ZQ (Z9 0)<|wn ?_;simp only[pu];go_wp2_with fail;go_ret;exact⟨rfl,HE.out⟩
   ·rw[if_neg hab] at hf;obtain rfl:=hf;go_upto_region 7 with fail;refine wl<|ZQ (Z7 g1 10)<|ZC rfl ⟨g1,10,none⟩ (Z9 a) (hl1)<|ZQ (Z7 g1 11)<|ZC rfl ⟨g1,11,none⟩ (Z9 b) (hl2)<|Zg (Va rfl a b dT) <|
     wpList_nil ?_
    simp only[pu];clear hl1 hl2;go_upto_region 8 with fail;refine wl<|ZQ (Z9 1)<|wn ?_;simp only[pu];go_wp2_with fail;go_ret;exact⟨rfl,HE.out⟩
def Ja (c:List Int):Prop:=VU c/\Ve c=0
theorem Mc (x0 x1 x2 x3 x4 x5 x6 x7 x8 x9 x10 x11:Int)(h:1<=x0/\x0<=512/\1<=x1/\x1<=1048576/\1<=x2/\x2<=4096/\0<=x3/\x3<=1024/\0<=x4/\x4<=1073741824/\0<=x5/\x5<=1073741824/\0<=x6/\x6<=1/\1<=x7/\x7<=1048576/\-1<=x8/\x8<=1125899906842624/\0<=x10/\x10<=7/\1<=x11/\x11<=8/\0<=x9/\x9<18446744073709551616/\x10<x11):Ja [x0,x1,x2,x3,x4,x5,x6,x7,x8,x9,x10,x11]:=by
 refine⟨⟨rfl,?_,?_,?_,?_⟩,?_⟩
 ·show x6=0∨x6=1; omega
 ·show 0<=x9; omega
 ·show x9<18446744073709551616; omega
 ·intro i hi h9;match i,hi,h9 with
  | 0,_,_=>exact(show _<=x0/\x0<_ by omega)
  | 1,_,_=>exact(show _<=x1/\x1<_ by omega)
  | 2,_,_=>exact(show _<=x2/\x2<_ by omega)
  | 3,_,_=>exact(show _<=x3/\x3<_ by omega)
  | 4,_,_=>exact(show _<=x4/\x4<_ by omega)
  | 5,_,_=>exact(show _<=x5/\x5<_ by omega)
  | 6,_,_=>exact(show _<=x6/\x6<_ by omega)
  | 7,_,_=>exact(show _<=x7/\x7<_ by omega)
  | 8,_,_=>exact(show _<=x8/\x8<_ by omega)
  | 10,_,_=>exact(show _<=x10/\x10<_ by omega)
  | 11,_,_=>exact(show _<=x11/\x11<_ by omega)
 ·refine(GV ?_).trans (if_pos (show x10<x11 by omega));intro i hi;match i,hi with
  | 0,_=>exact .inr (show(1:Int)<=x0/\x0<=(512:Int) by omega)
  | 1,_=>exact .inr (show(1:Int)<=x1/\x1<=(1048576:Int) by omega)
  | 2,_=>exact .inr (show(1:Int)<=x2/\x2<=(4096:Int) by omega)
  | 3,_=>exact .inr (show(0:Int)<=x3/\x3<=(1024:Int) by omega)
  | 4,_=>exact .inr (show(0:Int)<=x4/\x4<=(1073741824:Int) by omega)
  | 5,_=>exact .inr (show(0:Int)<=x5/\x5<=(1073741824:Int) by omega)
  | 6,_=>exact .inr (show(0:Int)<=x6/\x6<=(1:Int) by omega)
  | 7,_=>exact .inr (show(1:Int)<=x7/\x7<=(1048576:Int) by omega)
  | 8,_=>exact .inr (show(-1:Int)<=x8/\x8<=(1125899906842624:Int) by omega)
  | 9,_=>exact .inl rfl
  | 10,_=>exact .inr (show(0:Int)<=x10/\x10<=(7:Int) by omega)
  | 11,_=>exact .inr (show(1:Int)<=x11/\x11<=(8:Int) by omega)
theorem ag4 {ρ:Operand->Value}{o:Oper}{x y:Operand}(ho:o.op=.binOp .mul 3 x y 3)(a b:Nat)(h:a*b<=1000000)(hx:ρ x=Z9 a)(hy:ρ y=Z9 b)(w:World):(execOp ρ o).run Tryz.prog w=.ok (.value (Z9 (a*b:Nat))) w:=by
 have hw:IntKind.i64.wrap ((a:Int)*b)=((a*b:Nat):Int):=by rw[IntKind.wrap_i64,<- Int.natCast_mul]; omega
 have hw2:IntKind.i64.wrap ((a*b:Nat):Int)=((a*b:Nat):Int):=by rw[IntKind.wrap_i64]; omega
 unfold execOp;simp only[ho,hx,hy];go_simp
theorem O8 {g g3:Nat}{w V V2:World}(h:But g w V)(k:But g3 V V2)(h1:w.heap.size<=g3)(h2:g<=g3):But g w V2:=
 ⟨h.1.trans (k.1.mono h2),fun j hj hne=>(k.2 j (Nat.lt_of_lt_of_le hj h.1.size) (by omega)).trans (h.2 j hj hne)⟩
def MkO (w:World)(g:Nat)(a:Option Addr)(c:Nat)(L:List Int)(N:Nat)(e:Ending)(w':World):Prop:=∃ cf N2,e=.returned (.agg (Zu cf))/\Ja cf/\N2<=N+14/\Nm w' g a c L N2/\But g w w'
theorem zi {w:World}{g c N:Nat}{a:Option Addr}{L:List Int}(h:Nm w g a c L N)(hl:L.length<=100000)(hN:N<=90000):Calls Tryz.prog 35 #[Z7 g 0] w (MkO w g a c L N):=by
 have hgl:=h.lt;have hb0:Below w.heap.size w (w.alloc (.cells #[Z9 0,Z9 0,Z9 0,Z9 0,Z9 0,Z9 0,ZY,Z9 0,Z9 0,ZV 0,Z9 0,Z9 0] 25)):=(Below.refl _ w).alloc (Nat.le_refl _) _;have hX2:Bx (w.alloc (.cells #[Z9 0,Z9 0,Z9 0,Z9 0,Z9 0,Z9 0,ZY,Z9 0,Z9 0,ZV 0,Z9 0,Z9 0] 25)) w.heap.size #[Z9 0,Z9 0,Z9 0,Z9 0,Z9 0,Z9 0,ZY,Z9 0,Z9 0,ZV 0,Z9 0,Z9 0] 25:=heap_alloc_last w _;have hns0:=h.below hb0;obtain⟨W,hW⟩:=ZR (w.alloc (.cells #[Z9 0,Z9 0,Z9 0,Z9 0,Z9 0,Z9 0,ZY,Z9 0,Z9 0,ZV 0,Z9 0,Z9 0] 25));rw[hW] at hb0 hX2 hns0;have HB:=Z8 (But.of_below hb0 (Nat.le_of_lt hgl));have HL:=Z8 hl;have Vu:=Z8 hN;have hC0:But g W W:=⟨Below.refl _ _,fun _ _ _=>rfl⟩;clear h hb0 hl hN;go_enter Tryz.func35,Tryz.ntmps35;go_upto_region 1 with fail;obtain⟨g2,hg2⟩:=ZR w.heap.size;rw[hg2] at hX2 hgl;simp only[hg2];have HG2:Hid (w.heap.size<=g2):=Z8 (Nat.le_of_eq hg2);clear hW hg2;refine wl<|ZQ (Z7 g 0) <|
  XQ (fun v w'=>∃ q:Nat,v=Z9 q/\(q:Int)<7/\Nm w' g a c L (N+1)/\But g W w') ((nx hns0 HL.out (by have:=Vu.out; omega) 7 (by first | decide | omega) (by first | decide | omega)).mono fun e w' z=>by obtain⟨⟨q,h1,h2,-⟩,h3,h4⟩:=z; exact⟨_,h1,q,rfl,h2,h3,h4⟩) (fun vv V1 hq=>?_)
 obtain⟨v1,rfl,hv1,Qk,VO⟩:=hq;have hC1:=hC0.trans VO;refine Yd (Z9 (1+v1)) (W9 rfl 1 v1 (by omega))<|ZQ (Z7 g 0) <|
  XQ (fun v w'=>∃ q:Nat,v=Z9 q/\(q:Int)<400/\Nm w' g a c L ((N+1)+1)/\But g V1 w') ((nx Qk HL.out (by have:=Vu.out; omega) 400 (by first | decide | omega) (by first | decide | omega)).mono fun e w' z=>by obtain⟨⟨q,h1,h2,-⟩,h3,h4⟩:=z; exact⟨_,h1,q,rfl,h2,h3,h4⟩) (fun vv V2 hq=>?_)
 obtain⟨v2,rfl,hv2,L8,WZ⟩:=hq;have hC2:=hC1.trans WZ;refine Yd (Z9 (250+v2)) (W9 rfl 250 v2 (by omega))<|ZQ (Z7 g 0) <|
  XQ (fun v w'=>∃ q:Nat,v=Z9 q/\(q:Int)<140/\Nm w' g a c L (((N+1)+1)+1)/\But g V2 w') ((nx L8 HL.out (by have:=Vu.out; omega) 140 (by first | decide | omega) (by first | decide | omega)).mono fun e w' z=>by obtain⟨⟨q,h1,h2,-⟩,h3,h4⟩:=z; exact⟨_,h1,q,rfl,h2,h3,h4⟩) (fun vv V3 hq=>?_)
 obtain⟨v3,rfl,hv3,Gi,Ya⟩:=hq;have hC3:=hC2.trans Ya;refine Yd (Z9 (60+v3)) (W9 rfl 60 v3 (by omega))<|ZQ (Z7 g 0) <|
  XQ (fun v w'=>∃ q:Nat,v=Z9 q/\(q:Int)<12/\Nm w' g a c L ((((N+1)+1)+1)+1)/\But g V3 w') ((nx Gi HL.out (by have:=Vu.out; omega) 12 (by first | decide | omega) (by first | decide | omega)).mono fun e w' z=>by obtain⟨⟨q,h1,h2,-⟩,h3,h4⟩:=z; exact⟨_,h1,q,rfl,h2,h3,h4⟩) (fun vv V4 hq=>?_)
 obtain⟨v4,rfl,hv4,sZ,O1⟩:=hq;have hC4:=hC3.trans O1;refine ZQ (Z7 g 0) <|
  XQ (fun v w'=>∃ q:Nat,v=Z9 q/\(q:Int)<4/\Nm w' g a c L (((((N+1)+1)+1)+1)+1)/\But g V4 w') ((nx sZ HL.out (by have:=Vu.out; omega) 4 (by first | decide | omega) (by first | decide | omega)).mono fun e w' z=>by obtain⟨⟨q,h1,h2,-⟩,h3,h4⟩:=z; exact⟨_,h1,q,rfl,h2,h3,h4⟩) (fun vv V5 hq=>?_)
 obtain⟨v5,rfl,hv5,Gf,VN⟩:=hq;have hC5:=hC4.trans VN;refine ZQ (Z7 g 0) <|
  XQ (fun v w'=>∃ q:Nat,v=Z9 q/\(q:Int)<3/\Nm w' g a c L ((((((N+1)+1)+1)+1)+1)+1)/\But g V5 w') ((nx Gf HL.out (by have:=Vu.out; omega) 3 (by first | decide | omega) (by first | decide | omega)).mono fun e w' z=>by obtain⟨⟨q,h1,h2,-⟩,h3,h4⟩:=z; exact⟨_,h1,q,rfl,h2,h3,h4⟩) (fun vv V6 hq=>?_)
 obtain⟨v6,rfl,hv6,F5,FZ⟩:=hq;have hC6:=hC5.trans FZ;refine ZQ (Z7 g 0) <|
  XQ (fun v w'=>∃ q:Nat,v=Z9 q/\(q:Int)<20/\Nm w' g a c L (((((((N+1)+1)+1)+1)+1)+1)+1)/\But g V6 w') ((nx F5 HL.out (by have:=Vu.out; omega) 20 (by first | decide | omega) (by first | decide | omega)).mono fun e w' z=>by obtain⟨⟨q,h1,h2,-⟩,h3,h4⟩:=z; exact⟨_,h1,q,rfl,h2,h3,h4⟩) (fun vv V7 hq=>?_)
 obtain⟨v7,rfl,hv7,sW,Gp⟩:=hq;have hC7:=hC6.trans Gp;have hmul:v6*v7<=1000000:=Nat.le_trans (Nat.mul_le_mul (show v6<=3 by omega) (show v7<=20 by omega)) (by omega);refine Yd (Z9 (v6*v7:Nat)) (ag4 rfl v6 v7 hmul)<|ZQ (Z7 g 0) <|
  XQ (fun v w'=>∃ q:Nat,v=Z9 q/\(q:Int)<3/\Nm w' g a c L ((((((((N+1)+1)+1)+1)+1)+1)+1)+1)/\But g V7 w') ((nx sW HL.out (by have:=Vu.out; omega) 3 (by first | decide | omega) (by first | decide | omega)).mono fun e w' z=>by obtain⟨⟨q,h1,h2,-⟩,h3,h4⟩:=z; exact⟨_,h1,q,rfl,h2,h3,h4⟩) (fun vv V8 hq=>?_)
 obtain⟨v8,rfl,hv8,yC,sV⟩:=hq;have hC8:=hC7.trans sV;obtain⟨q8,MR⟩:∃ q8:Int,q8=(if v8=0 then 1 else 0):=⟨_,rfl⟩;have aq0:q8=0∨q8=1:=by rw[MR]; split; exact .inr rfl; exact .inl rfl
 have hq8:decide ((v8:Int)=0)=decide (q8=1):=by rw[MR]; by_cases e:v8=0; rw[if_pos e]; exact decide_eq_decide.2 ⟨fun _=>rfl,fun _=>by omega⟩; rw[if_neg e]; exact decide_eq_decide.2 ⟨fun _=>by omega,fun q=>by omega⟩
 clear MR;refine Yd (.bool (decide (q8=1))) (XY rfl v8 0 hq8)<|ZQ (Z7 g 0) <|
  XQ (fun v w'=>∃ q:Nat,v=Z9 q/\(q:Int)<400/\Nm w' g a c L (((((((((N+1)+1)+1)+1)+1)+1)+1)+1)+1)/\But g V8 w') ((nx yC HL.out (by have:=Vu.out; omega) 400 (by first | decide | omega) (by first | decide | omega)).mono fun e w' z=>by obtain⟨⟨q,h1,h2,-⟩,h3,h4⟩:=z; exact⟨_,h1,q,rfl,h2,h3,h4⟩) (fun vv V9 hq=>?_)
 obtain⟨v9,rfl,hv9,Gj,U8⟩:=hq;have hC9:=hC8.trans U8;refine Yd (Z9 (100+v9)) (W9 rfl 100 v9 (by omega))<|ZQ (Z7 g 0) <|
  XQ (fun v w'=>∃ q:Nat,v=Z9 q/\(q:Int)<3/\Nm w' g a c L ((((((((((N+1)+1)+1)+1)+1)+1)+1)+1)+1)+1)/\But g V9 w') ((nx Gj HL.out (by have:=Vu.out; omega) 3 (by first | decide | omega) (by first | decide | omega)).mono fun e w' z=>by obtain⟨⟨q,h1,h2,-⟩,h3,h4⟩:=z; exact⟨_,h1,q,rfl,h2,h3,h4⟩) (fun vv V10 hq=>?_)
 obtain⟨v10,rfl,aw4,pV,dA⟩:=hq;have pU:=hC9.trans dA;obtain⟨V11,dw,iL,Zr⟩:=Zk (c:=#[Z9 0,Z9 0,Z9 0,Z9 0,Z9 0,Z9 0,ZY,Z9 0,Z9 0,ZV 0,Z9 0,Z9 0]) (c':=#[Z9 (1+v1),Z9 (250+v2),Z9 (60+v3),Z9 (v4),Z9 (v5),Z9 ((v6*v7:Nat)),.bool (decide (q8=1)),Z9 (100+v9),Z9 (-1),ZV (v10),Z9 (0),Z9 (1)]) (ty:=25) V10 rfl (by kernel_rfl) (by kernel_rfl);refine Za (ZV v10) (Ug rfl v10 (by omega) (by omega) (by kernel_rfl) _) <|
  ZQ (.agg #[Z9 (1+v1),Z9 (250+v2),Z9 (60+v3),Z9 v4,Z9 v5,Z9 (v6*v7:Nat),.bool (decide (q8=1)),Z9 (100+v9),Z9 (-1),ZV v10,Z9 0,Z9 1]) ?_
 refine Zj rfl (some 3) rfl (Z7 V10.heap.size 0) (V10.alloc (.cells #[Z9 0,Z9 0,Z9 0,Z9 0,Z9 0,Z9 0,ZY,Z9 0,Z9 0,ZV 0,Z9 0,Z9 0] 25)) (by kernel_rfl) ?_;refine Yb rfl (dw)<|wn ?_;have dh:But g V10 V11:=But.of_below iL (Nat.le_of_lt pV.lt);have aw5:=(hX2.but pU (by omega)).below (hX2.but pU (by omega)).lt iL;have aq1:=pV.below iL;have aq2:=pU.trans dh;have aw6:g2<V10.heap.size:=(hX2.but pU (by omega)).lt;obtain⟨g3,hg3⟩:=ZR V10.heap.size;rw[hg3] at Zr aw6;simp only[hg3];have HP:Hid (v6*v7<=60):=Z8 (Nat.mul_le_mul (show v6<=3 by omega) (show v7<=20 by omega));have HV:Hid (v1<7/\v2<400/\v3<140/\v4<12/\v5<4/\v9<400/\v10<3):=Z8 (by omega);have HQ:=Z8 aq0;generalize v6*v7=p7 at *
 clear dw iL hX2 VO WZ Ya O1 VN FZ Gp sV U8 dA dh hC0 hC1 hC2 hC3 hC4 hC5 hC6 hC7 hC8 hC9 pU hns0 Qk L8 Gi sZ Gf F5 sW yC Gj pV hg3 hv1 hv2 hv3 hv4 hv5 hv6 hv7 hv8 hv9 aw4 hmul aq0 hq8;have aw7:=HB.out.trans aq2;clear aq2 HB;have WS:Hid (g<g2/\g2<g3/\w.heap.size<=g3):=Z8 (by have:=HG2.out; omega);go_upto_region 2 with fail;refine wl<|ZQ (Z7 g 0) <|
  XQ (fun v w'=>∃ q:Nat,v=Z9 q/\(q:Int)<3/\Nm w' g a c L (((((((((((N+1)+1)+1)+1)+1)+1)+1)+1)+1)+1)+1)/\But g V11 w') ((nx aq1 HL.out (by have:=Vu.out; omega) 3 (by first | decide | omega) (by first | decide | omega)).mono fun e w' z=>by obtain⟨⟨q,h1,h2,-⟩,h3,h4⟩:=z; exact⟨_,h1,q,rfl,h2,h3,h4⟩) (fun vv V20 hq=>?_)
 obtain⟨v20,rfl,aw8,cZ,zD⟩:=hq;have pR:=Zr.but zD (by have:=WS.out; omega);have pO:=aw5.but zD (by have:=WS.out; omega);have hA20:=aw7.trans zD;have ay2:Hid (v20<3):=Z8 (by omega);clear aw8 zD;simp only[pu];by_cases h20:v20=0
 ·refine Zg (Y4 rfl v20 0 (decide_eq_true h20))<|wn ?_;simp only[pu];clear h20;go_upto_region 3 with fail;refine wl<|ZQ (Z7 g 0) <|
   XQ (fun v w'=>∃ q:Nat,v=Z9 q/\(q:Int)<900/\Nm w' g a c L ((((((((((((N+1)+1)+1)+1)+1)+1)+1)+1)+1)+1)+1)+1)/\But g V20 w') ((nx cZ HL.out (by have:=Vu.out; omega) 900 (by first | decide | omega) (by first | decide | omega)).mono fun e w' z=>by obtain⟨⟨q,h1,h2,-⟩,h3,h4⟩:=z; exact⟨_,h1,q,rfl,h2,h3,h4⟩) (fun vv V21 hq=>?_)
  obtain⟨v21,rfl,aw9,aq3,zC⟩:=hq;have ag5:=pR.but zC (by have:=WS.out; omega);have ag6:=pO.but zC (by have:=WS.out; omega);have ax0:=hA20.trans zC;have ag7:Hid (v21<900):=Z8 (by omega);clear aw9 zC;obtain⟨V22,cO,ag8,zB⟩:=Xo (i:=8) (v:=Z9 (200+v21)) (ty:=3) #[Z9 (1+v1),Z9 (250+v2),Z9 (60+v3),Z9 (v4),Z9 (v5),Z9 (p7),.bool (decide (q8=1)),Z9 (100+v9),Z9 (200+v21),ZV (v10),Z9 (0),Z9 (1)] ag5 (by simp) rfl rfl (by kernel_rfl);have ag9:=ag6.but zB (by have:=WS.out; omega);have aq4:=aq3.low zB.1 (by have:=WS.out; omega);have ax1:=O8 ax0 zB WS.out.2.2 (by have:=WS.out; omega);refine Yd (Z9 (200+v21)) (W9 rfl 200 v21 (by have:=ag7.out; omega))<|ZQ (Z7 g3 8)<|Yb rfl (cO)<|wn ?_;simp only[pu];clear cO zB;go_upto_region 4 with fail;refine wl<|ZQ (Z7 g 0) <|
   XQ (fun v w'=>∃ q:Nat,v=Z9 q/\(q:Int)<6/\Nm w' g a c L (((((((((((((N+1)+1)+1)+1)+1)+1)+1)+1)+1)+1)+1)+1)+1)/\But g V22 w') ((nx aq4 HL.out (by have:=Vu.out; omega) 6 (by first | decide | omega) (by first | decide | omega)).mono fun e w' z=>by obtain⟨⟨q,h1,h2,-⟩,h3,h4⟩:=z; exact⟨_,h1,q,rfl,h2,h3,h4⟩) (fun vv V23 hq=>?_)
  obtain⟨v23,rfl,ax2,cu,zA⟩:=hq;have pK:=ag8.but zA (by have:=WS.out; omega);have pJ:=ag9.but zA (by have:=WS.out; omega);have aq5:=ax1.trans zA;have ay3:Hid (v23<6):=Z8 (by omega);clear ax2 zA;simp only[pu];by_cases h23:v23=0
  ·refine Zg (Y4 rfl v23 0 (decide_eq_true h23))<|wn ?_;simp only[pu];clear h23;go_upto_region 5 with fail;refine wl<|ZQ (Z7 g 0) <|
    XQ (fun v w'=>∃ q:Nat,v=Z9 q/\(q:Int)<40/\Nm w' g a c L ((((((((((((((N+1)+1)+1)+1)+1)+1)+1)+1)+1)+1)+1)+1)+1)+1)/\But g V23 w') ((nx cu HL.out (by have:=Vu.out; omega) 40 (by first | decide | omega) (by first | decide | omega)).mono fun e w' z=>by obtain⟨⟨q,h1,h2,-⟩,h3,h4⟩:=z; exact⟨_,h1,q,rfl,h2,h3,h4⟩) (fun vv V24 hq=>?_)
   obtain⟨v24,rfl,hv24,aq6,zy⟩:=hq;have ah0:=pK.but zy (by have:=WS.out; omega);have ah1:=pJ.but zy (by have:=WS.out; omega);have ax3:=aq5.trans zy;have aq7:Hid (v24<40):=Z8 (by omega);clear hv24 zy;obtain⟨V25,bZ,ah2,zx⟩:=Xo (i:=2) (v:=Z9 (40+v24)) (ty:=3) #[Z9 (1+v1),Z9 (250+v2),Z9 (40+v24),Z9 (v4),Z9 (v5),Z9 (p7),.bool (decide (q8=1)),Z9 (100+v9),Z9 (200+v21),ZV (v10),Z9 (0),Z9 (1)] ah0 (by simp) rfl rfl (by kernel_rfl);have ah3:=ah1.but zx (by have:=WS.out; omega);have aq8:=aq6.low zx.1 (by have:=WS.out; omega);have ax4:=O8 ax3 zx WS.out.2.2 (by have:=WS.out; omega);refine Yd (Z9 (40+v24)) (W9 rfl 40 v24 (by have:=aq7.out; omega))<|ZQ (Z7 g3 2)<|Yb rfl (bZ)<|wn ?_;simp only[pu];clear bZ zx;obtain⟨V50,QJ,hY2,Uw⟩:=st_all (cs':=#[Z9 (1+v1),Z9 (250+v2),Z9 (40+v24),Z9 (v4),Z9 (v5),Z9 (p7),.bool (decide (q8=1)),Z9 (100+v9),Z9 (200+v21),ZV (v10),Z9 (0),Z9 (1)]) (ty:=25) ah3 rfl (by kernel_rfl) (by kernel_rfl);have hld:(Instr.loadAt 25 (Z7 g3 0)).run Tryz.prog V25=.ok (.agg (Zu [1+v1,250+v2,40+v24,v4,v5,p7,q8,100+v9,200+v21,v10,0,1])) V25:=RP (c:=[1+v1,250+v2,40+v24,v4,v5,p7,q8,100+v9,200+v21,v10,0,1]) ah2;have Bg:=Z8 (RP (c:=[1+v1,250+v2,40+v24,v4,v5,p7,q8,100+v9,200+v21,v10,0,1]) hY2);have HMD:Hid (Ja [1+v1,250+v2,40+v24,v4,v5,p7,q8,100+v9,200+v21,v10,0,1]):=Z8 (Mc (1+v1) (250+v2) (40+v24) (v4) (v5) (p7) (q8) (100+v9) (200+v21) (v10) (0) (1) (by have:=HP.out; have:=HV.out; have:=HQ.out; have:=ag7.out; have:=aq7.out; omega));have JV:=aq8.low Uw.1 (by have:=WS.out; omega);have pI:=O8 ax4 Uw HG2.out (by have:=WS.out; omega);have HE:Hid (MkO w g a c L N (.returned (.agg (Zu [1+v1,250+v2,40+v24,v4,v5,p7,q8,100+v9,200+v21,v10,0,1]))) V50):=Z8 ⟨_,_,rfl,HMD.out,by omega,JV,pI⟩;go_upto_region 6 with fail;refine wl<|ZC rfl ⟨g3,0,none⟩ (.agg #[Z9 (1+v1),Z9 (250+v2),Z9 (40+v24),Z9 (v4),Z9 (v5),Z9 (p7),.bool (decide (q8=1)),Z9 (100+v9),Z9 (200+v21),ZV (v10),Z9 (0),Z9 (1)]) (hld) <|
    Yb rfl (QJ)<|wn ?_
   simp only[pu];clear QJ Uw hld hY2 JV pI;go_wp2_with fail;exact bodyPost_ret (YV (p:=2) rfl (by kernel_rfl) Bg.out) rfl HE.out
  ·refine Zg (Y4 rfl v23 0 (decide_eq_false h23))<|wn ?_;simp only[pu];clear h23;obtain⟨V50,QJ,hY2,Uw⟩:=st_all (cs':=#[Z9 (1+v1),Z9 (250+v2),Z9 (60+v3),Z9 (v4),Z9 (v5),Z9 (p7),.bool (decide (q8=1)),Z9 (100+v9),Z9 (200+v21),ZV (v10),Z9 (0),Z9 (1)]) (ty:=25) pJ rfl (by kernel_rfl) (by kernel_rfl);have hld:(Instr.loadAt 25 (Z7 g3 0)).run Tryz.prog V23=.ok (.agg (Zu [1+v1,250+v2,60+v3,v4,v5,p7,q8,100+v9,200+v21,v10,0,1])) V23:=RP (c:=[1+v1,250+v2,60+v3,v4,v5,p7,q8,100+v9,200+v21,v10,0,1]) pK;have Bg:=Z8 (RP (c:=[1+v1,250+v2,60+v3,v4,v5,p7,q8,100+v9,200+v21,v10,0,1]) hY2);have HMD:Hid (Ja [1+v1,250+v2,60+v3,v4,v5,p7,q8,100+v9,200+v21,v10,0,1]):=Z8 (Mc (1+v1) (250+v2) (60+v3) (v4) (v5) (p7) (q8) (100+v9) (200+v21) (v10) (0) (1) (by have:=HP.out; have:=HV.out; have:=HQ.out; have:=ag7.out; omega));have JV:=cu.low Uw.1 (by have:=WS.out; omega);have pI:=O8 aq5 Uw HG2.out (by have:=WS.out; omega);have HE:Hid (MkO w g a c L N (.returned (.agg (Zu [1+v1,250+v2,60+v3,v4,v5,p7,q8,100+v9,200+v21,v10,0,1]))) V50):=Z8 ⟨_,_,rfl,HMD.out,by omega,JV,pI⟩;go_upto_region 6 with fail;refine wl<|ZC rfl ⟨g3,0,none⟩ (.agg #[Z9 (1+v1),Z9 (250+v2),Z9 (60+v3),Z9 (v4),Z9 (v5),Z9 (p7),.bool (decide (q8=1)),Z9 (100+v9),Z9 (200+v21),ZV (v10),Z9 (0),Z9 (1)]) (hld) <|
    Yb rfl (QJ)<|wn ?_
   simp only[pu];clear QJ Uw hld hY2 JV pI;go_wp2_with fail;exact bodyPost_ret (YV (p:=2) rfl (by kernel_rfl) Bg.out) rfl HE.out
 ·refine Zg (Y4 rfl v20 0 (decide_eq_false h20))<|wn ?_;simp only[pu];clear h20;go_upto_region 4 with fail;refine wl<|ZQ (Z7 g 0) <|
   XQ (fun v w'=>∃ q:Nat,v=Z9 q/\(q:Int)<6/\Nm w' g a c L ((((((((((((N+1)+1)+1)+1)+1)+1)+1)+1)+1)+1)+1)+1)/\But g V20 w') ((nx cZ HL.out (by have:=Vu.out; omega) 6 (by first | decide | omega) (by first | decide | omega)).mono fun e w' z=>by obtain⟨⟨q,h1,h2,-⟩,h3,h4⟩:=z; exact⟨_,h1,q,rfl,h2,h3,h4⟩) (fun vv V26 hq=>?_)
  obtain⟨v26,rfl,ax5,bY,zu⟩:=hq;have pG:=pR.but zu (by have:=WS.out; omega);have pF:=pO.but zu (by have:=WS.out; omega);have aq9:=hA20.trans zu;have ay4:Hid (v26<6):=Z8 (by omega);clear ax5 zu;simp only[pu];by_cases h26:v26=0
  ·refine Zg (Y4 rfl v26 0 (decide_eq_true h26))<|wn ?_;simp only[pu];clear h26;go_upto_region 5 with fail;refine wl<|ZQ (Z7 g 0) <|
    XQ (fun v w'=>∃ q:Nat,v=Z9 q/\(q:Int)<40/\Nm w' g a c L (((((((((((((N+1)+1)+1)+1)+1)+1)+1)+1)+1)+1)+1)+1)+1)/\But g V26 w') ((nx bY HL.out (by have:=Vu.out; omega) 40 (by first | decide | omega) (by first | decide | omega)).mono fun e w' z=>by obtain⟨⟨q,h1,h2,-⟩,h3,h4⟩:=z; exact⟨_,h1,q,rfl,h2,h3,h4⟩) (fun vv V27 hq=>?_)
   obtain⟨v27,rfl,hv27,ar0,zq⟩:=hq;have ah4:=pG.but zq (by have:=WS.out; omega);have ah5:=pF.but zq (by have:=WS.out; omega);have ax6:=aq9.trans zq;have ar1:Hid (v27<40):=Z8 (by omega);clear hv27 zq;obtain⟨V28,bW,ah6,zo⟩:=Xo (i:=2) (v:=Z9 (40+v27)) (ty:=3) #[Z9 (1+v1),Z9 (250+v2),Z9 (40+v27),Z9 (v4),Z9 (v5),Z9 (p7),.bool (decide (q8=1)),Z9 (100+v9),Z9 (-1),ZV (v10),Z9 (0),Z9 (1)] ah4 (by simp) rfl rfl (by kernel_rfl);have ah7:=ah5.but zo (by have:=WS.out; omega);have ar2:=ar0.low zo.1 (by have:=WS.out; omega);have ax7:=O8 ax6 zo WS.out.2.2 (by have:=WS.out; omega);refine Yd (Z9 (40+v27)) (W9 rfl 40 v27 (by have:=ar1.out; omega))<|ZQ (Z7 g3 2)<|Yb rfl (bW)<|wn ?_;simp only[pu];clear bW zo;obtain⟨V50,QJ,hY2,Uw⟩:=st_all (cs':=#[Z9 (1+v1),Z9 (250+v2),Z9 (40+v27),Z9 (v4),Z9 (v5),Z9 (p7),.bool (decide (q8=1)),Z9 (100+v9),Z9 (-1),ZV (v10),Z9 (0),Z9 (1)]) (ty:=25) ah7 rfl (by kernel_rfl) (by kernel_rfl);have hld:(Instr.loadAt 25 (Z7 g3 0)).run Tryz.prog V28=.ok (.agg (Zu [1+v1,250+v2,40+v27,v4,v5,p7,q8,100+v9,-1,v10,0,1])) V28:=RP (c:=[1+v1,250+v2,40+v27,v4,v5,p7,q8,100+v9,-1,v10,0,1]) ah6;have Bg:=Z8 (RP (c:=[1+v1,250+v2,40+v27,v4,v5,p7,q8,100+v9,-1,v10,0,1]) hY2);have HMD:Hid (Ja [1+v1,250+v2,40+v27,v4,v5,p7,q8,100+v9,-1,v10,0,1]):=Z8 (Mc (1+v1) (250+v2) (40+v27) (v4) (v5) (p7) (q8) (100+v9) (-1) (v10) (0) (1) (by have:=HP.out; have:=HV.out; have:=HQ.out; have:=ar1.out; omega));have JV:=ar2.low Uw.1 (by have:=WS.out; omega);have pI:=O8 ax7 Uw HG2.out (by have:=WS.out; omega);have HE:Hid (MkO w g a c L N (.returned (.agg (Zu [1+v1,250+v2,40+v27,v4,v5,p7,q8,100+v9,-1,v10,0,1]))) V50):=Z8 ⟨_,_,rfl,HMD.out,by omega,JV,pI⟩;go_upto_region 6 with fail;refine wl<|ZC rfl ⟨g3,0,none⟩ (.agg #[Z9 (1+v1),Z9 (250+v2),Z9 (40+v27),Z9 (v4),Z9 (v5),Z9 (p7),.bool (decide (q8=1)),Z9 (100+v9),Z9 (-1),ZV (v10),Z9 (0),Z9 (1)]) (hld) <|
    Yb rfl (QJ)<|wn ?_
   simp only[pu];clear QJ Uw hld hY2 JV pI;go_wp2_with fail;exact bodyPost_ret (YV (p:=2) rfl (by kernel_rfl) Bg.out) rfl HE.out
  ·refine Zg (Y4 rfl v26 0 (decide_eq_false h26))<|wn ?_;simp only[pu];clear h26;obtain⟨V50,QJ,hY2,Uw⟩:=st_all (cs':=#[Z9 (1+v1),Z9 (250+v2),Z9 (60+v3),Z9 (v4),Z9 (v5),Z9 (p7),.bool (decide (q8=1)),Z9 (100+v9),Z9 (-1),ZV (v10),Z9 (0),Z9 (1)]) (ty:=25) pF rfl (by kernel_rfl) (by kernel_rfl);have hld:(Instr.loadAt 25 (Z7 g3 0)).run Tryz.prog V26=.ok (.agg (Zu [1+v1,250+v2,60+v3,v4,v5,p7,q8,100+v9,-1,v10,0,1])) V26:=RP (c:=[1+v1,250+v2,60+v3,v4,v5,p7,q8,100+v9,-1,v10,0,1]) pG;have Bg:=Z8 (RP (c:=[1+v1,250+v2,60+v3,v4,v5,p7,q8,100+v9,-1,v10,0,1]) hY2);have HMD:Hid (Ja [1+v1,250+v2,60+v3,v4,v5,p7,q8,100+v9,-1,v10,0,1]):=Z8 (Mc (1+v1) (250+v2) (60+v3) (v4) (v5) (p7) (q8) (100+v9) (-1) (v10) (0) (1) (by have:=HP.out; have:=HV.out; have:=HQ.out; omega));have JV:=bY.low Uw.1 (by have:=WS.out; omega);have pI:=O8 aq9 Uw HG2.out (by have:=WS.out; omega);have HE:Hid (MkO w g a c L N (.returned (.agg (Zu [1+v1,250+v2,60+v3,v4,v5,p7,q8,100+v9,-1,v10,0,1]))) V50):=Z8 ⟨_,_,rfl,HMD.out,by omega,JV,pI⟩;go_upto_region 6 with fail;refine wl<|ZC rfl ⟨g3,0,none⟩ (.agg #[Z9 (1+v1),Z9 (250+v2),Z9 (60+v3),Z9 (v4),Z9 (v5),Z9 (p7),.bool (decide (q8=1)),Z9 (100+v9),Z9 (-1),ZV (v10),Z9 (0),Z9 (1)]) (hld) <|
    Yb rfl (QJ)<|wn ?_
   simp only[pu];clear QJ Uw hld hY2 JV pI;go_wp2_with fail;exact bodyPost_ret (YV (p:=2) rfl (by kernel_rfl) Bg.out) rfl HE.out
end Go.Proofs.YtnelmomagdcmnaaGreat.Cg
namespace Go.Proofs.YtnelmomagdcmnaaGreat
open Go.RowKit
theorem VT.inn {w:World}{g:Nat}{S:Nat->Prop}{m:Sm}(h:Sl.VT w g S m):∀ k,S k->k<w.heap.size:=by
 obtain⟨a,c,T,fr,h1,-,rfl⟩:=h;exact h1.inn
theorem VT.same {w w':World}{g:Nat}{S:Nat->Prop}{m:Sm}(h:Sl.VT w g S m)(hs:∀ k,S k->w'.heap[k]?=w.heap[k]?):Sl.VT w' g S m:=by
 obtain⟨a,c,T,fr,h1,h2,rfl⟩:=h;exact⟨a,c,T,fr,h1.same hs,h2,rfl⟩
structure Pd where
 Bp:Nat
 Bk:Nat
 gs:Nat
 gh:Nat
 gi:Nat
 gq:Nat
structure Ps where
 Ss:Nat->Prop
 Sh:Nat->Prop
 Si:Nat->Prop
 Sq:Nat->Prop
abbrev O4 (c:List Int)(u:Nat)(d:Pd):Array Value:=#[Z9 (c.getD 0 0),Z9 (c.getD 1 0),Z9 (c.getD 2 0),Z9 (c.getD 3 0),Z9 (c.getD 4 0),Z9 (c.getD 5 0),.bool (decide (c.getD 6 0=1)),Z9 (c.getD 7 0),Z9 (c.getD 8 0),ZV (c.getD 9 0),Z9 (c.getD 10 0),Z9 (c.getD 11 0),Z9 u,.map (some d.Bp),.map (some d.Bk),Z7 d.gs 0,Z7 d.gh 0,Z7 d.gi 0,Z7 d.gq 0]
def Pp (g:Nat)(d:Pd)(s:Ps):Nat->Nat->Prop
 | 0,k=>k=g
 | 1,k=>k=d.Bp
 | 2,k=>k=d.Bk
 | 3,k=>s.Ss k
 | 4,k=>s.Sh k
 | 5,k=>s.Si k
 | 6,k=>s.Sq k
 | _,_=>False
structure Pq (w:World)(g:Nat)(d:Pd)(s:Ps)(c:List Int)(u:Nat)(m:Sm)(M:List Hp.It)(R:List Sd.Rw)(Lp Lk:List El)(W:List Ex.Wt):Prop where
 bx:Bx w g (O4 c u d) 95
 pl:Jt w d.Bp Lp
 ky:LV w d.Bk Lk
 st:Sl.VT w d.gs s.Ss m
 hp:Hp.TY w d.gh s.Sh M
 sn:Sd.TV w d.gi s.Si R
 ex:Ex.U6 w d.gq s.Sq (c.getD 4 0) (c.getD 5 0) W
 Qa:∀ i j k,Pp g d s i k->Pp g d s j k->i=j
structure Xi (B g:Nat)(d:Pd)(s:Ps)(w:World)(s':Ps)(w':World):Prop where
 sub:∀ i k,Pp g d s' i k->Pp g d s i k∨w.heap.size<=k
 but:ZL B (fun k=>∃ i,Pp g d s i k) w w'
theorem ZL.sub {B:Nat}{S S2:Nat->Prop}{w w':World}(h:ZL B S w w')(hs:∀ k,S k->S2 k):ZL B S2 w w':=⟨h.1,fun k hk hn=>h.2 k hk fun q=>hn (hs k q)⟩
theorem Xi.refl (B g:Nat)(d:Pd)(s:Ps)(w:World):Xi B g d s w s w:=⟨fun _ _ h=>.inl h,ZL.refl _ _ _⟩
theorem Xi.below {B g:Nat}{d:Pd}{s:Ps}{w w':World}(hb:Below w.heap.size w w')(hB:B<=w.heap.size):Xi B g d s w s w':=⟨fun _ _ h=>.inl h,ZL.of_below hb hB⟩
theorem Xi.tr {B g:Nat}{d:Pd}{s s1 s2:Ps}{w w1 w2:World}(h:Xi B g d s w s1 w1)(k:Xi B g d s1 w1 s2 w2):Xi B g d s w s2 w2:=by
 have hz:=h.but.1.size;refine⟨fun i x hx=>?_,h.but.trans k.but fun x hx=>?_⟩
 ·rcases k.sub i x hx with h1 | h1
  ·exact h.sub i x h1
  ·exact .inr (by omega)
 ·obtain⟨i,hi⟩:=hx;rcases h.sub i x hi with h1 | h1
  ·exact .inl ⟨i,h1⟩
  ·exact .inr h1
theorem IG {P P':Nat->Nat->Prop}{i n:Nat}(Qa:∀ a b k,P a k->P b k->a=b)(inn:∀ a k,P a k->k<n)(h:∀ a k,P' a k->P a k∨(a=i/\n<=k)):∀ a b k,P' a k->P' b k->a=b:=fun a b k ha hb=>by
 rcases h a k ha with h1 | ⟨h1,h2⟩ <;> rcases h b k hb with h3 | ⟨h3,h4⟩
 ·exact Qa a b k h1 h3
 ·have:=inn a k h1; omega
 ·have:=inn b k h3; omega
 ·rw[h1,h3]
section
variable {w w' : World} {g u : Nat} {d : Pd} {s : Ps} {c : List Int} {m : Sm} {M : List Hp.It} {R : List Sd.Rw} {Lp Lk : List El} {W : List Ex.Wt}
theorem Pq.inn (h:Pq w g d s c u m M R Lp Lk W):∀ i k,Pp g d s i k->k<w.heap.size
 | 0,k,hk=>by
  have e:k=g:=hk;rw[e]; exact h.bx.lt
 | 1,k,hk=>by
  have e:k=d.Bp:=hk;rw[e]; exact h.pl.lt
 | 2,k,hk=>by
  have e:k=d.Bk:=hk;rw[e]; exact h.ky.lt
 | 3,k,hk=>VT.inn h.st k hk
 | 4,k,hk=>h.hp.inn k hk
 | 5,k,hk=>h.sn.inn k hk
 | 6,k,hk=>h.ex.inn k hk
 | n+7,k,hk=>by cases hk
theorem Pq.same (h:Pq w g d s c u m M R Lp Lk W)(hs:∀ i k,Pp g d s i k->w'.heap[k]?=w.heap[k]?):Pq w' g d s c u m M R Lp Lk W:=
 ⟨(hs 0 g rfl).trans h.bx,h.pl.same (hs 1 d.Bp rfl),h.ky.same (hs 2 d.Bk rfl),VT.same h.st fun k hk=>hs 3 k hk,h.hp.same fun k hk=>hs 4 k hk,h.sn.same fun k hk=>hs 5 k hk,h.ex.same fun k hk=>hs 6 k hk,h.Qa⟩
theorem Pq.below (h:Pq w g d s c u m M R Lp Lk W)(hb:Below w.heap.size w w'):Pq w' g d s c u m M R Lp Lk W:=h.same fun i k hk=>hb.block k (h.inn i k hk)
theorem Pq.keep (h:Pq w g d s c u m M R Lp Lk W){i B:Nat}(hb:ZL B (Pp g d s i) w w'):∀ j k,j≠i->Pp g d s j k->w'.heap[k]?=w.heap[k]?:=fun j k hj hk=>hb.2 k (h.inn j k hk) fun hi=>hj (h.Qa j i k hk hi)
theorem UJ {B i:Nat}(hb:ZL B (Pp g d s i) w w'):ZL B (fun k=>∃ i,Pp g d s i k) w w':=hb.sub fun k hk=>⟨i,hk⟩
theorem Pq.up3 (h:Pq w g d s c u m M R Lp Lk W){B:Nat}{m2:Sm}(hU:Sl.l7 d.gs B s.Ss m2 w w'):∃ s',Pq w' g d s' c u m2 M R Lp Lk W/\Xi B g d s w s' w':=by
 obtain⟨S',h1,h2,h3⟩:=hU;have hb:ZL B (Pp g d s 3) w w':=h3;have hk:=h.keep hb;have hsub:∀ i k,Pp g d { s with Ss:=S' } i k->Pp g d s i k∨(i=3/\w.heap.size<=k):=fun i k hi=>by
  match i,hi with
  | 0,hi=>exact .inl hi
  | 1,hi=>exact .inl hi
  | 2,hi=>exact .inl hi
  | 3,hi=>exact(h2 k hi).imp id fun q=>⟨rfl,q⟩
  | 4,hi=>exact .inl hi
  | 5,hi=>exact .inl hi
  | 6,hi=>exact .inl hi
 exact⟨{ s with Ss:=S' },⟨(hk 0 g (by decide) rfl).trans h.bx,h.pl.same (hk 1 d.Bp (by decide) rfl),h.ky.same (hk 2 d.Bk (by decide) rfl),h1,h.hp.same fun k q=>hk 4 k (by decide) q,h.sn.same fun k q=>hk 5 k (by decide) q,h.ex.same fun k q=>hk 6 k (by decide) q,IG h.Qa h.inn hsub⟩,fun i k q=>(hsub i k q).imp id And.right,UJ hb⟩
theorem Pq.up4 (h:Pq w g d s c u m M R Lp Lk W){B:Nat}{M2:List Hp.It}(hU:Hp.yS Hp.TY d.gh B s.Sh M2 w w'):∃ s',Pq w' g d s' c u m M2 R Lp Lk W/\Xi B g d s w s' w':=by
 obtain⟨S',h1,h2,h3⟩:=hU;have hb:ZL B (Pp g d s 4) w w':=h3;have hk:=h.keep hb;have hsub:∀ i k,Pp g d { s with Sh:=S' } i k->Pp g d s i k∨(i=4/\w.heap.size<=k):=fun i k hi=>by
  match i,hi with
  | 0,hi=>exact .inl hi
  | 1,hi=>exact .inl hi
  | 2,hi=>exact .inl hi
  | 3,hi=>exact .inl hi
  | 4,hi=>exact(h2 k hi).imp id fun q=>⟨rfl,q⟩
  | 5,hi=>exact .inl hi
  | 6,hi=>exact .inl hi
 exact⟨{ s with Sh:=S' },⟨(hk 0 g (by decide) rfl).trans h.bx,h.pl.same (hk 1 d.Bp (by decide) rfl),h.ky.same (hk 2 d.Bk (by decide) rfl),VT.same h.st fun k q=>hk 3 k (by decide) q,h1,h.sn.same fun k q=>hk 5 k (by decide) q,h.ex.same fun k q=>hk 6 k (by decide) q,IG h.Qa h.inn hsub⟩,fun i k q=>(hsub i k q).imp id And.right,UJ hb⟩
theorem Pq.up5 (h:Pq w g d s c u m M R Lp Lk W){B:Nat}{R2:List Sd.Rw}(hU:Sd.LJ d.gi B s.Si R2 w w'):∃ s',Pq w' g d s' c u m M R2 Lp Lk W/\Xi B g d s w s' w':=by
 obtain⟨S',h1,h2,h3⟩:=hU;have hb:ZL B (Pp g d s 5) w w':=h3;have hk:=h.keep hb;have hsub:∀ i k,Pp g d { s with Si:=S' } i k->Pp g d s i k∨(i=5/\w.heap.size<=k):=fun i k hi=>by
  match i,hi with
  | 0,hi=>exact .inl hi
  | 1,hi=>exact .inl hi
  | 2,hi=>exact .inl hi
  | 3,hi=>exact .inl hi
  | 4,hi=>exact .inl hi
  | 5,hi=>exact(h2 k hi).imp id fun q=>⟨rfl,q⟩
  | 6,hi=>exact .inl hi
 exact⟨{ s with Si:=S' },⟨(hk 0 g (by decide) rfl).trans h.bx,h.pl.same (hk 1 d.Bp (by decide) rfl),h.ky.same (hk 2 d.Bk (by decide) rfl),VT.same h.st fun k q=>hk 3 k (by decide) q,h.hp.same fun k q=>hk 4 k (by decide) q,h1,h.ex.same fun k q=>hk 6 k (by decide) q,IG h.Qa h.inn hsub⟩,fun i k q=>(hsub i k q).imp id And.right,UJ hb⟩
theorem Pq.up6 (h:Pq w g d s c u m M R Lp Lk W){B:Nat}{W2:List Ex.Wt}(hU:Ex.LG d.gq B s.Sq (c.getD 4 0) (c.getD 5 0) W2 w w'):∃ s',Pq w' g d s' c u m M R Lp Lk W2/\Xi B g d s w s' w':=by
 obtain⟨S',h1,h2,h3⟩:=hU;have hb:ZL B (Pp g d s 6) w w':=h3;have hk:=h.keep hb;have hsub:∀ i k,Pp g d { s with Sq:=S' } i k->Pp g d s i k∨(i=6/\w.heap.size<=k):=fun i k hi=>by
  match i,hi with
  | 0,hi=>exact .inl hi
  | 1,hi=>exact .inl hi
  | 2,hi=>exact .inl hi
  | 3,hi=>exact .inl hi
  | 4,hi=>exact .inl hi
  | 5,hi=>exact .inl hi
  | 6,hi=>exact(h2 k hi).imp id fun q=>⟨rfl,q⟩
 exact⟨{ s with Sq:=S' },⟨(hk 0 g (by decide) rfl).trans h.bx,h.pl.same (hk 1 d.Bp (by decide) rfl),h.ky.same (hk 2 d.Bk (by decide) rfl),VT.same h.st fun k q=>hk 3 k (by decide) q,h.hp.same fun k q=>hk 4 k (by decide) q,h.sn.same fun k q=>hk 5 k (by decide) q,h1,IG h.Qa h.inn hsub⟩,fun i k q=>(hsub i k q).imp id And.right,UJ hb⟩
theorem XR {r B:Nat}(hg:w.grownBy w' (some r))(hr:r<w.heap.size)(hB:B<=r):ZL B (fun k=>k=r) w w':=
 ⟨(Below.refl _ w).grown hg (Nat.le_trans hB (Nat.le_of_lt hr)) (fun j hj=>by cases hj; exact hB),fun k hk hn=>hg.5 k hk (by simpa using hn)⟩
theorem Pq.l9 (h:Pq w g d s c u m M R Lp Lk W){B:Nat}{L2:List El}(hM:Jt w' d.Bp L2)(hg:w.grownBy w' (some d.Bp))(hB:∀ i k,Pp g d s i k->B<=k):Pq w' g d s c u m M R L2 Lk W/\Xi B g d s w s w':=by
 have hb:ZL B (Pp g d s 1) w w':=XR hg h.pl.lt (hB 1 _ rfl);have hk:=h.keep hb;exact⟨⟨(hk 0 g (by decide) rfl).trans h.bx,hM,h.ky.same (hk 2 d.Bk (by decide) rfl),VT.same h.st fun k q=>hk 3 k (by decide) q,h.hp.same fun k q=>hk 4 k (by decide) q,h.sn.same fun k q=>hk 5 k (by decide) q,h.ex.same fun k q=>hk 6 k (by decide) q,h.Qa⟩,fun _ _ q=>.inl q,UJ hb⟩
theorem Pq.xg (h:Pq w g d s c u m M R Lp Lk W){B:Nat}{L2:List El}(hM:LV w' d.Bk L2)(hg:w.grownBy w' (some d.Bk))(hB:∀ i k,Pp g d s i k->B<=k):Pq w' g d s c u m M R Lp L2 W/\Xi B g d s w s w':=by
 have hb:ZL B (Pp g d s 2) w w':=XR hg h.ky.lt (hB 2 _ rfl);have hk:=h.keep hb;exact⟨⟨(hk 0 g (by decide) rfl).trans h.bx,h.pl.same (hk 1 d.Bp (by decide) rfl),hM,VT.same h.st fun k q=>hk 3 k (by decide) q,h.hp.same fun k q=>hk 4 k (by decide) q,h.sn.same fun k q=>hk 5 k (by decide) q,h.ex.same fun k q=>hk 6 k (by decide) q,h.Qa⟩,fun _ _ q=>.inl q,UJ hb⟩
theorem Pq.up0 (h:Pq w g d s c u m M R Lp Lk W){B:Nat}(hB:∀ i k,Pp g d s i k->B<=k)(v:Nat):∃ V,(Instr.storeAt 3 (Z7 g 12) (Z9 v)).run Tryz.prog w=.ok () V/\Pq V g d s c v m M R Lp Lk W/\Xi B g d s w s V:=by
 obtain⟨V,h1,h2,h3⟩:=Xo (i:=12) (v:=Z9 (v:Int)) (ty:=3) (O4 c v d) h.bx (by simp) rfl rfl (by kernel_rfl);have hb:ZL B (Pp g d s 0) w V:=⟨h3.1.mono (hB 0 g rfl),fun k hk hn=>h3.2 k hk hn⟩;have hk:=h.keep hb;exact⟨V,h1,⟨h2,h.pl.same (hk 1 d.Bp (by decide) rfl),h.ky.same (hk 2 d.Bk (by decide) rfl),VT.same h.st fun k q=>hk 3 k (by decide) q,h.hp.same fun k q=>hk 4 k (by decide) q,h.sn.same fun k q=>hk 5 k (by decide) q,h.ex.same fun k q=>hk 6 k (by decide) q,h.Qa⟩,fun _ _ q=>.inl q,UJ hb⟩
theorem Xi.low {B:Nat}{s':Ps}(h:Xi B g d s w s' w')(hB:∀ i k,Pp g d s i k->B<=k)(hw:B<=w.heap.size):(∀ i k,Pp g d s' i k->B<=k)/\B<=w'.heap.size:=
 ⟨fun i k q=>(h.sub i k q).elim (hB i k) (fun h1=>Nat.le_trans hw h1),Nat.le_trans hw h.but.1.size⟩
end
structure LY (c:List Int):Prop where
 mt:1<=c.getD 0 0/\c.getD 0 0<=512
 mb:1<=c.getD 1 0/\c.getD 1 0<=1048576
 tb:0<=c.getD 4 0/\c.getD 4 0<=1073741824
 tt:0<=c.getD 5 0/\c.getD 5 0<=1073741824
 ok:Cg.VU c
 va:Cg.Ve c=0
theorem LY.of {c:List Int}(ho:Cg.VU c)(hv:Cg.Ve c=0):LY c:=by
 have key:∀ i,i<12->Cg.Gz c i:=fun i hi=>Classical.byContradiction fun h=>by rw[Cg.IE hi h] at hv; cases hv
 have get:∀ i,i<12->i≠9->Cg.X8.getD i 0<=c.getD i 0/\c.getD i 0<=Cg.VL.getD i 0:=fun i hi h9=>(key i hi).elim (fun e=>absurd e h9) id;exact⟨get 0 (by decide) (by decide),get 1 (by decide) (by decide),get 4 (by decide) (by decide),get 5 (by decide) (by decide),ho,hv⟩
def Gt (c:List Int):List Int:=if Cg.Ve c=0 then c else Cg.Ru
theorem LY.dflt:LY Cg.Ru:=LY.of (by refine⟨rfl,.inl rfl,by decide,by decide,?_⟩; decide) (by decide)
theorem wu {c:List Int}(h:LY c):Gt c=c:=if_pos h.va
theorem LY.mo {c:List Int}(h:LY c):((newS (c.getD 0 0)).mo:Int)=c.getD 0 0:=by
 have:=h.mt;show((Dp (c.getD 0 0):Nat):Int)=_;unfold Dp;omega
def yQ (w:World)(g:Nat)(S:Nat->Prop)(c:List Int)(u:Nat)(L:List El):Prop:=∃ d s m M R,Pq w g d s c u m M R L L (L.map Qb)/\PI c u m M R L/\LY c/\∀ k,S k↔∃ i,Pp g d s i k
def YQ (w:World)(g:Nat)(S:Nat->Prop)(c:List Int)(u:Nat)(E:List En):Prop:=∃ v L,v<=u/\eL L=E/\yQ w g S c v L
def UL (g B:Nat)(S:Nat->Prop)(c:List Int)(u:Nat)(E:List En)(w w':World):Prop:=∃ S',YQ w' g S' c u E/\(∀ k,S' k->S k∨w.heap.size<=k)/\ZL B S w w'
section
variable {w w' : World} {g u : Nat} {S : Nat -> Prop} {c : List Int} {L : List El} {E : List En}
theorem yQ.inn (h:yQ w g S c u L):∀ k,S k->k<w.heap.size:=fun k hk=>by
 obtain⟨d,s,m,M,R,h1,-,-,h4⟩:=h;obtain⟨i,hi⟩:=(h4 k).1 hk;exact h1.inn i k hi
theorem yQ.same (h:yQ w g S c u L)(hs:∀ k,S k->w'.heap[k]?=w.heap[k]?):yQ w' g S c u L:=by
 obtain⟨d,s,m,M,R,h1,h2,h3,h4⟩:=h;exact⟨d,s,m,M,R,h1.same fun i k hk=>hs k ((h4 k).2 ⟨i,hk⟩),h2,h3,h4⟩
theorem YQ.inn (h:YQ w g S c u E):∀ k,S k->k<w.heap.size:=by
 obtain⟨v,L,-,-,h⟩:=h;exact h.inn
theorem YQ.same (h:YQ w g S c u E)(hs:∀ k,S k->w'.heap[k]?=w.heap[k]?):YQ w' g S c u E:=by
 obtain⟨v,L,h1,h2,h⟩:=h;exact⟨v,L,h1,h2,h.same hs⟩
theorem YQ.below (h:YQ w g S c u E)(hb:Below w.heap.size w w'):YQ w' g S c u E:=h.same fun k hk=>hb.block k (h.inn k hk)
theorem YQ.mono (h:YQ w g S c u E){v:Nat}(hv:u<=v):YQ w g S c v E:=by
 obtain⟨x,L,h1,h2,h⟩:=h;exact⟨x,L,Nat.le_trans h1 hv,h2,h⟩
theorem YQ.upd (h:YQ w g S c u E)(hb:Below w.heap.size w w'){B:Nat}(hB:B<=w.heap.size):UL g B S c u E w w':=⟨S,h.below hb,fun k hk=>.inl hk,ZL.of_below hb hB⟩
theorem YQ.wp (h:YQ w g S c u E):Wp (c.getD 0 0) (c.getD 1 0) E:=by
 obtain⟨v,L,-,rfl,d,s,m,M,R,-,h2,-⟩:=h;exact h2.wp
theorem YQ.cf (h:YQ w g S c u E):LY c:=by
 obtain⟨v,L,-,-,d,s,m,M,R,-,-,h3,-⟩:=h;exact h3
theorem YQ.len (h:YQ w g S c u E):E.length<=512:=by
 obtain⟨v,L,-,rfl,d,s,m,M,R,-,h2,-⟩:=h;rw[Rn]; exact h2.len
theorem YQ.eg (h:YQ w g S c u E):∀ e∈E,LZ e:=by
 obtain⟨v,L,-,rfl,d,s,m,M,R,-,h2,-⟩:=h;exact fun e he=>by obtain⟨x,hx,rfl⟩:=List.mem_map.1 he; exact h2.g x hx
theorem Xi.fin {B v:Nat}{d:Pd}{s s':Ps}{m:Sm}{M:List Hp.It}{R:List Sd.Rw}(hS:∀ k,S k↔∃ i,Pp g d s i k)(hs:Xi B g d s w s' w')(h1:Pq w' g d s' c v m M R L L (L.map Qb))(h2:PI c v m M R L)(h3:LY c)(hv:v<=u):UL g B S c u (eL L) w w':=
 ⟨fun k=>∃ i,Pp g d s' i k,⟨v,L,hv,rfl,d,s',m,M,R,h1,h2,h3,fun k=>Iff.rfl⟩,fun k ⟨i,hi⟩=>(hs.sub i k hi).imp (fun q=>(hS k).2 ⟨i,q⟩) id,hs.but.sub fun k q=>(hS k).2 q⟩
end
end Go.Proofs.YtnelmomagdcmnaaGreat
