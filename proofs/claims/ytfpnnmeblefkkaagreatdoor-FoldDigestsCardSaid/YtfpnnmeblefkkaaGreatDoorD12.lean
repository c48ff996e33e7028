/-
  Texts joined.
-/
import Derived.Test.YtfpnnmeblefkkaaGreatDoorD11
import Derived.Lib.Bytealg
import Derived.Laws.Externs
import Derived.Laws.Bits64b
import Derived.Laws.MathBits
import Derived.RowKit3
set_option maxRecDepth 100000
set_option maxHeartbeats 8000000
set_option linter.unusedSimpArgs false
set_option linter.unusedVariables false
namespace Go.Proofs.YtfpnnmeblefkkaaGreatDoor
attribute [local irreducible] wpList wpQuiet
open Go.RowKit
section
variable {w : World} {g : Nat} {a : Option Addr} {c : Nat} {L : List Int} {N g4 g6 g7 : Nat} {ra : Option Addr} {rc : Nat} {A : List Ac} {co : Int} {B7 : Nat} {x : YV} {a2 : Option Addr} {c2 : Nat} {V : World}
theorem Lr (h:St w g a c L N g4 g6 g7 ra rc A co B7 x a2 c2 V):St w g a c L N g4 g6 g7 ra rc A co B7 x a2 c2 V.drew:=⟨⟨h.bt.1.drew,h.bt.2⟩,h.ns,h.row,h.b4,h.b6,h.b7,h.rt,h.sz⟩
theorem pJ {V2:World}{B q:Nat}{v:Value}{M:List Tf}(h:Yv V B v M)(hb:But q V V2)(hne:v.ownBlock≠some q):Yv V2 B v M:=by
 unfold Yv at *
 refine⟨h.1,?_⟩;rcases h.2 with h0 | ⟨gg,cap,cur,ev,h1,h2,h3⟩
 ·exact .inl h0
 ·have hgq:gg≠q:=fun e=>hne (by rw[ev,<- e]; rfl);exact .inr ⟨gg,cap,cur,ev,h1,(hb.2 gg (Array.getElem?_eq_some_iff.1 h2).1 hgq).trans h2,h3⟩
theorem St.off (h:St w g a c L N g4 g6 g7 ra rc A co B7 x a2 c2 V)(ly:Ly w g a L g4 g6 g7 ra A B7){V2:World}{q:Nat}(hb:But q V V2)(hq:w.heap.size<=q)(hB:B7<=q)(hne:(Value.slice a2 x.tr.length c2).ownBlock≠some q):St w g a c L N g4 g6 g7 ra rc A co B7 x a2 c2 V2:=
 have l4:=ly.l4;have l6:=ly.l6;have l7:=ly.l7;have lg:=ly.hg
 ⟨Nv h.bt hb hq (by omega),h.ns.but hb (by omega) (fun hl z hz=>by have:=ly.ab hl z hz; omega),Ry h.row hb.1.size (fun hn z hz=>hb.2 _ (Nat.lt_of_lt_of_le (ly.rb hn z hz).1 h.bt.1.size) (by have:=(ly.rb hn z hz).1; omega)),h.b4.but hb (by omega),h.b6.but hb (by omega),h.b7.but hb (by omega),pJ h.rt hb hne,Nat.le_trans h.sz hb.1.size⟩
theorem St.grow (h:St w g a c L N g4 g6 g7 ra rc A co B7 x a2 c2 V)(ly:Ly w g a L g4 g6 g7 ra A B7)(hw:w.heap.size<=B7){V2:World}{y:Tf}{a7:Option Addr}{c7:Nat}(hb:Below B7 V V2)(hr:Yv V2 B7 (.slice a7 (x.tr++[y]).length c7) (x.tr++[y])):∃ V3,(Instr.storeAt 61 (Z5 g7 5) (.slice a7 (x.tr++[y]).length c7)).run Tryz.prog V2=.ok () V3/\St w g a c L N g4 g6 g7 ra rc A co B7 { x with tr:=x.tr++[y] } a7 c7 V3:=by
 obtain⟨f1,f2,f3,f4,f5,f6,f7⟩:=h.far ly hw hb;obtain⟨V3,hst,hX,-,hbt⟩:=Zl (i:=5) (ty:=61) (v:=.slice a7 (x.tr++[y]).length c7) (cs':=ZA { x with tr:=x.tr++[y] } a7 c7) (w0:=V2) (B:=g7) f6 (Below.refl _ _) (Nat.le_refl _) (by show 5<6; decide) rfl (by kernel_rfl) rfl;have lg:=ly.hg;have h7:=ly.h7;exact⟨V3,hst,Nv f1 hbt h7 (by omega),f2.but hbt (by omega) (fun hl z hz=>Nat.lt_of_lt_of_le (ly.ab hl z hz) h7),Ry f3 hbt.1.size (fun hn z hz=>hbt.2 _ (Nat.lt_of_lt_of_le (ly.rb hn z hz).1 f1.1.size) (by have:=(ly.rb hn z hz).1; omega)),f4.but hbt ly.n47,f5.but hbt ly.n67,hX,hr.but hbt ly.l7,Nat.le_trans f7 hbt.1.size⟩
end
theorem av8 {w:World}{g c k rc:Nat}{a ra:Option Addr}{L:List Int}{A:List Ac}{co p:Int}(h:NS w g a c L k)(hl:L.length<=100000)(hk:k<=10000)(hrow:Cs w ra (acc A))(hrg:acc A≠[]->∀ x,ra=some x->x.block≠g)(hA:∀ x,x∈A->AcQ x)(hA4:A.length<=1000):Calls Tryz.prog 65 #[Z5 g 0,.agg #[.slice ra A.length rc,Z7 co],Z7 p] w (av9 w g a c L k):=by
 have HL:=Z9 hl;have HKK:=Z9 hk;have HQ:=Z9 hA;have gu:=Z9 hA4;have XA:=Z9 h.lt;have HAB:=Z9 (fun h1 x hx=>h.ab h1 x hx);have HRB:Hid (acc A≠[]->∀ x,ra=some x->x.block<w.heap.size/\x.block≠g):=Z9 fun hn x hx=>⟨by
  obtain⟨b,off,e,hb,-⟩:=hrow 0 ((acc A)[0]'(List.length_pos_iff.2 hn)) (List.getElem?_eq_getElem _);rw[hx] at e;cases e;exact hb,hrg hn x hx⟩
 have hb1:Below w.heap.size w (w.alloc (.cells #[.slice ra A.length rc,Z7 co] 30)):=(Below.refl _ w).alloc (Nat.le_refl _) _;have hX1:Bx (w.alloc (.cells #[.slice ra A.length rc,Z7 co] 30)) w.heap.size #[.slice ra A.length rc,Z7 co] 30:=heap_alloc_last w _;have hsz1:(w.alloc (.cells #[.slice ra A.length rc,Z7 co] 30)).heap.size=w.heap.size+1:=by simp
 obtain⟨n,hn⟩:=ZQ A.length;have HN:=Z9 hn;rw[hn] at hb1 hX1 hsz1 ⊢;clear hl hk hA hA4 hrg hn;go_enter Tryz.func65,Tryz.ntmps65;go_upto_region 1 with fail;change Code.wp _ _ _ _ ((w.alloc (.cells #[.slice ra n rc,Z7 co] 30)).alloc (.cells (ZA zX none 0) 63));generalize w.alloc (.cells #[.slice ra n rc,Z7 co] 30)=W1 at *
 have hb0:Below w.heap.size w (W1.alloc (.cells (ZA zX none 0) 63)):=hb1.alloc hb1.size _;have hX0:Bx (W1.alloc (.cells (ZA zX none 0) 63)) w.heap.size #[.slice ra n rc,Z7 co] 30:=hX1.below hX1.lt ((Below.refl _ W1).alloc (Nat.le_refl _) _);have hY0:Bx (W1.alloc (.cells (ZA zX none 0) 63)) W1.heap.size (ZA zX none 0) 63:=heap_alloc_last W1 _;rw[hsz1] at hY0;generalize W1.alloc (.cells (ZA zX none 0) 63)=W at *
 obtain⟨g4,hg4⟩:=ZQ w.heap.size;obtain⟨g6,S9⟩:=ZQ (w.heap.size+1);have GK:Hid (w.heap.size<=g4/\w.heap.size<=g6/\g4≠g6):=Z9 ⟨by omega,by omega,by omega⟩;rw[S9] at hY0;rw[hg4] at hX0;rw[S9,hg4];have hrW:=hrow.below hb0;have hnW:=h.below hb0;have RV:=Z9 (But.of_below hb0 (Nat.le_of_lt XA.out));have CN:=xR hnW HL.out (by have:=HKK.out; omega);clear hb0 hb1 hX1 hsz1 hg4 S9 hrow h;refine wl<|ZV (Z5 g 0)<|XI (fun v w'=>∃ s,v=.string s/\vJ s/\NS w' g a c L (k+1)/\But g W w') ((CN).mono fun e w' z=>by obtain⟨s,h1,h2⟩:=z; exact⟨_,h1,s,rfl,h2⟩) (fun vv V1 hq=>?_);obtain⟨nm,rfl,aw0,ac0,pI⟩:=hq;refine ZV (Z5 g 0) <|
  XI (fun v w'=>∃ q:Nat,v=Z8 q/\(q:Int)<6/\NS w' g a c L ((k+1)+1)/\But g V1 w') ((X5 ac0 HL.out (by have:=HKK.out; omega) 6 (by decide) (by decide)).mono fun e w' z=>by obtain⟨q,h1,h2⟩:=z; exact⟨_,h1,q,rfl,h2⟩) (fun vv V2 hq=>?_)
 obtain⟨v2,rfl,hv2,Uz,ac1⟩:=hq;refine YI (Z7 v2) (Vz rfl v2 (by omega) (by omega) (by kernel_rfl) _)<|Yn (Z7 (v2*40)) (ah3 rfl v2 40 (by omega) (by omega)) <|
  Yn (Z7 (150+v2*40)) (pG rfl 150 (v2*40) (by omega) (by omega))<|ZV (Z5 g 0) <|
  XI (fun v w'=>∃ s,v=.string s/\MmQ s/\NS w' g a c L ((k+1+1)+1)/\But g V2 w') ((fZ Uz HL.out (by have:=HKK.out; omega)).mono fun e w' z=>by obtain⟨s,h1,h2⟩:=z; exact⟨_,h1,s,rfl,h2⟩) (fun vv V3 hq=>?_)
 obtain⟨mm,rfl,aw1,pF,pz⟩:=hq;obtain⟨V4,Nu,hb4,P7⟩:=Oy V3 ⟨nm,0,150+v2*40,0,mm,[]⟩ none 0;refine ZV (.agg #[.string nm,Z7 0,Z7 (150+v2*40),Z7 0,.string mm,.slice none 0 0]) ?_;refine Zy rfl (some 7) rfl (Z5 V3.heap.size 0) (V3.alloc (.cells (ZA zX none 0) 63)) (by kernel_rfl) ?_;refine Zk rfl (Nu)<|wn ?_;have hbt:=(pI.trans ac1).trans pz;have aw2:=But.of_below hb4 (Nat.le_of_lt pF.lt);obtain⟨N0,hN0,hns0⟩:=pF.below hb4;obtain⟨g7,P6⟩:=ZQ V3.heap.size;obtain⟨B7,MQ⟩:=ZQ V4.heap.size;rw[P6] at P7 ⊢;have aw3:=P7.lt;have VJ:=hX0.but hbt (by have:=XA.out; have:=GK.out; omega);have EU:=hY0.but hbt (by have:=XA.out; have:=GK.out; omega);have aw4:=VJ.lt;have aw5:=EU.lt;have hbw0:=RV.out.trans hbt;have hws:=hbw0.1.size;have aK8:=hb4.size;have LY:Ly w g a L g4 g6 g7 ra A B7:=⟨XA.out,GK.out.1,GK.out.2.1,by omega,GK.out.2.2,by omega,by omega,by omega,by omega,by omega,HAB.out,HRB.out⟩;have KD:=Z9 LY;have hrow3:=Ry hrW hbt.1.size (fun hn y hy=>hbt.2 _ (Nat.lt_of_lt_of_le (HRB.out hn y hy).1 RV.out.1.size) (HRB.out hn y hy).2);have IV:Hid (St w g a c L N0 g4 g6 g7 ra rc A co B7 ⟨nm,0,150+v2*40,0,mm,[]⟩ none 0 V4):=Z9 ⟨hbw0.trans aw2,hns0,hrow3.below hb4,by rw[HN.out]; exact VJ.below aw4 hb4,EU.below aw5 hb4,P7,Yv.nil _ _,Nat.le_of_eq MQ.symm⟩;have HWB:Hid (w.heap.size<=B7):=Z9 (by omega);have aw6:Hid (150<=(150+(v2:Int)*40)/\(150+(v2:Int)*40)<=1000):=Z9 (by omega);have HNM:=Z9 aw0;have HMM:=Z9 aw1;have HN0:Hid (N0<=k+3):=Z9 hN0;obtain⟨Zx,Q5⟩:=ZQ (150+(v2:Int)*40);rw[Q5] at IV aw6 ⊢;clear hbt aw2 hns0 P6 MQ P7 aw3 VJ EU aw4 aw5 hbw0 hws aK8 LY hrow3 hb4 Nu hX0 hY0 hrW hnW RV CN pI ac1 pz pF Uz ac0 aw0 aw1 hN0 hv2 Q5;go_upto_region 2 with fail;refine wl<|ZV (Z5 g4 0)<|ZL rfl ⟨g4,0,none⟩ (.slice ra n rc) ((by have:=IV.out.b4; rw[HN.out] at this; exact this.ZR 0))<|ZB (Z8 n) (Z8 n)<|wn ?_;simp only[pu];go_upto_region 3 with fail;go_cut [31] (fun s31 wx=>∃ (N1:Nat) (tb:Bool),s31=.bool tb/\Hid (N1<=k+4)/\Hid (St w g a c L N1 g4 g6 g7 ra rc A co B7 ⟨nm,0,Zx,0,mm,[]⟩ none 0 wx)/\Hid (tb=true->0<n))
 case first=>
  by_cases hn0:0<n
  ·obtain⟨v8,aK9,hv8⟩:=Uy L N0 8 (by decide);have CX8:=Xm IV.out.ns HL.out (by have:=HKK.out; have:=HN0.out; omega) 8 (by decide) (by decide) aK9;by_cases hv0:0<v8
   ·refine wl<|ZV (Z8 n)<|ZM (Zn rfl (n) (0) dT)<|ZB ZW (Z5 g 0)<|YM (Z8 v8) (fun w'=>Ox w' g a c L (N0+1)/\But g V4 w') CX8 (fun V5 hq8=>?_);have Vl:=Z9 (IV.out.call KD.out hq8.1 hq8.2);refine ZM (Zn rfl (v8) (0) dT)<|ZV ZW<|wn ?_;simp only[pu];clear hq8 CX8 IV;go_wp2_with fail;go_meet;exact⟨N0+1,true,rfl,Z9 (by have:=HN0.out; omega),Vl,Z9 (fun _=>hn0)⟩
   ·refine wl<|ZV (Z8 n)<|ZM (Zn rfl (n) (0) dT)<|ZB ZW (Z5 g 0)<|YM (Z8 v8) (fun w'=>Ox w' g a c L (N0+1)/\But g V4 w') CX8 (fun V5 hq8=>?_);have Vl:=Z9 (IV.out.call KD.out hq8.1 hq8.2);refine ZM (Zn rfl (v8) (0) dF)<|ZV ZY<|wn ?_;simp only[pu];clear hq8 CX8 IV;go_wp2_with fail;go_meet;exact⟨N0+1,false,rfl,Z9 (by have:=HN0.out; omega),Vl,Z9 (fun _=>hn0)⟩
  ·refine wl<|ZV (Z8 n)<|ZM (Zn rfl (n) (0) dF)<|Rf ZY undef undef undef ZY<|wn ?_;simp only[pu];go_wp2_with fail;go_meet;exact⟨N0,false,rfl,Z9 (by have:=HN0.out; omega),IV,Z9 (fun h=>nomatch h)⟩
 case rest=>
  obtain⟨N1,tb,rfl,fV,Vl,HTB⟩:=hcut;clear IV HN0;go_upto_if 31 with fail;go_cut [8] (fun s8 wx=>∃ (N2:Nat) (Jo:ByteArray) (sq:Int),s8=Z8 n/\Hid (N2<=k+5)/\Hid (vJ Jo/\W64 sq)/\Hid (St w g a c L N2 g4 g6 g7 ra rc A co B7 ⟨Jo,sq,Zx,0,mm,[]⟩ none 0 wx))
  case first=>
   cases tb
   ·go_wp2_with fail;go_meet;exact⟨N1,nm,0,rfl,Z9 (by have:=fV.out; omega),Z9 ⟨HNM.out,Xd⟩,Vl⟩
   ·have hn0:=HTB.out rfl;obtain⟨v9,vI,hv9⟩:=Uy L N1 n (by omega);have ah4:v9<n:=(by omega);have hyq:=HQ.out (aca A v9) (RJ (by rw[HN.out]; exact ah4));have hvA:v9<A.length:=(by rw[HN.out]; exact ah4);obtain⟨b,off,rfl,-,-⟩:=Yx Vl.out.row (k:=v9) hvA;have aw7:=fun V (hV:Cs V (some ⟨b,off,none⟩) (acc A))=>(by obtain⟨b2,o2,e2,-,h2⟩:=Yx hV (k:=v9) hvA; simp only[Option.some.injEq,Addr.mk.injEq,and_true] at e2; obtain⟨rfl,rfl⟩:=e2; exact Xh h2:(Instr.loadAt 56 (Z5 b (off+v9*3))).run Tryz.prog V=.ok (.agg (Zq (aca A v9))) V);generalize aca A v9=y at *
    have CX:∀ V,Ox V g a c L N1->Calls Tryz.prog 35 #[Z5 g 0,Z8 n] V fun e w'=>e=.returned (Z8 v9)/\Ox w' g a c L (N1+1)/\But g V w':=fun V hV=>Xm hV HL.out (by have:=HKK.out; have:=fV.out; omega) n (by omega) (by have:=gu.out; rw[HN.out] at this; omega) vI;have h0:K4 w g a c L N1 g4 g6 g7 (some ⟨b,off,none⟩) rc A co B7 ⟨nm,0,Zx,0,mm,[]⟩ wc y false false false undef wc.drew:=⟨(fun h=>nomatch h),Nat.le_refl _,Lr Vl.out,(fun h=>nomatch h),(fun h=>nomatch h)⟩;have HWC:Hid (w.heap.size<=wc.heap.size/\B7<=wc.heap.size/\g<wc.heap.size):=Z9 ⟨Vl.out.bt.1.size,Vl.out.sz,Vl.out.ns.1.lt⟩;go_upto_region 4 with fail;refine Zw (fun listed YZ V=>∃ b0 b1 b2 b3 b4 b5 b6 b7 b8:Bool,∃ x9:Value,listed=#[b0,b1,b2,b3,b4,b5,b6,b7,b8]/\YZ={ tmps:=#[Z5 g 0,.agg #[.slice (some ⟨b,off,none⟩) n rc,Z7 co],Z7 p,undef,Z5 g4 0,undef,Z5 g6 0,Z5 g7 0,Z8 n,x9,undef,undef,u12,u13,u14,u15,u16,u17,u18,u19,u20,u21,u22,u23,u24,u25,u26,u27,u28,u29,u30,ZW,(cond b0 (Z5 g4 0) (u32)),(cond b1 (.slice (some ⟨b,off,none⟩) n rc) (u33)),(cond b2 (Z5 g 0) (u34)),(cond b3 (Z8 n) (u35)),(cond b4 (Z8 v9) (u36)),(cond b5 (Z5 b (off+v9*3)) (u37)),(cond b6 (.agg (Zq y)) (u38)),u39,u40,u41,u42,u43,u44,u45,u46,u47,u48,u49,u50,u51,u52,u53,u54,u55,u56,u57,u58,u59,u60,u61,u62,u63,u64,u65,u66,u67,u68,u69,u70,u71,u72,u73,u74,u75,u76,u77,u78,u79,u80,u81,u82,u83,u84,u85,u86,u87,u88,u89,u90,u91,u92,u93,u94,u95],defers:=[] }/\K4 w g a c L N1 g4 g6 g7 (some ⟨b,off,none⟩) rc A co B7 ⟨nm,0,Zx,0,mm,[]⟩ wc y b4 b7 b8 x9 V) (by kernel_rfl) (by kernel_rfl) ?_ ?_ ?_
    ·exact⟨_,_,_,_,_,_,_,_,_,_,rfl,rfl,h0⟩
    ·intro i9 listed YZ V hi9 hr hJ;obtain⟨b0,b1,b2,b3,b4,b5,b6,b7,b8,x9,rfl,rfl,hF⟩:=hJ;have hi2:i9<9:=hi9;have hi3:i9=0∨i9=1∨i9=2∨i9=3∨i9=4∨i9=5∨i9=6∨i9=7∨i9=8:=(by omega);rcases hi3 with rfl | rfl | rfl | rfl | rfl | rfl | rfl | rfl | rfl
     ·obtain rfl:b0=false:=Z4 hr;refine ZK rfl (by kernel_rfl) (some 32) rfl (Z5 g4 0) V (by kernel_rfl) ?_;exact⟨_,_,_,_,_,_,_,_,_,_,rfl,rfl,hF⟩
     ·obtain rfl:b1=false:=Z4 hr;obtain rfl:b0=true:=ZX hr 0;refine Zu rfl (by kernel_rfl) (some 33) rfl 28 (.tmp 32) rfl ⟨g4,0,none⟩ (.slice (some ⟨b,off,none⟩) n rc) (by kernel_rfl) (by have:=hF.st.b4; rw[HN.out] at this; exact this.ZR 0) ?_;exact⟨_,_,_,_,_,_,_,_,_,_,rfl,rfl,hF⟩
     ·obtain rfl:b2=false:=Z4 hr;refine ZK rfl (by kernel_rfl) (some 34) rfl (Z5 g 0) V (by kernel_rfl) ?_;exact⟨_,_,_,_,_,_,_,_,_,_,rfl,rfl,hF⟩
     ·obtain rfl:b3=false:=Z4 hr;refine ZK rfl (by kernel_rfl) (some 35) rfl (Z8 n) V (by kernel_rfl) ?_;exact⟨_,_,_,_,_,_,_,_,_,_,rfl,rfl,hF⟩
     ·obtain rfl:b4=false:=Z4 hr;obtain rfl:b2=true:=ZX hr 2;obtain rfl:b3=true:=ZX hr 3;refine X8 rfl (by kernel_rfl) (some 36) rfl 35 #[Z5 g 0,Z8 n] (by kernel_rfl) ((CX V hF.st.ns).mono ?_);rintro e V2 ⟨rfl,hns,hbt⟩;exact⟨_,rfl,_,_,_,_,_,_,_,_,_,_,rfl,rfl,hF.s4 KD.out HWC.out.2.2 hns hbt⟩
     ·obtain rfl:b5=false:=Z4 hr;obtain rfl:b1=true:=ZX hr 1;obtain rfl:b4=true:=ZX hr 4;refine ZK rfl (by kernel_rfl) (some 37) rfl (Z5 b (off+v9*3)) V (YC b off n rc v9 ah4 _ _ _ rfl (by kernel_rfl) (by kernel_rfl)) ?_;exact⟨_,_,_,_,_,_,_,_,_,_,rfl,rfl,hF⟩
     ·obtain rfl:b6=false:=Z4 hr;obtain rfl:b5=true:=ZX hr 5;refine Zu rfl (by kernel_rfl) (some 38) rfl 56 (.tmp 37) rfl ⟨b,off+v9*3,none⟩ (.agg (Zq y)) (by kernel_rfl) (aw7 V hF.st.row) ?_;exact⟨_,_,_,_,_,_,_,_,_,_,rfl,rfl,hF⟩
     ·obtain rfl:b7=false:=Z4 hr;refine ZK rfl (by kernel_rfl) (some 9) rfl (Z5 V.heap.size 0) (V.alloc (.cells (Zq WE) 56)) (by kernel_rfl) ?_;exact⟨_,_,_,_,_,_,_,_,_,_,rfl,rfl,hF.s7⟩
     ·obtain rfl:b8=false:=Z4 hr;obtain rfl:b7=true:=ZX hr 7;obtain rfl:b6=true:=ZX hr 6;obtain⟨q,V2,rfl,hst,hF2⟩:=hF.s8 KD.out HWC.out.1 HWC.out.2.1;refine YU rfl (by kernel_rfl) rfl 56 (.tmp 9) (.tmp 38) rfl (Z5 q 0) (.agg (Zq y)) (by kernel_rfl) (by kernel_rfl) _ hst ?_;exact⟨_,_,_,_,_,_,_,_,_,_,rfl,rfl,hF2⟩
    ·intro YZ V hJ;obtain⟨b0,b1,b2,b3,b4,b5,b6,b7,b8,x9,he,rfl,hF⟩:=hJ;have he:(#[true,true,true,true,true,true,true,true,true]:Array Bool)=#[b0,b1,b2,b3,b4,b5,b6,b7,b8]:=he;simp only[Array.mk.injEq,List.cons.injEq,and_true] at he;obtain⟨rfl,rfl,rfl,rfl,rfl,rfl,rfl,rfl,rfl⟩:=he;simp only[cond_true];obtain⟨q,rfl,hq1,hbx⟩:=hF.d9 rfl;have hS2:St w g a c L (N1+1) g4 g6 g7 (some ⟨b,off,none⟩) rc A co B7 ⟨nm,0,Zx,0,mm,[]⟩ none 0 V:=hF.st;have h1:K5 w g a c L (N1+1) g4 g6 g7 (some ⟨b,off,none⟩) rc A co B7 ⟨nm,0,Zx,0,mm,[]⟩ y q false false V.drew:=⟨Lr hS2,hbx⟩;have hqn:q≠g7:=(by have:=KD.out.l7; have:=HWC.out.2.1; omega);clear hF h0 CX aw7 Vl hS2 hbx;go_upto_region 5 with fail;have h0:=h1;clear h1;refine Zw (fun listed YZ V=>∃ b0 b1 b2 b3 b4 b5 b6 b7:Bool,listed=#[b0,b1,b2,b3,b4,b5,b6,b7]/\YZ={ tmps:=#[Z5 g 0,.agg #[.slice (some ⟨b,off,none⟩) n rc,Z7 co],Z7 p,undef,Z5 g4 0,undef,Z5 g6 0,Z5 g7 0,Z8 n,Z5 q 0,undef,undef,u12,u13,u14,u15,u16,u17,u18,u19,u20,u21,u22,u23,u24,u25,u26,u27,u28,u29,u30,ZW,Z5 g4 0,.slice (some ⟨b,off,none⟩) n rc,Z5 g 0,Z8 n,Z8 v9,Z5 b (off+v9*3),.agg (Zq y),(cond b0 (Z5 q 0) (u39)),(cond b1 (.string y.1) (u40)),(cond b2 (Z5 q 2) (u41)),(cond b3 (Z7 y.2.2) (u42)),(cond b4 (Z5 g7 0) (u43)),(cond b6 (Z5 g7 1) (u44)),u45,u46,u47,u48,u49,u50,u51,u52,u53,u54,u55,u56,u57,u58,u59,u60,u61,u62,u63,u64,u65,u66,u67,u68,u69,u70,u71,u72,u73,u74,u75,u76,u77,u78,u79,u80,u81,u82,u83,u84,u85,u86,u87,u88,u89,u90,u91,u92,u93,u94,u95],defers:=[] }/\K5 w g a c L (N1+1) g4 g6 g7 (some ⟨b,off,none⟩) rc A co B7 ⟨nm,0,Zx,0,mm,[]⟩ y q b5 b7 V) (by kernel_rfl) (by kernel_rfl) ?_ ?_ ?_
     ·exact⟨_,_,_,_,_,_,_,_,rfl,rfl,h0⟩
     ·intro i9 listed YZ V hi9 hr hJ;obtain⟨b0,b1,b2,b3,b4,b5,b6,b7,rfl,rfl,hF⟩:=hJ;have hi2:i9<8:=hi9;have hi3:i9=0∨i9=1∨i9=2∨i9=3∨i9=4∨i9=5∨i9=6∨i9=7:=(by omega);rcases hi3 with rfl | rfl | rfl | rfl | rfl | rfl | rfl | rfl
      ·obtain rfl:b0=false:=Z4 hr;refine ZK rfl (by kernel_rfl) (some 39) rfl (Z5 q 0) V (by kernel_rfl) ?_;exact⟨_,_,_,_,_,_,_,_,rfl,rfl,hF⟩
      ·obtain rfl:b1=false:=Z4 hr;obtain rfl:b0=true:=ZX hr 0;refine Zu rfl (by kernel_rfl) (some 40) rfl 9 (.tmp 39) rfl ⟨q,0,none⟩ (.string y.1) (by kernel_rfl) (hF.2.ZR 0) ?_;exact⟨_,_,_,_,_,_,_,_,rfl,rfl,hF⟩
      ·obtain rfl:b2=false:=Z4 hr;refine ZK rfl (by kernel_rfl) (some 41) rfl (Z5 q 2) V (by kernel_rfl) ?_;exact⟨_,_,_,_,_,_,_,_,rfl,rfl,hF⟩
      ·obtain rfl:b3=false:=Z4 hr;obtain rfl:b2=true:=ZX hr 2;refine Zu rfl (by kernel_rfl) (some 42) rfl 24 (.tmp 41) rfl ⟨q,2,none⟩ (Z7 y.2.2) (by kernel_rfl) (hF.2.ZR 2) ?_;exact⟨_,_,_,_,_,_,_,_,rfl,rfl,hF⟩
      ·obtain rfl:b4=false:=Z4 hr;refine ZK rfl (by kernel_rfl) (some 43) rfl (Z5 g7 0) V (by kernel_rfl) ?_;exact⟨_,_,_,_,_,_,_,_,rfl,rfl,hF⟩
      ·obtain rfl:b5=false:=Z4 hr;obtain rfl:b4=true:=ZX hr 4;obtain rfl:b1=true:=ZX hr 1;obtain⟨V2,hst,hX2,-,hbt⟩:=Zl (i:=0) (ty:=9) (v:=.string y.1) (cs':=ZA ⟨y.1,cond b7 y.2.2 0,Zx,0,mm,[]⟩ none 0) (w0:=V) (B:=g7) hF.1.b7 (Below.refl _ _) (Nat.le_refl _) (by show 0<6; decide) rfl (by kernel_rfl) rfl;refine YU rfl (by kernel_rfl) rfl 9 (.tmp 43) (.tmp 40) rfl (Z5 g7 0) (.string y.1) (by kernel_rfl) (by kernel_rfl) _ hst ?_;exact⟨_,_,_,_,_,_,_,_,rfl,rfl,hF.1.set KD.out hbt hX2 rfl,hF.2.but hbt hqn⟩
      ·obtain rfl:b6=false:=Z4 hr;refine ZK rfl (by kernel_rfl) (some 44) rfl (Z5 g7 1) V (by kernel_rfl) ?_;exact⟨_,_,_,_,_,_,_,_,rfl,rfl,hF⟩
      ·obtain rfl:b7=false:=Z4 hr;obtain rfl:b6=true:=ZX hr 6;obtain rfl:b3=true:=ZX hr 3;obtain⟨V2,hst,hX2,-,hbt⟩:=Zl (i:=1) (ty:=24) (v:=Z7 y.2.2) (cs':=ZA ⟨cond b5 y.1 nm,y.2.2,Zx,0,mm,[]⟩ none 0) (w0:=V) (B:=g7) hF.1.b7 (Below.refl _ _) (Nat.le_refl _) (by show 1<6; decide) rfl (by kernel_rfl) rfl;refine YU rfl (by kernel_rfl) rfl 24 (.tmp 44) (.tmp 42) rfl (Z5 g7 1) (Z7 y.2.2) (by kernel_rfl) (by kernel_rfl) _ hst ?_;exact⟨_,_,_,_,_,_,_,_,rfl,rfl,hF.1.set KD.out hbt hX2 rfl,hF.2.but hbt hqn⟩
     ·intro YZ V hJ;obtain⟨b0,b1,b2,b3,b4,b5,b6,b7,he,rfl,hF⟩:=hJ;have he:(#[true,true,true,true,true,true,true,true]:Array Bool)=#[b0,b1,b2,b3,b4,b5,b6,b7]:=he;simp only[Array.mk.injEq,List.cons.injEq,and_true] at he;obtain⟨rfl,rfl,rfl,rfl,rfl,rfl,rfl,rfl⟩:=he;simp only[cond_true];have HS2:Hid (St w g a c L (N1+1) g4 g6 g7 (some ⟨b,off,none⟩) rc A co B7 ⟨y.1,y.2.2,Zx,0,mm,[]⟩ none 0 V):=Z9 hF.1;clear hF h0;go_wp2_with fail;go_meet;exact⟨N1+1,y.1,y.2.2,rfl,Z9 (by have:=fV.out; omega),Z9 ⟨hyq.1,hyq.2.2⟩,HS2⟩
  case rest=>
   obtain⟨N2,Jo,sq,rfl,fU,xQ,HS2⟩:=hcut;clear Vl fV HTB;obtain⟨v10,aw8,aL0⟩:=Uy L N2 6 (by decide);have aw9:=Xm HS2.out.ns HL.out (by have:=HKK.out; have:=fU.out; omega) 6 (by decide) (by decide) aw8;go_upto_region 6 with fail;refine wl<|ZV (Z5 g 0)<|YM (Z8 v10) (fun w'=>Ox w' g a c L (N2+1)/\But g wc w') aw9 (fun V6 hq10=>?_);simp only[pu];have vH:=Z9 (HS2.out.call KD.out hq10.1 hq10.2);have iU:Hid (N2+1<=k+6):=Z9 (by have:=fU.out; omega);clear hq10 aw9 HS2;obtain⟨tb,htb⟩:=ZQ (decide ((v10:Int)=0));refine Yn (.bool tb) (ZI rfl v10 0 htb)<|wn ?_;simp only[pu];clear htb;go_upto_if 47 with fail;go_cut [8] (fun s8 wx=>∃ (N3:Nat) (OO:Int),s8=Z8 n/\Hid (N3<=k+7)/\Hid (W64 OO)/\Hid (St w g a c L N3 g4 g6 g7 ra rc A co B7 ⟨Jo,OO,Zx,0,mm,[]⟩ none 0 wx))
   case first=>
    cases tb
    ·go_wp2_with fail;go_meet;exact⟨N2+1,sq,rfl,Z9 (by have:=iU.out; omega),Z9 xQ.out.2,vH⟩
    ·obtain⟨v9,vI,hv9⟩:=Uy L (N2+1) 3 (by decide);have CX:∀ V,Ox V g a c L (N2+1)->Calls Tryz.prog 35 #[Z5 g 0,Z8 3] V fun e w'=>e=.returned (Z8 v9)/\Ox w' g a c L ((N2+1)+1)/\But g V w':=fun V hV=>Xm hV HL.out (by have:=HKK.out; have:=iU.out; omega) 3 (by decide) (by decide) vI;obtain⟨OO,ax0⟩:=ZQ (IntKind.u64.wrap (sq+(v9:Int)));have hw3:W64 OO:=(by rw[<- ax0]; exact W64.wrap _);have h0:K7 w g a c L (N2+1) g4 g6 g7 ra rc A co B7 ⟨Jo,sq,Zx,0,mm,[]⟩ OO 0 false false V6.drew/\(false=true->false=true)/\(false=true->false=true):=⟨Lr vH.out,id,id⟩;go_upto_region 7 with fail;refine Zw (fun listed YZ V=>∃ b0 b1 b2 b3 b4 b5 b6 b7:Bool,listed=#[b0,b1,b2,b3,b4,b5,b6,b7]/\YZ={ tmps:=#[Z5 g 0,.agg #[.slice ra n rc,Z7 co],Z7 p,undef,Z5 g4 0,undef,Z5 g6 0,Z5 g7 0,Z8 n,u9,undef,undef,u12,u13,u14,u15,u16,u17,u18,u19,u20,u21,u22,u23,u24,u25,u26,u27,u28,u29,u30,u31,u32,u33,u34,u35,u36,u37,u38,u39,u40,u41,u42,u43,u44,Z5 g 0,Z8 v10,ZW,(cond b0 (Z5 g7 1) (u48)),(cond b1 (Z7 sq) (u49)),(cond b2 (Z5 g 0) (u50)),(cond b3 (Z8 v9) (u51)),(cond b4 (Z7 v9) (u52)),(cond b5 (Z7 OO) (u53)),(cond b6 (Z5 g7 1) (u54)),u55,u56,u57,u58,u59,u60,u61,u62,u63,u64,u65,u66,u67,u68,u69,u70,u71,u72,u73,u74,u75,u76,u77,u78,u79,u80,u81,u82,u83,u84,u85,u86,u87,u88,u89,u90,u91,u92,u93,u94,u95],defers:=[] }/\(K7 w g a c L (N2+1) g4 g6 g7 ra rc A co B7 ⟨Jo,sq,Zx,0,mm,[]⟩ OO 0 b3 b7 V/\(b7=true->b1=true)/\(b5=true->b1=true))) (by kernel_rfl) (by kernel_rfl) ?_ ?_ ?_
     ·exact⟨_,_,_,_,_,_,_,_,rfl,rfl,h0⟩
     ·intro i9 listed YZ V hi9 hr hJ;obtain⟨b0,b1,b2,b3,b4,b5,b6,b7,rfl,rfl,hF⟩:=hJ;have hi2:i9<8:=hi9;have hi3:i9=0∨i9=1∨i9=2∨i9=3∨i9=4∨i9=5∨i9=6∨i9=7:=(by omega);rcases hi3 with rfl | rfl | rfl | rfl | rfl | rfl | rfl | rfl
      ·obtain rfl:b0=false:=Z4 hr;refine ZK rfl (by kernel_rfl) (some 48) rfl (Z5 g7 1) V (by kernel_rfl) ?_;exact⟨_,_,_,_,_,_,_,_,rfl,rfl,hF⟩
      ·obtain rfl:b1=false:=Z4 hr;obtain rfl:b0=true:=ZX hr 0;obtain rfl:b7=false:=ff hF.2.1 rfl;refine Zu rfl (by kernel_rfl) (some 49) rfl 24 (.tmp 48) rfl ⟨g7,1,none⟩ (Z7 sq) (by kernel_rfl) ((St.b7 hF.1).ZR 1) ?_;exact⟨_,_,_,_,_,_,_,_,rfl,rfl,hF.1,(fun _=>rfl),fun _=>rfl⟩
      ·obtain rfl:b2=false:=Z4 hr;refine ZK rfl (by kernel_rfl) (some 50) rfl (Z5 g 0) V (by kernel_rfl) ?_;exact⟨_,_,_,_,_,_,_,_,rfl,rfl,hF⟩
      ·obtain rfl:b3=false:=Z4 hr;obtain rfl:b2=true:=ZX hr 2;refine X8 rfl (by kernel_rfl) (some 51) rfl 35 #[Z5 g 0,Z8 3] (by kernel_rfl) ((CX V (St.ns hF.1)).mono ?_);rintro e V2 ⟨rfl,hns,hbt⟩;exact⟨_,rfl,_,_,_,_,_,_,_,_,rfl,rfl,St.call hF.1 KD.out hns hbt,hF.2⟩
      ·obtain rfl:b4=false:=Z4 hr;obtain rfl:b3=true:=ZX hr 3;refine ZK rfl (by kernel_rfl) (some 52) rfl (Z7 v9) V (Vz rfl v9 (by omega) (by omega) (by kernel_rfl) _) ?_;exact⟨_,_,_,_,_,_,_,_,rfl,rfl,hF⟩
      ·obtain rfl:b5=false:=Z4 hr;obtain rfl:b1=true:=ZX hr 1;obtain rfl:b4=true:=ZX hr 4;refine ZK rfl (by kernel_rfl) (some 53) rfl (Z7 OO) V (by rw[<- ax0]; exact ah5 rfl sq v9 (by kernel_rfl) (by kernel_rfl) _) ?_;exact⟨_,_,_,_,_,_,_,_,rfl,rfl,hF.1,(fun _=>rfl),fun _=>rfl⟩
      ·obtain rfl:b6=false:=Z4 hr;refine ZK rfl (by kernel_rfl) (some 54) rfl (Z5 g7 1) V (by kernel_rfl) ?_;exact⟨_,_,_,_,_,_,_,_,rfl,rfl,hF⟩
      ·obtain rfl:b7=false:=Z4 hr;obtain rfl:b6=true:=ZX hr 6;obtain rfl:b5=true:=ZX hr 5;obtain⟨V2,hst,hX2,-,hbt⟩:=Zl (i:=1) (ty:=24) (v:=Z7 OO) (cs':=ZA ⟨Jo,OO,Zx,0,mm,[]⟩ none 0) (w0:=V) (B:=g7) (St.b7 hF.1) (Below.refl _ _) (Nat.le_refl _) (by show 1<6; decide) rfl (by kernel_rfl) rfl;refine YU rfl (by kernel_rfl) rfl 24 (.tmp 54) (.tmp 53) rfl (Z5 g7 1) (Z7 OO) (by kernel_rfl) (by kernel_rfl) _ hst ?_;exact⟨_,_,_,_,_,_,_,_,rfl,rfl,St.set hF.1 KD.out hbt hX2 rfl,(fun _=>hF.2.2 rfl),fun _=>hF.2.2 rfl⟩
     ·intro YZ V hJ;obtain⟨b0,b1,b2,b3,b4,b5,b6,b7,he,rfl,hF⟩:=hJ;have he:(#[true,true,true,true,true,true,true,true]:Array Bool)=#[b0,b1,b2,b3,b4,b5,b6,b7]:=he;simp only[Array.mk.injEq,List.cons.injEq,and_true] at he;obtain⟨rfl,rfl,rfl,rfl,rfl,rfl,rfl,rfl⟩:=he;simp only[cond_true];have IG:Hid (St w g a c L (N2+1+1) g4 g6 g7 ra rc A co B7 ⟨Jo,OO,Zx,0,mm,[]⟩ none 0 V):=Z9 hF.1;clear hF h0 CX;go_wp2_with fail;go_meet;exact⟨N2+1+1,OO,rfl,Z9 (by have:=iU.out; omega),Z9 hw3,IG⟩
   case rest=>
    obtain⟨N3,OO,rfl,ax1,HW3,IG⟩:=hcut;clear vH iU;obtain⟨v9,vI,hv9⟩:=Uy L N3 5 (by decide);have CX:∀ V,Ox V g a c L N3->Calls Tryz.prog 35 #[Z5 g 0,Z8 5] V fun e w'=>e=.returned (Z8 v9)/\Ox w' g a c L (N3+1)/\But g V w':=fun V hV=>Xm hV HL.out (by have:=HKK.out; have:=ax1.out; omega) 5 (by decide) (by decide) vI;obtain⟨f1,hf1⟩:=ZQ (IntKind.u64.wrap (Zx*p));obtain⟨f2,hf2⟩:=ZQ (IntKind.u64.wrap (f1*(1+(v9:Int))));have HW4:Hid (W64 f2):=Z9 (by rw[<- hf2]; exact W64.wrap _);have h0:K7 w g a c L N3 g4 g6 g7 ra rc A co B7 ⟨Jo,OO,Zx,0,mm,[]⟩ OO f2 false false wc.drew/\True:=⟨Lr IG.out,trivial⟩;go_upto_region 8 with fail;refine Zw (fun listed YZ V=>∃ b0 b1 b2 b3 b4 b5 b6 b7 b8 b9 b10:Bool,listed=#[b0,b1,b2,b3,b4,b5,b6,b7,b8,b9,b10]/\YZ={ tmps:=#[Z5 g 0,.agg #[.slice ra n rc,Z7 co],Z7 p,undef,Z5 g4 0,undef,Z5 g6 0,Z5 g7 0,Z8 n,u9,undef,undef,u12,u13,u14,u15,u16,u17,u18,u19,u20,u21,u22,u23,u24,u25,u26,u27,u28,u29,u30,u31,u32,u33,u34,u35,u36,u37,u38,u39,u40,u41,u42,u43,u44,u45,u46,u47,u48,u49,u50,u51,u52,u53,u54,(cond b0 (Z5 g7 2) (u55)),(cond b1 (Z7 Zx) (u56)),(cond b2 (Z7 p) (u57)),(cond b3 (Z7 f1) (u58)),(cond b4 (Z5 g 0) (u59)),(cond b5 (Z8 v9) (u60)),(cond b6 (Z8 (1+v9:Nat)) (u61)),(cond b7 (Z7 (1+v9:Nat)) (u62)),(cond b8 (Z7 f2) (u63)),(cond b9 (Z5 g7 3) (u64)),u65,u66,u67,u68,u69,u70,u71,u72,u73,u74,u75,u76,u77,u78,u79,u80,u81,u82,u83,u84,u85,u86,u87,u88,u89,u90,u91,u92,u93,u94,u95],defers:=[] }/\(K7 w g a c L N3 g4 g6 g7 ra rc A co B7 ⟨Jo,OO,Zx,0,mm,[]⟩ OO f2 b5 b10 V/\True)) (by kernel_rfl) (by kernel_rfl) ?_ ?_ ?_
    ·exact⟨_,_,_,_,_,_,_,_,_,_,_,rfl,rfl,h0⟩
    ·intro i9 listed YZ V hi9 hr hJ;obtain⟨b0,b1,b2,b3,b4,b5,b6,b7,b8,b9,b10,rfl,rfl,hF⟩:=hJ;have hi2:i9<11:=hi9;have hi3:i9=0∨i9=1∨i9=2∨i9=3∨i9=4∨i9=5∨i9=6∨i9=7∨i9=8∨i9=9∨i9=10:=(by omega);rcases hi3 with rfl | rfl | rfl | rfl | rfl | rfl | rfl | rfl | rfl | rfl | rfl
     ·obtain rfl:b0=false:=Z4 hr;refine ZK rfl (by kernel_rfl) (some 55) rfl (Z5 g7 2) V (by kernel_rfl) ?_;exact⟨_,_,_,_,_,_,_,_,_,_,_,rfl,rfl,hF⟩
     ·obtain rfl:b1=false:=Z4 hr;obtain rfl:b0=true:=ZX hr 0;refine Zu rfl (by kernel_rfl) (some 56) rfl 24 (.tmp 55) rfl ⟨g7,2,none⟩ (Z7 Zx) (by kernel_rfl) ((St.b7 hF.1).ZR 2) ?_;exact⟨_,_,_,_,_,_,_,_,_,_,_,rfl,rfl,hF⟩
     ·obtain rfl:b2=false:=Z4 hr;refine ZK rfl (by kernel_rfl) (some 57) rfl (Z7 p) V (by kernel_rfl) ?_;exact⟨_,_,_,_,_,_,_,_,_,_,_,rfl,rfl,hF⟩
     ·obtain rfl:b3=false:=Z4 hr;obtain rfl:b1=true:=ZX hr 1;obtain rfl:b2=true:=ZX hr 2;refine ZK rfl (by kernel_rfl) (some 58) rfl (Z7 f1) V (by rw[<- hf1]; exact pq rfl Zx p (by kernel_rfl) (by kernel_rfl) _) ?_;exact⟨_,_,_,_,_,_,_,_,_,_,_,rfl,rfl,hF⟩
     ·obtain rfl:b4=false:=Z4 hr;refine ZK rfl (by kernel_rfl) (some 59) rfl (Z5 g 0) V (by kernel_rfl) ?_;exact⟨_,_,_,_,_,_,_,_,_,_,_,rfl,rfl,hF⟩
     ·obtain rfl:b5=false:=Z4 hr;obtain rfl:b4=true:=ZX hr 4;refine X8 rfl (by kernel_rfl) (some 60) rfl 35 #[Z5 g 0,Z8 5] (by kernel_rfl) ((CX V (St.ns hF.1)).mono ?_);rintro e V2 ⟨rfl,hns,hbt⟩;exact⟨_,rfl,_,_,_,_,_,_,_,_,_,_,_,rfl,rfl,St.call hF.1 KD.out hns hbt,hF.2⟩
     ·obtain rfl:b6=false:=Z4 hr;obtain rfl:b5=true:=ZX hr 5;refine ZK rfl (by kernel_rfl) (some 61) rfl (Z8 (1+v9:Nat)) V (Zz rfl 1 v9 (by omega) (by kernel_rfl) (by kernel_rfl) _) ?_;exact⟨_,_,_,_,_,_,_,_,_,_,_,rfl,rfl,hF⟩
     ·obtain rfl:b7=false:=Z4 hr;obtain rfl:b6=true:=ZX hr 6;refine ZK rfl (by kernel_rfl) (some 62) rfl (Z7 (1+v9:Nat)) V (Vz rfl (1+v9:Nat) (by omega) (by omega) (by kernel_rfl) _) ?_;exact⟨_,_,_,_,_,_,_,_,_,_,_,rfl,rfl,hF⟩
     ·obtain rfl:b8=false:=Z4 hr;obtain rfl:b3=true:=ZX hr 3;obtain rfl:b7=true:=ZX hr 7;refine ZK rfl (by kernel_rfl) (some 63) rfl (Z7 f2) V (by rw[<- hf2,show(1+(v9:Int))=((1+v9:Nat):Int) by omega]; exact pq rfl f1 (1+v9:Nat) (by kernel_rfl) (by kernel_rfl) _) ?_;exact⟨_,_,_,_,_,_,_,_,_,_,_,rfl,rfl,hF⟩
     ·obtain rfl:b9=false:=Z4 hr;refine ZK rfl (by kernel_rfl) (some 64) rfl (Z5 g7 3) V (by kernel_rfl) ?_;exact⟨_,_,_,_,_,_,_,_,_,_,_,rfl,rfl,hF⟩
     ·obtain rfl:b10=false:=Z4 hr;obtain rfl:b9=true:=ZX hr 9;obtain rfl:b8=true:=ZX hr 8;obtain⟨V2,hst,hX2,-,hbt⟩:=Zl (i:=3) (ty:=24) (v:=Z7 f2) (cs':=ZA ⟨Jo,OO,Zx,f2,mm,[]⟩ none 0) (w0:=V) (B:=g7) (St.b7 hF.1) (Below.refl _ _) (Nat.le_refl _) (by show 3<6; decide) rfl (by kernel_rfl) rfl;refine YU rfl (by kernel_rfl) rfl 24 (.tmp 64) (.tmp 63) rfl (Z5 g7 3) (Z7 f2) (by kernel_rfl) (by kernel_rfl) _ hst ?_;exact⟨_,_,_,_,_,_,_,_,_,_,_,rfl,rfl,St.set hF.1 KD.out hbt hX2 rfl,trivial⟩
    ·intro YZ V hJ;obtain⟨b0,b1,b2,b3,b4,b5,b6,b7,b8,b9,b10,he,rfl,hF⟩:=hJ;have he:(#[true,true,true,true,true,true,true,true,true,true,true]:Array Bool)=#[b0,b1,b2,b3,b4,b5,b6,b7,b8,b9,b10]:=he;simp only[Array.mk.injEq,List.cons.injEq,and_true] at he;obtain⟨rfl,rfl,rfl,rfl,rfl,rfl,rfl,rfl,rfl,rfl,rfl⟩:=he;simp only[cond_true];have AL:Hid (St w g a c L (N3+1) g4 g6 g7 ra rc A co B7 ⟨Jo,OO,Zx,f2,mm,[]⟩ none 0 V):=Z9 hF.1;have HN5:Hid (N3+1<=k+8):=Z9 (by have:=ax1.out; omega);clear hF h0 CX IG hf1 hf2 vI hv9;obtain⟨v11,ax2,aR6⟩:=Uy L (N3+1) 9 (by decide);have ax3:=Xm AL.out.ns HL.out (by have:=HKK.out; have:=HN5.out; omega) 9 (by decide) (by decide) ax2;go_upto_region 9 with fail;refine wl<|ZV (Z5 g 0)<|YM (Z8 v11) (fun w'=>Ox w' g a c L ((N3+1)+1)/\But g V w') ax3 (fun V9 hq11=>?_);simp only[pu];have Bd:=Z9 (AL.out.call KD.out hq11.1 hq11.2);have ET:Hid (N3+1+1<=k+9):=Z9 (by have:=HN5.out; omega);clear hq11 ax3 AL HN5;obtain⟨tb,htb⟩:=ZQ (decide ((v11:Int)=0));refine Yn (.bool tb) (ZI rfl v11 0 htb)<|wn ?_;simp only[pu];clear htb;go_upto_if 67 with fail;go_cut [8] (fun s8 wx=>∃ (N4:Nat) (fe:Int),s8=Z8 n/\Hid (N4<=k+10)/\Hid (W64 fe)/\Hid (St w g a c L N4 g4 g6 g7 ra rc A co B7 ⟨Jo,OO,Zx,fe,mm,[]⟩ none 0 wx))
     case first=>
      cases tb
      ·go_wp2_with fail;go_meet;exact⟨N3+1+1,f2,rfl,Z9 (by have:=ET.out; omega),HW4,Bd⟩
      ·obtain⟨v12,ax4,aL1⟩:=Uy L (N3+1+1) 200 (by decide);have ax5:=Xm Bd.out.ns HL.out (by have:=HKK.out; have:=ET.out; omega) 200 (by decide) (by decide) ax4;go_upto_region 10 with fail;refine wl<|ZV (Z5 g 0)<|YM (Z8 v12) (fun w'=>Ox w' g a c L ((N3+1+1)+1)/\But g V9 w') ax5 (fun V10 hq12=>?_);have hS7:=Bd.out.call KD.out hq12.1 hq12.2;obtain⟨V11,ac2,fQ,-,ac3⟩:=Zl (i:=3) (ty:=24) (v:=Z7 v12) (cs':=ZA ⟨Jo,OO,Zx,v12,mm,[]⟩ none 0) (w0:=V10) (B:=g7) hS7.b7 (Below.refl _ _) (Nat.le_refl _) (by show 3<6; decide) rfl (by kernel_rfl) rfl;have HS8:=Z9 (St.set (x':=⟨Jo,OO,Zx,v12,mm,[]⟩) hS7 KD.out ac3 fQ rfl);refine YI (Z7 v12) (Vz rfl v12 (by omega) (by omega) (by kernel_rfl) _)<|ZV (Z5 g7 3)<|Zk rfl (ac2)<|wn ?_;simp only[pu];clear ac2 fQ ac3 hS7 hq12 ax5;go_wp2_with fail;go_meet;exact⟨N3+1+1+1,v12,rfl,Z9 (by have:=ET.out; omega),Z9 ⟨by omega,by omega⟩,HS8⟩
     case rest=>
      obtain⟨N4,fe,rfl,oZ,HWF,HS7⟩:=hcut;clear Bd ET;obtain⟨v13,ax6,aR7⟩:=Uy L N4 3 (by decide);have ax7:=Xm HS7.out.ns HL.out (by have:=HKK.out; have:=oZ.out; omega) 3 (by decide) (by decide) ax6;go_upto_region 11 with fail;refine wl<|ZV (Z5 g 0)<|YM (Z8 v13) (fun w'=>Ox w' g a c L (N4+1)/\But g wc w') ax7 (fun V12 Eu=>?_);refine ZV (Z8 v13)<|wn ?_;simp only[pu];have HS8:=Z9 (HS7.out.call KD.out Eu.1 Eu.2);have HN8:Hid (N4+1<=k+11+3*0):=Z9 (by have:=oZ.out; omega);clear Eu ax7 HS7 oZ;have aR3:v13<=2:=(by omega);go_wp2_with fail;go_loopg [10] (v13+1) (fun gg s10 wx=>∃ (z:Int) (M:List Tf) (a2:Option Addr) (c2 N:Nat),s10=Z8 z/\-1<=z/\(M.length:Int)+z=v13/\Hid (N<=k+11+3*M.length)/\Hid (∀ y,y∈M->vJ y.1/\0<y.2/\W64 y.2)/\Hid (St w g a c L N g4 g6 g7 ra rc A co B7 ⟨Jo,OO,Zx,fe,mm,M⟩ a2 c2 wx)/\((gg:Nat):Int)=z+1)
      case atStart=>exact⟨v13,[],none,0,N4+1,rfl,by omega,by simp,HN8,Z9 (fun y hy=>by cases hy),HS8,by omega⟩
      case round=>
       obtain⟨z,M,a2,c2,N,rfl,hz1,hz2,HNN,HMQ,HS,hg⟩:=hrel;clear HS8 HN8;by_cases hlt:0<=z
       ·obtain⟨i,rfl⟩:∃ i:Nat,z=i:=⟨z.toNat,by omega⟩;have HG:Hid (gk=i+1/\M.length+i=v13/\i<=2/\M.length<=2):=Z9 ⟨by omega,by omega,by omega,by omega⟩;have CN:=xR (HS.out.ns.ns (Nat.le_refl N)) HL.out (by have:=HNN.out; have:=HKK.out; have:=HG.out; omega);clear hz1 hz2 hg;go_upto_region 12 with fail;refine wl<|ZV (Z8 i)<|ZM (Vg rfl (i) (0) dT)<|wn ?_;simp only[pu];go_upto_region 14 with fail;refine wl<|ZV (Z5 g 0)<|XI (fun v w'=>∃ s,v=.string s/\vJ s/\NS w' g a c L (N+1)/\But g wr w') ((CN).mono fun e w' z=>by obtain⟨s,h1,h2⟩:=z; exact⟨_,h1,s,rfl,h2⟩) (fun vv Y1 hq=>?_);obtain⟨tn,rfl,ax8,ax9,oW⟩:=hq;obtain⟨N9,hN9,ah6⟩:=ax9;have hS9:=HS.out.call KD.out ah6 oW;obtain⟨v14,ac4,aL2⟩:=Uy L N9 60 (by decide);have ay0:=Xm ah6 HL.out (by have:=HKK.out; have:=HNN.out; have:=HG.out; omega) 60 (by decide) (by decide) ac4;refine ZV (Z5 g 0)<|YM (Z8 v14) (fun w'=>Ox w' g a c L (N9+1)/\But g Y1 w') ay0 (fun Y2 ah7=>?_);have oV:=hS9.call KD.out ah7.1 ah7.2;obtain⟨Y3,hst3,hb3,Uo⟩:=Tt Y2 (tn,1+(v14:Int));refine YI (Z7 v14) (Vz rfl v14 (by omega) (by omega) (by kernel_rfl) _)<|Yn (Z7 (1+v14)) (pG rfl 1 v14 (by omega) (by omega))<|ZV (.agg (Yy (tn,1+(v14:Int)))) ?_;refine Zy rfl (some 11) rfl (Z5 Y2.heap.size 0) (Y2.alloc (.cells (Yy Un) 60)) (by kernel_rfl) ?_;refine Zk rfl (hst3)<|wn ?_;have fP:=Z9 (oV.below hb3);have hoff:(Value.slice a2 M.length c2).ownBlock≠some Y2.heap.size:=fun e=>(by have:=(oV.rt.lt _ e).2; omega);have ah8:Hid (N9+1<=k+11+3*M.length+2):=Z9 (by have:=HNN.out; omega);have hsz2:=oV.sz;have aL3:=oV.bt.1.size;obtain⟨q,hq⟩:=ZQ Y2.heap.size;rw[hq] at Uo hoff hsz2 aL3 ⊢;have ES:=Z9 ax8;obtain⟨v15,ac5,aR8⟩:=Uy L (N9+1) 12 (by decide);have ay1:=Xm fP.out.ns HL.out (by have:=HKK.out; have:=HNN.out; have:=HG.out; have:=ah8.out; omega) 12 (by decide) (by decide) ac5;have ay2:Hid ((0:Int)<1+v14/\W64 (1+v14)):=Z9 ⟨by omega,by omega,by omega⟩;obtain⟨m1,hm1⟩:=ZQ (1+(v14:Int));rw[hm1] at Uo ay2 ⊢;clear hst3 hS9 oV hb3 ah7 ay0 hq ax8 ah6 oW CN hN9 ac4 aL2 hm1 ac5;go_upto_region 15 with fail;refine wl<|ZV (Z5 g 0)<|YM (Z8 v15) (fun w'=>Ox w' g a c L ((N9+1)+1)/\But g Y3 w') ay1 (fun Y4 fO=>?_);simp only[pu];have vG:=Z9 (fP.out.call KD.out fO.1 fO.2);have P7:=Uo.but fO.2 (by have:=fP.out.bt.1.size; have:=XA.out; omega);clear fO ay1 fP Uo;by_cases hv0:v15=0
        ·refine ZM (ZI rfl (v15) (0) dT)<|wn ?_;simp only[pu];obtain⟨Y5,hst5,Jh,-,Xc⟩:=Zl (i:=1) (ty:=24) (v:=Z7 9223372036854775808) (cs':=Yy (tn,9223372036854775808)) (w0:=Y4) (B:=q) P7 (Below.refl _ _) (Nat.le_refl _) (by show 1<2; decide) rfl (by kernel_rfl) rfl;have fM:=Z9 (vG.out.off KD.out Xc (show w.heap.size<=q by omega) (show B7<=q by omega) hoff);have HAM:Hid ((0:Int)<9223372036854775808/\W64 9223372036854775808):=Z9 ⟨by decide,by decide,by decide⟩;go_upto_region 16 with fail;refine wl<|ZV (Z5 q 1)<|Zk rfl (hst5)<|wn ?_;simp only[pu];clear hst5 Xc P7 vG;obtain⟨a7,c7,Y6,hap,IY,hb6⟩:=Lp fM.out.rt fM.out.sz (tn,9223372036854775808) (by have:=HG.out; show M.length<=100000; omega);have Ws:Hid (Bx Y5 q (Yy (tn,9223372036854775808)) 60):=Z9 Jh;obtain⟨Y7,WZ,hS7⟩:=fM.out.grow KD.out HWB.out hb6 IY;have ah9:=Z9 hS7;have hbd:=QY (tn,9223372036854775808) Y5;have ai0:Hid (∀ y,y∈M++[(tn,9223372036854775808)]->vJ y.1/\0<y.2/\W64 y.2):=Z9 (fun y hy=>by
          rcases List.mem_append.1 hy with hy | hy
          ·exact HMQ.out y hy
          ·rw[List.mem_singleton] at hy;subst hy;exact⟨ES.out,HAM.out⟩)
         have Ah:Hid ((M++[(tn,9223372036854775808)]).length=M.length+1):=Z9 (by rw[List.length_append]; rfl);clear IY hb6 hS7;go_upto_region 17 with fail;refine wl<|ZV (Z5 g7 5)<|ZL rfl ⟨g7,5,none⟩ (.slice a2 M.length c2) (fM.out.b7.ZR 5)<|ZL rfl ⟨q,0,none⟩ (.agg (Yy (tn,9223372036854775808))) (YH Ws.out) ?_;refine Zv (by kernel_rfl) (some 92) rfl 61 1 #[(0,.tmp 91)] rfl #[(0,.agg (Yy (tn,9223372036854775808)))] (by kernel_rfl) (.slice (some ⟨Y5.heap.size,0,none⟩) 1 1) _ hbd ?_;refine Zh rfl (some 93) rfl 61 rfl (.tmp 90) (.tmp 92) 61 rfl (.slice a2 M.length c2) (.slice (some ⟨Y5.heap.size,0,none⟩) 1 1) (.slice a7 (M++[(tn,9223372036854775808)]).length c7) Y6 (by kernel_rfl) (by kernel_rfl) hap ?_;refine ZV (Z5 g7 5)<|Zk rfl (WZ)<|wn ?_;simp only[pu];clear hap WZ hbd Ws;go_upto_region 13 with fail;refine wl<|ZV (Z8 i)<|YI (Z8 ((i:Int)-1)) (sub_one rfl i (by have:=HG.out; omega) (by kernel_rfl) _)<|ZV (Z8 ((i:Int)-1))<|wn ?_;simp only[pu];go_wp2_with fail;go_roundg i
         case measure=>have:=HG.out; omega
         case rel=>exact⟨(i:Int)-1,M++[(tn,9223372036854775808)],a7,c7,N9+1+1,rfl,by omega,by have:=HG.out; have:=Ah.out; omega,Z9 (by have:=ah8.out; have:=Ah.out; omega),ai0,ah9,by omega⟩
        ·refine ZM (ZI rfl (v15) (0) dF)<|wn ?_;simp only[pu];have HAM:=ay2;obtain⟨a7,c7,Y6,hap,IY,hb6⟩:=Lp vG.out.rt vG.out.sz (tn,m1) (by have:=HG.out; show M.length<=100000; omega);have Ws:Hid (Bx Y4 q (Yy (tn,m1)) 60):=Z9 P7;obtain⟨Y7,WZ,hS7⟩:=vG.out.grow KD.out HWB.out hb6 IY;have ah9:=Z9 hS7;have hbd:=QY (tn,m1) Y4;have ai0:Hid (∀ y,y∈M++[(tn,m1)]->vJ y.1/\0<y.2/\W64 y.2):=Z9 (fun y hy=>by
          rcases List.mem_append.1 hy with hy | hy
          ·exact HMQ.out y hy
          ·rw[List.mem_singleton] at hy;subst hy;exact⟨ES.out,HAM.out⟩)
         have Ah:Hid ((M++[(tn,m1)]).length=M.length+1):=Z9 (by rw[List.length_append]; rfl);clear IY hb6 hS7;go_upto_region 17 with fail;refine wl<|ZV (Z5 g7 5)<|ZL rfl ⟨g7,5,none⟩ (.slice a2 M.length c2) (vG.out.b7.ZR 5)<|ZL rfl ⟨q,0,none⟩ (.agg (Yy (tn,m1))) (YH Ws.out) ?_;refine Zv (by kernel_rfl) (some 92) rfl 61 1 #[(0,.tmp 91)] rfl #[(0,.agg (Yy (tn,m1)))] (by kernel_rfl) (.slice (some ⟨Y4.heap.size,0,none⟩) 1 1) _ hbd ?_;refine Zh rfl (some 93) rfl 61 rfl (.tmp 90) (.tmp 92) 61 rfl (.slice a2 M.length c2) (.slice (some ⟨Y4.heap.size,0,none⟩) 1 1) (.slice a7 (M++[(tn,m1)]).length c7) Y6 (by kernel_rfl) (by kernel_rfl) hap ?_;refine ZV (Z5 g7 5)<|Zk rfl (WZ)<|wn ?_;simp only[pu];clear hap WZ hbd Ws;go_upto_region 13 with fail;refine wl<|ZV (Z8 i)<|YI (Z8 ((i:Int)-1)) (sub_one rfl i (by have:=HG.out; omega) (by kernel_rfl) _)<|ZV (Z8 ((i:Int)-1))<|wn ?_;simp only[pu];go_wp2_with fail;go_roundg i
         case measure=>have:=HG.out; omega
         case rel=>exact⟨(i:Int)-1,M++[(tn,m1)],a7,c7,N9+1+1,rfl,by omega,by have:=HG.out; have:=Ah.out; omega,Z9 (by have:=ah8.out; have:=Ah.out; omega),ai0,ah9,by omega⟩
       ·obtain⟨XE,hZ⟩:=Zm (y:=⟨Jo,OO,Zx,fe,mm,M⟩) (a':=a2) (c':=c2) HS.out.b6;have YD:=Z9 (ZH HS.out.b7);have Xt:But g6 wr (wr.setRow g6 (ZA ⟨Jo,OO,Zx,fe,mm,M⟩ a2 c2)):=But.setRow wr _;have HE:=Z9 (⟨⟨Jo,OO,Zx,fe,mm,M⟩,a2,c2,rfl,(HS.out.rt.but Xt KD.out.l6).base HWB.out,⟨xQ.out.1,HW3.out,aw6.out,HWF.out,HMM.out,HMQ.out⟩,by show 1<=M.length; omega,by show M.length<=3; omega,(HS.out.ns.but Xt (by have:=XA.out; have:=GK.out; omega) (fun hl y hy=>by have:=HAB.out hl y hy; have:=GK.out; omega)).ns (by have:=HNN.out; omega),Nv HS.out.bt Xt GK.out.2.1 (by have:=XA.out; have:=GK.out; omega)⟩:av9 w g a c L k (.returned (.agg (ZA ⟨Jo,OO,Zx,fe,mm,M⟩ a2 c2))) _);generalize World.setRow _ g6 (ZA ⟨Jo,OO,Zx,fe,mm,M⟩ a2 c2)=V9 at *
        clear Xt HS hg;go_upto_region 12 with fail;refine wl<|ZV (Z8 z)<|ZM (Vg rfl (z) (0) dF)<|wn ?_;simp only[pu];go_upto_region 18 with fail;refine wl<|ZL rfl ⟨g7,0,none⟩ (.agg (ZA ⟨Jo,OO,Zx,fe,mm,M⟩ a2 c2)) (YD.out)<|Zk rfl (XE)<|wn ?_;simp only[pu];go_wp2_with fail;exact bodyPost_ret (XU (p:=6) rfl (by kernel_rfl) (ZH hZ)) rfl HE.out
end Go.Proofs.YtfpnnmeblefkkaaGreatDoor
namespace Go.Proofs.YtfpnnmeblefkkaaGreatDoor.Lg
open Go.RowKit
def Ur (a b:ByteArray):Bool:=decide (a.data.toList<b.data.toList)
theorem pK:∀ (x y:List UInt8),Op.bytesLess x y=decide (x<y)
 | [],[]=>by simp[Op.bytesLess]
 | _::_,[]=>by simp[Op.bytesLess]
 | [],_::_=>by simp[Op.bytesLess]
 | a::x,b::y=>by
  unfold Op.bytesLess;rw[pK x y,Bool.eq_iff_iff];simp only[Bool.or_eq_true,Bool.and_eq_true,decide_eq_true_eq,beq_iff_eq,List.cons_lt_cons_iff]
theorem xU (a:ByteArray):a.toList=a.data.toList:=Lib.toList_data a
theorem ab9 (a b:ByteArray):Op.bytesLess a.toList b.toList=Ur a b:=by rw[pK,xU,xU]; rfl
theorem eqB (a b:ByteArray):(a.toList == b.toList)=decide (a=b):=by
 rw[xU,xU];by_cases h:a=b
 ·subst h; simp
 ·rw[decide_eq_false h,beq_eq_false_iff_ne];intro e;exact h (ByteArray.ext (Array.toList_inj.1 e))
theorem Ji (a b:ByteArray):(a == b)=decide (a=b):=by rw[beq_toListBytes,eqB]
theorem Lu (a:ByteArray):Ur a a=false:=decide_eq_false (List.lt_irrefl _)
theorem Nw {a b c:ByteArray}(h:Ur a b=true)(g:Ur b c=true):Ur a c=true:=decide_eq_true (List.lt_trans (of_decide_eq_true h) (of_decide_eq_true g))
theorem pV {a b:ByteArray}(h:Ur a b=true):Ur b a=false:=by
 rw[Bool.eq_false_iff];intro g;have:=Nw h g;rw[Lu] at this;cases this
theorem ah0 {a b:ByteArray}(h:Ur a b=true):a≠b:=by
 rintro rfl;rw[Lu] at h;cases h
theorem GU {a b:ByteArray}(h:Ur a b=false)(hn:a≠b):Ur b a=true:=by
 refine decide_eq_true ?_;have h1:¬ a.data.toList<b.data.toList:=of_decide_eq_false h;have h2:b.data.toList<=a.data.toList:=List.not_lt.1 h1;rcases List.le_iff_lt_or_eq.1 h2 with h3 | h3
 ·exact h3
 ·exact absurd (ByteArray.ext (Array.toList_inj.1 h3)).symm hn
theorem ab4 {ρ:Operand->Value}{o:Oper}{x y:Operand}(ho:o.op=.binOp .lss 9 x y 9)(a b:ByteArray){t:Bool}(ht:Ur a b=t)(hx:ρ x=.string a)(hy:ρ y=.string b)(w:World):(execOp ρ o).run Tryz.prog w=.ok (.value (.bool t)) w:=by
 have e:Op.bytesLess a.toList b.toList=t:=(ab9 a b).trans ht;unfold execOp;simp only[ho,hx,hy];go_simp
theorem yc {ρ:Operand->Value}{o:Oper}{x y:Operand}(ho:o.op=.binOp .gtr 9 x y 9)(a b:ByteArray){t:Bool}(ht:Ur b a=t)(hx:ρ x=.string a)(hy:ρ y=.string b)(w:World):(execOp ρ o).run Tryz.prog w=.ok (.value (.bool t)) w:=by
 have e:(!(Op.bytesLess a.toList b.toList || a.toList == b.toList))=t:=by
  rw[ab9,eqB,<- ht];by_cases h:Ur a b=true
  ·rw[h,pV h]; rfl
  ·have h1:Ur a b=false:=(by simpa using h);by_cases h2:a=b
   ·subst h2; rw[Lu]; simp
   ·rw[h1,GU h1 h2,decide_eq_false h2]; rfl
 unfold execOp;simp only[ho,hx,hy];go_simp
theorem xW (x y:Int)(hx:0<=x)(hy:0<=y)(w:World):(callFunc 156 #[Z7 x,Z7 y,Z7 0]).run Tryz.prog w =
  .ok (.value (.tuple #[Z7 ((x+y) % 18446744073709551616),Z7 ((x+y) / 18446744073709551616)])) w:=by
 rw[run_callFunc_extern Tryz.func156 (by kernel_rfl) (by kernel_rfl) (by kernel_rfl) (e:=add64Entry) (by kernel_rfl),run_add64 x y 0 hx hy (by omega) (by omega)];simp only[Result.andThen,Int.add_zero]
def Me (a b:Int):Bool:=decide (a+b<18446744073709551616)
def MB (a b:Int):Int:=if a+b<18446744073709551616 then a+b else 0
theorem vK (a b:Int)(w:World)(ha:W64 a)(hb:W64 b) :
  Calls Tryz.prog 147 #[Z7 a,Z7 b] w fun e w'=>e=.returned (.tuple #[Z7 (MB a b),.bool (Me a b)])/\w=w':=by
 obtain⟨a0,a1⟩:=ha; obtain⟨b0,b1⟩:=hb;have hL:=xW a b a0 b0;by_cases h:a+b<18446744073709551616
 ·have e1:MB a b=a+b:=if_pos h;have e2:Me a b=true:=decide_eq_true h;have q1:(a+b) % 18446744073709551616=a+b:=by omega
  have q2:(a+b) / 18446744073709551616=0:=by omega
  simp only[q1,q2] at hL;rw[e1,e2];clear e1 e2 q1 q2;go_enter Tryz.func147,Tryz.ntmps147;go_wp2_with (simp only[hL])
  go_ret2;exact⟨rfl,rfl⟩
 ·have e1:MB a b=0:=if_neg h;have e2:Me a b=false:=decide_eq_false h;have q2:(a+b) / 18446744073709551616=1:=by omega
  simp only[q2] at hL;rw[e1,e2];clear e1 e2 q2;go_enter Tryz.func147,Tryz.ntmps147;go_wp2_with (simp only[hL])
  go_ret2;exact⟨rfl,rfl⟩
theorem yF (a b:Int)(w:World)(ha:W64 a)(hb:W64 b) :
  Calls Tryz.prog 112 #[Z7 a,Z7 b] w fun e w'=>e=.returned (.tuple #[Z7 (MB a b),.bool (Me a b)])/\w=w':=by
 obtain⟨a0,a1⟩:=ha; obtain⟨b0,b1⟩:=hb;by_cases h:a+b<18446744073709551616
 ·have e1:MB a b=a+b:=if_pos h;have e2:Me a b=true:=decide_eq_true h;have h':¬ (18446744073709551615-b<a):=by omega
  rw[e1,e2];clear e1 e2;go_enter Tryz.func112,Tryz.ntmps112;go_wp2;go_ret2;exact⟨rfl,rfl⟩
 ·have e1:MB a b=0:=if_neg h;have e2:Me a b=false:=decide_eq_false h;have h':18446744073709551615-b<a:=by omega
  rw[e1,e2];clear e1 e2;go_enter Tryz.func112,Tryz.ntmps112;go_wp2;go_ret2;exact⟨rfl,rfl⟩
def tot (l:List Int):Int:=l.foldl (· + ·) 0
def KQ (l:List Int):Bool:=decide (tot l<18446744073709551616)
def KP (l:List Int):Int:=if tot l<18446744073709551616 then tot l else 0
theorem gB (l:List Int):∀ a:Int,l.foldl (· + ·) a=a+tot l:=by
 induction l with
 | nil=>intro a; simp[tot]
 | cons x l ih=>
  intro a;have h1:=ih (a+x);have h2:=ih (0+x);simp only[tot,List.foldl_cons] at *
  omega
theorem Ya (x:Int)(l:List Int):tot (x::l)=x+tot l:=by
 have:=gB l (0+x);simp only[tot,List.foldl_cons] at *
 omega
theorem Xq (l r:List Int):tot (l++r)=tot l+tot r:=by
 induction l with
 | nil=>simp[tot]
 | cons x l ih=>rw[List.cons_append,Ya,Ya,ih]; omega
theorem EJ (l:List Int)(k:Nat)(h:k<l.length):tot (l.take (k+1))=tot (l.take k)+l.getD k 0:=by
 rw[List.take_succ_eq_append_getElem h,Xq,List.getD_eq_getElem?_getD,List.getElem?_eq_getElem h,Ya];simp[tot]
theorem WL (l:List Int):(∀ x,x∈l->0<=x)->0<=tot l:=by
 induction l with
 | nil=>intro _; simp[tot]
 | cons x l ih=>
  intro h;rw[Ya];have:=ih (fun y hy=>h y (List.mem_cons_of_mem _ hy));have:=h x (List.mem_cons_self ..);omega
theorem NG (l:List Int)(hw:∀ k,k<l.length->W64 (l.getD k 0))(x:Int)(hx:x∈l):W64 x:=by
 obtain⟨j,hj,rfl⟩:=List.getElem_of_mem hx;have:=hw j hj;rw[List.getD_eq_getElem?_getD,List.getElem?_eq_getElem hj] at this;exact this
theorem Uj (l:List Int)(hw:∀ k,k<l.length->W64 (l.getD k 0))(k:Nat):tot (l.take k)<=tot l:=by
 have h:=Xq (l.take k) (l.drop k);rw[List.take_append_drop] at h;have:=WL (l.drop k) (fun x hx=>(NG l hw x (List.mem_of_mem_drop hx)).1);omega
theorem II (a:Option Addr)(cap:Nat)(l:List Int)(w:World)(hl:l.length<=9223372036854775807)(hc:∀ k,k<l.length->∃ b off,a=some ⟨b,off,none⟩/\w.cell? ⟨b,off+k,none⟩=some (Z7 (l.getD k 0)))(hw:∀ k,k<l.length->W64 (l.getD k 0)) :
  Calls Tryz.prog 137 #[.slice a l.length cap] w fun e w'=>e=.returned (.tuple #[Z7 (KP l),.bool (KQ l)])/\w=w':=by
 go_enter Tryz.func137,Tryz.ntmps137;go_wp2_with fail;go_loopg [4,11] l.length (fun g s4 s11 wx=>w=wx/\∃ k:Nat,k<=l.length/\s4=Z7 (tot (l.take k))/\s11=Z8 k/\l.length-k=g/\Hid (tot (l.take k)<18446744073709551616))
 case atStart=>exact⟨rfl,0,by omega,rfl,rfl,rfl,Z9 (by simp[tot])⟩
 case round=>
  obtain⟨rfl,k,hk,rfl,rfl,rfl,ht⟩:=hrel;by_cases hlt:k<l.length
  ·obtain⟨b,off,ea,hcell⟩:=hc k hlt;have hx:=hw k hlt;have hts:=EJ l k hlt;have ht0:=WL (l.take k) (fun x hx=>(NG l hw x (List.mem_of_mem_take hx)).1);have hA:=fun w=>vK (tot (l.take k)) (l.getD k 0) w ⟨ht0,by have:=ht.out; omega⟩ hx;have hle:=Uj l hw (k+1);obtain⟨x,hxe⟩:=ZQ (l.getD k 0);obtain⟨t,hte⟩:=ZQ (tot (l.take k));rw[hxe] at hcell hx hts hA;rw[hte] at hts hA ht0 ht;rw[hts] at hle;rw[hte];subst ea;clear hxe hte hc hw;by_cases hs:t+x<18446744073709551616
   ·have e1:MB t x=t+x:=if_pos hs;have e2:Me t x=true:=decide_eq_true hs;rw[e1,e2] at hA;have HS:=Z9 hts;have hs':=Z9 hs;clear e1 e2 hts hle;go_wp2_with (go_at_call 147; refine(hA _).mono ?_; rintro e w' ⟨rfl,rfl⟩)
    go_roundg (l.length-(k+1))
    case measure=>omega
    case rel=>exact⟨rfl,k+1,by omega,by rw[HS.out],by first | rfl | go_num,rfl,by rw[HS.out]; exact hs'⟩
   ·have e1:MB t x=0:=if_neg hs;have e2:Me t x=false:=decide_eq_false hs;rw[e1,e2] at hA;have f1:=Z9 (show KP l=0 from if_neg (by omega));have f2:=Z9 (show KQ l=false from decide_eq_false (by omega));clear e1 e2 hts hle;go_wp2_with (go_at_call 147; refine(hA _).mono ?_; rintro e w' ⟨rfl,rfl⟩)
    go_ret2;exact⟨by rw[f1.out,f2.out]; rfl,rfl⟩
  ·obtain rfl:k=l.length:=(by omega);rw[List.take_length] at ht ⊢;have f1:=Z9 (show KP l=tot l from if_pos ht.out);have f2:=Z9 (show KQ l=true from decide_eq_true ht.out);clear hc hw;go_wp2_with fail;go_ret2;exact⟨by rw[f1.out,f2.out]; rfl,rfl⟩
section
variable {P : Program} {t e s bytes : Nat} {z : Value}
theorem RH (hu:P.underlying t=some (.slice e))(hinfo:(P.info? e).map (fun i=>(i.zero,i.size,i.bytes))=some (some z,s,bytes))(hzs:z.cells.size=s)(hs:0<s)
  {w:World} {B n m:Nat} {v:Value} {xs:List Value} (hO:w.ownsRow B e s v n xs) (pa:Option Addr) (cp:Nat) (ys:List Value) (hP:Cs w pa ys) (hl:ys.length=m*s) (h1:∀ u∈ys,u.oneCell'=true) (hB:B<=w.heap.size) (hby:0<bytes) (hn:(n+m)*bytes<=140737488355328) :
  ∃ v' w',(Builtin.append_ #[t,t] t #[v,.slice pa m cp]).run P w=.ok v' w'/\w'.ownsRow B e s v' (n+m) (xs++ys)/\Below B w w'/\w.grownBy w' v.ownBlock/\(v'.ownBlock=v.ownBlock∨v'.ownBlock=some w.heap.size):=by
 obtain⟨i0,hi,hz0,hz1,hz2⟩:=info_parts hinfo;by_cases hy:ys=[]
 ·subst hy;obtain rfl:m=0:=by
   rcases Nat.eq_zero_or_pos m with h | h
   ·exact h
   ·have:=Nat.mul_pos h hs;rw[<- hl] at this;simp at this
  cases pa with
  | none=>
   refine⟨v,w,?_,by simpa using hO,Below.refl _ _,World.grownBy.refl w _,.inl rfl⟩;rcases hO.2 with⟨rfl,h0⟩ | ⟨g,cap,cur,rfl,_,_,hnc,_⟩
   ·simp[Builtin.append_,run_underlying hu,sizeOf,typeInfo,hi,Builtin.lenOf,Builtin.firstCells]
   ·simp[Builtin.append_,run_underlying hu,sizeOf,typeInfo,hi,Builtin.lenOf,Builtin.firstCells,hnc,storeCells]
  | some x=>
   obtain⟨v',w',hr,h2,h3,-,h4⟩:=run_append_own_at (P:=P) w B t t e i0 z s bytes hu hi hz0 hz1 hz2 hzs hs v n xs hO x 0 cp [] (by simp) (fun j u h=>by simp at h) (by simp) (by unfold maxLen; have:=Nat.le_mul_of_pos_right (n+0) hby; omega) hn hB;exact⟨v',w',hr,h2,(Below.refl _ w).grown h3 hB (fun j hj=>(hO.lt j hj).1),h3,h4⟩
 ·obtain⟨y,hy0⟩:∃ y,ys[0]?=some y:=by
   cases ys with
   | nil=>exact absurd rfl hy
   | cons y r=>exact⟨y,rfl⟩
  obtain⟨b,off,rfl,-⟩:=hP 0 y hy0;have hcells:∀ j u,ys[j]?=some u->w.cell? ((⟨b,off,none⟩:Addr).add j)=some u:=fun j u hu=>by
   obtain⟨b2,off2,e2,-,hc⟩:=hP j u hu;simp only[Option.some.injEq,Addr.mk.injEq,and_true] at e2;obtain⟨rfl,rfl⟩:=e2;rw[Addr.add_mid];exact hc
  obtain⟨v',w',hr,h2,h3,-,h4⟩:=run_append_own_at (P:=P) w B t t e i0 z s bytes hu hi hz0 hz1 hz2 hzs hs v n xs hO ⟨b,off,none⟩ m cp ys hl hcells h1 (by unfold maxLen; have:=Nat.le_mul_of_pos_right (n+m) hby; omega) hn hB;exact⟨v',w',hr,h2,(Below.refl _ w).grown h3 hB (fun j hj=>(hO.lt j hj).1),h3,h4⟩
end
theorem gX (A:List Ac)(k:Nat)(h:k<A.length):(A.map (·.2.1)).getD k 0=(aca A k).2.1:=by
 rw[List.getD_eq_getElem?_getD,List.getElem?_map,List.getElem?_eq_getElem h];unfold aca;rw[List.getD_eq_getElem?_getD,List.getElem?_eq_getElem h];rfl
end Go.Proofs.YtfpnnmeblefkkaaGreatDoor.Lg
