/-
  Texts joined.
-/
import Derived.Test.YtnhlpahoomcgnaaGreatJ11
import Derived.Lib.Bytealg
import Derived.Laws.Externs
import Derived.Laws.Bits64b
import Derived.Laws.MathBits
import Derived.RowKit3
set_option maxRecDepth 100000
set_option maxHeartbeats 8000000
set_option linter.unusedSimpArgs false
set_option linter.unusedVariables false
namespace Go.Proofs.YtnhlpahoomcgnaaGreat
attribute [local irreducible] wpList wpQuiet
open Go.RowKit
section
variable {w : World} {g : Nat} {a : Option Addr} {c : Nat} {L : List Int} {N g4 g6 g7 : Nat} {ra : Option Addr} {rc : Nat} {A : List Ac} {co : Int} {B7 : Nat} {x : Y8} {a2 : Option Addr} {c2 : Nat} {V : World}
theorem MH (h:St w g a c L N g4 g6 g7 ra rc A co B7 x a2 c2 V):St w g a c L N g4 g6 g7 ra rc A co B7 x a2 c2 V.drew:=⟨⟨h.bt.1.drew,h.bt.2⟩,h.ns,h.row,h.b4,h.b6,h.b7,h.rt,h.sz⟩
theorem rD {V2:World}{B q:Nat}{v:Value}{M:List Tf}(h:Yj V B v M)(hb:But q V V2)(hne:v.ownBlock≠some q):Yj V2 B v M:=by
 unfold Yj at *
 refine⟨h.1,?_⟩;rcases h.2 with h0 | ⟨gg,cap,cur,ev,h1,h2,h3⟩
 ·exact .inl h0
 ·have hgq:gg≠q:=fun e=>hne (by rw[ev,<- e]; rfl);exact .inr ⟨gg,cap,cur,ev,h1,(hb.2 gg (Array.getElem?_eq_some_iff.1 h2).1 hgq).trans h2,h3⟩
theorem St.off (h:St w g a c L N g4 g6 g7 ra rc A co B7 x a2 c2 V)(ly:Ly w g a L g4 g6 g7 ra A B7){V2:World}{q:Nat}(hb:But q V V2)(hq:w.heap.size<=q)(hB:B7<=q)(hne:(Value.slice a2 x.tr.length c2).ownBlock≠some q):St w g a c L N g4 g6 g7 ra rc A co B7 x a2 c2 V2:=
 have l4:=ly.l4;have l6:=ly.l6;have l7:=ly.l7;have lg:=ly.hg
 ⟨Ob h.bt hb hq (by omega),h.ns.but hb (by omega) (fun hl z hz=>by have:=ly.ab hl z hz; omega),RY h.row hb.1.size (fun hn z hz=>hb.2 _ (Nat.lt_of_lt_of_le (ly.rb hn z hz).1 h.bt.1.size) (by have:=(ly.rb hn z hz).1; omega)),h.b4.but hb (by omega),h.b6.but hb (by omega),h.b7.but hb (by omega),rD h.rt hb hne,Nat.le_trans h.sz hb.1.size⟩
theorem St.grow (h:St w g a c L N g4 g6 g7 ra rc A co B7 x a2 c2 V)(ly:Ly w g a L g4 g6 g7 ra A B7)(hw:w.heap.size<=B7){V2:World}{y:Tf}{a7:Option Addr}{c7:Nat}(hb:Below B7 V V2)(hr:Yj V2 B7 (.slice a7 (x.tr++[y]).length c7) (x.tr++[y])):∃ V3,(Instr.storeAt 65 (Z5 g7 5) (.slice a7 (x.tr++[y]).length c7)).run Tryz.prog V2=.ok () V3/\St w g a c L N g4 g6 g7 ra rc A co B7 { x with tr:=x.tr++[y] } a7 c7 V3:=by
 obtain⟨f1,f2,f3,f4,f5,f6,f7⟩:=h.far ly hw hb;obtain⟨V3,hst,hX,-,hbt⟩:=Zn (i:=5) (ty:=65) (v:=.slice a7 (x.tr++[y]).length c7) (cs':=Zx { x with tr:=x.tr++[y] } a7 c7) (w0:=V2) (B:=g7) f6 (Below.refl _ _) (Nat.le_refl _) (by show 5<6; decide) rfl (by kernel_rfl) rfl;have lg:=ly.hg;have h7:=ly.h7;exact⟨V3,hst,Ob f1 hbt h7 (by omega),f2.but hbt (by omega) (fun hl z hz=>Nat.lt_of_lt_of_le (ly.ab hl z hz) h7),RY f3 hbt.1.size (fun hn z hz=>hbt.2 _ (Nat.lt_of_lt_of_le (ly.rb hn z hz).1 f1.1.size) (by have:=(ly.rb hn z hz).1; omega)),f4.but hbt ly.n47,f5.but hbt ly.n67,hX,hr.but hbt ly.l7,Nat.le_trans f7 hbt.1.size⟩
end
theorem as8 {w:World}{g c k rc:Nat}{a ra:Option Addr}{L:List Int}{A:List Ac}{co p:Int}(h:NS w g a c L k)(hl:L.length<=100000)(hk:k<=10000)(hrow:Cs w ra (acc A))(hrg:acc A≠[]->∀ x,ra=some x->x.block≠g)(hA:∀ x,x∈A->aQ x)(hA4:A.length<=1000):Calls Tryz.prog 31 #[Z5 g 0,.agg #[.slice ra A.length rc,Z4 co],Z4 p] w (at1 w g a c L k):=by
 have HL:=Z9 hl;have HKK:=Z9 hk;have HQ:=Z9 hA;have jv:=Z9 hA4;have Xn:=Z9 h.lt;have HAB:=Z9 (fun h1 x hx=>h.ab h1 x hx);have HRB:Hid (acc A≠[]->∀ x,ra=some x->x.block<w.heap.size/\x.block≠g):=Z9 fun hn x hx=>⟨by
  obtain⟨b,off,e,hb,-⟩:=hrow 0 ((acc A)[0]'(List.length_pos_iff.2 hn)) (List.getElem?_eq_getElem _);rw[hx] at e;cases e;exact hb,hrg hn x hx⟩
 have hb1:Below w.heap.size w (w.alloc (.cells #[.slice ra A.length rc,Z4 co] 29)):=(Below.refl _ w).alloc (Nat.le_refl _) _;have hX1:Bx (w.alloc (.cells #[.slice ra A.length rc,Z4 co] 29)) w.heap.size #[.slice ra A.length rc,Z4 co] 29:=heap_alloc_last w _;have hsz1:(w.alloc (.cells #[.slice ra A.length rc,Z4 co] 29)).heap.size=w.heap.size+1:=by simp
 obtain⟨n,hn⟩:=ZR A.length;have HN:=Z9 hn;rw[hn] at hb1 hX1 hsz1 ⊢;clear hl hk hA hA4 hrg hn;go_enter Tryz.func31,Tryz.ntmps31;go_upto_region 1 with fail;change Code.wp _ _ _ _ ((w.alloc (.cells #[.slice ra n rc,Z4 co] 29)).alloc (.cells (Zx zX none 0) 67));generalize w.alloc (.cells #[.slice ra n rc,Z4 co] 29)=W1 at *
 have hb0:Below w.heap.size w (W1.alloc (.cells (Zx zX none 0) 67)):=hb1.alloc hb1.size _;have hX0:Bx (W1.alloc (.cells (Zx zX none 0) 67)) w.heap.size #[.slice ra n rc,Z4 co] 29:=hX1.below hX1.lt ((Below.refl _ W1).alloc (Nat.le_refl _) _);have hY0:Bx (W1.alloc (.cells (Zx zX none 0) 67)) W1.heap.size (Zx zX none 0) 67:=heap_alloc_last W1 _;rw[hsz1] at hY0;generalize W1.alloc (.cells (Zx zX none 0) 67)=W at *
 obtain⟨g4,hg4⟩:=ZR w.heap.size;obtain⟨g6,WG⟩:=ZR (w.heap.size+1);have Ht:Hid (w.heap.size<=g4/\w.heap.size<=g6/\g4≠g6):=Z9 ⟨by omega,by omega,by omega⟩;rw[WG] at hY0;rw[hg4] at hX0;rw[WG,hg4];have hrW:=hrow.below hb0;have hnW:=h.below hb0;have Wu:=Z9 (But.of_below hb0 (Nat.le_of_lt Xn.out));have CN:=yS hnW HL.out (by have:=HKK.out; omega);clear hb0 hb1 hX1 hsz1 hg4 WG hrow h;refine wl<|ZV (Z5 g 0)<|Yi (fun v w'=>∃ s,v=.string s/\wY s/\NS w' g a c L (k+1)/\But g W w') ((CN).mono fun e w' z=>by obtain⟨s,h1,h2⟩:=z; exact⟨_,h1,s,rfl,h2⟩) (fun vv V1 hq=>?_);obtain⟨nm,rfl,at6,aP,ru⟩:=hq;refine ZV (Z5 g 0) <|
  Yi (fun v w'=>∃ q:Nat,v=Z8 q/\(q:Int)<6/\NS w' g a c L ((k+1)+1)/\But g V1 w') ((X4 aP HL.out (by have:=HKK.out; omega) 6 (by decide) (by decide)).mono fun e w' z=>by obtain⟨q,h1,h2⟩:=z; exact⟨_,h1,q,rfl,h2⟩) (fun vv V2 hq=>?_)
 obtain⟨v2,rfl,hv2,Ur,aO⟩:=hq;refine YG (Z4 v2) (Vm rfl v2 (by omega) (by omega) (by kernel_rfl) _)<|Yy (Z4 (v2*40)) (ae8 rfl v2 40 (by omega) (by omega)) <|
  Yy (Z4 (150+v2*40)) (qZ rfl 150 (v2*40) (by omega) (by omega))<|ZV (Z5 g 0) <|
  Yi (fun v w'=>∃ s,v=.string s/\MmQ s/\NS w' g a c L ((k+1+1)+1)/\But g V2 w') ((jr Ur HL.out (by have:=HKK.out; omega)).mono fun e w' z=>by obtain⟨s,h1,h2⟩:=z; exact⟨_,h1,s,rfl,h2⟩) (fun vv V3 hq=>?_)
 obtain⟨mm,rfl,at7,qY,qX⟩:=hq;obtain⟨V4,UZ,hb4,Qp⟩:=O5 V3 ⟨nm,0,150+v2*40,0,mm,[]⟩ none 0;refine ZV (.agg #[.string nm,Z4 0,Z4 (150+v2*40),Z4 0,.string mm,.slice none 0 0]) ?_;refine Zy rfl (some 7) rfl (Z5 V3.heap.size 0) (V3.alloc (.cells (Zx zX none 0) 67)) (by kernel_rfl) ?_;refine Zu rfl (UZ)<|wn ?_;have hbt:=(ru.trans aO).trans qX;have wX:=But.of_below hb4 (Nat.le_of_lt qY.lt);obtain⟨N0,hN0,hns0⟩:=qY.below hb4;obtain⟨g7,RF⟩:=ZR V3.heap.size;obtain⟨B7,P5⟩:=ZR V4.heap.size;rw[RF] at Qp ⊢;have au0:=Qp.lt;have Wj:=hX0.but hbt (by have:=Xn.out; have:=Ht.out; omega);have Qj:=hY0.but hbt (by have:=Xn.out; have:=Ht.out; omega);have au1:=Wj.lt;have au2:=Qj.lt;have hbw0:=Wu.out.trans hbt;have hws:=hbw0.1.size;have aH4:=hb4.size;have LY:Ly w g a L g4 g6 g7 ra A B7:=⟨Xn.out,Ht.out.1,Ht.out.2.1,by omega,Ht.out.2.2,by omega,by omega,by omega,by omega,by omega,HAB.out,HRB.out⟩;have Le:=Z9 LY;have hrow3:=RY hrW hbt.1.size (fun hn y hy=>hbt.2 _ (Nat.lt_of_lt_of_le (HRB.out hn y hy).1 Wu.out.1.size) (HRB.out hn y hy).2);have Ig:Hid (St w g a c L N0 g4 g6 g7 ra rc A co B7 ⟨nm,0,150+v2*40,0,mm,[]⟩ none 0 V4):=Z9 ⟨hbw0.trans wX,hns0,hrow3.below hb4,by rw[HN.out]; exact Wj.below au1 hb4,Qj.below au2 hb4,Qp,Yj.nil _ _,Nat.le_of_eq P5.symm⟩;have bG:Hid (w.heap.size<=B7):=Z9 (by omega);have au3:Hid (150<=(150+(v2:Int)*40)/\(150+(v2:Int)*40)<=1000):=Z9 (by omega);have HNM:=Z9 at6;have HMM:=Z9 at7;have HN0:Hid (N0<=k+3):=Z9 hN0;obtain⟨Zp,RD⟩:=ZR (150+(v2:Int)*40);rw[RD] at Ig au3 ⊢;clear hbt wX hns0 RF P5 Qp au0 Wj Qj au1 au2 hbw0 hws aH4 LY hrow3 hb4 UZ hX0 hY0 hrW hnW Wu CN ru aO qX qY Ur aP at6 at7 hN0 hv2 RD;go_upto_region 2 with fail;refine wl<|ZV (Z5 g4 0)<|ZL rfl ⟨g4,0,none⟩ (.slice ra n rc) ((by have:=Ig.out.b4; rw[HN.out] at this; exact this.ZP 0))<|ZA (Z8 n) (Z8 n)<|wn ?_;simp only[pu];go_upto_region 3 with fail;go_cut [31] (fun s31 wx=>∃ (N1:Nat) (tb:Bool),s31=.bool tb/\Hid (N1<=k+4)/\Hid (St w g a c L N1 g4 g6 g7 ra rc A co B7 ⟨nm,0,Zp,0,mm,[]⟩ none 0 wx)/\Hid (tb=true->0<n))
 case first=>
  by_cases hn0:0<n
  ·obtain⟨v8,aH5,hv8⟩:=Uo L N0 8 (by decide);have CX8:=Xi Ig.out.ns HL.out (by have:=HKK.out; have:=HN0.out; omega) 8 (by decide) (by decide) aH5;by_cases hv0:0<v8
   ·refine wl<|ZV (Z8 n)<|ZJ (Zo rfl (n) (0) dT)<|ZA ZW (Z5 g 0)<|YS (Z8 v8) (fun w'=>O4 w' g a c L (N0+1)/\But g V4 w') CX8 (fun V5 hq8=>?_);have Vx:=Z9 (Ig.out.call Le.out hq8.1 hq8.2);refine ZJ (Zo rfl (v8) (0) dT)<|ZV ZW<|wn ?_;simp only[pu];clear hq8 CX8 Ig;go_wp2_with fail;go_meet;exact⟨N0+1,true,rfl,Z9 (by have:=HN0.out; omega),Vx,Z9 (fun _=>hn0)⟩
   ·refine wl<|ZV (Z8 n)<|ZJ (Zo rfl (n) (0) dT)<|ZA ZW (Z5 g 0)<|YS (Z8 v8) (fun w'=>O4 w' g a c L (N0+1)/\But g V4 w') CX8 (fun V5 hq8=>?_);have Vx:=Z9 (Ig.out.call Le.out hq8.1 hq8.2);refine ZJ (Zo rfl (v8) (0) dF)<|ZV ZY<|wn ?_;simp only[pu];clear hq8 CX8 Ig;go_wp2_with fail;go_meet;exact⟨N0+1,false,rfl,Z9 (by have:=HN0.out; omega),Vx,Z9 (fun _=>hn0)⟩
  ·refine wl<|ZV (Z8 n)<|ZJ (Zo rfl (n) (0) dF)<|SG ZY undef undef undef ZY<|wn ?_;simp only[pu];go_wp2_with fail;go_meet;exact⟨N0,false,rfl,Z9 (by have:=HN0.out; omega),Ig,Z9 (fun h=>nomatch h)⟩
 case rest=>
  obtain⟨N1,tb,rfl,jq,Vx,HTB⟩:=hcut;clear Ig HN0;go_upto_if 31 with fail;go_cut [8] (fun s8 wx=>∃ (N2:Nat) (JI:ByteArray) (sq:Int),s8=Z8 n/\Hid (N2<=k+5)/\Hid (wY JI/\W64 sq)/\Hid (St w g a c L N2 g4 g6 g7 ra rc A co B7 ⟨JI,sq,Zp,0,mm,[]⟩ none 0 wx))
  case first=>
   cases tb
   ·go_wp2_with fail;go_meet;exact⟨N1,nm,0,rfl,Z9 (by have:=jq.out; omega),Z9 ⟨HNM.out,Xq⟩,Vx⟩
   ·have hn0:=HTB.out rfl;obtain⟨v9,wW,hv9⟩:=Uo L N1 n (by omega);have ae9:v9<n:=(by omega);have hyq:=HQ.out (aca A v9) (UK (by rw[HN.out]; exact ae9));have hvA:v9<A.length:=(by rw[HN.out]; exact ae9);obtain⟨b,off,rfl,-,-⟩:=Yv Vx.out.row (k:=v9) hvA;have au4:=fun V (hV:Cs V (some ⟨b,off,none⟩) (acc A))=>(by obtain⟨b2,o2,e2,-,h2⟩:=Yv hV (k:=v9) hvA; simp only[Option.some.injEq,Addr.mk.injEq,and_true] at e2; obtain⟨rfl,rfl⟩:=e2; exact XM h2:(Instr.loadAt 60 (Z5 b (off+v9*3))).run Tryz.prog V=.ok (.agg (Zq (aca A v9))) V);generalize aca A v9=y at *
    have CX:∀ V,O4 V g a c L N1->Calls Tryz.prog 18 #[Z5 g 0,Z8 n] V fun e w'=>e=.returned (Z8 v9)/\O4 w' g a c L (N1+1)/\But g V w':=fun V hV=>Xi hV HL.out (by have:=HKK.out; have:=jq.out; omega) n (by omega) (by have:=jv.out; rw[HN.out] at this; omega) wW;have h0:K4 w g a c L N1 g4 g6 g7 (some ⟨b,off,none⟩) rc A co B7 ⟨nm,0,Zp,0,mm,[]⟩ wc y false false false undef wc.drew:=⟨(fun h=>nomatch h),Nat.le_refl _,MH Vx.out,(fun h=>nomatch h),(fun h=>nomatch h)⟩;have HWC:Hid (w.heap.size<=wc.heap.size/\B7<=wc.heap.size/\g<wc.heap.size):=Z9 ⟨Vx.out.bt.1.size,Vx.out.sz,Vx.out.ns.1.lt⟩;go_upto_region 4 with fail;refine Zw (fun listed ZG V=>∃ b0 b1 b2 b3 b4 b5 b6 b7 b8:Bool,∃ x9:Value,listed=#[b0,b1,b2,b3,b4,b5,b6,b7,b8]/\ZG={ tmps:=#[Z5 g 0,.agg #[.slice (some ⟨b,off,none⟩) n rc,Z4 co],Z4 p,undef,Z5 g4 0,undef,Z5 g6 0,Z5 g7 0,Z8 n,x9,undef,undef,u12,u13,u14,u15,u16,u17,u18,u19,u20,u21,u22,u23,u24,u25,u26,u27,u28,u29,u30,ZW,(cond b0 (Z5 g4 0) (u32)),(cond b1 (.slice (some ⟨b,off,none⟩) n rc) (u33)),(cond b2 (Z5 g 0) (u34)),(cond b3 (Z8 n) (u35)),(cond b4 (Z8 v9) (u36)),(cond b5 (Z5 b (off+v9*3)) (u37)),(cond b6 (.agg (Zq y)) (u38)),u39,u40,u41,u42,u43,u44,u45,u46,u47,u48,u49,u50,u51,u52,u53,u54,u55,u56,u57,u58,u59,u60,u61,u62,u63,u64,u65,u66,u67,u68,u69,u70,u71,u72,u73,u74,u75,u76,u77,u78,u79,u80,u81,u82,u83,u84,u85,u86,u87,u88,u89,u90,u91,u92,u93,u94,u95],defers:=[] }/\K4 w g a c L N1 g4 g6 g7 (some ⟨b,off,none⟩) rc A co B7 ⟨nm,0,Zp,0,mm,[]⟩ wc y b4 b7 b8 x9 V) (by kernel_rfl) (by kernel_rfl) ?_ ?_ ?_
    ·exact⟨_,_,_,_,_,_,_,_,_,_,rfl,rfl,h0⟩
    ·intro i9 listed ZG V hi9 hr hJ;obtain⟨b0,b1,b2,b3,b4,b5,b6,b7,b8,x9,rfl,rfl,hF⟩:=hJ;have hi2:i9<9:=hi9;have hi3:i9=0∨i9=1∨i9=2∨i9=3∨i9=4∨i9=5∨i9=6∨i9=7∨i9=8:=(by omega);rcases hi3 with rfl | rfl | rfl | rfl | rfl | rfl | rfl | rfl | rfl
     ·obtain rfl:b0=false:=Z7 hr;refine ZT rfl (by kernel_rfl) (some 32) rfl (Z5 g4 0) V (by kernel_rfl) ?_;exact⟨_,_,_,_,_,_,_,_,_,_,rfl,rfl,hF⟩
     ·obtain rfl:b1=false:=Z7 hr;obtain rfl:b0=true:=ZX hr 0;refine ZE rfl (by kernel_rfl) (some 33) rfl 26 (.tmp 32) rfl ⟨g4,0,none⟩ (.slice (some ⟨b,off,none⟩) n rc) (by kernel_rfl) (by have:=hF.st.b4; rw[HN.out] at this; exact this.ZP 0) ?_;exact⟨_,_,_,_,_,_,_,_,_,_,rfl,rfl,hF⟩
     ·obtain rfl:b2=false:=Z7 hr;refine ZT rfl (by kernel_rfl) (some 34) rfl (Z5 g 0) V (by kernel_rfl) ?_;exact⟨_,_,_,_,_,_,_,_,_,_,rfl,rfl,hF⟩
     ·obtain rfl:b3=false:=Z7 hr;refine ZT rfl (by kernel_rfl) (some 35) rfl (Z8 n) V (by kernel_rfl) ?_;exact⟨_,_,_,_,_,_,_,_,_,_,rfl,rfl,hF⟩
     ·obtain rfl:b4=false:=Z7 hr;obtain rfl:b2=true:=ZX hr 2;obtain rfl:b3=true:=ZX hr 3;refine Zc rfl (by kernel_rfl) (some 36) rfl 18 #[Z5 g 0,Z8 n] (by kernel_rfl) ((CX V hF.st.ns).mono ?_);rintro e V2 ⟨rfl,hns,hbt⟩;exact⟨_,rfl,_,_,_,_,_,_,_,_,_,_,rfl,rfl,hF.s4 Le.out HWC.out.2.2 hns hbt⟩
     ·obtain rfl:b5=false:=Z7 hr;obtain rfl:b1=true:=ZX hr 1;obtain rfl:b4=true:=ZX hr 4;refine ZT rfl (by kernel_rfl) (some 37) rfl (Z5 b (off+v9*3)) V (YC b off n rc v9 ae9 _ _ _ rfl (by kernel_rfl) (by kernel_rfl)) ?_;exact⟨_,_,_,_,_,_,_,_,_,_,rfl,rfl,hF⟩
     ·obtain rfl:b6=false:=Z7 hr;obtain rfl:b5=true:=ZX hr 5;refine ZE rfl (by kernel_rfl) (some 38) rfl 60 (.tmp 37) rfl ⟨b,off+v9*3,none⟩ (.agg (Zq y)) (by kernel_rfl) (au4 V hF.st.row) ?_;exact⟨_,_,_,_,_,_,_,_,_,_,rfl,rfl,hF⟩
     ·obtain rfl:b7=false:=Z7 hr;refine ZT rfl (by kernel_rfl) (some 9) rfl (Z5 V.heap.size 0) (V.alloc (.cells (Zq WA) 60)) (by kernel_rfl) ?_;exact⟨_,_,_,_,_,_,_,_,_,_,rfl,rfl,hF.s7⟩
     ·obtain rfl:b8=false:=Z7 hr;obtain rfl:b7=true:=ZX hr 7;obtain rfl:b6=true:=ZX hr 6;obtain⟨q,V2,rfl,hst,hF2⟩:=hF.s8 Le.out HWC.out.1 HWC.out.2.1;refine Zf rfl (by kernel_rfl) rfl 60 (.tmp 9) (.tmp 38) rfl (Z5 q 0) (.agg (Zq y)) (by kernel_rfl) (by kernel_rfl) _ hst ?_;exact⟨_,_,_,_,_,_,_,_,_,_,rfl,rfl,hF2⟩
    ·intro ZG V hJ;obtain⟨b0,b1,b2,b3,b4,b5,b6,b7,b8,x9,he,rfl,hF⟩:=hJ;have he:(#[true,true,true,true,true,true,true,true,true]:Array Bool)=#[b0,b1,b2,b3,b4,b5,b6,b7,b8]:=he;simp only[Array.mk.injEq,List.cons.injEq,and_true] at he;obtain⟨rfl,rfl,rfl,rfl,rfl,rfl,rfl,rfl,rfl⟩:=he;simp only[cond_true];obtain⟨q,rfl,hq1,hbx⟩:=hF.d9 rfl;have hS2:St w g a c L (N1+1) g4 g6 g7 (some ⟨b,off,none⟩) rc A co B7 ⟨nm,0,Zp,0,mm,[]⟩ none 0 V:=hF.st;have h1:K5 w g a c L (N1+1) g4 g6 g7 (some ⟨b,off,none⟩) rc A co B7 ⟨nm,0,Zp,0,mm,[]⟩ y q false false V.drew:=⟨MH hS2,hbx⟩;have hqn:q≠g7:=(by have:=Le.out.l7; have:=HWC.out.2.1; omega);clear hF h0 CX au4 Vx hS2 hbx;go_upto_region 5 with fail;have h0:=h1;clear h1;refine Zw (fun listed ZG V=>∃ b0 b1 b2 b3 b4 b5 b6 b7:Bool,listed=#[b0,b1,b2,b3,b4,b5,b6,b7]/\ZG={ tmps:=#[Z5 g 0,.agg #[.slice (some ⟨b,off,none⟩) n rc,Z4 co],Z4 p,undef,Z5 g4 0,undef,Z5 g6 0,Z5 g7 0,Z8 n,Z5 q 0,undef,undef,u12,u13,u14,u15,u16,u17,u18,u19,u20,u21,u22,u23,u24,u25,u26,u27,u28,u29,u30,ZW,Z5 g4 0,.slice (some ⟨b,off,none⟩) n rc,Z5 g 0,Z8 n,Z8 v9,Z5 b (off+v9*3),.agg (Zq y),(cond b0 (Z5 q 0) (u39)),(cond b1 (.string y.1) (u40)),(cond b2 (Z5 q 2) (u41)),(cond b3 (Z4 y.2.2) (u42)),(cond b4 (Z5 g7 0) (u43)),(cond b6 (Z5 g7 1) (u44)),u45,u46,u47,u48,u49,u50,u51,u52,u53,u54,u55,u56,u57,u58,u59,u60,u61,u62,u63,u64,u65,u66,u67,u68,u69,u70,u71,u72,u73,u74,u75,u76,u77,u78,u79,u80,u81,u82,u83,u84,u85,u86,u87,u88,u89,u90,u91,u92,u93,u94,u95],defers:=[] }/\K5 w g a c L (N1+1) g4 g6 g7 (some ⟨b,off,none⟩) rc A co B7 ⟨nm,0,Zp,0,mm,[]⟩ y q b5 b7 V) (by kernel_rfl) (by kernel_rfl) ?_ ?_ ?_
     ·exact⟨_,_,_,_,_,_,_,_,rfl,rfl,h0⟩
     ·intro i9 listed ZG V hi9 hr hJ;obtain⟨b0,b1,b2,b3,b4,b5,b6,b7,rfl,rfl,hF⟩:=hJ;have hi2:i9<8:=hi9;have hi3:i9=0∨i9=1∨i9=2∨i9=3∨i9=4∨i9=5∨i9=6∨i9=7:=(by omega);rcases hi3 with rfl | rfl | rfl | rfl | rfl | rfl | rfl | rfl
      ·obtain rfl:b0=false:=Z7 hr;refine ZT rfl (by kernel_rfl) (some 39) rfl (Z5 q 0) V (by kernel_rfl) ?_;exact⟨_,_,_,_,_,_,_,_,rfl,rfl,hF⟩
      ·obtain rfl:b1=false:=Z7 hr;obtain rfl:b0=true:=ZX hr 0;refine ZE rfl (by kernel_rfl) (some 40) rfl 9 (.tmp 39) rfl ⟨q,0,none⟩ (.string y.1) (by kernel_rfl) (hF.2.ZP 0) ?_;exact⟨_,_,_,_,_,_,_,_,rfl,rfl,hF⟩
      ·obtain rfl:b2=false:=Z7 hr;refine ZT rfl (by kernel_rfl) (some 41) rfl (Z5 q 2) V (by kernel_rfl) ?_;exact⟨_,_,_,_,_,_,_,_,rfl,rfl,hF⟩
      ·obtain rfl:b3=false:=Z7 hr;obtain rfl:b2=true:=ZX hr 2;refine ZE rfl (by kernel_rfl) (some 42) rfl 27 (.tmp 41) rfl ⟨q,2,none⟩ (Z4 y.2.2) (by kernel_rfl) (hF.2.ZP 2) ?_;exact⟨_,_,_,_,_,_,_,_,rfl,rfl,hF⟩
      ·obtain rfl:b4=false:=Z7 hr;refine ZT rfl (by kernel_rfl) (some 43) rfl (Z5 g7 0) V (by kernel_rfl) ?_;exact⟨_,_,_,_,_,_,_,_,rfl,rfl,hF⟩
      ·obtain rfl:b5=false:=Z7 hr;obtain rfl:b4=true:=ZX hr 4;obtain rfl:b1=true:=ZX hr 1;obtain⟨V2,hst,hX2,-,hbt⟩:=Zn (i:=0) (ty:=9) (v:=.string y.1) (cs':=Zx ⟨y.1,cond b7 y.2.2 0,Zp,0,mm,[]⟩ none 0) (w0:=V) (B:=g7) hF.1.b7 (Below.refl _ _) (Nat.le_refl _) (by show 0<6; decide) rfl (by kernel_rfl) rfl;refine Zf rfl (by kernel_rfl) rfl 9 (.tmp 43) (.tmp 40) rfl (Z5 g7 0) (.string y.1) (by kernel_rfl) (by kernel_rfl) _ hst ?_;exact⟨_,_,_,_,_,_,_,_,rfl,rfl,hF.1.set Le.out hbt hX2 rfl,hF.2.but hbt hqn⟩
      ·obtain rfl:b6=false:=Z7 hr;refine ZT rfl (by kernel_rfl) (some 44) rfl (Z5 g7 1) V (by kernel_rfl) ?_;exact⟨_,_,_,_,_,_,_,_,rfl,rfl,hF⟩
      ·obtain rfl:b7=false:=Z7 hr;obtain rfl:b6=true:=ZX hr 6;obtain rfl:b3=true:=ZX hr 3;obtain⟨V2,hst,hX2,-,hbt⟩:=Zn (i:=1) (ty:=27) (v:=Z4 y.2.2) (cs':=Zx ⟨cond b5 y.1 nm,y.2.2,Zp,0,mm,[]⟩ none 0) (w0:=V) (B:=g7) hF.1.b7 (Below.refl _ _) (Nat.le_refl _) (by show 1<6; decide) rfl (by kernel_rfl) rfl;refine Zf rfl (by kernel_rfl) rfl 27 (.tmp 44) (.tmp 42) rfl (Z5 g7 1) (Z4 y.2.2) (by kernel_rfl) (by kernel_rfl) _ hst ?_;exact⟨_,_,_,_,_,_,_,_,rfl,rfl,hF.1.set Le.out hbt hX2 rfl,hF.2.but hbt hqn⟩
     ·intro ZG V hJ;obtain⟨b0,b1,b2,b3,b4,b5,b6,b7,he,rfl,hF⟩:=hJ;have he:(#[true,true,true,true,true,true,true,true]:Array Bool)=#[b0,b1,b2,b3,b4,b5,b6,b7]:=he;simp only[Array.mk.injEq,List.cons.injEq,and_true] at he;obtain⟨rfl,rfl,rfl,rfl,rfl,rfl,rfl,rfl⟩:=he;simp only[cond_true];have HS2:Hid (St w g a c L (N1+1) g4 g6 g7 (some ⟨b,off,none⟩) rc A co B7 ⟨y.1,y.2.2,Zp,0,mm,[]⟩ none 0 V):=Z9 hF.1;clear hF h0;go_wp2_with fail;go_meet;exact⟨N1+1,y.1,y.2.2,rfl,Z9 (by have:=jq.out; omega),Z9 ⟨hyq.1,hyq.2.2⟩,HS2⟩
  case rest=>
   obtain⟨N2,JI,sq,rfl,HN2,BK,HS2⟩:=hcut;clear Vx jq HTB;obtain⟨v10,au5,aH6⟩:=Uo L N2 6 (by decide);have au6:=Xi HS2.out.ns HL.out (by have:=HKK.out; have:=HN2.out; omega) 6 (by decide) (by decide) au5;go_upto_region 6 with fail;refine wl<|ZV (Z5 g 0)<|YS (Z8 v10) (fun w'=>O4 w' g a c L (N2+1)/\But g wc w') au6 (fun V6 hq10=>?_);simp only[pu];have wV:=Z9 (HS2.out.call Le.out hq10.1 hq10.2);have kV:Hid (N2+1<=k+6):=Z9 (by have:=HN2.out; omega);clear hq10 au6 HS2;obtain⟨tb,htb⟩:=ZR (decide ((v10:Int)=0));refine Yy (.bool tb) (ZB rfl v10 0 htb)<|wn ?_;simp only[pu];clear htb;go_upto_if 47 with fail;go_cut [8] (fun s8 wx=>∃ (N3:Nat) (PD:Int),s8=Z8 n/\Hid (N3<=k+7)/\Hid (W64 PD)/\Hid (St w g a c L N3 g4 g6 g7 ra rc A co B7 ⟨JI,PD,Zp,0,mm,[]⟩ none 0 wx))
   case first=>
    cases tb
    ·go_wp2_with fail;go_meet;exact⟨N2+1,sq,rfl,Z9 (by have:=kV.out; omega),Z9 BK.out.2,wV⟩
    ·obtain⟨v9,wW,hv9⟩:=Uo L (N2+1) 3 (by decide);have CX:∀ V,O4 V g a c L (N2+1)->Calls Tryz.prog 18 #[Z5 g 0,Z8 3] V fun e w'=>e=.returned (Z8 v9)/\O4 w' g a c L ((N2+1)+1)/\But g V w':=fun V hV=>Xi hV HL.out (by have:=HKK.out; have:=kV.out; omega) 3 (by decide) (by decide) wW;obtain⟨PD,au7⟩:=ZR (IntKind.u64.wrap (sq+(v9:Int)));have hw3:W64 PD:=(by rw[<- au7]; exact W64.wrap _);have h0:K7 w g a c L (N2+1) g4 g6 g7 ra rc A co B7 ⟨JI,sq,Zp,0,mm,[]⟩ PD 0 false false V6.drew/\(false=true->false=true)/\(false=true->false=true):=⟨MH wV.out,id,id⟩;go_upto_region 7 with fail;refine Zw (fun listed ZG V=>∃ b0 b1 b2 b3 b4 b5 b6 b7:Bool,listed=#[b0,b1,b2,b3,b4,b5,b6,b7]/\ZG={ tmps:=#[Z5 g 0,.agg #[.slice ra n rc,Z4 co],Z4 p,undef,Z5 g4 0,undef,Z5 g6 0,Z5 g7 0,Z8 n,u9,undef,undef,u12,u13,u14,u15,u16,u17,u18,u19,u20,u21,u22,u23,u24,u25,u26,u27,u28,u29,u30,u31,u32,u33,u34,u35,u36,u37,u38,u39,u40,u41,u42,u43,u44,Z5 g 0,Z8 v10,ZW,(cond b0 (Z5 g7 1) (u48)),(cond b1 (Z4 sq) (u49)),(cond b2 (Z5 g 0) (u50)),(cond b3 (Z8 v9) (u51)),(cond b4 (Z4 v9) (u52)),(cond b5 (Z4 PD) (u53)),(cond b6 (Z5 g7 1) (u54)),u55,u56,u57,u58,u59,u60,u61,u62,u63,u64,u65,u66,u67,u68,u69,u70,u71,u72,u73,u74,u75,u76,u77,u78,u79,u80,u81,u82,u83,u84,u85,u86,u87,u88,u89,u90,u91,u92,u93,u94,u95],defers:=[] }/\(K7 w g a c L (N2+1) g4 g6 g7 ra rc A co B7 ⟨JI,sq,Zp,0,mm,[]⟩ PD 0 b3 b7 V/\(b7=true->b1=true)/\(b5=true->b1=true))) (by kernel_rfl) (by kernel_rfl) ?_ ?_ ?_
     ·exact⟨_,_,_,_,_,_,_,_,rfl,rfl,h0⟩
     ·intro i9 listed ZG V hi9 hr hJ;obtain⟨b0,b1,b2,b3,b4,b5,b6,b7,rfl,rfl,hF⟩:=hJ;have hi2:i9<8:=hi9;have hi3:i9=0∨i9=1∨i9=2∨i9=3∨i9=4∨i9=5∨i9=6∨i9=7:=(by omega);rcases hi3 with rfl | rfl | rfl | rfl | rfl | rfl | rfl | rfl
      ·obtain rfl:b0=false:=Z7 hr;refine ZT rfl (by kernel_rfl) (some 48) rfl (Z5 g7 1) V (by kernel_rfl) ?_;exact⟨_,_,_,_,_,_,_,_,rfl,rfl,hF⟩
      ·obtain rfl:b1=false:=Z7 hr;obtain rfl:b0=true:=ZX hr 0;obtain rfl:b7=false:=ff hF.2.1 rfl;refine ZE rfl (by kernel_rfl) (some 49) rfl 27 (.tmp 48) rfl ⟨g7,1,none⟩ (Z4 sq) (by kernel_rfl) ((St.b7 hF.1).ZP 1) ?_;exact⟨_,_,_,_,_,_,_,_,rfl,rfl,hF.1,(fun _=>rfl),fun _=>rfl⟩
      ·obtain rfl:b2=false:=Z7 hr;refine ZT rfl (by kernel_rfl) (some 50) rfl (Z5 g 0) V (by kernel_rfl) ?_;exact⟨_,_,_,_,_,_,_,_,rfl,rfl,hF⟩
      ·obtain rfl:b3=false:=Z7 hr;obtain rfl:b2=true:=ZX hr 2;refine Zc rfl (by kernel_rfl) (some 51) rfl 18 #[Z5 g 0,Z8 3] (by kernel_rfl) ((CX V (St.ns hF.1)).mono ?_);rintro e V2 ⟨rfl,hns,hbt⟩;exact⟨_,rfl,_,_,_,_,_,_,_,_,rfl,rfl,St.call hF.1 Le.out hns hbt,hF.2⟩
      ·obtain rfl:b4=false:=Z7 hr;obtain rfl:b3=true:=ZX hr 3;refine ZT rfl (by kernel_rfl) (some 52) rfl (Z4 v9) V (Vm rfl v9 (by omega) (by omega) (by kernel_rfl) _) ?_;exact⟨_,_,_,_,_,_,_,_,rfl,rfl,hF⟩
      ·obtain rfl:b5=false:=Z7 hr;obtain rfl:b1=true:=ZX hr 1;obtain rfl:b4=true:=ZX hr 4;refine ZT rfl (by kernel_rfl) (some 53) rfl (Z4 PD) V (by rw[<- au7]; exact af0 rfl sq v9 (by kernel_rfl) (by kernel_rfl) _) ?_;exact⟨_,_,_,_,_,_,_,_,rfl,rfl,hF.1,(fun _=>rfl),fun _=>rfl⟩
      ·obtain rfl:b6=false:=Z7 hr;refine ZT rfl (by kernel_rfl) (some 54) rfl (Z5 g7 1) V (by kernel_rfl) ?_;exact⟨_,_,_,_,_,_,_,_,rfl,rfl,hF⟩
      ·obtain rfl:b7=false:=Z7 hr;obtain rfl:b6=true:=ZX hr 6;obtain rfl:b5=true:=ZX hr 5;obtain⟨V2,hst,hX2,-,hbt⟩:=Zn (i:=1) (ty:=27) (v:=Z4 PD) (cs':=Zx ⟨JI,PD,Zp,0,mm,[]⟩ none 0) (w0:=V) (B:=g7) (St.b7 hF.1) (Below.refl _ _) (Nat.le_refl _) (by show 1<6; decide) rfl (by kernel_rfl) rfl;refine Zf rfl (by kernel_rfl) rfl 27 (.tmp 54) (.tmp 53) rfl (Z5 g7 1) (Z4 PD) (by kernel_rfl) (by kernel_rfl) _ hst ?_;exact⟨_,_,_,_,_,_,_,_,rfl,rfl,St.set hF.1 Le.out hbt hX2 rfl,(fun _=>hF.2.2 rfl),fun _=>hF.2.2 rfl⟩
     ·intro ZG V hJ;obtain⟨b0,b1,b2,b3,b4,b5,b6,b7,he,rfl,hF⟩:=hJ;have he:(#[true,true,true,true,true,true,true,true]:Array Bool)=#[b0,b1,b2,b3,b4,b5,b6,b7]:=he;simp only[Array.mk.injEq,List.cons.injEq,and_true] at he;obtain⟨rfl,rfl,rfl,rfl,rfl,rfl,rfl,rfl⟩:=he;simp only[cond_true];have Jb:Hid (St w g a c L (N2+1+1) g4 g6 g7 ra rc A co B7 ⟨JI,PD,Zp,0,mm,[]⟩ none 0 V):=Z9 hF.1;clear hF h0 CX;go_wp2_with fail;go_meet;exact⟨N2+1+1,PD,rfl,Z9 (by have:=kV.out; omega),Z9 hw3,Jb⟩
   case rest=>
    obtain⟨N3,PD,rfl,au8,HW3,Jb⟩:=hcut;clear wV kV;obtain⟨v9,wW,hv9⟩:=Uo L N3 5 (by decide);have CX:∀ V,O4 V g a c L N3->Calls Tryz.prog 18 #[Z5 g 0,Z8 5] V fun e w'=>e=.returned (Z8 v9)/\O4 w' g a c L (N3+1)/\But g V w':=fun V hV=>Xi hV HL.out (by have:=HKK.out; have:=au8.out; omega) 5 (by decide) (by decide) wW;obtain⟨f1,hf1⟩:=ZR (IntKind.u64.wrap (Zp*p));obtain⟨f2,hf2⟩:=ZR (IntKind.u64.wrap (f1*(1+(v9:Int))));have HW4:Hid (W64 f2):=Z9 (by rw[<- hf2]; exact W64.wrap _);have h0:K7 w g a c L N3 g4 g6 g7 ra rc A co B7 ⟨JI,PD,Zp,0,mm,[]⟩ PD f2 false false wc.drew/\True:=⟨MH Jb.out,trivial⟩;go_upto_region 8 with fail;refine Zw (fun listed ZG V=>∃ b0 b1 b2 b3 b4 b5 b6 b7 b8 b9 b10:Bool,listed=#[b0,b1,b2,b3,b4,b5,b6,b7,b8,b9,b10]/\ZG={ tmps:=#[Z5 g 0,.agg #[.slice ra n rc,Z4 co],Z4 p,undef,Z5 g4 0,undef,Z5 g6 0,Z5 g7 0,Z8 n,u9,undef,undef,u12,u13,u14,u15,u16,u17,u18,u19,u20,u21,u22,u23,u24,u25,u26,u27,u28,u29,u30,u31,u32,u33,u34,u35,u36,u37,u38,u39,u40,u41,u42,u43,u44,u45,u46,u47,u48,u49,u50,u51,u52,u53,u54,(cond b0 (Z5 g7 2) (u55)),(cond b1 (Z4 Zp) (u56)),(cond b2 (Z4 p) (u57)),(cond b3 (Z4 f1) (u58)),(cond b4 (Z5 g 0) (u59)),(cond b5 (Z8 v9) (u60)),(cond b6 (Z8 (1+v9:Nat)) (u61)),(cond b7 (Z4 (1+v9:Nat)) (u62)),(cond b8 (Z4 f2) (u63)),(cond b9 (Z5 g7 3) (u64)),u65,u66,u67,u68,u69,u70,u71,u72,u73,u74,u75,u76,u77,u78,u79,u80,u81,u82,u83,u84,u85,u86,u87,u88,u89,u90,u91,u92,u93,u94,u95],defers:=[] }/\(K7 w g a c L N3 g4 g6 g7 ra rc A co B7 ⟨JI,PD,Zp,0,mm,[]⟩ PD f2 b5 b10 V/\True)) (by kernel_rfl) (by kernel_rfl) ?_ ?_ ?_
    ·exact⟨_,_,_,_,_,_,_,_,_,_,_,rfl,rfl,h0⟩
    ·intro i9 listed ZG V hi9 hr hJ;obtain⟨b0,b1,b2,b3,b4,b5,b6,b7,b8,b9,b10,rfl,rfl,hF⟩:=hJ;have hi2:i9<11:=hi9;have hi3:i9=0∨i9=1∨i9=2∨i9=3∨i9=4∨i9=5∨i9=6∨i9=7∨i9=8∨i9=9∨i9=10:=(by omega);rcases hi3 with rfl | rfl | rfl | rfl | rfl | rfl | rfl | rfl | rfl | rfl | rfl
     ·obtain rfl:b0=false:=Z7 hr;refine ZT rfl (by kernel_rfl) (some 55) rfl (Z5 g7 2) V (by kernel_rfl) ?_;exact⟨_,_,_,_,_,_,_,_,_,_,_,rfl,rfl,hF⟩
     ·obtain rfl:b1=false:=Z7 hr;obtain rfl:b0=true:=ZX hr 0;refine ZE rfl (by kernel_rfl) (some 56) rfl 27 (.tmp 55) rfl ⟨g7,2,none⟩ (Z4 Zp) (by kernel_rfl) ((St.b7 hF.1).ZP 2) ?_;exact⟨_,_,_,_,_,_,_,_,_,_,_,rfl,rfl,hF⟩
     ·obtain rfl:b2=false:=Z7 hr;refine ZT rfl (by kernel_rfl) (some 57) rfl (Z4 p) V (by kernel_rfl) ?_;exact⟨_,_,_,_,_,_,_,_,_,_,_,rfl,rfl,hF⟩
     ·obtain rfl:b3=false:=Z7 hr;obtain rfl:b1=true:=ZX hr 1;obtain rfl:b2=true:=ZX hr 2;refine ZT rfl (by kernel_rfl) (some 58) rfl (Z4 f1) V (by rw[<- hf1]; exact qW rfl Zp p (by kernel_rfl) (by kernel_rfl) _) ?_;exact⟨_,_,_,_,_,_,_,_,_,_,_,rfl,rfl,hF⟩
     ·obtain rfl:b4=false:=Z7 hr;refine ZT rfl (by kernel_rfl) (some 59) rfl (Z5 g 0) V (by kernel_rfl) ?_;exact⟨_,_,_,_,_,_,_,_,_,_,_,rfl,rfl,hF⟩
     ·obtain rfl:b5=false:=Z7 hr;obtain rfl:b4=true:=ZX hr 4;refine Zc rfl (by kernel_rfl) (some 60) rfl 18 #[Z5 g 0,Z8 5] (by kernel_rfl) ((CX V (St.ns hF.1)).mono ?_);rintro e V2 ⟨rfl,hns,hbt⟩;exact⟨_,rfl,_,_,_,_,_,_,_,_,_,_,_,rfl,rfl,St.call hF.1 Le.out hns hbt,hF.2⟩
     ·obtain rfl:b6=false:=Z7 hr;obtain rfl:b5=true:=ZX hr 5;refine ZT rfl (by kernel_rfl) (some 61) rfl (Z8 (1+v9:Nat)) V (ZF rfl 1 v9 (by omega) (by kernel_rfl) (by kernel_rfl) _) ?_;exact⟨_,_,_,_,_,_,_,_,_,_,_,rfl,rfl,hF⟩
     ·obtain rfl:b7=false:=Z7 hr;obtain rfl:b6=true:=ZX hr 6;refine ZT rfl (by kernel_rfl) (some 62) rfl (Z4 (1+v9:Nat)) V (Vm rfl (1+v9:Nat) (by omega) (by omega) (by kernel_rfl) _) ?_;exact⟨_,_,_,_,_,_,_,_,_,_,_,rfl,rfl,hF⟩
     ·obtain rfl:b8=false:=Z7 hr;obtain rfl:b3=true:=ZX hr 3;obtain rfl:b7=true:=ZX hr 7;refine ZT rfl (by kernel_rfl) (some 63) rfl (Z4 f2) V (by rw[<- hf2,show(1+(v9:Int))=((1+v9:Nat):Int) by omega]; exact qW rfl f1 (1+v9:Nat) (by kernel_rfl) (by kernel_rfl) _) ?_;exact⟨_,_,_,_,_,_,_,_,_,_,_,rfl,rfl,hF⟩
     ·obtain rfl:b9=false:=Z7 hr;refine ZT rfl (by kernel_rfl) (some 64) rfl (Z5 g7 3) V (by kernel_rfl) ?_;exact⟨_,_,_,_,_,_,_,_,_,_,_,rfl,rfl,hF⟩
     ·obtain rfl:b10=false:=Z7 hr;obtain rfl:b9=true:=ZX hr 9;obtain rfl:b8=true:=ZX hr 8;obtain⟨V2,hst,hX2,-,hbt⟩:=Zn (i:=3) (ty:=27) (v:=Z4 f2) (cs':=Zx ⟨JI,PD,Zp,f2,mm,[]⟩ none 0) (w0:=V) (B:=g7) (St.b7 hF.1) (Below.refl _ _) (Nat.le_refl _) (by show 3<6; decide) rfl (by kernel_rfl) rfl;refine Zf rfl (by kernel_rfl) rfl 27 (.tmp 64) (.tmp 63) rfl (Z5 g7 3) (Z4 f2) (by kernel_rfl) (by kernel_rfl) _ hst ?_;exact⟨_,_,_,_,_,_,_,_,_,_,_,rfl,rfl,St.set hF.1 Le.out hbt hX2 rfl,trivial⟩
    ·intro ZG V hJ;obtain⟨b0,b1,b2,b3,b4,b5,b6,b7,b8,b9,b10,he,rfl,hF⟩:=hJ;have he:(#[true,true,true,true,true,true,true,true,true,true,true]:Array Bool)=#[b0,b1,b2,b3,b4,b5,b6,b7,b8,b9,b10]:=he;simp only[Array.mk.injEq,List.cons.injEq,and_true] at he;obtain⟨rfl,rfl,rfl,rfl,rfl,rfl,rfl,rfl,rfl,rfl,rfl⟩:=he;simp only[cond_true];have aN:Hid (St w g a c L (N3+1) g4 g6 g7 ra rc A co B7 ⟨JI,PD,Zp,f2,mm,[]⟩ none 0 V):=Z9 hF.1;have HN5:Hid (N3+1<=k+8):=Z9 (by have:=au8.out; omega);clear hF h0 CX Jb hf1 hf2 wW hv9;obtain⟨v11,au9,aN9⟩:=Uo L (N3+1) 9 (by decide);have av1:=Xi aN.out.ns HL.out (by have:=HKK.out; have:=HN5.out; omega) 9 (by decide) (by decide) au9;go_upto_region 9 with fail;refine wl<|ZV (Z5 g 0)<|YS (Z8 v11) (fun w'=>O4 w' g a c L ((N3+1)+1)/\But g V w') av1 (fun V9 hq11=>?_);simp only[pu];have FX:=Z9 (aN.out.call Le.out hq11.1 hq11.2);have FW:Hid (N3+1+1<=k+9):=Z9 (by have:=HN5.out; omega);clear hq11 av1 aN HN5;obtain⟨tb,htb⟩:=ZR (decide ((v11:Int)=0));refine Yy (.bool tb) (ZB rfl v11 0 htb)<|wn ?_;simp only[pu];clear htb;go_upto_if 67 with fail;go_cut [8] (fun s8 wx=>∃ (N4:Nat) (fe:Int),s8=Z8 n/\Hid (N4<=k+10)/\Hid (W64 fe)/\Hid (St w g a c L N4 g4 g6 g7 ra rc A co B7 ⟨JI,PD,Zp,fe,mm,[]⟩ none 0 wx))
     case first=>
      cases tb
      ·go_wp2_with fail;go_meet;exact⟨N3+1+1,f2,rfl,Z9 (by have:=FW.out; omega),HW4,FX⟩
      ·obtain⟨v12,av2,aH7⟩:=Uo L (N3+1+1) 200 (by decide);have av3:=Xi FX.out.ns HL.out (by have:=HKK.out; have:=FW.out; omega) 200 (by decide) (by decide) av2;go_upto_region 10 with fail;refine wl<|ZV (Z5 g 0)<|YS (Z8 v12) (fun w'=>O4 w' g a c L ((N3+1+1)+1)/\But g V9 w') av3 (fun V10 hq12=>?_);have hS7:=FX.out.call Le.out hq12.1 hq12.2;obtain⟨V11,aK,jo,-,aJ⟩:=Zn (i:=3) (ty:=27) (v:=Z4 v12) (cs':=Zx ⟨JI,PD,Zp,v12,mm,[]⟩ none 0) (w0:=V10) (B:=g7) hS7.b7 (Below.refl _ _) (Nat.le_refl _) (by show 3<6; decide) rfl (by kernel_rfl) rfl;have HS8:=Z9 (St.set (x':=⟨JI,PD,Zp,v12,mm,[]⟩) hS7 Le.out aJ jo rfl);refine YG (Z4 v12) (Vm rfl v12 (by omega) (by omega) (by kernel_rfl) _)<|ZV (Z5 g7 3)<|Zu rfl (aK)<|wn ?_;simp only[pu];clear aK jo aJ hS7 hq12 av3;go_wp2_with fail;go_meet;exact⟨N3+1+1+1,v12,rfl,Z9 (by have:=FW.out; omega),Z9 ⟨by omega,by omega⟩,HS8⟩
     case rest=>
      obtain⟨N4,fe,rfl,qV,HWF,HS7⟩:=hcut;clear FX FW;obtain⟨v13,av4,aO0⟩:=Uo L N4 3 (by decide);have av5:=Xi HS7.out.ns HL.out (by have:=HKK.out; have:=qV.out; omega) 3 (by decide) (by decide) av4;go_upto_region 11 with fail;refine wl<|ZV (Z5 g 0)<|YS (Z8 v13) (fun w'=>O4 w' g a c L (N4+1)/\But g wc w') av5 (fun V12 EZ=>?_);refine ZV (Z8 v13)<|wn ?_;simp only[pu];have HS8:=Z9 (HS7.out.call Le.out EZ.1 EZ.2);have HN8:Hid (N4+1<=k+11+3*0):=Z9 (by have:=qV.out; omega);clear EZ av5 HS7 qV;have aN6:v13<=2:=(by omega);go_wp2_with fail;go_loopg [10] (v13+1) (fun gg s10 wx=>∃ (z:Int) (M:List Tf) (a2:Option Addr) (c2 N:Nat),s10=Z8 z/\-1<=z/\(M.length:Int)+z=v13/\Hid (N<=k+11+3*M.length)/\Hid (∀ y,y∈M->wY y.1/\0<y.2/\W64 y.2)/\Hid (St w g a c L N g4 g6 g7 ra rc A co B7 ⟨JI,PD,Zp,fe,mm,M⟩ a2 c2 wx)/\((gg:Nat):Int)=z+1)
      case atStart=>exact⟨v13,[],none,0,N4+1,rfl,by omega,by simp,HN8,Z9 (fun y hy=>by cases hy),HS8,by omega⟩
      case round=>
       obtain⟨z,M,a2,c2,N,rfl,hz1,hz2,HNN,HMQ,HS,hg⟩:=hrel;clear HS8 HN8;by_cases hlt:0<=z
       ·obtain⟨i,rfl⟩:∃ i:Nat,z=i:=⟨z.toNat,by omega⟩;have HG:Hid (gk=i+1/\M.length+i=v13/\i<=2/\M.length<=2):=Z9 ⟨by omega,by omega,by omega,by omega⟩;have CN:=yS (HS.out.ns.ns (Nat.le_refl N)) HL.out (by have:=HNN.out; have:=HKK.out; have:=HG.out; omega);clear hz1 hz2 hg;go_upto_region 12 with fail;refine wl<|ZV (Z8 i)<|ZJ (UQ rfl (i) (0) dT)<|wn ?_;simp only[pu];go_upto_region 14 with fail;refine wl<|ZV (Z5 g 0)<|Yi (fun v w'=>∃ s,v=.string s/\wY s/\NS w' g a c L (N+1)/\But g wr w') ((CN).mono fun e w' z=>by obtain⟨s,h1,h2⟩:=z; exact⟨_,h1,s,rfl,h2⟩) (fun vv Y1 hq=>?_);obtain⟨tn,rfl,av6,av7,qU⟩:=hq;obtain⟨N9,hN9,af2⟩:=av7;have hS9:=HS.out.call Le.out af2 qU;obtain⟨v14,aI,aH8⟩:=Uo L N9 60 (by decide);have av8:=Xi af2 HL.out (by have:=HKK.out; have:=HNN.out; have:=HG.out; omega) 60 (by decide) (by decide) aI;refine ZV (Z5 g 0)<|YS (Z8 v14) (fun w'=>O4 w' g a c L (N9+1)/\But g Y1 w') av8 (fun Y2 af4=>?_);have qR:=hS9.call Le.out af4.1 af4.2;obtain⟨Y3,hst3,hb3,WY⟩:=TF Y2 (tn,1+(v14:Int));refine YG (Z4 v14) (Vm rfl v14 (by omega) (by omega) (by kernel_rfl) _)<|Yy (Z4 (1+v14)) (qZ rfl 1 v14 (by omega) (by omega))<|ZV (.agg (Yx (tn,1+(v14:Int)))) ?_;refine Zy rfl (some 11) rfl (Z5 Y2.heap.size 0) (Y2.alloc (.cells (Yx Uc) 64)) (by kernel_rfl) ?_;refine Zu rfl (hst3)<|wn ?_;have jm:=Z9 (qR.below hb3);have hoff:(Value.slice a2 M.length c2).ownBlock≠some Y2.heap.size:=fun e=>(by have:=(qR.rt.lt _ e).2; omega);have af5:Hid (N9+1<=k+11+3*M.length+2):=Z9 (by have:=HNN.out; omega);have hsz2:=qR.sz;have aH9:=qR.bt.1.size;obtain⟨q,hq⟩:=ZR Y2.heap.size;rw[hq] at WY hoff hsz2 aH9 ⊢;have FV:=Z9 av6;obtain⟨v15,aH,aO1⟩:=Uo L (N9+1) 12 (by decide);have av9:=Xi jm.out.ns HL.out (by have:=HKK.out; have:=HNN.out; have:=HG.out; have:=af5.out; omega) 12 (by decide) (by decide) aH;have aw0:Hid ((0:Int)<1+v14/\W64 (1+v14)):=Z9 ⟨by omega,by omega,by omega⟩;obtain⟨m1,hm1⟩:=ZR (1+(v14:Int));rw[hm1] at WY aw0 ⊢;clear hst3 hS9 qR hb3 af4 av8 hq av6 af2 qU CN hN9 aI aH8 hm1 aH;go_upto_region 15 with fail;refine wl<|ZV (Z5 g 0)<|YS (Z8 v15) (fun w'=>O4 w' g a c L ((N9+1)+1)/\But g Y3 w') av9 (fun Y4 jl=>?_);simp only[pu];have wU:=Z9 (jm.out.call Le.out jl.1 jl.2);have Qp:=WY.but jl.2 (by have:=jm.out.bt.1.size; have:=Xn.out; omega);clear jl av9 jm WY;by_cases hv0:v15=0
        ·refine ZJ (ZB rfl (v15) (0) dT)<|wn ?_;simp only[pu];obtain⟨Y5,hst5,Nk,-,Xp⟩:=Zn (i:=1) (ty:=27) (v:=Z4 9223372036854775808) (cs':=Yx (tn,9223372036854775808)) (w0:=Y4) (B:=q) Qp (Below.refl _ _) (Nat.le_refl _) (by show 1<2; decide) rfl (by kernel_rfl) rfl;have jk:=Z9 (wU.out.off Le.out Xp (show w.heap.size<=q by omega) (show B7<=q by omega) hoff);have HAM:Hid ((0:Int)<9223372036854775808/\W64 9223372036854775808):=Z9 ⟨by decide,by decide,by decide⟩;go_upto_region 16 with fail;refine wl<|ZV (Z5 q 1)<|Zu rfl (hst5)<|wn ?_;simp only[pu];clear hst5 Xp Qp wU;obtain⟨a7,c7,Y6,hap,Jk,hb6⟩:=MG jk.out.rt jk.out.sz (tn,9223372036854775808) (by have:=HG.out; show M.length<=100000; omega);have WX:Hid (Bx Y5 q (Yx (tn,9223372036854775808)) 64):=Z9 Nk;obtain⟨Y7,Xx,hS7⟩:=jk.out.grow Le.out bG.out hb6 Jk;have af6:=Z9 hS7;have hbd:=Ro (tn,9223372036854775808) Y5;have af7:Hid (∀ y,y∈M++[(tn,9223372036854775808)]->wY y.1/\0<y.2/\W64 y.2):=Z9 (fun y hy=>by
          rcases List.mem_append.1 hy with hy | hy
          ·exact HMQ.out y hy
          ·rw[List.mem_singleton] at hy;subst hy;exact⟨FV.out,HAM.out⟩)
         have xq:Hid ((M++[(tn,9223372036854775808)]).length=M.length+1):=Z9 (by rw[List.length_append]; rfl);clear Jk hb6 hS7;go_upto_region 17 with fail;refine wl<|ZV (Z5 g7 5)<|ZL rfl ⟨g7,5,none⟩ (.slice a2 M.length c2) (jk.out.b7.ZP 5)<|ZL rfl ⟨q,0,none⟩ (.agg (Yx (tn,9223372036854775808))) (Yu WX.out) ?_;refine Zr (by kernel_rfl) (some 92) rfl 65 1 #[(0,.tmp 91)] rfl #[(0,.agg (Yx (tn,9223372036854775808)))] (by kernel_rfl) (.slice (some ⟨Y5.heap.size,0,none⟩) 1 1) _ hbd ?_;refine Zh rfl (some 93) rfl 65 rfl (.tmp 90) (.tmp 92) 65 rfl (.slice a2 M.length c2) (.slice (some ⟨Y5.heap.size,0,none⟩) 1 1) (.slice a7 (M++[(tn,9223372036854775808)]).length c7) Y6 (by kernel_rfl) (by kernel_rfl) hap ?_;refine ZV (Z5 g7 5)<|Zu rfl (Xx)<|wn ?_;simp only[pu];clear hap Xx hbd WX;go_upto_region 13 with fail;refine wl<|ZV (Z8 i)<|YG (Z8 ((i:Int)-1)) (sub_one rfl i (by have:=HG.out; omega) (by kernel_rfl) _)<|ZV (Z8 ((i:Int)-1))<|wn ?_;simp only[pu];go_wp2_with fail;go_roundg i
         case measure=>have:=HG.out; omega
         case rel=>exact⟨(i:Int)-1,M++[(tn,9223372036854775808)],a7,c7,N9+1+1,rfl,by omega,by have:=HG.out; have:=xq.out; omega,Z9 (by have:=af5.out; have:=xq.out; omega),af7,af6,by omega⟩
        ·refine ZJ (ZB rfl (v15) (0) dF)<|wn ?_;simp only[pu];have HAM:=aw0;obtain⟨a7,c7,Y6,hap,Jk,hb6⟩:=MG wU.out.rt wU.out.sz (tn,m1) (by have:=HG.out; show M.length<=100000; omega);have WX:Hid (Bx Y4 q (Yx (tn,m1)) 64):=Z9 Qp;obtain⟨Y7,Xx,hS7⟩:=wU.out.grow Le.out bG.out hb6 Jk;have af6:=Z9 hS7;have hbd:=Ro (tn,m1) Y4;have af7:Hid (∀ y,y∈M++[(tn,m1)]->wY y.1/\0<y.2/\W64 y.2):=Z9 (fun y hy=>by
          rcases List.mem_append.1 hy with hy | hy
          ·exact HMQ.out y hy
          ·rw[List.mem_singleton] at hy;subst hy;exact⟨FV.out,HAM.out⟩)
         have xq:Hid ((M++[(tn,m1)]).length=M.length+1):=Z9 (by rw[List.length_append]; rfl);clear Jk hb6 hS7;go_upto_region 17 with fail;refine wl<|ZV (Z5 g7 5)<|ZL rfl ⟨g7,5,none⟩ (.slice a2 M.length c2) (wU.out.b7.ZP 5)<|ZL rfl ⟨q,0,none⟩ (.agg (Yx (tn,m1))) (Yu WX.out) ?_;refine Zr (by kernel_rfl) (some 92) rfl 65 1 #[(0,.tmp 91)] rfl #[(0,.agg (Yx (tn,m1)))] (by kernel_rfl) (.slice (some ⟨Y4.heap.size,0,none⟩) 1 1) _ hbd ?_;refine Zh rfl (some 93) rfl 65 rfl (.tmp 90) (.tmp 92) 65 rfl (.slice a2 M.length c2) (.slice (some ⟨Y4.heap.size,0,none⟩) 1 1) (.slice a7 (M++[(tn,m1)]).length c7) Y6 (by kernel_rfl) (by kernel_rfl) hap ?_;refine ZV (Z5 g7 5)<|Zu rfl (Xx)<|wn ?_;simp only[pu];clear hap Xx hbd WX;go_upto_region 13 with fail;refine wl<|ZV (Z8 i)<|YG (Z8 ((i:Int)-1)) (sub_one rfl i (by have:=HG.out; omega) (by kernel_rfl) _)<|ZV (Z8 ((i:Int)-1))<|wn ?_;simp only[pu];go_wp2_with fail;go_roundg i
         case measure=>have:=HG.out; omega
         case rel=>exact⟨(i:Int)-1,M++[(tn,m1)],a7,c7,N9+1+1,rfl,by omega,by have:=HG.out; have:=xq.out; omega,Z9 (by have:=af5.out; have:=xq.out; omega),af7,af6,by omega⟩
       ·obtain⟨XA,hZ⟩:=Zg (y:=⟨JI,PD,Zp,fe,mm,M⟩) (a':=a2) (c':=c2) HS.out.b6;have YO:=Z9 (Zz HS.out.b7);have XW:But g6 wr (wr.setRow g6 (Zx ⟨JI,PD,Zp,fe,mm,M⟩ a2 c2)):=But.setRow wr _;have HE:=Z9 (⟨⟨JI,PD,Zp,fe,mm,M⟩,a2,c2,rfl,(HS.out.rt.but XW Le.out.l6).base bG.out,⟨BK.out.1,HW3.out,au3.out,HWF.out,HMM.out,HMQ.out⟩,by show 1<=M.length; omega,by show M.length<=3; omega,(HS.out.ns.but XW (by have:=Xn.out; have:=Ht.out; omega) (fun hl y hy=>by have:=HAB.out hl y hy; have:=Ht.out; omega)).ns (by have:=HNN.out; omega),Ob HS.out.bt XW Ht.out.2.1 (by have:=Xn.out; have:=Ht.out; omega)⟩:at1 w g a c L k (.returned (.agg (Zx ⟨JI,PD,Zp,fe,mm,M⟩ a2 c2))) _);generalize World.setRow _ g6 (Zx ⟨JI,PD,Zp,fe,mm,M⟩ a2 c2)=V9 at *
        clear XW HS hg;go_upto_region 12 with fail;refine wl<|ZV (Z8 z)<|ZJ (UQ rfl (z) (0) dF)<|wn ?_;simp only[pu];go_upto_region 18 with fail;refine wl<|ZL rfl ⟨g7,0,none⟩ (.agg (Zx ⟨JI,PD,Zp,fe,mm,M⟩ a2 c2)) (YO.out)<|Zu rfl (XA)<|wn ?_;simp only[pu];go_wp2_with fail;exact bodyPost_ret (YB (p:=6) rfl (by kernel_rfl) (Zz hZ)) rfl HE.out
end Go.Proofs.YtnhlpahoomcgnaaGreat
namespace Go.Proofs.YtnhlpahoomcgnaaGreat.Lg
open Go.RowKit
def Ug (a b:ByteArray):Bool:=decide (a.data.toList<b.data.toList)
theorem rG:∀ (x y:List UInt8),Op.bytesLess x y=decide (x<y)
 | [],[]=>by simp[Op.bytesLess]
 | _::_,[]=>by simp[Op.bytesLess]
 | [],_::_=>by simp[Op.bytesLess]
 | a::x,b::y=>by
  unfold Op.bytesLess;rw[rG x y,Bool.eq_iff_iff];simp only[Bool.or_eq_true,Bool.and_eq_true,decide_eq_true_eq,beq_iff_eq,List.cons_lt_cons_iff]
theorem yT (a:ByteArray):a.toList=a.data.toList:=Lib.toList_data a
theorem aS (a b:ByteArray):Op.bytesLess a.toList b.toList=Ug a b:=by rw[rG,yT,yT]; rfl
theorem eqB (a b:ByteArray):(a.toList == b.toList)=decide (a=b):=by
 rw[yT,yT];by_cases h:a=b
 ·subst h; simp
 ·rw[decide_eq_false h,beq_eq_false_iff_ne];intro e;exact h (ByteArray.ext (Array.toList_inj.1 e))
theorem Jv (a b:ByteArray):(a == b)=decide (a=b):=by rw[beq_toListBytes,eqB]
theorem MI (a:ByteArray):Ug a a=false:=decide_eq_false (List.lt_irrefl _)
theorem Oc {a b c:ByteArray}(h:Ug a b=true)(g:Ug b c=true):Ug a c=true:=decide_eq_true (List.lt_trans (of_decide_eq_true h) (of_decide_eq_true g))
theorem rP {a b:ByteArray}(h:Ug a b=true):Ug b a=false:=by
 rw[Bool.eq_false_iff];intro g;have:=Oc h g;rw[MI] at this;cases this
theorem ae6 {a b:ByteArray}(h:Ug a b=true):a≠b:=by
 rintro rfl;rw[MI] at h;cases h
theorem Hz {a b:ByteArray}(h:Ug a b=false)(hn:a≠b):Ug b a=true:=by
 refine decide_eq_true ?_;have h1:¬ a.data.toList<b.data.toList:=of_decide_eq_false h;have h2:b.data.toList<=a.data.toList:=List.not_lt.1 h1;rcases List.le_iff_lt_or_eq.1 h2 with h3 | h3
 ·exact h3
 ·exact absurd (ByteArray.ext (Array.toList_inj.1 h3)).symm hn
theorem aY {ρ:Operand->Value}{o:Oper}{x y:Operand}(ho:o.op=.binOp .lss 9 x y 9)(a b:ByteArray){t:Bool}(ht:Ug a b=t)(hx:ρ x=.string a)(hy:ρ y=.string b)(w:World):(execOp ρ o).run Tryz.prog w=.ok (.value (.bool t)) w:=by
 have e:Op.bytesLess a.toList b.toList=t:=(aS a b).trans ht;unfold execOp;simp only[ho,hx,hy];go_simp
theorem y5 {ρ:Operand->Value}{o:Oper}{x y:Operand}(ho:o.op=.binOp .gtr 9 x y 9)(a b:ByteArray){t:Bool}(ht:Ug b a=t)(hx:ρ x=.string a)(hy:ρ y=.string b)(w:World):(execOp ρ o).run Tryz.prog w=.ok (.value (.bool t)) w:=by
 have e:(!(Op.bytesLess a.toList b.toList || a.toList == b.toList))=t:=by
  rw[aS,eqB,<- ht];by_cases h:Ug a b=true
  ·rw[h,rP h]; rfl
  ·have h1:Ug a b=false:=(by simpa using h);by_cases h2:a=b
   ·subst h2; rw[MI]; simp
   ·rw[h1,Hz h1 h2,decide_eq_false h2]; rfl
 unfold execOp;simp only[ho,hx,hy];go_simp
theorem yU (x y:Int)(hx:0<=x)(hy:0<=y)(w:World):(callFunc 132 #[Z4 x,Z4 y,Z4 0]).run Tryz.prog w =
  .ok (.value (.tuple #[Z4 ((x+y) % 18446744073709551616),Z4 ((x+y) / 18446744073709551616)])) w:=by
 rw[run_callFunc_extern Tryz.func132 (by kernel_rfl) (by kernel_rfl) (by kernel_rfl) (e:=add64Entry) (by kernel_rfl),run_add64 x y 0 hx hy (by omega) (by omega)];simp only[Result.andThen,Int.add_zero]
def Nr (a b:Int):Bool:=decide (a+b<18446744073709551616)
def Ns (a b:Int):Int:=if a+b<18446744073709551616 then a+b else 0
theorem wZ (a b:Int)(w:World)(ha:W64 a)(hb:W64 b) :
  Calls Tryz.prog 126 #[Z4 a,Z4 b] w fun e w'=>e=.returned (.tuple #[Z4 (Ns a b),.bool (Nr a b)])/\w=w':=by
 obtain⟨a0,a1⟩:=ha; obtain⟨b0,b1⟩:=hb;have hL:=yU a b a0 b0;by_cases h:a+b<18446744073709551616
 ·have e1:Ns a b=a+b:=if_pos h;have e2:Nr a b=true:=decide_eq_true h;have q1:(a+b) % 18446744073709551616=a+b:=by omega
  have q2:(a+b) / 18446744073709551616=0:=by omega
  simp only[q1,q2] at hL;rw[e1,e2];clear e1 e2 q1 q2;go_enter Tryz.func126,Tryz.ntmps126;go_wp2_with (simp only[hL])
  go_ret2;exact⟨rfl,rfl⟩
 ·have e1:Ns a b=0:=if_neg h;have e2:Nr a b=false:=decide_eq_false h;have q2:(a+b) / 18446744073709551616=1:=by omega
  simp only[q2] at hL;rw[e1,e2];clear e1 e2 q2;go_enter Tryz.func126,Tryz.ntmps126;go_wp2_with (simp only[hL])
  go_ret2;exact⟨rfl,rfl⟩
theorem zB (a b:Int)(w:World)(ha:W64 a)(hb:W64 b) :
  Calls Tryz.prog 105 #[Z4 a,Z4 b] w fun e w'=>e=.returned (.tuple #[Z4 (Ns a b),.bool (Nr a b)])/\w=w':=by
 obtain⟨a0,a1⟩:=ha; obtain⟨b0,b1⟩:=hb;by_cases h:a+b<18446744073709551616
 ·have e1:Ns a b=a+b:=if_pos h;have e2:Nr a b=true:=decide_eq_true h;have h':¬ (18446744073709551615-b<a):=by omega
  rw[e1,e2];clear e1 e2;go_enter Tryz.func105,Tryz.ntmps105;go_wp2;go_ret2;exact⟨rfl,rfl⟩
 ·have e1:Ns a b=0:=if_neg h;have e2:Nr a b=false:=decide_eq_false h;have h':18446744073709551615-b<a:=by omega
  rw[e1,e2];clear e1 e2;go_enter Tryz.func105,Tryz.ntmps105;go_wp2;go_ret2;exact⟨rfl,rfl⟩
def tot (l:List Int):Int:=l.foldl (· + ·) 0
def LG (l:List Int):Bool:=decide (tot l<18446744073709551616)
def LD (l:List Int):Int:=if tot l<18446744073709551616 then tot l else 0
theorem jw (l:List Int):∀ a:Int,l.foldl (· + ·) a=a+tot l:=by
 induction l with
 | nil=>intro a; simp[tot]
 | cons x l ih=>
  intro a;have h1:=ih (a+x);have h2:=ih (0+x);simp only[tot,List.foldl_cons] at *
  omega
theorem X6 (x:Int)(l:List Int):tot (x::l)=x+tot l:=by
 have:=jw l (0+x);simp only[tot,List.foldl_cons] at *
 omega
theorem Xl (l r:List Int):tot (l++r)=tot l+tot r:=by
 induction l with
 | nil=>simp[tot]
 | cons x l ih=>rw[List.cons_append,X6,X6,ih]; omega
theorem FB (l:List Int)(k:Nat)(h:k<l.length):tot (l.take (k+1))=tot (l.take k)+l.getD k 0:=by
 rw[List.take_succ_eq_append_getElem h,Xl,List.getD_eq_getElem?_getD,List.getElem?_eq_getElem h,X6];simp[tot]
theorem WB (l:List Int):(∀ x,x∈l->0<=x)->0<=tot l:=by
 induction l with
 | nil=>intro _; simp[tot]
 | cons x l ih=>
  intro h;rw[X6];have:=ih (fun y hy=>h y (List.mem_cons_of_mem _ hy));have:=h x (List.mem_cons_self ..);omega
theorem Oi (l:List Int)(hw:∀ k,k<l.length->W64 (l.getD k 0))(x:Int)(hx:x∈l):W64 x:=by
 obtain⟨j,hj,rfl⟩:=List.getElem_of_mem hx;have:=hw j hj;rw[List.getD_eq_getElem?_getD,List.getElem?_eq_getElem hj] at this;exact this
theorem TY (l:List Int)(hw:∀ k,k<l.length->W64 (l.getD k 0))(k:Nat):tot (l.take k)<=tot l:=by
 have h:=Xl (l.take k) (l.drop k);rw[List.take_append_drop] at h;have:=WB (l.drop k) (fun x hx=>(Oi l hw x (List.mem_of_mem_drop hx)).1);omega
theorem Jd (a:Option Addr)(cap:Nat)(l:List Int)(w:World)(hl:l.length<=9223372036854775807)(hc:∀ k,k<l.length->∃ b off,a=some ⟨b,off,none⟩/\w.cell? ⟨b,off+k,none⟩=some (Z4 (l.getD k 0)))(hw:∀ k,k<l.length->W64 (l.getD k 0)) :
  Calls Tryz.prog 112 #[.slice a l.length cap] w fun e w'=>e=.returned (.tuple #[Z4 (LD l),.bool (LG l)])/\w=w':=by
 go_enter Tryz.func112,Tryz.ntmps112;go_wp2_with fail;go_loopg [4,11] l.length (fun g s4 s11 wx=>w=wx/\∃ k:Nat,k<=l.length/\s4=Z4 (tot (l.take k))/\s11=Z8 k/\l.length-k=g/\Hid (tot (l.take k)<18446744073709551616))
 case atStart=>exact⟨rfl,0,by omega,rfl,rfl,rfl,Z9 (by simp[tot])⟩
 case round=>
  obtain⟨rfl,k,hk,rfl,rfl,rfl,ht⟩:=hrel;by_cases hlt:k<l.length
  ·obtain⟨b,off,ea,hcell⟩:=hc k hlt;have hx:=hw k hlt;have hts:=FB l k hlt;have ht0:=WB (l.take k) (fun x hx=>(Oi l hw x (List.mem_of_mem_take hx)).1);have hA:=fun w=>wZ (tot (l.take k)) (l.getD k 0) w ⟨ht0,by have:=ht.out; omega⟩ hx;have hle:=TY l hw (k+1);obtain⟨x,hxe⟩:=ZR (l.getD k 0);obtain⟨t,hte⟩:=ZR (tot (l.take k));rw[hxe] at hcell hx hts hA;rw[hte] at hts hA ht0 ht;rw[hts] at hle;rw[hte];subst ea;clear hxe hte hc hw;by_cases hs:t+x<18446744073709551616
   ·have e1:Ns t x=t+x:=if_pos hs;have e2:Nr t x=true:=decide_eq_true hs;rw[e1,e2] at hA;have HS:=Z9 hts;have hs':=Z9 hs;clear e1 e2 hts hle;go_wp2_with (go_at_call 126; refine(hA _).mono ?_; rintro e w' ⟨rfl,rfl⟩)
    go_roundg (l.length-(k+1))
    case measure=>omega
    case rel=>exact⟨rfl,k+1,by omega,by rw[HS.out],by first | rfl | go_num,rfl,by rw[HS.out]; exact hs'⟩
   ·have e1:Ns t x=0:=if_neg hs;have e2:Nr t x=false:=decide_eq_false hs;rw[e1,e2] at hA;have f1:=Z9 (show LD l=0 from if_neg (by omega));have f2:=Z9 (show LG l=false from decide_eq_false (by omega));clear e1 e2 hts hle;go_wp2_with (go_at_call 126; refine(hA _).mono ?_; rintro e w' ⟨rfl,rfl⟩)
    go_ret2;exact⟨by rw[f1.out,f2.out]; rfl,rfl⟩
  ·obtain rfl:k=l.length:=(by omega);rw[List.take_length] at ht ⊢;have f1:=Z9 (show LD l=tot l from if_pos ht.out);have f2:=Z9 (show LG l=true from decide_eq_true ht.out);clear hc hw;go_wp2_with fail;go_ret2;exact⟨by rw[f1.out,f2.out]; rfl,rfl⟩
section
variable {P : Program} {t e s bytes : Nat} {z : Value}
theorem VF (hu:P.underlying t=some (.slice e))(hinfo:(P.info? e).map (fun i=>(i.zero,i.size,i.bytes))=some (some z,s,bytes))(hzs:z.cells.size=s)(hs:0<s)
  {w:World} {B n m:Nat} {v:Value} {xs:List Value} (hO:w.ownsRow B e s v n xs) (pa:Option Addr) (cp:Nat) (ys:List Value) (hP:Cs w pa ys) (hl:ys.length=m*s) (h1:∀ u∈ys,u.oneCell'=true) (hB:B<=w.heap.size) (hby:0<bytes) (hn:(n+m)*bytes<=140737488355328) :
  ∃ v' w',(Builtin.append_ #[t,t] t #[v,.slice pa m cp]).run P w=.ok v' w'/\w'.ownsRow B e s v' (n+m) (xs++ys)/\Below B w w'/\w.grownBy w' v.ownBlock/\(v'.ownBlock=v.ownBlock∨v'.ownBlock=some w.heap.size):=by
 obtain⟨i0,hi,hz0,hz1,hz2⟩:=info_parts hinfo;by_cases hy:ys=[]
 ·subst hy;obtain rfl:m=0:=by
   rcases Nat.eq_zero_or_pos m with h | h
   ·exact h
   ·have:=Nat.mul_pos h hs;rw[<- hl] at this;simp at this
  cases pa with
  | none=>
   refine⟨v,w,?_,by simpa using hO,Below.refl _ _,World.grownBy.refl w _,.inl rfl⟩;rcases hO.2 with⟨rfl,h0⟩ | ⟨g,cap,cur,rfl,_,_,hnc,_⟩
   ·simp[Builtin.append_,run_underlying hu,sizeOf,typeInfo,hi,Builtin.lenOf,Builtin.firstCells]
   ·simp[Builtin.append_,run_underlying hu,sizeOf,typeInfo,hi,Builtin.lenOf,Builtin.firstCells,hnc,storeCells]
  | some x=>
   obtain⟨v',w',hr,h2,h3,-,h4⟩:=run_append_own_at (P:=P) w B t t e i0 z s bytes hu hi hz0 hz1 hz2 hzs hs v n xs hO x 0 cp [] (by simp) (fun j u h=>by simp at h) (by simp) (by unfold maxLen; have:=Nat.le_mul_of_pos_right (n+0) hby; omega) hn hB;exact⟨v',w',hr,h2,(Below.refl _ w).grown h3 hB (fun j hj=>(hO.lt j hj).1),h3,h4⟩
 ·obtain⟨y,hy0⟩:∃ y,ys[0]?=some y:=by
   cases ys with
   | nil=>exact absurd rfl hy
   | cons y r=>exact⟨y,rfl⟩
  obtain⟨b,off,rfl,-⟩:=hP 0 y hy0;have hcells:∀ j u,ys[j]?=some u->w.cell? ((⟨b,off,none⟩:Addr).add j)=some u:=fun j u hu=>by
   obtain⟨b2,off2,e2,-,hc⟩:=hP j u hu;simp only[Option.some.injEq,Addr.mk.injEq,and_true] at e2;obtain⟨rfl,rfl⟩:=e2;rw[Addr.add_mid];exact hc
  obtain⟨v',w',hr,h2,h3,-,h4⟩:=run_append_own_at (P:=P) w B t t e i0 z s bytes hu hi hz0 hz1 hz2 hzs hs v n xs hO ⟨b,off,none⟩ m cp ys hl hcells h1 (by unfold maxLen; have:=Nat.le_mul_of_pos_right (n+m) hby; omega) hn hB;exact⟨v',w',hr,h2,(Below.refl _ w).grown h3 hB (fun j hj=>(hO.lt j hj).1),h3,h4⟩
end
theorem jG (A:List Ac)(k:Nat)(h:k<A.length):(A.map (·.2.1)).getD k 0=(aca A k).2.1:=by
 rw[List.getD_eq_getElem?_getD,List.getElem?_map,List.getElem?_eq_getElem h];unfold aca;rw[List.getD_eq_getElem?_getD,List.getElem?_eq_getElem h];rfl
end Go.Proofs.YtnhlpahoomcgnaaGreat.Lg
