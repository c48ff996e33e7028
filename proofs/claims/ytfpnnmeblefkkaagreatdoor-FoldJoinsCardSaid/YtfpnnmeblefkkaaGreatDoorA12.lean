/-
  Texts joined.
-/
import Derived.Test.YtfpnnmeblefkkaaGreatDoorA11
import Derived.Lib.Bytealg
import Derived.Laws.Externs
import Derived.Laws.Bits64b
import Derived.Laws.MathBits
import Derived.RowKit3
set_option maxRecDepth 100000
set_option maxHeartbeats 8000000
set_option linter.unusedSimpArgs false
set_option linter.unusedVariables false
namespace Go.Proofs.YtfpnnmeblefkkaaGreatDoor
attribute [local irreducible] wpList wpQuiet
open Go.RowKit
section
variable {w : World} {g : Nat} {a : Option Addr} {c : Nat} {L : List Int} {N g4 g6 g7 : Nat} {ra : Option Addr} {rc : Nat} {A : List Ac} {co : Int} {B7 : Nat} {x : Y0} {a2 : Option Addr} {c2 : Nat} {V : World}
theorem LZ (h:St w g a c L N g4 g6 g7 ra rc A co B7 x a2 c2 V):St w g a c L N g4 g6 g7 ra rc A co B7 x a2 c2 V.drew:=⟨⟨h.bt.1.drew,h.bt.2⟩,h.ns,h.row,h.b4,h.b6,h.b7,h.rt,h.sz⟩
theorem pV {V2:World}{B q:Nat}{v:Value}{M:List Tf}(h:Yv V B v M)(hb:But q V V2)(hne:v.ownBlock≠some q):Yv V2 B v M:=by
 unfold Yv at *
 refine⟨h.1,?_⟩;rcases h.2 with h0 | ⟨gg,cap,cur,ev,h1,h2,h3⟩
 ·exact .inl h0
 ·have hgq:gg≠q:=fun e=>hne (by rw[ev,<- e]; rfl);exact .inr ⟨gg,cap,cur,ev,h1,(hb.2 gg (Array.getElem?_eq_some_iff.1 h2).1 hgq).trans h2,h3⟩
theorem St.off (h:St w g a c L N g4 g6 g7 ra rc A co B7 x a2 c2 V)(ly:Ly w g a L g4 g6 g7 ra A B7){V2:World}{q:Nat}(hb:But q V V2)(hq:w.heap.size<=q)(hB:B7<=q)(hne:(Value.slice a2 x.tr.length c2).ownBlock≠some q):St w g a c L N g4 g6 g7 ra rc A co B7 x a2 c2 V2:=
 have l4:=ly.l4;have l6:=ly.l6;have l7:=ly.l7;have lg:=ly.hg
 ⟨NP h.bt hb hq (by omega),h.ns.but hb (by omega) (fun hl z hz=>by have:=ly.ab hl z hz; omega),RY h.row hb.1.size (fun hn z hz=>hb.2 _ (Nat.lt_of_lt_of_le (ly.rb hn z hz).1 h.bt.1.size) (by have:=(ly.rb hn z hz).1; omega)),h.b4.but hb (by omega),h.b6.but hb (by omega),h.b7.but hb (by omega),pV h.rt hb hne,Nat.le_trans h.sz hb.1.size⟩
theorem St.grow (h:St w g a c L N g4 g6 g7 ra rc A co B7 x a2 c2 V)(ly:Ly w g a L g4 g6 g7 ra A B7)(hw:w.heap.size<=B7){V2:World}{y:Tf}{a7:Option Addr}{c7:Nat}(hb:Below B7 V V2)(hr:Yv V2 B7 (.slice a7 (x.tr++[y]).length c7) (x.tr++[y])):∃ V3,(Instr.storeAt 61 (Z5 g7 5) (.slice a7 (x.tr++[y]).length c7)).run Tryz.prog V2=.ok () V3/\St w g a c L N g4 g6 g7 ra rc A co B7 { x with tr:=x.tr++[y] } a7 c7 V3:=by
 obtain⟨f1,f2,f3,f4,f5,f6,f7⟩:=h.far ly hw hb;obtain⟨V3,hst,hX,-,hbt⟩:=Zm (i:=5) (ty:=61) (v:=.slice a7 (x.tr++[y]).length c7) (cs':=ZA { x with tr:=x.tr++[y] } a7 c7) (w0:=V2) (B:=g7) f6 (Below.refl _ _) (Nat.le_refl _) (by show 5<6; decide) rfl (by kernel_rfl) rfl;have lg:=ly.hg;have h7:=ly.h7;exact⟨V3,hst,NP f1 hbt h7 (by omega),f2.but hbt (by omega) (fun hl z hz=>Nat.lt_of_lt_of_le (ly.ab hl z hz) h7),RY f3 hbt.1.size (fun hn z hz=>hbt.2 _ (Nat.lt_of_lt_of_le (ly.rb hn z hz).1 f1.1.size) (by have:=(ly.rb hn z hz).1; omega)),f4.but hbt ly.n47,f5.but hbt ly.n67,hX,hr.but hbt ly.l7,Nat.le_trans f7 hbt.1.size⟩
end
theorem av7 {w:World}{g c k rc:Nat}{a ra:Option Addr}{L:List Int}{A:List Ac}{co p:Int}(h:NS w g a c L k)(hl:L.length<=100000)(hk:k<=10000)(hrow:Cs w ra (acc A))(hrg:acc A≠[]->∀ x,ra=some x->x.block≠g)(hA:∀ x,x∈A->AcQ x)(hA4:A.length<=1000):Calls Tryz.prog 65 #[Z5 g 0,.agg #[.slice ra A.length rc,Z7 co],Z7 p] w (av8 w g a c L k):=by
 have HL:=Z9 hl;have HKK:=Z9 hk;have HQ:=Z9 hA;have iC:=Z9 hA4;have Xi:=Z9 h.lt;have HAB:=Z9 (fun h1 x hx=>h.ab h1 x hx);have HRB:Hid (acc A≠[]->∀ x,ra=some x->x.block<w.heap.size/\x.block≠g):=Z9 fun hn x hx=>⟨by
  obtain⟨b,off,e,hb,-⟩:=hrow 0 ((acc A)[0]'(List.length_pos_iff.2 hn)) (List.getElem?_eq_getElem _);rw[hx] at e;cases e;exact hb,hrg hn x hx⟩
 have hb1:Below w.heap.size w (w.alloc (.cells #[.slice ra A.length rc,Z7 co] 30)):=(Below.refl _ w).alloc (Nat.le_refl _) _;have hX1:Bx (w.alloc (.cells #[.slice ra A.length rc,Z7 co] 30)) w.heap.size #[.slice ra A.length rc,Z7 co] 30:=heap_alloc_last w _;have hsz1:(w.alloc (.cells #[.slice ra A.length rc,Z7 co] 30)).heap.size=w.heap.size+1:=by simp
 obtain⟨n,hn⟩:=ZR A.length;have HN:=Z9 hn;rw[hn] at hb1 hX1 hsz1 ⊢;clear hl hk hA hA4 hrg hn;go_enter Tryz.func65,Tryz.ntmps65;go_upto_region 1 with fail;change Code.wp _ _ _ _ ((w.alloc (.cells #[.slice ra n rc,Z7 co] 30)).alloc (.cells (ZA zX none 0) 63));generalize w.alloc (.cells #[.slice ra n rc,Z7 co] 30)=W1 at *
 have hb0:Below w.heap.size w (W1.alloc (.cells (ZA zX none 0) 63)):=hb1.alloc hb1.size _;have hX0:Bx (W1.alloc (.cells (ZA zX none 0) 63)) w.heap.size #[.slice ra n rc,Z7 co] 30:=hX1.below hX1.lt ((Below.refl _ W1).alloc (Nat.le_refl _) _);have hY0:Bx (W1.alloc (.cells (ZA zX none 0) 63)) W1.heap.size (ZA zX none 0) 63:=heap_alloc_last W1 _;rw[hsz1] at hY0;generalize W1.alloc (.cells (ZA zX none 0) 63)=W at *
 obtain⟨g4,hg4⟩:=ZR w.heap.size;obtain⟨g6,Ul⟩:=ZR (w.heap.size+1);have GK:Hid (w.heap.size<=g4/\w.heap.size<=g6/\g4≠g6):=Z9 ⟨by omega,by omega,by omega⟩;rw[Ul] at hY0;rw[hg4] at hX0;rw[Ul,hg4];have hrW:=hrow.below hb0;have hnW:=h.below hb0;have Uo:=Z9 (But.of_below hb0 (Nat.le_of_lt Xi.out));have CN:=xW hnW HL.out (by have:=HKK.out; omega);clear hb0 hb1 hX1 hsz1 hg4 Ul hrow h;refine wl<|ZV (Z5 g 0)<|XZ (fun v w'=>∃ s,v=.string s/\vM s/\NS w' g a c L (k+1)/\But g W w') ((CN).mono fun e w' z=>by obtain⟨s,h1,h2⟩:=z; exact⟨_,h1,s,rfl,h2⟩) (fun vv V1 hq=>?_);obtain⟨nm,rfl,av9,ab7,pU⟩:=hq;refine ZV (Z5 g 0) <|
  XZ (fun v w'=>∃ q:Nat,v=Z8 q/\(q:Int)<6/\NS w' g a c L ((k+1)+1)/\But g V1 w') ((X6 ab7 HL.out (by have:=HKK.out; omega) 6 (by decide) (by decide)).mono fun e w' z=>by obtain⟨q,h1,h2⟩:=z; exact⟨_,h1,q,rfl,h2⟩) (fun vv V2 hq=>?_)
 obtain⟨v2,rfl,hv2,Uy,ab8⟩:=hq;refine YN (Z7 v2) (Vw rfl v2 (by omega) (by omega) (by kernel_rfl) _)<|YC (Z7 (v2*40)) (ah2 rfl v2 40 (by omega) (by omega)) <|
  YC (Z7 (150+v2*40)) (pR rfl 150 (v2*40) (by omega) (by omega))<|ZV (Z5 g 0) <|
  XZ (fun v w'=>∃ s,v=.string s/\MmQ s/\NS w' g a c L ((k+1+1)+1)/\But g V2 w') ((iy Uy HL.out (by have:=HKK.out; omega)).mono fun e w' z=>by obtain⟨s,h1,h2⟩:=z; exact⟨_,h1,s,rfl,h2⟩) (fun vv V3 hq=>?_)
 obtain⟨mm,rfl,aw0,pO,pK⟩:=hq;obtain⟨V4,NM,hb4,Qe⟩:=OG V3 ⟨nm,0,150+v2*40,0,mm,[]⟩ none 0;refine ZV (.agg #[.string nm,Z7 0,Z7 (150+v2*40),Z7 0,.string mm,.slice none 0 0]) ?_;refine Zz rfl (some 7) rfl (Z5 V3.heap.size 0) (V3.alloc (.cells (ZA zX none 0) 63)) (by kernel_rfl) ?_;refine Zr rfl (NM)<|wn ?_;have hbt:=(pU.trans ab8).trans pK;have aw1:=But.of_below hb4 (Nat.le_of_lt pO.lt);obtain⟨N0,hN0,hns0⟩:=pO.below hb4;obtain⟨g7,Qd⟩:=ZR V3.heap.size;obtain⟨B7,Po⟩:=ZR V4.heap.size;rw[Qd] at Qe ⊢;have aw2:=Qe.lt;have Wx:=hX0.but hbt (by have:=Xi.out; have:=GK.out; omega);have ET:=hY0.but hbt (by have:=Xi.out; have:=GK.out; omega);have aw3:=Wx.lt;have aw4:=ET.lt;have hbw0:=Uo.out.trans hbt;have hws:=hbw0.1.size;have aM0:=hb4.size;have LY:Ly w g a L g4 g6 g7 ra A B7:=⟨Xi.out,GK.out.1,GK.out.2.1,by omega,GK.out.2.2,by omega,by omega,by omega,by omega,by omega,HAB.out,HRB.out⟩;have KO:=Z9 LY;have hrow3:=RY hrW hbt.1.size (fun hn y hy=>hbt.2 _ (Nat.lt_of_lt_of_le (HRB.out hn y hy).1 Uo.out.1.size) (HRB.out hn y hy).2);have IX:Hid (St w g a c L N0 g4 g6 g7 ra rc A co B7 ⟨nm,0,150+v2*40,0,mm,[]⟩ none 0 V4):=Z9 ⟨hbw0.trans aw1,hns0,hrow3.below hb4,by rw[HN.out]; exact Wx.below aw3 hb4,ET.below aw4 hb4,Qe,Yv.nil _ _,Nat.le_of_eq Po.symm⟩;have HWB:Hid (w.heap.size<=B7):=Z9 (by omega);have aw5:Hid (150<=(150+(v2:Int)*40)/\(150+(v2:Int)*40)<=1000):=Z9 (by omega);have HNM:=Z9 av9;have HMM:=Z9 aw0;have HN0:Hid (N0<=k+3):=Z9 hN0;obtain⟨Zu,Ru⟩:=ZR (150+(v2:Int)*40);rw[Ru] at IX aw5 ⊢;clear hbt aw1 hns0 Qd Po Qe aw2 Wx ET aw3 aw4 hbw0 hws aM0 LY hrow3 hb4 NM hX0 hY0 hrW hnW Uo CN pU ab8 pK pO Uy ab7 av9 aw0 hN0 hv2 Ru;go_upto_region 2 with fail;refine wl<|ZV (Z5 g4 0)<|ZK rfl ⟨g4,0,none⟩ (.slice ra n rc) ((by have:=IX.out.b4; rw[HN.out] at this; exact this.ZQ 0))<|ZG (Z8 n) (Z8 n)<|wn ?_;simp only[pu];go_upto_region 3 with fail;go_cut [31] (fun s31 wx=>∃ (N1:Nat) (tb:Bool),s31=.bool tb/\Hid (N1<=k+4)/\Hid (St w g a c L N1 g4 g6 g7 ra rc A co B7 ⟨nm,0,Zu,0,mm,[]⟩ none 0 wx)/\Hid (tb=true->0<n))
 case first=>
  by_cases hn0:0<n
  ·obtain⟨v8,aM1,hv8⟩:=Ux L N0 8 (by decide);have CX8:=Xq IX.out.ns HL.out (by have:=HKK.out; have:=HN0.out; omega) 8 (by decide) (by decide) aM1;by_cases hv0:0<v8
   ·refine wl<|ZV (Z8 n)<|ZN (Zo rfl (n) (0) dT)<|ZG ZW (Z5 g 0)<|YW (Z8 v8) (fun w'=>OE w' g a c L (N0+1)/\But g V4 w') CX8 (fun V5 hq8=>?_);have U9:=Z9 (IX.out.call KO.out hq8.1 hq8.2);refine ZN (Zo rfl (v8) (0) dT)<|ZV ZW<|wn ?_;simp only[pu];clear hq8 CX8 IX;go_wp2_with fail;go_meet;exact⟨N0+1,true,rfl,Z9 (by have:=HN0.out; omega),U9,Z9 (fun _=>hn0)⟩
   ·refine wl<|ZV (Z8 n)<|ZN (Zo rfl (n) (0) dT)<|ZG ZW (Z5 g 0)<|YW (Z8 v8) (fun w'=>OE w' g a c L (N0+1)/\But g V4 w') CX8 (fun V5 hq8=>?_);have U9:=Z9 (IX.out.call KO.out hq8.1 hq8.2);refine ZN (Zo rfl (v8) (0) dF)<|ZV ZY<|wn ?_;simp only[pu];clear hq8 CX8 IX;go_wp2_with fail;go_meet;exact⟨N0+1,false,rfl,Z9 (by have:=HN0.out; omega),U9,Z9 (fun _=>hn0)⟩
  ·refine wl<|ZV (Z8 n)<|ZN (Zo rfl (n) (0) dF)<|Rq ZY undef undef undef ZY<|wn ?_;simp only[pu];go_wp2_with fail;go_meet;exact⟨N0,false,rfl,Z9 (by have:=HN0.out; omega),IX,Z9 (fun h=>nomatch h)⟩
 case rest=>
  obtain⟨N1,tb,rfl,rW,U9,HTB⟩:=hcut;clear IX HN0;go_upto_if 31 with fail;go_cut [8] (fun s8 wx=>∃ (N2:Nat) (Js:ByteArray) (sq:Int),s8=Z8 n/\Hid (N2<=k+5)/\Hid (vM Js/\W64 sq)/\Hid (St w g a c L N2 g4 g6 g7 ra rc A co B7 ⟨Js,sq,Zu,0,mm,[]⟩ none 0 wx))
  case first=>
   cases tb
   ·go_wp2_with fail;go_meet;exact⟨N1,nm,0,rfl,Z9 (by have:=rW.out; omega),Z9 ⟨HNM.out,WO⟩,U9⟩
   ·have hn0:=HTB.out rfl;obtain⟨v9,vK,hv9⟩:=Ux L N1 n (by omega);have ah3:v9<n:=(by omega);have hyq:=HQ.out (aca A v9) (Sr (by rw[HN.out]; exact ah3));have hvA:v9<A.length:=(by rw[HN.out]; exact ah3);obtain⟨b,off,rfl,-,-⟩:=YJ U9.out.row (k:=v9) hvA;have aw6:=fun V (hV:Cs V (some ⟨b,off,none⟩) (acc A))=>(by obtain⟨b2,o2,e2,-,h2⟩:=YJ hV (k:=v9) hvA; simp only[Option.some.injEq,Addr.mk.injEq,and_true] at e2; obtain⟨rfl,rfl⟩:=e2; exact XK h2:(Instr.loadAt 56 (Z5 b (off+v9*3))).run Tryz.prog V=.ok (.agg (Zt (aca A v9))) V);generalize aca A v9=y at *
    have CX:∀ V,OE V g a c L N1->Calls Tryz.prog 35 #[Z5 g 0,Z8 n] V fun e w'=>e=.returned (Z8 v9)/\OE w' g a c L (N1+1)/\But g V w':=fun V hV=>Xq hV HL.out (by have:=HKK.out; have:=rW.out; omega) n (by omega) (by have:=iC.out; rw[HN.out] at this; omega) vK;have h0:K4 w g a c L N1 g4 g6 g7 (some ⟨b,off,none⟩) rc A co B7 ⟨nm,0,Zu,0,mm,[]⟩ wc y false false false undef wc.drew:=⟨(fun h=>nomatch h),Nat.le_refl _,LZ U9.out,(fun h=>nomatch h),(fun h=>nomatch h)⟩;have HWC:Hid (w.heap.size<=wc.heap.size/\B7<=wc.heap.size/\g<wc.heap.size):=Z9 ⟨U9.out.bt.1.size,U9.out.sz,U9.out.ns.1.lt⟩;go_upto_region 4 with fail;refine Zx (fun listed Zh V=>∃ b0 b1 b2 b3 b4 b5 b6 b7 b8:Bool,∃ x9:Value,listed=#[b0,b1,b2,b3,b4,b5,b6,b7,b8]/\Zh={ tmps:=#[Z5 g 0,.agg #[.slice (some ⟨b,off,none⟩) n rc,Z7 co],Z7 p,undef,Z5 g4 0,undef,Z5 g6 0,Z5 g7 0,Z8 n,x9,undef,undef,u12,u13,u14,u15,u16,u17,u18,u19,u20,u21,u22,u23,u24,u25,u26,u27,u28,u29,u30,ZW,(cond b0 (Z5 g4 0) (u32)),(cond b1 (.slice (some ⟨b,off,none⟩) n rc) (u33)),(cond b2 (Z5 g 0) (u34)),(cond b3 (Z8 n) (u35)),(cond b4 (Z8 v9) (u36)),(cond b5 (Z5 b (off+v9*3)) (u37)),(cond b6 (.agg (Zt y)) (u38)),u39,u40,u41,u42,u43,u44,u45,u46,u47,u48,u49,u50,u51,u52,u53,u54,u55,u56,u57,u58,u59,u60,u61,u62,u63,u64,u65,u66,u67,u68,u69,u70,u71,u72,u73,u74,u75,u76,u77,u78,u79,u80,u81,u82,u83,u84,u85,u86,u87,u88,u89,u90,u91,u92,u93,u94,u95],defers:=[] }/\K4 w g a c L N1 g4 g6 g7 (some ⟨b,off,none⟩) rc A co B7 ⟨nm,0,Zu,0,mm,[]⟩ wc y b4 b7 b8 x9 V) (by kernel_rfl) (by kernel_rfl) ?_ ?_ ?_
    ·exact⟨_,_,_,_,_,_,_,_,_,_,rfl,rfl,h0⟩
    ·intro i9 listed Zh V hi9 hr hJ;obtain⟨b0,b1,b2,b3,b4,b5,b6,b7,b8,x9,rfl,rfl,hF⟩:=hJ;have hi2:i9<9:=hi9;have hi3:i9=0∨i9=1∨i9=2∨i9=3∨i9=4∨i9=5∨i9=6∨i9=7∨i9=8:=(by omega);rcases hi3 with rfl | rfl | rfl | rfl | rfl | rfl | rfl | rfl | rfl
     ·obtain rfl:b0=false:=Z4 hr;refine ZM rfl (by kernel_rfl) (some 32) rfl (Z5 g4 0) V (by kernel_rfl) ?_;exact⟨_,_,_,_,_,_,_,_,_,_,rfl,rfl,hF⟩
     ·obtain rfl:b1=false:=Z4 hr;obtain rfl:b0=true:=ZX hr 0;refine Zv rfl (by kernel_rfl) (some 33) rfl 28 (.tmp 32) rfl ⟨g4,0,none⟩ (.slice (some ⟨b,off,none⟩) n rc) (by kernel_rfl) (by have:=hF.st.b4; rw[HN.out] at this; exact this.ZQ 0) ?_;exact⟨_,_,_,_,_,_,_,_,_,_,rfl,rfl,hF⟩
     ·obtain rfl:b2=false:=Z4 hr;refine ZM rfl (by kernel_rfl) (some 34) rfl (Z5 g 0) V (by kernel_rfl) ?_;exact⟨_,_,_,_,_,_,_,_,_,_,rfl,rfl,hF⟩
     ·obtain rfl:b3=false:=Z4 hr;refine ZM rfl (by kernel_rfl) (some 35) rfl (Z8 n) V (by kernel_rfl) ?_;exact⟨_,_,_,_,_,_,_,_,_,_,rfl,rfl,hF⟩
     ·obtain rfl:b4=false:=Z4 hr;obtain rfl:b2=true:=ZX hr 2;obtain rfl:b3=true:=ZX hr 3;refine Ym rfl (by kernel_rfl) (some 36) rfl 35 #[Z5 g 0,Z8 n] (by kernel_rfl) ((CX V hF.st.ns).mono ?_);rintro e V2 ⟨rfl,hns,hbt⟩;exact⟨_,rfl,_,_,_,_,_,_,_,_,_,_,rfl,rfl,hF.s4 KO.out HWC.out.2.2 hns hbt⟩
     ·obtain rfl:b5=false:=Z4 hr;obtain rfl:b1=true:=ZX hr 1;obtain rfl:b4=true:=ZX hr 4;refine ZM rfl (by kernel_rfl) (some 37) rfl (Z5 b (off+v9*3)) V (YK b off n rc v9 ah3 _ _ _ rfl (by kernel_rfl) (by kernel_rfl)) ?_;exact⟨_,_,_,_,_,_,_,_,_,_,rfl,rfl,hF⟩
     ·obtain rfl:b6=false:=Z4 hr;obtain rfl:b5=true:=ZX hr 5;refine Zv rfl (by kernel_rfl) (some 38) rfl 56 (.tmp 37) rfl ⟨b,off+v9*3,none⟩ (.agg (Zt y)) (by kernel_rfl) (aw6 V hF.st.row) ?_;exact⟨_,_,_,_,_,_,_,_,_,_,rfl,rfl,hF⟩
     ·obtain rfl:b7=false:=Z4 hr;refine ZM rfl (by kernel_rfl) (some 9) rfl (Z5 V.heap.size 0) (V.alloc (.cells (Zt WJ) 56)) (by kernel_rfl) ?_;exact⟨_,_,_,_,_,_,_,_,_,_,rfl,rfl,hF.s7⟩
     ·obtain rfl:b8=false:=Z4 hr;obtain rfl:b7=true:=ZX hr 7;obtain rfl:b6=true:=ZX hr 6;obtain⟨q,V2,rfl,hst,hF2⟩:=hF.s8 KO.out HWC.out.1 HWC.out.2.1;refine Zd rfl (by kernel_rfl) rfl 56 (.tmp 9) (.tmp 38) rfl (Z5 q 0) (.agg (Zt y)) (by kernel_rfl) (by kernel_rfl) _ hst ?_;exact⟨_,_,_,_,_,_,_,_,_,_,rfl,rfl,hF2⟩
    ·intro Zh V hJ;obtain⟨b0,b1,b2,b3,b4,b5,b6,b7,b8,x9,he,rfl,hF⟩:=hJ;have he:(#[true,true,true,true,true,true,true,true,true]:Array Bool)=#[b0,b1,b2,b3,b4,b5,b6,b7,b8]:=he;simp only[Array.mk.injEq,List.cons.injEq,and_true] at he;obtain⟨rfl,rfl,rfl,rfl,rfl,rfl,rfl,rfl,rfl⟩:=he;simp only[cond_true];obtain⟨q,rfl,hq1,hbx⟩:=hF.d9 rfl;have hS2:St w g a c L (N1+1) g4 g6 g7 (some ⟨b,off,none⟩) rc A co B7 ⟨nm,0,Zu,0,mm,[]⟩ none 0 V:=hF.st;have h1:K5 w g a c L (N1+1) g4 g6 g7 (some ⟨b,off,none⟩) rc A co B7 ⟨nm,0,Zu,0,mm,[]⟩ y q false false V.drew:=⟨LZ hS2,hbx⟩;have hqn:q≠g7:=(by have:=KO.out.l7; have:=HWC.out.2.1; omega);clear hF h0 CX aw6 U9 hS2 hbx;go_upto_region 5 with fail;have h0:=h1;clear h1;refine Zx (fun listed Zh V=>∃ b0 b1 b2 b3 b4 b5 b6 b7:Bool,listed=#[b0,b1,b2,b3,b4,b5,b6,b7]/\Zh={ tmps:=#[Z5 g 0,.agg #[.slice (some ⟨b,off,none⟩) n rc,Z7 co],Z7 p,undef,Z5 g4 0,undef,Z5 g6 0,Z5 g7 0,Z8 n,Z5 q 0,undef,undef,u12,u13,u14,u15,u16,u17,u18,u19,u20,u21,u22,u23,u24,u25,u26,u27,u28,u29,u30,ZW,Z5 g4 0,.slice (some ⟨b,off,none⟩) n rc,Z5 g 0,Z8 n,Z8 v9,Z5 b (off+v9*3),.agg (Zt y),(cond b0 (Z5 q 0) (u39)),(cond b1 (.string y.1) (u40)),(cond b2 (Z5 q 2) (u41)),(cond b3 (Z7 y.2.2) (u42)),(cond b4 (Z5 g7 0) (u43)),(cond b6 (Z5 g7 1) (u44)),u45,u46,u47,u48,u49,u50,u51,u52,u53,u54,u55,u56,u57,u58,u59,u60,u61,u62,u63,u64,u65,u66,u67,u68,u69,u70,u71,u72,u73,u74,u75,u76,u77,u78,u79,u80,u81,u82,u83,u84,u85,u86,u87,u88,u89,u90,u91,u92,u93,u94,u95],defers:=[] }/\K5 w g a c L (N1+1) g4 g6 g7 (some ⟨b,off,none⟩) rc A co B7 ⟨nm,0,Zu,0,mm,[]⟩ y q b5 b7 V) (by kernel_rfl) (by kernel_rfl) ?_ ?_ ?_
     ·exact⟨_,_,_,_,_,_,_,_,rfl,rfl,h0⟩
     ·intro i9 listed Zh V hi9 hr hJ;obtain⟨b0,b1,b2,b3,b4,b5,b6,b7,rfl,rfl,hF⟩:=hJ;have hi2:i9<8:=hi9;have hi3:i9=0∨i9=1∨i9=2∨i9=3∨i9=4∨i9=5∨i9=6∨i9=7:=(by omega);rcases hi3 with rfl | rfl | rfl | rfl | rfl | rfl | rfl | rfl
      ·obtain rfl:b0=false:=Z4 hr;refine ZM rfl (by kernel_rfl) (some 39) rfl (Z5 q 0) V (by kernel_rfl) ?_;exact⟨_,_,_,_,_,_,_,_,rfl,rfl,hF⟩
      ·obtain rfl:b1=false:=Z4 hr;obtain rfl:b0=true:=ZX hr 0;refine Zv rfl (by kernel_rfl) (some 40) rfl 9 (.tmp 39) rfl ⟨q,0,none⟩ (.string y.1) (by kernel_rfl) (hF.2.ZQ 0) ?_;exact⟨_,_,_,_,_,_,_,_,rfl,rfl,hF⟩
      ·obtain rfl:b2=false:=Z4 hr;refine ZM rfl (by kernel_rfl) (some 41) rfl (Z5 q 2) V (by kernel_rfl) ?_;exact⟨_,_,_,_,_,_,_,_,rfl,rfl,hF⟩
      ·obtain rfl:b3=false:=Z4 hr;obtain rfl:b2=true:=ZX hr 2;refine Zv rfl (by kernel_rfl) (some 42) rfl 24 (.tmp 41) rfl ⟨q,2,none⟩ (Z7 y.2.2) (by kernel_rfl) (hF.2.ZQ 2) ?_;exact⟨_,_,_,_,_,_,_,_,rfl,rfl,hF⟩
      ·obtain rfl:b4=false:=Z4 hr;refine ZM rfl (by kernel_rfl) (some 43) rfl (Z5 g7 0) V (by kernel_rfl) ?_;exact⟨_,_,_,_,_,_,_,_,rfl,rfl,hF⟩
      ·obtain rfl:b5=false:=Z4 hr;obtain rfl:b4=true:=ZX hr 4;obtain rfl:b1=true:=ZX hr 1;obtain⟨V2,hst,hX2,-,hbt⟩:=Zm (i:=0) (ty:=9) (v:=.string y.1) (cs':=ZA ⟨y.1,cond b7 y.2.2 0,Zu,0,mm,[]⟩ none 0) (w0:=V) (B:=g7) hF.1.b7 (Below.refl _ _) (Nat.le_refl _) (by show 0<6; decide) rfl (by kernel_rfl) rfl;refine Zd rfl (by kernel_rfl) rfl 9 (.tmp 43) (.tmp 40) rfl (Z5 g7 0) (.string y.1) (by kernel_rfl) (by kernel_rfl) _ hst ?_;exact⟨_,_,_,_,_,_,_,_,rfl,rfl,hF.1.set KO.out hbt hX2 rfl,hF.2.but hbt hqn⟩
      ·obtain rfl:b6=false:=Z4 hr;refine ZM rfl (by kernel_rfl) (some 44) rfl (Z5 g7 1) V (by kernel_rfl) ?_;exact⟨_,_,_,_,_,_,_,_,rfl,rfl,hF⟩
      ·obtain rfl:b7=false:=Z4 hr;obtain rfl:b6=true:=ZX hr 6;obtain rfl:b3=true:=ZX hr 3;obtain⟨V2,hst,hX2,-,hbt⟩:=Zm (i:=1) (ty:=24) (v:=Z7 y.2.2) (cs':=ZA ⟨cond b5 y.1 nm,y.2.2,Zu,0,mm,[]⟩ none 0) (w0:=V) (B:=g7) hF.1.b7 (Below.refl _ _) (Nat.le_refl _) (by show 1<6; decide) rfl (by kernel_rfl) rfl;refine Zd rfl (by kernel_rfl) rfl 24 (.tmp 44) (.tmp 42) rfl (Z5 g7 1) (Z7 y.2.2) (by kernel_rfl) (by kernel_rfl) _ hst ?_;exact⟨_,_,_,_,_,_,_,_,rfl,rfl,hF.1.set KO.out hbt hX2 rfl,hF.2.but hbt hqn⟩
     ·intro Zh V hJ;obtain⟨b0,b1,b2,b3,b4,b5,b6,b7,he,rfl,hF⟩:=hJ;have he:(#[true,true,true,true,true,true,true,true]:Array Bool)=#[b0,b1,b2,b3,b4,b5,b6,b7]:=he;simp only[Array.mk.injEq,List.cons.injEq,and_true] at he;obtain⟨rfl,rfl,rfl,rfl,rfl,rfl,rfl,rfl⟩:=he;simp only[cond_true];have HS2:Hid (St w g a c L (N1+1) g4 g6 g7 (some ⟨b,off,none⟩) rc A co B7 ⟨y.1,y.2.2,Zu,0,mm,[]⟩ none 0 V):=Z9 hF.1;clear hF h0;go_wp2_with fail;go_meet;exact⟨N1+1,y.1,y.2.2,rfl,Z9 (by have:=rW.out; omega),Z9 ⟨hyq.1,hyq.2.2⟩,HS2⟩
  case rest=>
   obtain⟨N2,Js,sq,rfl,HN2,xU,HS2⟩:=hcut;clear U9 rW HTB;obtain⟨v10,aw7,aM2⟩:=Ux L N2 6 (by decide);have aw8:=Xq HS2.out.ns HL.out (by have:=HKK.out; have:=HN2.out; omega) 6 (by decide) (by decide) aw7;go_upto_region 6 with fail;refine wl<|ZV (Z5 g 0)<|YW (Z8 v10) (fun w'=>OE w' g a c L (N2+1)/\But g wc w') aw8 (fun V6 hq10=>?_);simp only[pu];have vJ:=Z9 (HS2.out.call KO.out hq10.1 hq10.2);have jw:Hid (N2+1<=k+6):=Z9 (by have:=HN2.out; omega);clear hq10 aw8 HS2;obtain⟨tb,htb⟩:=ZR (decide ((v10:Int)=0));refine YC (.bool tb) (ZI rfl v10 0 htb)<|wn ?_;simp only[pu];clear htb;go_upto_if 47 with fail;go_cut [8] (fun s8 wx=>∃ (N3:Nat) (OY:Int),s8=Z8 n/\Hid (N3<=k+7)/\Hid (W64 OY)/\Hid (St w g a c L N3 g4 g6 g7 ra rc A co B7 ⟨Js,OY,Zu,0,mm,[]⟩ none 0 wx))
   case first=>
    cases tb
    ·go_wp2_with fail;go_meet;exact⟨N2+1,sq,rfl,Z9 (by have:=jw.out; omega),Z9 xU.out.2,vJ⟩
    ·obtain⟨v9,vK,hv9⟩:=Ux L (N2+1) 3 (by decide);have CX:∀ V,OE V g a c L (N2+1)->Calls Tryz.prog 35 #[Z5 g 0,Z8 3] V fun e w'=>e=.returned (Z8 v9)/\OE w' g a c L ((N2+1)+1)/\But g V w':=fun V hV=>Xq hV HL.out (by have:=HKK.out; have:=jw.out; omega) 3 (by decide) (by decide) vK;obtain⟨OY,aw9⟩:=ZR (IntKind.u64.wrap (sq+(v9:Int)));have hw3:W64 OY:=(by rw[<- aw9]; exact W64.wrap _);have h0:K7 w g a c L (N2+1) g4 g6 g7 ra rc A co B7 ⟨Js,sq,Zu,0,mm,[]⟩ OY 0 false false V6.drew/\(false=true->false=true)/\(false=true->false=true):=⟨LZ vJ.out,id,id⟩;go_upto_region 7 with fail;refine Zx (fun listed Zh V=>∃ b0 b1 b2 b3 b4 b5 b6 b7:Bool,listed=#[b0,b1,b2,b3,b4,b5,b6,b7]/\Zh={ tmps:=#[Z5 g 0,.agg #[.slice ra n rc,Z7 co],Z7 p,undef,Z5 g4 0,undef,Z5 g6 0,Z5 g7 0,Z8 n,u9,undef,undef,u12,u13,u14,u15,u16,u17,u18,u19,u20,u21,u22,u23,u24,u25,u26,u27,u28,u29,u30,u31,u32,u33,u34,u35,u36,u37,u38,u39,u40,u41,u42,u43,u44,Z5 g 0,Z8 v10,ZW,(cond b0 (Z5 g7 1) (u48)),(cond b1 (Z7 sq) (u49)),(cond b2 (Z5 g 0) (u50)),(cond b3 (Z8 v9) (u51)),(cond b4 (Z7 v9) (u52)),(cond b5 (Z7 OY) (u53)),(cond b6 (Z5 g7 1) (u54)),u55,u56,u57,u58,u59,u60,u61,u62,u63,u64,u65,u66,u67,u68,u69,u70,u71,u72,u73,u74,u75,u76,u77,u78,u79,u80,u81,u82,u83,u84,u85,u86,u87,u88,u89,u90,u91,u92,u93,u94,u95],defers:=[] }/\(K7 w g a c L (N2+1) g4 g6 g7 ra rc A co B7 ⟨Js,sq,Zu,0,mm,[]⟩ OY 0 b3 b7 V/\(b7=true->b1=true)/\(b5=true->b1=true))) (by kernel_rfl) (by kernel_rfl) ?_ ?_ ?_
     ·exact⟨_,_,_,_,_,_,_,_,rfl,rfl,h0⟩
     ·intro i9 listed Zh V hi9 hr hJ;obtain⟨b0,b1,b2,b3,b4,b5,b6,b7,rfl,rfl,hF⟩:=hJ;have hi2:i9<8:=hi9;have hi3:i9=0∨i9=1∨i9=2∨i9=3∨i9=4∨i9=5∨i9=6∨i9=7:=(by omega);rcases hi3 with rfl | rfl | rfl | rfl | rfl | rfl | rfl | rfl
      ·obtain rfl:b0=false:=Z4 hr;refine ZM rfl (by kernel_rfl) (some 48) rfl (Z5 g7 1) V (by kernel_rfl) ?_;exact⟨_,_,_,_,_,_,_,_,rfl,rfl,hF⟩
      ·obtain rfl:b1=false:=Z4 hr;obtain rfl:b0=true:=ZX hr 0;obtain rfl:b7=false:=ff hF.2.1 rfl;refine Zv rfl (by kernel_rfl) (some 49) rfl 24 (.tmp 48) rfl ⟨g7,1,none⟩ (Z7 sq) (by kernel_rfl) ((St.b7 hF.1).ZQ 1) ?_;exact⟨_,_,_,_,_,_,_,_,rfl,rfl,hF.1,(fun _=>rfl),fun _=>rfl⟩
      ·obtain rfl:b2=false:=Z4 hr;refine ZM rfl (by kernel_rfl) (some 50) rfl (Z5 g 0) V (by kernel_rfl) ?_;exact⟨_,_,_,_,_,_,_,_,rfl,rfl,hF⟩
      ·obtain rfl:b3=false:=Z4 hr;obtain rfl:b2=true:=ZX hr 2;refine Ym rfl (by kernel_rfl) (some 51) rfl 35 #[Z5 g 0,Z8 3] (by kernel_rfl) ((CX V (St.ns hF.1)).mono ?_);rintro e V2 ⟨rfl,hns,hbt⟩;exact⟨_,rfl,_,_,_,_,_,_,_,_,rfl,rfl,St.call hF.1 KO.out hns hbt,hF.2⟩
      ·obtain rfl:b4=false:=Z4 hr;obtain rfl:b3=true:=ZX hr 3;refine ZM rfl (by kernel_rfl) (some 52) rfl (Z7 v9) V (Vw rfl v9 (by omega) (by omega) (by kernel_rfl) _) ?_;exact⟨_,_,_,_,_,_,_,_,rfl,rfl,hF⟩
      ·obtain rfl:b5=false:=Z4 hr;obtain rfl:b1=true:=ZX hr 1;obtain rfl:b4=true:=ZX hr 4;refine ZM rfl (by kernel_rfl) (some 53) rfl (Z7 OY) V (by rw[<- aw9]; exact ah4 rfl sq v9 (by kernel_rfl) (by kernel_rfl) _) ?_;exact⟨_,_,_,_,_,_,_,_,rfl,rfl,hF.1,(fun _=>rfl),fun _=>rfl⟩
      ·obtain rfl:b6=false:=Z4 hr;refine ZM rfl (by kernel_rfl) (some 54) rfl (Z5 g7 1) V (by kernel_rfl) ?_;exact⟨_,_,_,_,_,_,_,_,rfl,rfl,hF⟩
      ·obtain rfl:b7=false:=Z4 hr;obtain rfl:b6=true:=ZX hr 6;obtain rfl:b5=true:=ZX hr 5;obtain⟨V2,hst,hX2,-,hbt⟩:=Zm (i:=1) (ty:=24) (v:=Z7 OY) (cs':=ZA ⟨Js,OY,Zu,0,mm,[]⟩ none 0) (w0:=V) (B:=g7) (St.b7 hF.1) (Below.refl _ _) (Nat.le_refl _) (by show 1<6; decide) rfl (by kernel_rfl) rfl;refine Zd rfl (by kernel_rfl) rfl 24 (.tmp 54) (.tmp 53) rfl (Z5 g7 1) (Z7 OY) (by kernel_rfl) (by kernel_rfl) _ hst ?_;exact⟨_,_,_,_,_,_,_,_,rfl,rfl,St.set hF.1 KO.out hbt hX2 rfl,(fun _=>hF.2.2 rfl),fun _=>hF.2.2 rfl⟩
     ·intro Zh V hJ;obtain⟨b0,b1,b2,b3,b4,b5,b6,b7,he,rfl,hF⟩:=hJ;have he:(#[true,true,true,true,true,true,true,true]:Array Bool)=#[b0,b1,b2,b3,b4,b5,b6,b7]:=he;simp only[Array.mk.injEq,List.cons.injEq,and_true] at he;obtain⟨rfl,rfl,rfl,rfl,rfl,rfl,rfl,rfl⟩:=he;simp only[cond_true];have IK:Hid (St w g a c L (N2+1+1) g4 g6 g7 ra rc A co B7 ⟨Js,OY,Zu,0,mm,[]⟩ none 0 V):=Z9 hF.1;clear hF h0 CX;go_wp2_with fail;go_meet;exact⟨N2+1+1,OY,rfl,Z9 (by have:=jw.out; omega),Z9 hw3,IK⟩
   case rest=>
    obtain⟨N3,OY,rfl,ax0,HW3,IK⟩:=hcut;clear vJ jw;obtain⟨v9,vK,hv9⟩:=Ux L N3 5 (by decide);have CX:∀ V,OE V g a c L N3->Calls Tryz.prog 35 #[Z5 g 0,Z8 5] V fun e w'=>e=.returned (Z8 v9)/\OE w' g a c L (N3+1)/\But g V w':=fun V hV=>Xq hV HL.out (by have:=HKK.out; have:=ax0.out; omega) 5 (by decide) (by decide) vK;obtain⟨f1,hf1⟩:=ZR (IntKind.u64.wrap (Zu*p));obtain⟨f2,hf2⟩:=ZR (IntKind.u64.wrap (f1*(1+(v9:Int))));have HW4:Hid (W64 f2):=Z9 (by rw[<- hf2]; exact W64.wrap _);have h0:K7 w g a c L N3 g4 g6 g7 ra rc A co B7 ⟨Js,OY,Zu,0,mm,[]⟩ OY f2 false false wc.drew/\True:=⟨LZ IK.out,trivial⟩;go_upto_region 8 with fail;refine Zx (fun listed Zh V=>∃ b0 b1 b2 b3 b4 b5 b6 b7 b8 b9 b10:Bool,listed=#[b0,b1,b2,b3,b4,b5,b6,b7,b8,b9,b10]/\Zh={ tmps:=#[Z5 g 0,.agg #[.slice ra n rc,Z7 co],Z7 p,undef,Z5 g4 0,undef,Z5 g6 0,Z5 g7 0,Z8 n,u9,undef,undef,u12,u13,u14,u15,u16,u17,u18,u19,u20,u21,u22,u23,u24,u25,u26,u27,u28,u29,u30,u31,u32,u33,u34,u35,u36,u37,u38,u39,u40,u41,u42,u43,u44,u45,u46,u47,u48,u49,u50,u51,u52,u53,u54,(cond b0 (Z5 g7 2) (u55)),(cond b1 (Z7 Zu) (u56)),(cond b2 (Z7 p) (u57)),(cond b3 (Z7 f1) (u58)),(cond b4 (Z5 g 0) (u59)),(cond b5 (Z8 v9) (u60)),(cond b6 (Z8 (1+v9:Nat)) (u61)),(cond b7 (Z7 (1+v9:Nat)) (u62)),(cond b8 (Z7 f2) (u63)),(cond b9 (Z5 g7 3) (u64)),u65,u66,u67,u68,u69,u70,u71,u72,u73,u74,u75,u76,u77,u78,u79,u80,u81,u82,u83,u84,u85,u86,u87,u88,u89,u90,u91,u92,u93,u94,u95],defers:=[] }/\(K7 w g a c L N3 g4 g6 g7 ra rc A co B7 ⟨Js,OY,Zu,0,mm,[]⟩ OY f2 b5 b10 V/\True)) (by kernel_rfl) (by kernel_rfl) ?_ ?_ ?_
    ·exact⟨_,_,_,_,_,_,_,_,_,_,_,rfl,rfl,h0⟩
    ·intro i9 listed Zh V hi9 hr hJ;obtain⟨b0,b1,b2,b3,b4,b5,b6,b7,b8,b9,b10,rfl,rfl,hF⟩:=hJ;have hi2:i9<11:=hi9;have hi3:i9=0∨i9=1∨i9=2∨i9=3∨i9=4∨i9=5∨i9=6∨i9=7∨i9=8∨i9=9∨i9=10:=(by omega);rcases hi3 with rfl | rfl | rfl | rfl | rfl | rfl | rfl | rfl | rfl | rfl | rfl
     ·obtain rfl:b0=false:=Z4 hr;refine ZM rfl (by kernel_rfl) (some 55) rfl (Z5 g7 2) V (by kernel_rfl) ?_;exact⟨_,_,_,_,_,_,_,_,_,_,_,rfl,rfl,hF⟩
     ·obtain rfl:b1=false:=Z4 hr;obtain rfl:b0=true:=ZX hr 0;refine Zv rfl (by kernel_rfl) (some 56) rfl 24 (.tmp 55) rfl ⟨g7,2,none⟩ (Z7 Zu) (by kernel_rfl) ((St.b7 hF.1).ZQ 2) ?_;exact⟨_,_,_,_,_,_,_,_,_,_,_,rfl,rfl,hF⟩
     ·obtain rfl:b2=false:=Z4 hr;refine ZM rfl (by kernel_rfl) (some 57) rfl (Z7 p) V (by kernel_rfl) ?_;exact⟨_,_,_,_,_,_,_,_,_,_,_,rfl,rfl,hF⟩
     ·obtain rfl:b3=false:=Z4 hr;obtain rfl:b1=true:=ZX hr 1;obtain rfl:b2=true:=ZX hr 2;refine ZM rfl (by kernel_rfl) (some 58) rfl (Z7 f1) V (by rw[<- hf1]; exact pJ rfl Zu p (by kernel_rfl) (by kernel_rfl) _) ?_;exact⟨_,_,_,_,_,_,_,_,_,_,_,rfl,rfl,hF⟩
     ·obtain rfl:b4=false:=Z4 hr;refine ZM rfl (by kernel_rfl) (some 59) rfl (Z5 g 0) V (by kernel_rfl) ?_;exact⟨_,_,_,_,_,_,_,_,_,_,_,rfl,rfl,hF⟩
     ·obtain rfl:b5=false:=Z4 hr;obtain rfl:b4=true:=ZX hr 4;refine Ym rfl (by kernel_rfl) (some 60) rfl 35 #[Z5 g 0,Z8 5] (by kernel_rfl) ((CX V (St.ns hF.1)).mono ?_);rintro e V2 ⟨rfl,hns,hbt⟩;exact⟨_,rfl,_,_,_,_,_,_,_,_,_,_,_,rfl,rfl,St.call hF.1 KO.out hns hbt,hF.2⟩
     ·obtain rfl:b6=false:=Z4 hr;obtain rfl:b5=true:=ZX hr 5;refine ZM rfl (by kernel_rfl) (some 61) rfl (Z8 (1+v9:Nat)) V (ZH rfl 1 v9 (by omega) (by kernel_rfl) (by kernel_rfl) _) ?_;exact⟨_,_,_,_,_,_,_,_,_,_,_,rfl,rfl,hF⟩
     ·obtain rfl:b7=false:=Z4 hr;obtain rfl:b6=true:=ZX hr 6;refine ZM rfl (by kernel_rfl) (some 62) rfl (Z7 (1+v9:Nat)) V (Vw rfl (1+v9:Nat) (by omega) (by omega) (by kernel_rfl) _) ?_;exact⟨_,_,_,_,_,_,_,_,_,_,_,rfl,rfl,hF⟩
     ·obtain rfl:b8=false:=Z4 hr;obtain rfl:b3=true:=ZX hr 3;obtain rfl:b7=true:=ZX hr 7;refine ZM rfl (by kernel_rfl) (some 63) rfl (Z7 f2) V (by rw[<- hf2,show(1+(v9:Int))=((1+v9:Nat):Int) by omega]; exact pJ rfl f1 (1+v9:Nat) (by kernel_rfl) (by kernel_rfl) _) ?_;exact⟨_,_,_,_,_,_,_,_,_,_,_,rfl,rfl,hF⟩
     ·obtain rfl:b9=false:=Z4 hr;refine ZM rfl (by kernel_rfl) (some 64) rfl (Z5 g7 3) V (by kernel_rfl) ?_;exact⟨_,_,_,_,_,_,_,_,_,_,_,rfl,rfl,hF⟩
     ·obtain rfl:b10=false:=Z4 hr;obtain rfl:b9=true:=ZX hr 9;obtain rfl:b8=true:=ZX hr 8;obtain⟨V2,hst,hX2,-,hbt⟩:=Zm (i:=3) (ty:=24) (v:=Z7 f2) (cs':=ZA ⟨Js,OY,Zu,f2,mm,[]⟩ none 0) (w0:=V) (B:=g7) (St.b7 hF.1) (Below.refl _ _) (Nat.le_refl _) (by show 3<6; decide) rfl (by kernel_rfl) rfl;refine Zd rfl (by kernel_rfl) rfl 24 (.tmp 64) (.tmp 63) rfl (Z5 g7 3) (Z7 f2) (by kernel_rfl) (by kernel_rfl) _ hst ?_;exact⟨_,_,_,_,_,_,_,_,_,_,_,rfl,rfl,St.set hF.1 KO.out hbt hX2 rfl,trivial⟩
    ·intro Zh V hJ;obtain⟨b0,b1,b2,b3,b4,b5,b6,b7,b8,b9,b10,he,rfl,hF⟩:=hJ;have he:(#[true,true,true,true,true,true,true,true,true,true,true]:Array Bool)=#[b0,b1,b2,b3,b4,b5,b6,b7,b8,b9,b10]:=he;simp only[Array.mk.injEq,List.cons.injEq,and_true] at he;obtain⟨rfl,rfl,rfl,rfl,rfl,rfl,rfl,rfl,rfl,rfl,rfl⟩:=he;simp only[cond_true];have wC:Hid (St w g a c L (N3+1) g4 g6 g7 ra rc A co B7 ⟨Js,OY,Zu,f2,mm,[]⟩ none 0 V):=Z9 hF.1;have HN5:Hid (N3+1<=k+8):=Z9 (by have:=ax0.out; omega);clear hF h0 CX IK hf1 hf2 vK hv9;obtain⟨v11,ax1,aT0⟩:=Ux L (N3+1) 9 (by decide);have ax2:=Xq wC.out.ns HL.out (by have:=HKK.out; have:=HN5.out; omega) 9 (by decide) (by decide) ax1;go_upto_region 9 with fail;refine wl<|ZV (Z5 g 0)<|YW (Z8 v11) (fun w'=>OE w' g a c L ((N3+1)+1)/\But g V w') ax2 (fun V9 hq11=>?_);simp only[pu];have Bj:=Z9 (wC.out.call KO.out hq11.1 hq11.2);have ES:Hid (N3+1+1<=k+9):=Z9 (by have:=HN5.out; omega);clear hq11 ax2 wC HN5;obtain⟨tb,htb⟩:=ZR (decide ((v11:Int)=0));refine YC (.bool tb) (ZI rfl v11 0 htb)<|wn ?_;simp only[pu];clear htb;go_upto_if 67 with fail;go_cut [8] (fun s8 wx=>∃ (N4:Nat) (fe:Int),s8=Z8 n/\Hid (N4<=k+10)/\Hid (W64 fe)/\Hid (St w g a c L N4 g4 g6 g7 ra rc A co B7 ⟨Js,OY,Zu,fe,mm,[]⟩ none 0 wx))
     case first=>
      cases tb
      ·go_wp2_with fail;go_meet;exact⟨N3+1+1,f2,rfl,Z9 (by have:=ES.out; omega),HW4,Bj⟩
      ·obtain⟨v12,ax3,aM3⟩:=Ux L (N3+1+1) 200 (by decide);have ax4:=Xq Bj.out.ns HL.out (by have:=HKK.out; have:=ES.out; omega) 200 (by decide) (by decide) ax3;go_upto_region 10 with fail;refine wl<|ZV (Z5 g 0)<|YW (Z8 v12) (fun w'=>OE w' g a c L ((N3+1+1)+1)/\But g V9 w') ax4 (fun V10 hq12=>?_);have hS7:=Bj.out.call KO.out hq12.1 hq12.2;obtain⟨V11,ab9,iw,-,ac0⟩:=Zm (i:=3) (ty:=24) (v:=Z7 v12) (cs':=ZA ⟨Js,OY,Zu,v12,mm,[]⟩ none 0) (w0:=V10) (B:=g7) hS7.b7 (Below.refl _ _) (Nat.le_refl _) (by show 3<6; decide) rfl (by kernel_rfl) rfl;have HS8:=Z9 (St.set (x':=⟨Js,OY,Zu,v12,mm,[]⟩) hS7 KO.out ac0 iw rfl);refine YN (Z7 v12) (Vw rfl v12 (by omega) (by omega) (by kernel_rfl) _)<|ZV (Z5 g7 3)<|Zr rfl (ab9)<|wn ?_;simp only[pu];clear ab9 iw ac0 hS7 hq12 ax4;go_wp2_with fail;go_meet;exact⟨N3+1+1+1,v12,rfl,Z9 (by have:=ES.out; omega),Z9 ⟨by omega,by omega⟩,HS8⟩
     case rest=>
      obtain⟨N4,fe,rfl,pI,HWF,HS7⟩:=hcut;clear Bj ES;obtain⟨v13,ax5,aT1⟩:=Ux L N4 3 (by decide);have ax6:=Xq HS7.out.ns HL.out (by have:=HKK.out; have:=pI.out; omega) 3 (by decide) (by decide) ax5;go_upto_region 11 with fail;refine wl<|ZV (Z5 g 0)<|YW (Z8 v13) (fun w'=>OE w' g a c L (N4+1)/\But g wc w') ax6 (fun V12 Et=>?_);refine ZV (Z8 v13)<|wn ?_;simp only[pu];have HS8:=Z9 (HS7.out.call KO.out Et.1 Et.2);have HN8:Hid (N4+1<=k+11+3*0):=Z9 (by have:=pI.out; omega);clear Et ax6 HS7 pI;have aS7:v13<=2:=(by omega);go_wp2_with fail;go_loopg [10] (v13+1) (fun gg s10 wx=>∃ (z:Int) (M:List Tf) (a2:Option Addr) (c2 N:Nat),s10=Z8 z/\-1<=z/\(M.length:Int)+z=v13/\Hid (N<=k+11+3*M.length)/\Hid (∀ y,y∈M->vM y.1/\0<y.2/\W64 y.2)/\Hid (St w g a c L N g4 g6 g7 ra rc A co B7 ⟨Js,OY,Zu,fe,mm,M⟩ a2 c2 wx)/\((gg:Nat):Int)=z+1)
      case atStart=>exact⟨v13,[],none,0,N4+1,rfl,by omega,by simp,HN8,Z9 (fun y hy=>by cases hy),HS8,by omega⟩
      case round=>
       obtain⟨z,M,a2,c2,N,rfl,hz1,hz2,HNN,HMQ,HS,hg⟩:=hrel;clear HS8 HN8;by_cases hlt:0<=z
       ·obtain⟨i,rfl⟩:∃ i:Nat,z=i:=⟨z.toNat,by omega⟩;have HG:Hid (gk=i+1/\M.length+i=v13/\i<=2/\M.length<=2):=Z9 ⟨by omega,by omega,by omega,by omega⟩;have CN:=xW (HS.out.ns.ns (Nat.le_refl N)) HL.out (by have:=HNN.out; have:=HKK.out; have:=HG.out; omega);clear hz1 hz2 hg;go_upto_region 12 with fail;refine wl<|ZV (Z8 i)<|ZN (U8 rfl (i) (0) dT)<|wn ?_;simp only[pu];go_upto_region 14 with fail;refine wl<|ZV (Z5 g 0)<|XZ (fun v w'=>∃ s,v=.string s/\vM s/\NS w' g a c L (N+1)/\But g wr w') ((CN).mono fun e w' z=>by obtain⟨s,h1,h2⟩:=z; exact⟨_,h1,s,rfl,h2⟩) (fun vv Y1 hq=>?_);obtain⟨tn,rfl,ax7,ax8,pG⟩:=hq;obtain⟨N9,hN9,ah5⟩:=ax8;have hS9:=HS.out.call KO.out ah5 pG;obtain⟨v14,ac1,aM4⟩:=Ux L N9 60 (by decide);have ax9:=Xq ah5 HL.out (by have:=HKK.out; have:=HNN.out; have:=HG.out; omega) 60 (by decide) (by decide) ac1;refine ZV (Z5 g 0)<|YW (Z8 v14) (fun w'=>OE w' g a c L (N9+1)/\But g Y1 w') ax9 (fun Y2 ah6=>?_);have pF:=hS9.call KO.out ah6.1 ah6.2;obtain⟨Y3,hst3,hb3,Wy⟩:=TI Y2 (tn,1+(v14:Int));refine YN (Z7 v14) (Vw rfl v14 (by omega) (by omega) (by kernel_rfl) _)<|YC (Z7 (1+v14)) (pR rfl 1 v14 (by omega) (by omega))<|ZV (.agg (Yz (tn,1+(v14:Int)))) ?_;refine Zz rfl (some 11) rfl (Z5 Y2.heap.size 0) (Y2.alloc (.cells (Yz Uk) 60)) (by kernel_rfl) ?_;refine Zr rfl (hst3)<|wn ?_;have iq:=Z9 (pF.below hb3);have hoff:(Value.slice a2 M.length c2).ownBlock≠some Y2.heap.size:=fun e=>(by have:=(pF.rt.lt _ e).2; omega);have ah7:Hid (N9+1<=k+11+3*M.length+2):=Z9 (by have:=HNN.out; omega);have hsz2:=pF.sz;have aM5:=pF.bt.1.size;obtain⟨q,hq⟩:=ZR Y2.heap.size;rw[hq] at Wy hoff hsz2 aM5 ⊢;have ER:=Z9 ax7;obtain⟨v15,ac2,aT2⟩:=Ux L (N9+1) 12 (by decide);have ay0:=Xq iq.out.ns HL.out (by have:=HKK.out; have:=HNN.out; have:=HG.out; have:=ah7.out; omega) 12 (by decide) (by decide) ac2;have ay1:Hid ((0:Int)<1+v14/\W64 (1+v14)):=Z9 ⟨by omega,by omega,by omega⟩;obtain⟨m1,hm1⟩:=ZR (1+(v14:Int));rw[hm1] at Wy ay1 ⊢;clear hst3 hS9 pF hb3 ah6 ax9 hq ax7 ah5 pG CN hN9 ac1 aM4 hm1 ac2;go_upto_region 15 with fail;refine wl<|ZV (Z5 g 0)<|YW (Z8 v15) (fun w'=>OE w' g a c L ((N9+1)+1)/\But g Y3 w') ay0 (fun Y4 ig=>?_);simp only[pu];have vI:=Z9 (iq.out.call KO.out ig.1 ig.2);have Qe:=Wy.but ig.2 (by have:=iq.out.bt.1.size; have:=Xi.out; omega);clear ig ay0 iq Wy;by_cases hv0:v15=0
        ·refine ZN (ZI rfl (v15) (0) dT)<|wn ?_;simp only[pu];obtain⟨Y5,hst5,Jl,-,Xh⟩:=Zm (i:=1) (ty:=24) (v:=Z7 9223372036854775808) (cs':=Yz (tn,9223372036854775808)) (w0:=Y4) (B:=q) Qe (Below.refl _ _) (Nat.le_refl _) (by show 1<2; decide) rfl (by kernel_rfl) rfl;have gZ:=Z9 (vI.out.off KO.out Xh (show w.heap.size<=q by omega) (show B7<=q by omega) hoff);have HAM:Hid ((0:Int)<9223372036854775808/\W64 9223372036854775808):=Z9 ⟨by decide,by decide,by decide⟩;go_upto_region 16 with fail;refine wl<|ZV (Z5 q 1)<|Zr rfl (hst5)<|wn ?_;simp only[pu];clear hst5 Xh Qe vI;obtain⟨a7,c7,Y6,hap,I5,hb6⟩:=LX gZ.out.rt gZ.out.sz (tn,9223372036854775808) (by have:=HG.out; show M.length<=100000; omega);have WY:Hid (Bx Y5 q (Yz (tn,9223372036854775808)) 60):=Z9 Jl;obtain⟨Y7,Xe,hS7⟩:=gZ.out.grow KO.out HWB.out hb6 I5;have ah8:=Z9 hS7;have hbd:=Rk (tn,9223372036854775808) Y5;have ah9:Hid (∀ y,y∈M++[(tn,9223372036854775808)]->vM y.1/\0<y.2/\W64 y.2):=Z9 (fun y hy=>by
          rcases List.mem_append.1 hy with hy | hy
          ·exact HMQ.out y hy
          ·rw[List.mem_singleton] at hy;subst hy;exact⟨ER.out,HAM.out⟩)
         have Aw:Hid ((M++[(tn,9223372036854775808)]).length=M.length+1):=Z9 (by rw[List.length_append]; rfl);clear I5 hb6 hS7;go_upto_region 17 with fail;refine wl<|ZV (Z5 g7 5)<|ZK rfl ⟨g7,5,none⟩ (.slice a2 M.length c2) (gZ.out.b7.ZQ 5)<|ZK rfl ⟨q,0,none⟩ (.agg (Yz (tn,9223372036854775808))) (YI WY.out) ?_;refine Zw (by kernel_rfl) (some 92) rfl 61 1 #[(0,.tmp 91)] rfl #[(0,.agg (Yz (tn,9223372036854775808)))] (by kernel_rfl) (.slice (some ⟨Y5.heap.size,0,none⟩) 1 1) _ hbd ?_;refine Zk rfl (some 93) rfl 61 rfl (.tmp 90) (.tmp 92) 61 rfl (.slice a2 M.length c2) (.slice (some ⟨Y5.heap.size,0,none⟩) 1 1) (.slice a7 (M++[(tn,9223372036854775808)]).length c7) Y6 (by kernel_rfl) (by kernel_rfl) hap ?_;refine ZV (Z5 g7 5)<|Zr rfl (Xe)<|wn ?_;simp only[pu];clear hap Xe hbd WY;go_upto_region 13 with fail;refine wl<|ZV (Z8 i)<|YN (Z8 ((i:Int)-1)) (sub_one rfl i (by have:=HG.out; omega) (by kernel_rfl) _)<|ZV (Z8 ((i:Int)-1))<|wn ?_;simp only[pu];go_wp2_with fail;go_roundg i
         case measure=>have:=HG.out; omega
         case rel=>exact⟨(i:Int)-1,M++[(tn,9223372036854775808)],a7,c7,N9+1+1,rfl,by omega,by have:=HG.out; have:=Aw.out; omega,Z9 (by have:=ah7.out; have:=Aw.out; omega),ah9,ah8,by omega⟩
        ·refine ZN (ZI rfl (v15) (0) dF)<|wn ?_;simp only[pu];have HAM:=ay1;obtain⟨a7,c7,Y6,hap,I5,hb6⟩:=LX vI.out.rt vI.out.sz (tn,m1) (by have:=HG.out; show M.length<=100000; omega);have WY:Hid (Bx Y4 q (Yz (tn,m1)) 60):=Z9 Qe;obtain⟨Y7,Xe,hS7⟩:=vI.out.grow KO.out HWB.out hb6 I5;have ah8:=Z9 hS7;have hbd:=Rk (tn,m1) Y4;have ah9:Hid (∀ y,y∈M++[(tn,m1)]->vM y.1/\0<y.2/\W64 y.2):=Z9 (fun y hy=>by
          rcases List.mem_append.1 hy with hy | hy
          ·exact HMQ.out y hy
          ·rw[List.mem_singleton] at hy;subst hy;exact⟨ER.out,HAM.out⟩)
         have Aw:Hid ((M++[(tn,m1)]).length=M.length+1):=Z9 (by rw[List.length_append]; rfl);clear I5 hb6 hS7;go_upto_region 17 with fail;refine wl<|ZV (Z5 g7 5)<|ZK rfl ⟨g7,5,none⟩ (.slice a2 M.length c2) (vI.out.b7.ZQ 5)<|ZK rfl ⟨q,0,none⟩ (.agg (Yz (tn,m1))) (YI WY.out) ?_;refine Zw (by kernel_rfl) (some 92) rfl 61 1 #[(0,.tmp 91)] rfl #[(0,.agg (Yz (tn,m1)))] (by kernel_rfl) (.slice (some ⟨Y4.heap.size,0,none⟩) 1 1) _ hbd ?_;refine Zk rfl (some 93) rfl 61 rfl (.tmp 90) (.tmp 92) 61 rfl (.slice a2 M.length c2) (.slice (some ⟨Y4.heap.size,0,none⟩) 1 1) (.slice a7 (M++[(tn,m1)]).length c7) Y6 (by kernel_rfl) (by kernel_rfl) hap ?_;refine ZV (Z5 g7 5)<|Zr rfl (Xe)<|wn ?_;simp only[pu];clear hap Xe hbd WY;go_upto_region 13 with fail;refine wl<|ZV (Z8 i)<|YN (Z8 ((i:Int)-1)) (sub_one rfl i (by have:=HG.out; omega) (by kernel_rfl) _)<|ZV (Z8 ((i:Int)-1))<|wn ?_;simp only[pu];go_wp2_with fail;go_roundg i
         case measure=>have:=HG.out; omega
         case rel=>exact⟨(i:Int)-1,M++[(tn,m1)],a7,c7,N9+1+1,rfl,by omega,by have:=HG.out; have:=Aw.out; omega,Z9 (by have:=ah7.out; have:=Aw.out; omega),ah9,ah8,by omega⟩
       ·obtain⟨XI,hZ⟩:=Zn (y:=⟨Js,OY,Zu,fe,mm,M⟩) (a':=a2) (c':=c2) HS.out.b6;have YL:=Z9 (ZE HS.out.b7);have Xw:But g6 wr (wr.setRow g6 (ZA ⟨Js,OY,Zu,fe,mm,M⟩ a2 c2)):=But.setRow wr _;have HE:=Z9 (⟨⟨Js,OY,Zu,fe,mm,M⟩,a2,c2,rfl,(HS.out.rt.but Xw KO.out.l6).base HWB.out,⟨xU.out.1,HW3.out,aw5.out,HWF.out,HMM.out,HMQ.out⟩,by show 1<=M.length; omega,by show M.length<=3; omega,(HS.out.ns.but Xw (by have:=Xi.out; have:=GK.out; omega) (fun hl y hy=>by have:=HAB.out hl y hy; have:=GK.out; omega)).ns (by have:=HNN.out; omega),NP HS.out.bt Xw GK.out.2.1 (by have:=Xi.out; have:=GK.out; omega)⟩:av8 w g a c L k (.returned (.agg (ZA ⟨Js,OY,Zu,fe,mm,M⟩ a2 c2))) _);generalize World.setRow _ g6 (ZA ⟨Js,OY,Zu,fe,mm,M⟩ a2 c2)=V9 at *
        clear Xw HS hg;go_upto_region 12 with fail;refine wl<|ZV (Z8 z)<|ZN (U8 rfl (z) (0) dF)<|wn ?_;simp only[pu];go_upto_region 18 with fail;refine wl<|ZK rfl ⟨g7,0,none⟩ (.agg (ZA ⟨Js,OY,Zu,fe,mm,M⟩ a2 c2)) (YL.out)<|Zr rfl (XI)<|wn ?_;simp only[pu];go_wp2_with fail;exact bodyPost_ret (Yk (p:=6) rfl (by kernel_rfl) (ZE hZ)) rfl HE.out
end Go.Proofs.YtfpnnmeblefkkaaGreatDoor
namespace Go.Proofs.YtfpnnmeblefkkaaGreatDoor.Lg
open Go.RowKit
theorem af4 {ρ:Operand->Value}{o:Oper}{x y:Operand}(ho:o.op=.binOp .add 3 x y 3)(a b:Int)(hx:ρ x=Z8 a)(hy:ρ y=Z8 b)(w:World):(execOp ρ o).run Tryz.prog w=.ok (.value (Z8 (IntKind.i64.wrap (a+b)))) w:=by
 unfold execOp;simp only[ho,hx,hy];go_simp
theorem Hr {ρ:Operand->Value}{o:Oper}{x y:Operand}(ho:o.op=.binOp .gtr 3 x y 3)(a b:Int)(hx:ρ x=Z8 a)(hy:ρ y=Z8 b)(w:World):(execOp ρ o).run Tryz.prog w=.ok (.value (.bool (decide (b<a)))) w:=by
 unfold execOp;simp only[ho,hx,hy];go_simp
def Un (a b:ByteArray):Bool:=decide (a.data.toList<b.data.toList)
theorem pW:∀ (x y:List UInt8),Op.bytesLess x y=decide (x<y)
 | [],[]=>by simp[Op.bytesLess]
 | _::_,[]=>by simp[Op.bytesLess]
 | [],_::_=>by simp[Op.bytesLess]
 | a::x,b::y=>by
  unfold Op.bytesLess;rw[pW x y,Bool.eq_iff_iff];simp only[Bool.or_eq_true,Bool.and_eq_true,decide_eq_true_eq,beq_iff_eq,List.cons_lt_cons_iff]
theorem xX (a:ByteArray):a.toList=a.data.toList:=Lib.toList_data a
theorem ab6 (a b:ByteArray):Op.bytesLess a.toList b.toList=Un a b:=by rw[pW,xX,xX]; rfl
theorem eqB (a b:ByteArray):(a.toList == b.toList)=decide (a=b):=by
 rw[xX,xX];by_cases h:a=b
 ·subst h; simp
 ·rw[decide_eq_false h,beq_eq_false_iff_ne];intro e;exact h (ByteArray.ext (Array.toList_inj.1 e))
theorem Jm (a b:ByteArray):(a == b)=decide (a=b):=by rw[beq_toListBytes,eqB]
theorem L6 (a:ByteArray):Un a a=false:=decide_eq_false (List.lt_irrefl _)
theorem NQ {a b c:ByteArray}(h:Un a b=true)(g:Un b c=true):Un a c=true:=decide_eq_true (List.lt_trans (of_decide_eq_true h) (of_decide_eq_true g))
theorem qg {a b:ByteArray}(h:Un a b=true):Un b a=false:=by
 rw[Bool.eq_false_iff];intro g;have:=NQ h g;rw[L6] at this;cases this
theorem ag9 {a b:ByteArray}(h:Un a b=true):a≠b:=by
 rintro rfl;rw[L6] at h;cases h
theorem GU {a b:ByteArray}(h:Un a b=false)(hn:a≠b):Un b a=true:=by
 refine decide_eq_true ?_;have h1:¬ a.data.toList<b.data.toList:=of_decide_eq_false h;have h2:b.data.toList<=a.data.toList:=List.not_lt.1 h1;rcases List.le_iff_lt_or_eq.1 h2 with h3 | h3
 ·exact h3
 ·exact absurd (ByteArray.ext (Array.toList_inj.1 h3)).symm hn
theorem ab1 {ρ:Operand->Value}{o:Oper}{x y:Operand}(ho:o.op=.binOp .lss 9 x y 9)(a b:ByteArray){t:Bool}(ht:Un a b=t)(hx:ρ x=.string a)(hy:ρ y=.string b)(w:World):(execOp ρ o).run Tryz.prog w=.ok (.value (.bool t)) w:=by
 have e:Op.bytesLess a.toList b.toList=t:=(ab6 a b).trans ht;unfold execOp;simp only[ho,hx,hy];go_simp
theorem yh {ρ:Operand->Value}{o:Oper}{x y:Operand}(ho:o.op=.binOp .gtr 9 x y 9)(a b:ByteArray){t:Bool}(ht:Un b a=t)(hx:ρ x=.string a)(hy:ρ y=.string b)(w:World):(execOp ρ o).run Tryz.prog w=.ok (.value (.bool t)) w:=by
 have e:(!(Op.bytesLess a.toList b.toList || a.toList == b.toList))=t:=by
  rw[ab6,eqB,<- ht];by_cases h:Un a b=true
  ·rw[h,qg h]; rfl
  ·have h1:Un a b=false:=(by simpa using h);by_cases h2:a=b
   ·subst h2; rw[L6]; simp
   ·rw[h1,GU h1 h2,decide_eq_false h2]; rfl
 unfold execOp;simp only[ho,hx,hy];go_simp
theorem xY (x y:Int)(hx:0<=x)(hy:0<=y)(w:World):(callFunc 156 #[Z7 x,Z7 y,Z7 0]).run Tryz.prog w =
  .ok (.value (.tuple #[Z7 ((x+y) % 18446744073709551616),Z7 ((x+y) / 18446744073709551616)])) w:=by
 rw[run_callFunc_extern Tryz.func156 (by kernel_rfl) (by kernel_rfl) (by kernel_rfl) (e:=add64Entry) (by kernel_rfl),run_add64 x y 0 hx hy (by omega) (by omega)];simp only[Result.andThen,Int.add_zero]
def MW (a b:Int):Bool:=decide (a+b<18446744073709551616)
def MX (a b:Int):Int:=if a+b<18446744073709551616 then a+b else 0
theorem vN (a b:Int)(w:World)(ha:W64 a)(hb:W64 b) :
  Calls Tryz.prog 147 #[Z7 a,Z7 b] w fun e w'=>e=.returned (.tuple #[Z7 (MX a b),.bool (MW a b)])/\w=w':=by
 obtain⟨a0,a1⟩:=ha; obtain⟨b0,b1⟩:=hb;have hL:=xY a b a0 b0;by_cases h:a+b<18446744073709551616
 ·have e1:MX a b=a+b:=if_pos h;have e2:MW a b=true:=decide_eq_true h;have q1:(a+b) % 18446744073709551616=a+b:=by omega
  have q2:(a+b) / 18446744073709551616=0:=by omega
  simp only[q1,q2] at hL;rw[e1,e2];clear e1 e2 q1 q2;go_enter Tryz.func147,Tryz.ntmps147;go_wp2_with (simp only[hL])
  go_ret2;exact⟨rfl,rfl⟩
 ·have e1:MX a b=0:=if_neg h;have e2:MW a b=false:=decide_eq_false h;have q2:(a+b) / 18446744073709551616=1:=by omega
  simp only[q2] at hL;rw[e1,e2];clear e1 e2 q2;go_enter Tryz.func147,Tryz.ntmps147;go_wp2_with (simp only[hL])
  go_ret2;exact⟨rfl,rfl⟩
theorem yG (a b:Int)(w:World)(ha:W64 a)(hb:W64 b) :
  Calls Tryz.prog 112 #[Z7 a,Z7 b] w fun e w'=>e=.returned (.tuple #[Z7 (MX a b),.bool (MW a b)])/\w=w':=by
 obtain⟨a0,a1⟩:=ha; obtain⟨b0,b1⟩:=hb;by_cases h:a+b<18446744073709551616
 ·have e1:MX a b=a+b:=if_pos h;have e2:MW a b=true:=decide_eq_true h;have h':¬ (18446744073709551615-b<a):=by omega
  rw[e1,e2];clear e1 e2;go_enter Tryz.func112,Tryz.ntmps112;go_wp2;go_ret2;exact⟨rfl,rfl⟩
 ·have e1:MX a b=0:=if_neg h;have e2:MW a b=false:=decide_eq_false h;have h':18446744073709551615-b<a:=by omega
  rw[e1,e2];clear e1 e2;go_enter Tryz.func112,Tryz.ntmps112;go_wp2;go_ret2;exact⟨rfl,rfl⟩
def tot (l:List Int):Int:=l.foldl (· + ·) 0
def Lc (l:List Int):Bool:=decide (tot l<18446744073709551616)
def La (l:List Int):Int:=if tot l<18446744073709551616 then tot l else 0
theorem iD (l:List Int):∀ a:Int,l.foldl (· + ·) a=a+tot l:=by
 induction l with
 | nil=>intro a; simp[tot]
 | cons x l ih=>
  intro a;have h1:=ih (a+x);have h2:=ih (0+x);simp only[tot,List.foldl_cons] at *
  omega
theorem Ya (x:Int)(l:List Int):tot (x::l)=x+tot l:=by
 have:=iD l (0+x);simp only[tot,List.foldl_cons] at *
 omega
theorem Xv (l r:List Int):tot (l++r)=tot l+tot r:=by
 induction l with
 | nil=>simp[tot]
 | cons x l ih=>rw[List.cons_append,Ya,Ya,ih]; omega
theorem EH (l:List Int)(k:Nat)(h:k<l.length):tot (l.take (k+1))=tot (l.take k)+l.getD k 0:=by
 rw[List.take_succ_eq_append_getElem h,Xv,List.getD_eq_getElem?_getD,List.getElem?_eq_getElem h,Ya];simp[tot]
theorem WT (l:List Int):(∀ x,x∈l->0<=x)->0<=tot l:=by
 induction l with
 | nil=>intro _; simp[tot]
 | cons x l ih=>
  intro h;rw[Ya];have:=ih (fun y hy=>h y (List.mem_cons_of_mem _ hy));have:=h x (List.mem_cons_self ..);omega
theorem NW (l:List Int)(hw:∀ k,k<l.length->W64 (l.getD k 0))(x:Int)(hx:x∈l):W64 x:=by
 obtain⟨j,hj,rfl⟩:=List.getElem_of_mem hx;have:=hw j hj;rw[List.getD_eq_getElem?_getD,List.getElem?_eq_getElem hj] at this;exact this
theorem Ug (l:List Int)(hw:∀ k,k<l.length->W64 (l.getD k 0))(k:Nat):tot (l.take k)<=tot l:=by
 have h:=Xv (l.take k) (l.drop k);rw[List.take_append_drop] at h;have:=WT (l.drop k) (fun x hx=>(NW l hw x (List.mem_of_mem_drop hx)).1);omega
theorem IL (a:Option Addr)(cap:Nat)(l:List Int)(w:World)(hl:l.length<=9223372036854775807)(hc:∀ k,k<l.length->∃ b off,a=some ⟨b,off,none⟩/\w.cell? ⟨b,off+k,none⟩=some (Z7 (l.getD k 0)))(hw:∀ k,k<l.length->W64 (l.getD k 0)) :
  Calls Tryz.prog 137 #[.slice a l.length cap] w fun e w'=>e=.returned (.tuple #[Z7 (La l),.bool (Lc l)])/\w=w':=by
 go_enter Tryz.func137,Tryz.ntmps137;go_wp2_with fail;go_loopg [4,11] l.length (fun g s4 s11 wx=>w=wx/\∃ k:Nat,k<=l.length/\s4=Z7 (tot (l.take k))/\s11=Z8 k/\l.length-k=g/\Hid (tot (l.take k)<18446744073709551616))
 case atStart=>exact⟨rfl,0,by omega,rfl,rfl,rfl,Z9 (by simp[tot])⟩
 case round=>
  obtain⟨rfl,k,hk,rfl,rfl,rfl,ht⟩:=hrel;by_cases hlt:k<l.length
  ·obtain⟨b,off,ea,hcell⟩:=hc k hlt;have hx:=hw k hlt;have hts:=EH l k hlt;have ht0:=WT (l.take k) (fun x hx=>(NW l hw x (List.mem_of_mem_take hx)).1);have hA:=fun w=>vN (tot (l.take k)) (l.getD k 0) w ⟨ht0,by have:=ht.out; omega⟩ hx;have hle:=Ug l hw (k+1);obtain⟨x,hxe⟩:=ZR (l.getD k 0);obtain⟨t,hte⟩:=ZR (tot (l.take k));rw[hxe] at hcell hx hts hA;rw[hte] at hts hA ht0 ht;rw[hts] at hle;rw[hte];subst ea;clear hxe hte hc hw;by_cases hs:t+x<18446744073709551616
   ·have e1:MX t x=t+x:=if_pos hs;have e2:MW t x=true:=decide_eq_true hs;rw[e1,e2] at hA;have HS:=Z9 hts;have hs':=Z9 hs;clear e1 e2 hts hle;go_wp2_with (go_at_call 147; refine(hA _).mono ?_; rintro e w' ⟨rfl,rfl⟩)
    go_roundg (l.length-(k+1))
    case measure=>omega
    case rel=>exact⟨rfl,k+1,by omega,by rw[HS.out],by first | rfl | go_num,rfl,by rw[HS.out]; exact hs'⟩
   ·have e1:MX t x=0:=if_neg hs;have e2:MW t x=false:=decide_eq_false hs;rw[e1,e2] at hA;have f1:=Z9 (show La l=0 from if_neg (by omega));have f2:=Z9 (show Lc l=false from decide_eq_false (by omega));clear e1 e2 hts hle;go_wp2_with (go_at_call 147; refine(hA _).mono ?_; rintro e w' ⟨rfl,rfl⟩)
    go_ret2;exact⟨by rw[f1.out,f2.out]; rfl,rfl⟩
  ·obtain rfl:k=l.length:=(by omega);rw[List.take_length] at ht ⊢;have f1:=Z9 (show La l=tot l from if_pos ht.out);have f2:=Z9 (show Lc l=true from decide_eq_true ht.out);clear hc hw;go_wp2_with fail;go_ret2;exact⟨by rw[f1.out,f2.out]; rfl,rfl⟩
section
variable {P : Program} {t e s bytes : Nat} {z : Value}
theorem UG (hu:P.underlying t=some (.slice e))(hinfo:(P.info? e).map (fun i=>(i.zero,i.size,i.bytes))=some (some z,s,bytes))(hzs:z.cells.size=s)(hs:0<s)
  {w:World} {B n m:Nat} {v:Value} {xs:List Value} (hO:w.ownsRow B e s v n xs) (pa:Option Addr) (cp:Nat) (ys:List Value) (hP:Cs w pa ys) (hl:ys.length=m*s) (h1:∀ u∈ys,u.oneCell'=true) (hB:B<=w.heap.size) (hby:0<bytes) (hn:(n+m)*bytes<=140737488355328) :
  ∃ v' w',(Builtin.append_ #[t,t] t #[v,.slice pa m cp]).run P w=.ok v' w'/\w'.ownsRow B e s v' (n+m) (xs++ys)/\Below B w w'/\w.grownBy w' v.ownBlock/\(v'.ownBlock=v.ownBlock∨v'.ownBlock=some w.heap.size):=by
 obtain⟨i0,hi,hz0,hz1,hz2⟩:=info_parts hinfo;by_cases hy:ys=[]
 ·subst hy;obtain rfl:m=0:=by
   rcases Nat.eq_zero_or_pos m with h | h
   ·exact h
   ·have:=Nat.mul_pos h hs;rw[<- hl] at this;simp at this
  cases pa with
  | none=>
   refine⟨v,w,?_,by simpa using hO,Below.refl _ _,World.grownBy.refl w _,.inl rfl⟩;rcases hO.2 with⟨rfl,h0⟩ | ⟨g,cap,cur,rfl,_,_,hnc,_⟩
   ·simp[Builtin.append_,run_underlying hu,sizeOf,typeInfo,hi,Builtin.lenOf,Builtin.firstCells]
   ·simp[Builtin.append_,run_underlying hu,sizeOf,typeInfo,hi,Builtin.lenOf,Builtin.firstCells,hnc,storeCells]
  | some x=>
   obtain⟨v',w',hr,h2,h3,-,h4⟩:=run_append_own_at (P:=P) w B t t e i0 z s bytes hu hi hz0 hz1 hz2 hzs hs v n xs hO x 0 cp [] (by simp) (fun j u h=>by simp at h) (by simp) (by unfold maxLen; have:=Nat.le_mul_of_pos_right (n+0) hby; omega) hn hB;exact⟨v',w',hr,h2,(Below.refl _ w).grown h3 hB (fun j hj=>(hO.lt j hj).1),h3,h4⟩
 ·obtain⟨y,hy0⟩:∃ y,ys[0]?=some y:=by
   cases ys with
   | nil=>exact absurd rfl hy
   | cons y r=>exact⟨y,rfl⟩
  obtain⟨b,off,rfl,-⟩:=hP 0 y hy0;have hcells:∀ j u,ys[j]?=some u->w.cell? ((⟨b,off,none⟩:Addr).add j)=some u:=fun j u hu=>by
   obtain⟨b2,off2,e2,-,hc⟩:=hP j u hu;simp only[Option.some.injEq,Addr.mk.injEq,and_true] at e2;obtain⟨rfl,rfl⟩:=e2;rw[Addr.add_mid];exact hc
  obtain⟨v',w',hr,h2,h3,-,h4⟩:=run_append_own_at (P:=P) w B t t e i0 z s bytes hu hi hz0 hz1 hz2 hzs hs v n xs hO ⟨b,off,none⟩ m cp ys hl hcells h1 (by unfold maxLen; have:=Nat.le_mul_of_pos_right (n+m) hby; omega) hn hB;exact⟨v',w',hr,h2,(Below.refl _ w).grown h3 hB (fun j hj=>(hO.lt j hj).1),h3,h4⟩
end
theorem iM (A:List Ac)(k:Nat)(h:k<A.length):(A.map (·.2.1)).getD k 0=(aca A k).2.1:=by
 rw[List.getD_eq_getElem?_getD,List.getElem?_map,List.getElem?_eq_getElem h];unfold aca;rw[List.getD_eq_getElem?_getD,List.getElem?_eq_getElem h];rfl
end Go.Proofs.YtfpnnmeblefkkaaGreatDoor.Lg
