/-
  Texts joined.
-/
import Derived.Test.YtnelmomagdcmnaaGreatJ12
import Derived.Lib.Small
set_option maxRecDepth 100000
set_option maxHeartbeats 8000000
set_option linter.unusedSimpArgs false
set_option linter.unusedVariables false
namespace Go.Proofs.YtnelmomagdcmnaaGreat.Sl
attribute [local irreducible] wpList wpQuiet
open Go.RowKit
theorem ac1 {w w':World}{b o g:Nat}{cs:List Value}(h:w.rangeAt b o cs)(hb:But g w w')(hn:b≠g):w'.rangeAt b o cs:=fun j v hv=>by
 have h1:=h j v hv;have h2:=World.block_lt_of_cell? w (⟨b,o+j,none⟩:Addr) h1;rw[<- h1];unfold World.cell?;rw[hb.2 b h2 hn]
structure KG (g4:Nat)(E:En)(bC bS:Bool)(x:Value)(W V:World):Prop where
 but:But g4 W V
 b4:bS=false->Bx V g4 (ZO Zp YE) 52
 cl:bC=true->∃ d,x=.agg (ZO E d)/\Ws V W.heap.size E d
 sc:bS=true->bC=true
 fin:bS=true->∃ d,Bx V g4 (ZO E d) 52/\Ws V W.heap.size E d
section
variable {g4 : Nat} {E : En} {bC bS : Bool} {x : Value} {W V V2 : World} {d : Ad}
theorem KG.start (hg:g4<W.heap.size)(h:Bx W g4 (ZO Zp YE) 52):KG g4 E false false x W { W with drawn:=W.drawn+1 }:=⟨⟨(Below.refl _ W).drew,fun _ _ _=>rfl⟩,fun _=>h.below hg ((Below.refl _ W).drew),(fun e=>nomatch e),(fun e=>nomatch e),(fun e=>nomatch e)⟩
theorem KG.nos (h:KG g4 E false bS x W V):bS=false:=by
 cases bS with
 | false=>rfl
 | true=>exact absurd (h.sc rfl) (by decide)
theorem KG.call (h:KG g4 E false bS x W V)(hs:bS=false)(hw:Ws V2 V.heap.size E d)(hb:Below V.heap.size V V2):KG g4 E true bS (.agg (ZO E d)) W V2:=by
 subst hs;have h4:=h.b4 rfl;exact⟨h.but.trans (But.of_below hb (Nat.le_of_lt h4.lt)),fun _=>h4.below h4.lt hb,fun _=>⟨d,rfl,own_base hw.r h.but.1.size,own_base hw.p h.but.1.size⟩,(fun e=>nomatch e),(fun e=>nomatch e)⟩
theorem KG.store (h:KG g4 E true false (.agg (ZO E d)) W V)(hw:Ws V W.heap.size E d)(hg:g4<W.heap.size):∃ V2,(Instr.storeAt 52 (Z7 g4 0) (.agg (ZO E d))).run Tryz.prog V=.ok () V2/\KG g4 E true true (.agg (ZO E d)) W V2:=by
 obtain⟨V2,hst,hX,hbt⟩:=st_all (cs':=ZO E d) (ty:=52) (h.b4 rfl) rfl (YW E d) (by kernel_rfl);have h2:Ws V2 W.heap.size E d:=⟨YG hw.r hbt fun y hy=>by have:=(hw.r.lt y.block (by rw[hy]; rfl)).1; omega,YG hw.p hbt fun y hy=>by have:=(hw.p.lt y.block (by rw[hy]; rfl)).1; omega⟩;exact⟨V2,hst,h.but.trans hbt,(fun e=>nomatch e),fun _=>⟨d,rfl,h2⟩,fun _=>rfl,fun _=>⟨d,hX,h2⟩⟩
end
theorem am0 {w:World}{g:Nat}{S:Nat->Prop}{m:Sm}{u:Nat}(q:Int×Int)(h:VT w g S m)(hm:Wm m u):Calls Tryz.prog 47 #[Z7 g 0,.agg #[Z9 q.1,Z9 q.2]] w fun r w'=>∃ d,r=.returned (.tuple #[.agg (ZO (Rj m q) d),.bool (X9 m q)])/\Ws w' w.heap.size (Rj m q) d/\Below w.heap.size w w':=by
 obtain⟨a,c,T,fr,hM,hl,-⟩:=h;cases hv:X9 m q with
 | false=>
  rw[Ie hv];have jU:=Z8 hM;have HL:=Z8 hl;have HV:=Z8 hv;clear hM hl hv hm;go_enter Tryz.func47,Tryz.ntmps47;go_upto_region 1 with fail;change Code.wp _ _ _ _ ((w.alloc (.cells #[Z9 q.1,Z9 q.2] 104)).alloc (.cells (ZO Zp YE) 52));have hb0:Below w.heap.size w ((w.alloc (.cells #[Z9 q.1,Z9 q.2] 104)).alloc (.cells (ZO Zp YE) 52)):=((Below.refl _ w).alloc (Nat.le_refl _) _).alloc (by simp) _;have Zr:Bx ((w.alloc (.cells #[Z9 q.1,Z9 q.2] 104)).alloc (.cells (ZO Zp YE) 52)) w.heap.size #[Z9 q.1,Z9 q.2] 104:=Bx.below (heap_alloc_last w _) (by simp) ((Below.refl _ _).alloc (Nat.le_refl _) _);have Xu:Bx ((w.alloc (.cells #[Z9 q.1,Z9 q.2] 104)).alloc (.cells (ZO Zp YE) 52)) (w.heap.size+1) (ZO Zp YE) 52:=by
   have:=heap_alloc_last (w.alloc (.cells #[Z9 q.1,Z9 q.2] 104)) (.cells (ZO Zp YE) 52);rwa [show(w.alloc (.cells #[Z9 q.1,Z9 q.2] 104)).heap.size=w.heap.size+1 by simp] at this
  generalize (w.alloc (.cells #[Z9 q.1,Z9 q.2] 104)).alloc (.cells (ZO Zp YE) 52)=W at *
  obtain⟨g3,hg3⟩:=ZR w.heap.size;obtain⟨g4,hg4⟩:=ZR (g3+1);rw[show w.heap.size+1=g4 by omega] at Xu;have HG:Hid (w.heap.size<=g3/\w.heap.size<=g4/\g3≠g4):=Z8 ⟨by omega,by omega,by omega⟩;rw[hg3] at Zr;simp only[hg3];simp only[hg4];have CH:=Aa (jU.out.below hb0) HL.out q;rw[HV.out] at CH;have HB:=Z8 hb0;clear hb0 hg3 hg4 jU HL;refine wl<|ZQ (Z7 g 0)<|ZC rfl ⟨g3,0,none⟩ (.agg #[Z9 q.1,Z9 q.2]) (Uj (x:=q) (ZU (cs:=hnl q) Zr))<|YD ZY (fun w'=>Below W.heap.size W w') (CH) (fun V hV=>?_);refine ZQ ZX<|wn ?_;simp only[pu];have Ho:=Xu.below Xu.lt hV;obtain⟨V2,hst,hY,hbt⟩:=st_all (cs':=ZO Zp YE) (ty:=52) Ho rfl (YW _ _) (by kernel_rfl);have HE:=Z8 ((HB.out.trans (hV.mono HB.out.size)).trans (hbt.1.mono HG.out.2.1));clear hV hbt Xu Ho Zr CH;go_upto_region 2 with fail;refine wl<|ZQ (.agg (ZO Zp YE))<|Yb rfl (hst)<|ZQ ZY<|wn ?_;simp only[pu];go_wp2_with fail;exact bodyPost_ret (Yh rfl (by kernel_rfl) (ZE (ZU hY)) (by kernel_rfl)) rfl ⟨YE,rfl,⟨World.ownsRow_nil _ _ _ _,World.ownsRow_nil _ _ _ _⟩,HE.out⟩
 | true=>
  obtain⟨i,hi,hil,hf,-⟩:=Wj hv;rw[SH hv hi];have Om:i<T.length:=by rw[hl.len]; exact hil
  have hee:=hl.e i Om;have hEB:II (m.P.getD i X5).e:=⟨hm.raw i hil,hm.Xe i hil⟩;have hen:=hM.en i Om;rw[hee] at hen;obtain⟨b,hab,hrg⟩:=hM.rg Om;have hrg2:=an2 hrg;rw[hee] at hrg2;have hX:=hM.bx;rw[hab] at hX;have jU:=Z8 hM;have HL:=Z8 hl;have HV:=Z8 hv;have HI:=Z8 hi;have Nb:=Z8 hEB;obtain⟨d9,hd9⟩:=ZR ((T.getD i Xx).d);rw[hd9] at hen hrg2;have hbw:b<w.heap.size:=jU.out.inn b (.inr (.inl ⟨_,hab,rfl⟩));obtain⟨n,hn⟩:=ZR T.length;rw[hn] at hX Om;generalize (m.P.getD i X5).e=E at *
  clear hM hl hv hm hrg hi hf hee hEB hab hd9 hn;go_enter Tryz.func47,Tryz.ntmps47;go_upto_region 1 with fail;change Code.wp _ _ _ _ ((w.alloc (.cells #[Z9 q.1,Z9 q.2] 104)).alloc (.cells (ZO Zp YE) 52));have hb0:Below w.heap.size w ((w.alloc (.cells #[Z9 q.1,Z9 q.2] 104)).alloc (.cells (ZO Zp YE) 52)):=((Below.refl _ w).alloc (Nat.le_refl _) _).alloc (by simp) _;have Zr:Bx ((w.alloc (.cells #[Z9 q.1,Z9 q.2] 104)).alloc (.cells (ZO Zp YE) 52)) w.heap.size #[Z9 q.1,Z9 q.2] 104:=Bx.below (heap_alloc_last w _) (by simp) ((Below.refl _ _).alloc (Nat.le_refl _) _);have Xu:Bx ((w.alloc (.cells #[Z9 q.1,Z9 q.2] 104)).alloc (.cells (ZO Zp YE) 52)) (w.heap.size+1) (ZO Zp YE) 52:=by
   have:=heap_alloc_last (w.alloc (.cells #[Z9 q.1,Z9 q.2] 104)) (.cells (ZO Zp YE) 52);rwa [show(w.alloc (.cells #[Z9 q.1,Z9 q.2] 104)).heap.size=w.heap.size+1 by simp] at this
  generalize (w.alloc (.cells #[Z9 q.1,Z9 q.2] 104)).alloc (.cells (ZO Zp YE) 52)=W at *
  obtain⟨g3,hg3⟩:=ZR w.heap.size;obtain⟨g4,hg4⟩:=ZR (g3+1);rw[show w.heap.size+1=g4 by omega] at Xu;have HG:Hid (w.heap.size<=g3/\w.heap.size<=g4/\g3≠g4):=Z8 ⟨by omega,by omega,by omega⟩;rw[hg3] at Zr;simp only[hg3];simp only[hg4];have Pv:Hid (∀ k,EB E d9 k->k<g4):=Z8 fun k hk=>by have:=HG.out; have:=hen.lt k hk; omega
  have CH:=Aa (jU.out.below hb0) HL.out q;rw[HV.out] at CH;have HB:=Z8 hb0;have hX:=hX.below hX.lt hb0;have hen:=hen.below hb0;have hrg2:=ZF hrg2 hb0;have dZ:Hid (b<g4/\g<g4):=Z8 ⟨by have:=HG.out; omega,by have:=HG.out; have:=jU.out.bx.lt; omega⟩;clear hb0 hg3 hg4 jU HL;refine wl<|ZQ (Z7 g 0)<|ZC rfl ⟨g3,0,none⟩ (.agg #[Z9 q.1,Z9 q.2]) (Uj (x:=q) (ZU (cs:=hnl q) Zr))<|YD ZX (fun w'=>Below W.heap.size W w') (CH) (fun Y1 hV=>?_);refine ZQ ZY<|wn ?_;simp only[pu];have ac2:Bx Y1 g3 #[Z9 i,Z9 q.2] 104:=by rw[<- HI.out]; exact Zr.below Zr.lt hV
  have Ho:=Xu.below Xu.lt hV;have Nc:=hX.below hX.lt hV;have ac3:=hen.below hV;have ac4:=ZF hrg2 hV;have BU:=Z8 (HB.out.trans (hV.mono HB.out.size));have ac5:=Ho.lt;have h0:KG g4 E false false undef Y1 { Y1 with drawn:=Y1.drawn+1 }:=KG.start ac5 Ho;have H4:=Z8 ac5;clear Zr Xu hX hen hrg2 hV HB CH Ho ac5;go_upto_region 3 with fail;have ac2:=Z8 ac2;have Nc:=Z8 Nc;have ac3:=Z8 ac3;have ac4:=Z8 ac4;refine ZK (fun listed ZH V=>∃ b0 b1 b2 b3 b4 b5 b6 b7 b8 b9 b10 b11:Bool,∃ x20:Value,listed=#[b0,b1,b2,b3,b4,b5,b6,b7,b8,b9,b10,b11]/\ZH={ tmps:=#[Z7 g 0,.agg #[Z9 q.1,Z9 q.2],undef,Z7 g3 0,Z7 g4 0,(cond b11 ZX ZY),Z7 g 0,.agg #[Z9 q.1,Z9 q.2],ZX,ZY,undef,(cond b0 (Z7 g 0) undef),(cond b1 (Z7 g 0) undef),(cond b2 (Z7 g 1) undef),(cond b3 (.slice (some ⟨b,0,none⟩) n c) undef),(cond b4 (Z7 g3 0) undef),(cond b5 (Z9 i) undef),(cond b6 (Z7 b (0+i*44)) undef),(cond b7 (Z7 b (0+i*44)) undef),(cond b8 (.agg (ZO E d9)) undef),x20],defers:=[] }/\KG g4 E b9 b10 x20 Y1 V) (by kernel_rfl) (by kernel_rfl) ?_ ?_ ?_
  ·exact⟨_,_,_,_,_,_,_,_,_,_,_,_,_,rfl,rfl,h0⟩
  ·intro i9 listed ZH V hi9 hr hJ;obtain⟨b0,b1,b2,b3,b4,b5,b6,b7,b8,b9,b10,b11,x20,rfl,rfl,hF⟩:=hJ;have hi2:i9<12:=hi9;have hi3:i9=0∨i9=1∨i9=2∨i9=3∨i9=4∨i9=5∨i9=6∨i9=7∨i9=8∨i9=9∨i9=10∨i9=11:=(by omega);rcases hi3 with rfl | rfl | rfl | rfl | rfl | rfl | rfl | rfl | rfl | rfl | rfl | rfl
   ·obtain rfl:b0=false:=Z5 hr;refine ZW rfl (by kernel_rfl) (some 11) rfl (Z7 g 0) V (by kernel_rfl) ?_;exact⟨_,_,_,_,_,_,_,_,_,_,_,_,_,rfl,rfl,hF⟩
   ·obtain rfl:b1=false:=Z5 hr;obtain rfl:b0=true:=Z4 hr 0;refine ZW rfl (by kernel_rfl) (some 12) rfl (Z7 g 0) V (by kernel_rfl) ?_;exact⟨_,_,_,_,_,_,_,_,_,_,_,_,_,rfl,rfl,hF⟩
   ·obtain rfl:b2=false:=Z5 hr;obtain rfl:b1=true:=Z4 hr 1;refine ZW rfl (by kernel_rfl) (some 13) rfl (Z7 g 1) V (by kernel_rfl) ?_;exact⟨_,_,_,_,_,_,_,_,_,_,_,_,_,rfl,rfl,hF⟩
   ·obtain rfl:b3=false:=Z5 hr;obtain rfl:b2=true:=Z4 hr 2;refine ZI rfl (by kernel_rfl) (some 14) rfl 145 (.tmp 13) rfl ⟨g,1,none⟩ (.slice (some ⟨b,0,none⟩) n c) (by kernel_rfl) ((Nc.out.but hF.but (by have:=dZ.out; omega)).ZM 1) ?_;exact⟨_,_,_,_,_,_,_,_,_,_,_,_,_,rfl,rfl,hF⟩
   ·obtain rfl:b4=false:=Z5 hr;refine ZW rfl (by kernel_rfl) (some 15) rfl (Z7 g3 0) V (by kernel_rfl) ?_;exact⟨_,_,_,_,_,_,_,_,_,_,_,_,_,rfl,rfl,hF⟩
   ·obtain rfl:b5=false:=Z5 hr;obtain rfl:b4=true:=Z4 hr 4;refine ZI rfl (by kernel_rfl) (some 16) rfl 3 (.tmp 15) rfl ⟨g3,0,none⟩ (Z9 i) (by kernel_rfl) ((ac2.out.but hF.but HG.out.2.2).ZM 0) ?_;exact⟨_,_,_,_,_,_,_,_,_,_,_,_,_,rfl,rfl,hF⟩
   ·obtain rfl:b6=false:=Z5 hr;obtain rfl:b3=true:=Z4 hr 3;obtain rfl:b5=true:=Z4 hr 5;refine ZW rfl (by kernel_rfl) (some 17) rfl (Z7 b (0+i*44)) V (Po b 0 n c i Om V _ _ rfl (by kernel_rfl) (by kernel_rfl)) ?_;exact⟨_,_,_,_,_,_,_,_,_,_,_,_,_,rfl,rfl,hF⟩
   ·obtain rfl:b7=false:=Z5 hr;obtain rfl:b6=true:=Z4 hr 6;refine ZW rfl (by kernel_rfl) (some 18) rfl (Z7 b (0+i*44)) V (by kernel_rfl) ?_;exact⟨_,_,_,_,_,_,_,_,_,_,_,_,_,rfl,rfl,hF⟩
   ·obtain rfl:b8=false:=Z5 hr;obtain rfl:b7=true:=Z4 hr 7;refine ZI rfl (by kernel_rfl) (some 19) rfl 52 (.tmp 18) rfl ⟨b,0+i*44,none⟩ (.agg (ZO E d9)) (by kernel_rfl) (ZE (ac1 ac4.out hF.but (by have:=dZ.out; omega))) ?_;exact⟨_,_,_,_,_,_,_,_,_,_,_,_,_,rfl,rfl,hF⟩
   ·obtain rfl:b9=false:=Z5 hr;obtain rfl:b8=true:=Z4 hr 8;obtain rfl:=hF.nos;refine Zl rfl (by kernel_rfl) (some 20) rfl 81 #[.agg (ZO E d9)] (by kernel_rfl) ((Ag E d9 V (ac3.out.but hF.but fun q=>by have:=Pv.out g4 q; omega) Nb.out).mono ?_);rintro e V2 ⟨d2,rfl,hw2,hb2⟩;exact⟨_,rfl,_,_,_,_,_,_,_,_,_,_,_,_,_,rfl,rfl,hF.call rfl hw2 hb2⟩
   ·obtain rfl:b10=false:=Z5 hr;obtain rfl:b9=true:=Z4 hr 9;obtain⟨d2,rfl,hw2⟩:=hF.cl rfl;obtain⟨V2,hst,hF2⟩:=hF.store hw2 H4.out;refine YL rfl (by kernel_rfl) rfl 52 (.tmp 4) (.tmp 20) rfl (Z7 g4 0) (.agg (ZO E d2)) (by kernel_rfl) (by kernel_rfl) V2 hst ?_;exact⟨_,_,_,_,_,_,_,_,_,_,_,_,_,rfl,rfl,hF2⟩
   ·obtain rfl:b11=false:=Z5 hr;refine ZW rfl (by kernel_rfl) (some 5) rfl ZX V (by kernel_rfl) ?_;exact⟨_,_,_,_,_,_,_,_,_,_,_,_,_,rfl,rfl,hF⟩
  ·intro ZH V hJ;obtain⟨b0,b1,b2,b3,b4,b5,b6,b7,b8,b9,b10,b11,x20,he,rfl,hF⟩:=hJ;have he:(#[true,true,true,true,true,true,true,true,true,true,true,true]:Array Bool)=#[b0,b1,b2,b3,b4,b5,b6,b7,b8,b9,b10,b11]:=he;simp only[Array.mk.injEq,List.cons.injEq,and_true] at he;obtain⟨rfl,rfl,rfl,rfl,rfl,rfl,rfl,rfl,rfl,rfl,rfl,rfl⟩:=he;simp only[cond_true];obtain⟨d2,hY,hw2⟩:=hF.fin rfl;have HE:=Z8 (BU.out.trans (hF.but.1.mono HG.out.2.1));go_wp2_with fail;exact bodyPost_ret (Yh rfl (by kernel_rfl) (ZE (ZU hY)) (by kernel_rfl)) rfl ⟨d2,rfl,⟨own_base hw2.r BU.out.size,own_base hw2.p BU.out.size⟩,HE.out⟩
end Go.Proofs.YtnelmomagdcmnaaGreat.Sl
namespace Go.Proofs.YtnelmomagdcmnaaGreat.Hp
open Go.RowKit
def OT (x:It):List Value:=[Z9 x.1,ZV x.2.1,Z9 x.2.2]
abbrev Ym (x:It):Array Value:=#[Z9 x.1,ZV x.2.1,Z9 x.2.2]
def itc (A:List It):List Value:=A.flatMap OT
theorem SQ (x:It)(r:List It):itc (x::r)=Z9 x.1::ZV x.2.1::Z9 x.2.2::itc r:=rfl
theorem jG (A B:List It):itc (A++B)=itc A++itc B:=by simp[itc]
theorem Vz:∀ A:List It,(itc A).length=A.length*3
 | []=>rfl
 | x::r=>by have:=Vz r; rw[SQ]; simp; omega
theorem Hl (A:List It):∀ u∈itc A,u.oneCell'=true:=fun u hu=>by
 obtain⟨x,-,hx⟩:=List.mem_flatMap.1 hu;simp only[OT,List.mem_cons,List.not_mem_nil,or_false] at hx;rcases hx with rfl | rfl | rfl <;> rfl
theorem jB (x:It):(Ym x).all (·.oneCell')=true:=by simp[Value.oneCell']
theorem BR:∀ (A:List It) (k:Nat),k<A.length->(itc A)[k*3]?=some (Z9 (ita A k).1)/\(itc A)[k*3+1]?=some (ZV (ita A k).2.1)/\(itc A)[k*3+2]?=some (Z9 (ita A k).2.2)
 | [],k,h=>absurd h (by simp)
 | x::r,0,h=>by rw[SQ]; exact⟨rfl,rfl,rfl⟩
 | x::r,k+1,h=>by
  have:=BR r k (by simpa using h);rw[SQ,show(k+1)*3=k*3+1+1+1 by omega,show k*3+1+1+1+1=(k*3+1)+1+1+1 by omega,show k*3+1+1+1+2=(k*3+2)+1+1+1 by omega];simpa [ita,List.getD] using this
theorem Ey:∀ (A:List It) (k:Nat),(itc A).take (k*3)=itc (A.take k)
 | [],k=>by simp[itc]
 | x::r,0=>by simp[itc]
 | x::r,k+1=>by
  rw[SQ,show(k+1)*3=k*3+1+1+1 by omega,List.take_succ_cons,List.take_succ_cons,List.take_succ_cons,Ey r k,List.take_succ_cons,SQ]
theorem Ez:∀ (A:List It) (k:Nat) (x:It),k<A.length->(((itc A).set (k*3) (Z9 x.1)).set (k*3+1) (ZV x.2.1)).set (k*3+1+1) (Z9 x.2.2)=itc (A.set k x)
 | [],k,_,h=>absurd h (by simp)
 | y::r,0,x,h=>rfl
 | y::r,k+1,x,h=>by
  have:=Ez r k x (by simpa using h);rw[SQ,show(k+1)*3=k*3+1+1+1 by omega];rw[show k*3+1+1+1+1=(k*3+1)+1+1+1 by omega];rw[show k*3+1+1+1+1+1=(k*3+1+1)+1+1+1 by omega];simp only[List.set_cons_succ];rw[this];rfl
theorem rD:(Tryz.prog.info? 99).map (fun i=>(i.zero,i.size,i.bytes))=some (some (.agg #[Z9 0,ZV 0,Z9 0]),3,24):=by kernel_rfl
theorem FW {w:World}{a:Option Addr}{A:List It}(h:Cs w a (itc A)){k:Nat}(hk:k<A.length):∃ b off,a=some ⟨b,off,none⟩/\b<w.heap.size/\w.rangeAt b (off+k*3) (OT (ita A k)):=by
 obtain⟨h0,h1,h2⟩:=BR A k hk;obtain⟨b,off,rfl,hb,c0⟩:=h _ _ h0;obtain⟨b1,off1,e1,-,c1⟩:=h _ _ h1;obtain⟨b2,off2,e2,-,c2⟩:=h _ _ h2;simp only[Option.some.injEq,Addr.mk.injEq,and_true] at e1 e2;obtain⟨rfl,rfl⟩:=e1;obtain⟨rfl,rfl⟩:=e2;refine⟨b,off,rfl,hb,fun j v hj=>?_⟩;have hj3:j<3:=by
  have:=(List.getElem?_eq_some_iff.1 hj).1;simpa [OT] using this
 rcases (show j=0∨j=1∨j=2 by omega) with rfl | rfl | rfl
 ·simp[OT] at hj; rw[<- hj]; exact c0
 ·simp[OT] at hj; rw[<- hj,Nat.add_assoc]; exact c1
 ·simp[OT] at hj; rw[<- hj,Nat.add_assoc]; exact c2
theorem IK {w:World}{b o:Nat}{x:It}(h:w.rangeAt b o (OT x)):(Instr.loadAt 99 (Z7 b o)).run Tryz.prog w=.ok (.agg (Ym x)) w:=
 run_loadAt_mid w b o 99 (OT x) _ h Tryz.underlying99 rfl (by kernel_rfl)
theorem xR {w:World}{g t:Nat}{x:It}(h:Bx w g (Ym x) t):w.rangeAt g 0 (OT x):=fun j v hv=>by
 rw[cell_of_row w g _ _ _ (0,0) h];simpa [OT] using hv
theorem Ko {w:World}{g t:Nat}{x:It}(h:Bx w g (Ym x) t):(Instr.loadAt 99 (Z7 g 0)).run Tryz.prog w=.ok (.agg (Ym x)) w:=IK (xR h)
theorem vS (b off n c k:Nat)(hk:k<n)(V:World)(ρ:Operand->Value)(o:Oper){x y:Operand}(ho:o.op=.indexAddr 96 x y)(hx:ρ x=.slice (some ⟨b,off,none⟩) n c)(hy:ρ y=Z9 k):(execOp ρ o).run Tryz.prog V=.ok (.value (Z7 b (off+k*3))) V:=by
 have hs:(sizeOf (Tryz.prog.elem 96)).run Tryz.prog V=.ok 3 V:=by kernel_rfl
 have hlm:(k:Int)<(n:Int):=by omega
 unfold execOp;simp only[ho,hx,hy];go_simp
theorem Vy (b n c k:Nat)(hk:k<n)(V:World)(ρ:Operand->Value)(o:Oper){x y:Operand}(ho:o.op=.indexAddr 96 x y)(hx:ρ x=.slice (some ⟨b,0,none⟩) n c)(hy:ρ y=Z9 k):(execOp ρ o).run Tryz.prog V=.ok (.value (Z7 b (k*3))) V:=by
 have:=vS b 0 n c k hk V ρ o ho hx hy;rw[Nat.zero_add] at this;exact this
theorem qU (x:It)(V:World):(Instr.buildSlice 96 1 #[(0,.agg (Ym x))]).run Tryz.prog V=.ok (.slice (some ⟨V.heap.size,0,none⟩) 1 1) (V.alloc (.cells (Ym x) 99)):=by
 obtain⟨i0,hi,hz0,hz1,hz2⟩:=info_parts rD;refine run_buildSlice V 96 99 1 _ (Ym x) i0 _ Tryz.underlying96 hi hz0 (by rw[hz1]; omega) (by rw[hz1]; omega) ?_;rw[hz1];kernel_rfl
theorem ao4 (x:It)(w:World):Cs (w.alloc (.cells (Ym x) 99)) (some ⟨w.heap.size,0,none⟩) (itc [x]):=
 Cs.block (t:=99) (fr:=(0,0)) (cs:=OT x) (heap_alloc_last w (.cells (Ym x) 99))
theorem Je (a:Option Addr)(n c k:Nat)(w:World)(h:k<=c):(Instr.slice 96 (.slice a n c) none (some (Z9 (k:Int))) none).run Tryz.prog w=.ok (.slice a k c) w:=Ib (s:=3) (by kernel_rfl) (fun w=>by kernel_rfl) a n c k w h
end Go.Proofs.YtnelmomagdcmnaaGreat.Hp
namespace Go.Proofs.YtnelmomagdcmnaaGreat.Hp
attribute [local irreducible] wpList wpQuiet
open Go.RowKit
section
variable {P : Program} {o : Oper} {a : Act} {w w2 : World}
theorem Yv (ty:TypeId)(x y:Operand)(b:Bool)(ho:o.op=.lookup ty x y b)(vx vy v:Value)(hx:a.eval x=vx)(hy:a.eval y=vy)(hr:(Instr.lookup ty vx vy b).run P w=.ok v w):(execOp a.eval o).run P w=.ok (.value v) w:=by
 unfold execOp;simp only[ho,hx,hy,Sem.run_bind,hr];rfl
theorem SI (ty:TypeId)(x y z:Operand)(ho:o.op=.mapUpdate ty x y z)(vx vy vz:Value)(hx:a.eval x=vx)(hy:a.eval y=vy)(hz:a.eval z=vz)(hr:(Instr.mapUpdate ty vx vy vz).run P w=.ok () w2):(execOp a.eval o).run P w=.ok .skip w2:=by
 unfold execOp;simp only[ho,hx,hy,hz,Sem.run_bind,hr];rfl
theorem SK (ty:TypeId)(ho:o.op=.makeMap ty none):(execOp a.eval o).run P w=.ok (.value (.map (some w.heap.size))) (w.alloc (.map #[] 0)):=by
 unfold execOp;simp only[ho];rfl
theorem NJ (x y:Operand)(t u:TypeId)(ho:o.op=.call { callee:=.builtin .delete,args:=#[x,y],argTypes:=#[t,u] })(vx vy v:Value)(hx:a.eval x=vx)(hy:a.eval y=vy)(hr:(Builtin.delete_ #[t,u] o.type #[vx,vy]).run P w=.ok v w2):(execOp a.eval o).run P w=.ok (.value v) w2:=by
 unfold execOp;simp only[ho,resolve,invoke,builtin,Sem.run_bind,Sem.run_pure,Result.andThen_ok,List.map_toArray,List.map_cons,List.map_nil,hx,hy,hr]
end
theorem UU {P:Program}{ops:Array Oper}{rest:List Oper}{o:Oper}{a:Act}{w:World}{Q:Exit->Act->World->Prop}(hw:Region.wanted o (yielded ops a.tmps)=true)(hd:o.dst=none)(w2:World)(hr:(execOp a.eval o).run P w=.ok .skip w2)(k:wpList P ops Q rest a w2):wpList P ops Q (o::rest) a w:=by
 apply wpList_step;intro K hK;rw[if_pos hw,Oper.wp,hr];refine hK _ _ ?_;rw[hd];exact k
theorem Xg {α β:Type}(f:α->β)(g:α->α)(g':β->β)(h:∀ x,f (g x)=g' (f x)):∀ (l:List α) (i:Nat),(l.modify i g).map f=(l.map f).modify i g'
 | [],i=>by cases i <;> rfl
 | x::r,0=>by simp[List.modify_cons,h]
 | x::r,i+1=>by simp[List.modify_cons,Xg f g g' h r i]
theorem Uz {α:Type}(l:List α)(i:Nat)(x:α)(g:α->α)(h:l[i]?=some x):l.modify i g=l.set i (g x):=by
 apply List.ext_getElem?;intro j;rw[List.getElem?_modify,List.getElem?_set];by_cases hj:i=j
 ·subst hj;obtain⟨hl,hv⟩:=List.getElem?_eq_some_iff.1 h;simp[hl,hv]
 ·simp[hj]
def Mi (w:World)(B:Nat)(L:List (Int×Int)):Prop:=
 ∃ es clock,w.heap[B]?=some (.map es clock)/\es.toList.map (fun e=>(e.key,e.val))=L.map (fun x=>(Value.int .i64 x.1,Value.int .i64 x.2))
def Y3 (x:Int):List (Int×Int)->Nat->Option (Nat×Int)
 | [],_=>none
 | p::r,i=>if p.1=x then some (i,p.2) else Y3 x r (i+1)
theorem YI {x:Int}:∀ {L:List (Int×Int)} {i j:Nat} {v:Int},Y3 x L i=some (j,v)->∃ k,j=i+k/\k<L.length/\L[k]?=some (x,v)
 | [],i,j,v,h=>by cases h
 | p::r,i,j,v,h=>by
  unfold Y3 at h;by_cases hp:p.1=x
  ·rw[if_pos hp] at h;simp only[Option.some.injEq,Prod.mk.injEq] at h;exact⟨0,by omega,by simp,by simp[<- hp,<- h.2]⟩
  ·rw[if_neg hp] at h;obtain⟨k,h1,h2,h3⟩:=YI h;exact⟨k+1,by omega,by simpa using h2,by simpa using h3⟩
theorem Yx {x:Int}:∀ {L:List (Int×Int)} {i:Nat},Y3 x L i=none↔∀ p∈L,p.1≠x
 | [],i=>by simp[Y3]
 | p::r,i=>by
  unfold Y3;by_cases hp:p.1=x
  ·simp[hp]
  ·rw[if_neg hp,Yx];simp[hp]
def Ue (L:List (Int×Int))(x:Int):Option Int:=(Y3 x L 0).map (·.2)
theorem Wv (x:Int):∀ (L:List (Int×Int)) (i j:Nat),(Y3 x L i).map (·.2)=(Y3 x L j).map (·.2)
 | [],i,j=>rfl
 | p::r,i,j=>by
  unfold Y3
  split
  ·rfl
  ·exact Wv x r _ _
theorem Zt (p:Int×Int)(r:List (Int×Int))(x:Int):Ue (p::r) x=if p.1=x then some p.2 else Ue r x:=by
 unfold Ue;rw[Y3]
 split
 ·rfl
 ·exact Wv x r _ _
theorem Ud (x:Int)(p:Int×Int):∀ (L:List (Int×Int)),(∀ q∈L,q.1≠p.1)->Ue (L++[p]) x=if x=p.1 then some p.2 else Ue L x
 | [],_=>by
  rw[List.nil_append,Zt];by_cases h:p.1=x
  ·rw[if_pos h,if_pos h.symm]
  ·rw[if_neg h,if_neg (fun e=>h e.symm)]
 | q::r,hq=>by
  have h1:=hq q (by simp);rw[List.cons_append,Zt,Ud x p r (fun z hz=>hq z (by simp[hz])),Zt];by_cases h:q.1=x
  ·rw[if_pos h,if_neg (fun e=>h1 (h.trans e)),if_pos h]
  ·rw[if_neg h,if_neg h]
theorem Uc (x k v u:Int):∀ (L:List (Int×Int)) (j:Nat),L[j]?=some (k,u)->(L.map (·.1)).Nodup->Ue (L.set j (k,v)) x=if x=k then some v else Ue L x
 | [],j,h,_=>by simp at h
 | p::r,0,h,hn=>by
  simp only[List.getElem?_cons_zero,Option.some.injEq] at h;subst h;rw[List.set_cons_zero,Zt,Zt];by_cases h:k=x
  ·rw[if_pos h,if_pos h.symm]
  ·rw[if_neg h,if_neg (fun e=>h e.symm),if_neg h]
 | p::r,j+1,h,hn=>by
  rw[List.getElem?_cons_succ] at h;rw[List.map_cons,List.nodup_cons] at hn;have hpk:p.1≠k:=fun e=>hn.1 (by rw[e]; exact List.mem_map.2 ⟨(k,u),List.mem_of_getElem? h,rfl⟩);rw[List.set_cons_succ,Zt,Uc x k v u r j h hn.2,Zt];by_cases h1:p.1=x
  ·rw[if_pos h1,if_neg (fun e=>hpk (h1.trans e)),if_pos h1]
  ·rw[if_neg h1,if_neg h1]
theorem Vk {L:List (Int×Int)}{x:Int}(h:∀ p∈L,p.1≠x):Ue L x=none:=by
 unfold Ue;rw[Yx.2 h];rfl
theorem Ub (x k u:Int):∀ (L:List (Int×Int)) (j:Nat),L[j]?=some (k,u)->(L.map (·.1)).Nodup->Ue (L.eraseIdx j) x=if x=k then none else Ue L x
 | [],j,h,_=>by simp at h
 | p::r,0,h,hn=>by
  simp only[List.getElem?_cons_zero,Option.some.injEq] at h;subst h;rw[List.map_cons,List.nodup_cons] at hn;rw[List.eraseIdx_cons_zero,Zt];by_cases h:k=x
  ·rw[if_pos h.symm];exact Vk fun q hq e=>hn.1 (List.mem_map.2 ⟨q,hq,e.trans h.symm⟩)
  ·rw[if_neg (fun e=>h e.symm),if_neg h]
 | p::r,j+1,h,hn=>by
  rw[List.getElem?_cons_succ] at h;rw[List.map_cons,List.nodup_cons] at hn;have hpk:p.1≠k:=fun e=>hn.1 (by rw[e]; exact List.mem_map.2 ⟨(k,u),List.mem_of_getElem? h,rfl⟩);rw[List.eraseIdx_cons_succ,Zt,Ub x k u r j h hn.2,Zt];by_cases h1:p.1=x
  ·rw[if_pos h1,if_neg (fun e=>hpk (h1.trans e)),if_pos h1]
  ·rw[if_neg h1,if_neg h1]
theorem YZ (w:World)(b:Bool)(x:Int):(Instr.checkKey b 10000 3 (Z9 x)).run Tryz.prog w=.ok () w:=by
 rw[show(10000:Nat)=9999+1 from rfl,Instr.checkKey];simp[run_underlying Tryz.underlying3]
theorem Vj (x:Int):∀ (es:List MapEntry) (L:List (Int×Int)) (i:Nat),es.map (fun e=>(e.key,e.val))=L.map (fun x=>(Value.int .i64 x.1,Value.int .i64 x.2)) ->
  Instr.findNow (TypeDesc.int .i64) (Z9 x) es i=some ((Y3 x L i).map fun p=>(p.1,Value.int .i64 p.2))
 | [],[],i,_=>by simp[Instr.findNow,Y3]
 | [],_::_,i,h=>by simp at h
 | _::_,[],i,h=>by simp at h
 | e::es,p::L,i,h=>by
  simp only[List.map_cons,List.cons.injEq,Prod.mk.injEq] at h;obtain⟨⟨h1,h2⟩,h3⟩:=h;have ih:=Vj x es L (i+1) h3;unfold Y3;rw[Instr.findNow,h1];simp only[Instr.sameNow];by_cases hx:p.1=x
  ·have:(x == p.1)=true:=(by simp[hx]);simp[this,hx,h2]
  ·have:(x == p.1)=false:=(by simpa using fun h=>hx h.symm);simp[this,hx,ih]
theorem XV (w:World)(x:Int)(es:List MapEntry)(L:List (Int×Int))(h:es.map (fun e=>(e.key,e.val))=L.map (fun x=>(Value.int .i64 x.1,Value.int .i64 x.2))) :
  (Instr.findKey 3 (Z9 x) es).run Tryz.prog w=.ok ((Y3 x L 0).map fun p=>(p.1,Value.int .i64 p.2)) w:=by
 simp[Instr.findKey,run_underlying Tryz.underlying3,Vj x es L 0 h]
def BM (o:Option Int)(b:Bool):Value:=
 match o with
 | some v=>if b then .tuple #[Z9 v,ZX] else Z9 v
 | none=>if b then .tuple #[Z9 0,ZY] else Z9 0
theorem Ol {w:World}{B:Nat}{L:List (Int×Int)}(h:Mi w B L)(x:Int)(b:Bool):(Instr.lookup 126 (.map (some B)) (Z9 x) b).run Tryz.prog w=.ok (BM (Ue L x) b) w:=by
 obtain⟨es,c,hb,he⟩:=h;have hu:(Go.underlying 126).run Tryz.prog w=.ok (.map 3 3) w:=run_underlying (by kernel_rfl) w;have hz:(zeroValue 3).run Tryz.prog w=.ok (Z9 0) w:=by kernel_rfl
 have hr:=XV w x es.toList L he;unfold BM Ue;cases hf:Y3 x L 0 with
 | none=>
  rw[hf] at hr;cases b <;> simp[Instr.lookup,hu,MapKept.run_getObj_map hb,YZ w _ x,hr,hz,Result.andThen]
 | some p=>
  rw[hf] at hr;cases b <;> simp[Instr.lookup,hu,MapKept.run_getObj_map hb,YZ w _ x,hr,hz,Result.andThen]
theorem J9 {w:World}{B:Nat}{L:List (Int×Int)}(h:Mi w B L)(x v:Int)(hn:Y3 x L 0=none) :
  ∃ w',(Instr.mapUpdate 126 (.map (some B)) (Z9 x) (Z9 v)).run Tryz.prog w=.ok () w'/\Mi w' B (L++[(x,v)])/\w'.heap.size=w.heap.size/\w.grownBy w' (some B):=by
 obtain⟨es,c,hb,he⟩:=h;have hu:(Go.underlying 126).run Tryz.prog w=.ok (.map 3 3) w:=run_underlying (by kernel_rfl) w;have hr:=XV w x es.toList L he;rw[hn] at hr;have hlt:B<w.heap.size:=(Array.getElem?_eq_some_iff.1 hb).1;refine⟨{ w with heap:=w.heap.setIfInBounds B (.map (es.push { key:=Z9 x,val:=Z9 v,born:=c }) (c+1)) },
  by simp[Instr.mapUpdate,hu,MapKept.run_getObj_map hb,YZ w _ x,hr,MapKept.run_setObj_map _ hb,Result.andThen],⟨_,_,by simp[hlt]; exact⟨rfl,rfl⟩,by simp[he]⟩,by simp,rfl,rfl,rfl,by simp,fun i _ hi=>?_⟩
 have hne:B≠i:=fun e=>hi (by rw[e]);simp[Array.getElem?_setIfInBounds_ne hne]
theorem J8 {w:World}{B:Nat}{L:List (Int×Int)}(h:Mi w B L)(x v u:Int)(j:Nat)(hn:Y3 x L 0=some (j,u)) :
  ∃ w',(Instr.mapUpdate 126 (.map (some B)) (Z9 x) (Z9 v)).run Tryz.prog w=.ok () w'/\Mi w' B (L.set j (x,v))/\w'.heap.size=w.heap.size/\w.grownBy w' (some B):=by
 obtain⟨es,c,hb,he⟩:=h;have hu:(Go.underlying 126).run Tryz.prog w=.ok (.map 3 3) w:=run_underlying (by kernel_rfl) w;have hr:=XV w x es.toList L he;rw[hn] at hr;have hlt:B<w.heap.size:=(Array.getElem?_eq_some_iff.1 hb).1;obtain⟨k,hj,hkl,hg⟩:=YI hn;obtain rfl:j=k:=by omega
 have hlen:es.size=L.length:=by
  have:=congrArg List.length he;simpa using this
 have hes:j<es.size:=by omega
 have hkey:es[j].key=Z9 x:=by
  have h1:=congrArg (fun l=>l[j]?) he;simp only[List.getElem?_map,hg,Array.getElem?_toList,Array.getElem?_eq_getElem hes,Option.map_some,Option.some.injEq,Prod.mk.injEq] at h1;exact h1.1
 have hsb:Instr.sameBits 10000 (Z9 x) (Z9 x)=true:=by
  rw[show(10000:Nat)=9999+1 from rfl];simp[Instr.sameBits]
 have hst:(Instr.keyThatStays (((es[j]?).map (·.key)).getD (Z9 x)) (Z9 x)).run Tryz.prog w=.ok (Z9 x) w:=by
  simp only[Array.getElem?_eq_getElem hes,Option.map_some,Option.getD_some,hkey,Instr.keyThatStays,hsb,if_true];rfl
 refine⟨{ w with heap:=w.heap.setIfInBounds B (.map (es.modify j fun e=>{ e with key:=Z9 x,val:=Z9 v }) c) },
  by simp only[Instr.mapUpdate,Sem.run_bind,hu,MapKept.run_getObj_map hb,YZ w _ x,hr,Option.map_some,hst,MapKept.run_setObj_map _ hb,Result.andThen],⟨_,_,by simp[hlt]; exact⟨rfl,rfl⟩,?_⟩,by simp,rfl,rfl,rfl,by simp,fun i _ hi=>?_⟩
 ·rw[Array.toList_modify,Xg (fun e:MapEntry=>(e.key,e.val)) _ (fun _=>(Value.int .i64 x,Value.int .i64 v)) (fun _=>rfl),he,
   Uz _ j (Value.int .i64 x,Value.int .i64 u) _ (by simp[hg]),List.map_set]
 ·have hne:B≠i:=fun e=>hi (by rw[e]);simp[Array.getElem?_setIfInBounds_ne hne]
theorem YF {α β:Type}(f:α->β):∀ (l:List α) (i:Nat),(l.eraseIdx i).map f=(l.map f).eraseIdx i
 | [],i=>by simp
 | x::r,0=>by simp
 | x::r,i+1=>by simp[YF f r i]
theorem J7 {w:World}{B:Nat}{L:List (Int×Int)}(h:Mi w B L)(x:Int)(ty:TypeId) :
  ∃ w',(Builtin.delete_ #[126,3] ty #[.map (some B),Z9 x]).run Tryz.prog w=.ok (.tuple #[]) w'/\Mi w' B (match Y3 x L 0 with | some (j,_)=>L.eraseIdx j | none=>L)/\w'.heap.size=w.heap.size/\w.grownBy w' (some B):=by
 obtain⟨es,c,hb,he⟩:=h;have hu:(Go.underlying 126).run Tryz.prog w=.ok (.map 3 3) w:=run_underlying (by kernel_rfl) w;have hr:=XV w x es.toList L he;have hlt:B<w.heap.size:=(Array.getElem?_eq_some_iff.1 hb).1;have hg:∀ o:Obj,w.grownBy { w with heap:=w.heap.setIfInBounds B o } (some B):=fun o=>⟨rfl,rfl,rfl,by simp,fun i _ hi=>by
  have hne:B≠i:=fun e=>hi (by rw[e]);simp[Array.getElem?_setIfInBounds_ne hne]⟩
 cases hf:Y3 x L 0 with
 | none=>
  rw[hf] at hr;exact⟨{ w with heap:=w.heap.setIfInBounds B (.map es c) },by simp[Builtin.delete_,hu,MapKept.run_getObj_map hb,YZ w _ x,hr,MapKept.run_setObj_map _ hb,Result.andThen],⟨es,c,by simp[hlt],he⟩,by simp,hg _⟩
 | some p=>
  rw[hf] at hr;obtain⟨k,hj,hkl,-⟩:=YI (show Y3 x L 0=some (p.1,p.2) from hf);have hlen:es.size=L.length:=by
   have:=congrArg List.length he;simpa using this
  refine⟨{ w with heap:=w.heap.setIfInBounds B (.map (es.eraseIdxIfInBounds p.1) c) },by simp[Builtin.delete_,hu,MapKept.run_getObj_map hb,YZ w _ x,hr,MapKept.run_setObj_map _ hb,Result.andThen],⟨es.eraseIdxIfInBounds p.1,c,by simp[hlt],?_⟩,by simp,hg _⟩;have hin:p.1<es.size:=by omega
  show(es.eraseIdxIfInBounds p.1).toList.map _=(L.eraseIdx p.1).map _;rw[Array.eraseIdxIfInBounds,dif_pos hin,Array.toList_eraseIdx,YF,he,YF]
def Mf (w:World)(B:Nat)(f:Int->Option Int):Prop:=∃ L,Mi w B L/\(L.map (·.1)).Nodup/\∀ x,Ue L x=f x
theorem Mf.lt {w:World}{B:Nat}{f:Int->Option Int}(h:Mf w B f):B<w.heap.size:=by
 obtain⟨L,⟨es,c,h1,-⟩,-⟩:=h;exact(Array.getElem?_eq_some_iff.1 h1).1
theorem Mf.same {w w':World}{B:Nat}{f:Int->Option Int}(h:Mf w B f)(hs:w'.heap[B]?=w.heap[B]?):Mf w' B f:=by
 obtain⟨L,⟨es,c,h1,h2⟩,h3⟩:=h;exact⟨L,⟨es,c,hs.trans h1,h2⟩,h3⟩
theorem Mf.new (w:World):Mf (w.alloc (.map #[] 0)) w.heap.size fun _=>none:=⟨[],⟨#[],0,heap_alloc_last w _,rfl⟩,by simp,fun _=>rfl⟩
theorem Mf.look {w:World}{B:Nat}{f:Int->Option Int}(h:Mf w B f)(x:Int)(b:Bool):(Instr.lookup 126 (.map (some B)) (Z9 x) b).run Tryz.prog w=.ok (BM (f x) b) w:=by
 obtain⟨L,h1,-,h3⟩:=h;rw[<- h3 x];exact Ol h1 x b
theorem Mf.put {w:World}{B:Nat}{f:Int->Option Int}(h:Mf w B f)(x v:Int) :
  ∃ w',(Instr.mapUpdate 126 (.map (some B)) (Z9 x) (Z9 v)).run Tryz.prog w=.ok () w'/\Mf w' B (XC f x (some v))/\w'.heap.size=w.heap.size/\w.grownBy w' (some B):=by
 obtain⟨L,h1,h2,h3⟩:=h;cases hf:Y3 x L 0 with
 | none=>
  have hno:=Yx.1 hf;obtain⟨w',hr,hm,hz,hg⟩:=J9 h1 x v hf;refine⟨w',hr,⟨_,hm,?_,fun y=>?_⟩,hz,hg⟩
  ·rw[List.map_append,List.nodup_append];refine⟨h2,by simp,fun a ha b hb e=>?_⟩;obtain⟨q,hq,rfl⟩:=List.mem_map.1 ha;simp only[List.map_cons,List.map_nil,List.mem_singleton] at hb;exact hno q hq (e.trans hb)
  ·rw[Ud y (x,v) L hno,h3 y];rfl
 | some p=>
  obtain⟨w',hr,hm,hz,hg⟩:=J8 h1 x v p.2 p.1 hf;obtain⟨k,hj,hkl,hgt⟩:=YI (show Y3 x L 0=some (p.1,p.2) from hf);have hk:p.1=k:=by omega
  rw[<- hk] at hgt;refine⟨w',hr,⟨_,hm,?_,fun y=>?_⟩,hz,hg⟩
  ·have e:(L.set p.1 (x,v)).map (·.1)=L.map (·.1):=by
    rw[List.map_set];apply List.ext_getElem?;intro i;rw[List.getElem?_set];by_cases hi:p.1=i
    ·subst hi;simp[hgt];omega
    ·rw[if_neg hi]
   rw[e];exact h2
  ·rw[Uc y x v p.2 L p.1 hgt h2,h3 y];rfl
theorem Mf.del {w:World}{B:Nat}{f:Int->Option Int}(h:Mf w B f)(x:Int)(ty:TypeId) :
  ∃ w',(Builtin.delete_ #[126,3] ty #[.map (some B),Z9 x]).run Tryz.prog w=.ok (.tuple #[]) w'/\Mf w' B (XC f x none)/\w'.heap.size=w.heap.size/\w.grownBy w' (some B):=by
 obtain⟨L,h1,h2,h3⟩:=h;obtain⟨w',hr,hm,hz,hg⟩:=J7 h1 x ty;refine⟨w',hr,?_,hz,hg⟩;cases hf:Y3 x L 0 with
 | none=>
  rw[hf] at hm;refine⟨L,hm,h2,fun y=>?_⟩;rw[h3 y];unfold XC;by_cases e:y=x
  ·rw[if_pos e,e,<- h3 x];exact Vk (Yx.1 hf)
  ·rw[if_neg e]
 | some p=>
  rw[hf] at hm;obtain⟨k,hj,hkl,hgt⟩:=YI (show Y3 x L 0=some (p.1,p.2) from hf);have hk:p.1=k:=by omega
  rw[<- hk] at hgt;refine⟨_,hm,?_,fun y=>?_⟩
  ·rw[YF];exact h2.sublist (List.eraseIdx_sublist _ _)
  ·rw[Ub y x p.2 L p.1 hgt h2,h3 y];rfl
end Go.Proofs.YtnelmomagdcmnaaGreat.Hp
namespace Go.Proofs.YtnelmomagdcmnaaGreat.Hp
open Go.RowKit
def ZL (B:Nat)(S:Nat->Prop)(w w':World):Prop:=Below B w w'/\∀ k,k<w.heap.size->¬ S k->w'.heap[k]?=w.heap[k]?
theorem ZL.of_below {B:Nat}{S:Nat->Prop}{w w':World}(h:Below w.heap.size w w')(hB:B<=w.heap.size):ZL B S w w':=⟨h.mono hB,fun k hk _=>h.block k hk⟩
theorem Bx.U7 {w w':World}{k t B:Nat}{S:Nat->Prop}{cs:Array Value}(h:Bx w k cs t)(hb:ZL B S w w')(hn:¬ S k):Bx w' k cs t:=(hb.2 k h.lt hn).trans h
theorem Cs.U7 {w w':World}{B:Nat}{S:Nat->Prop}{a:Option Addr}{cs:List Value}(h:Cs w a cs)(hb:ZL B S w w')(hn:∀ x,a=some x->¬ S x.block):Cs w' a cs:=fun j v hj=>by
 obtain⟨b,off,e,hlt,hc⟩:=h j v hj;refine⟨b,off,e,Nat.lt_of_lt_of_le hlt hb.1.size,?_⟩;rw[<- hc];unfold World.cell?;rw[hb.2 b hlt (hn _ e)]
theorem ZL.refl (B:Nat)(S:Nat->Prop)(w:World):ZL B S w w:=⟨Below.refl _ _,fun _ _ _=>rfl⟩
theorem ZL.trans {B:Nat}{S S2:Nat->Prop}{a b c:World}(h:ZL B S a b)(k:ZL B S2 b c)(hs:∀ x,S2 x->S x∨a.heap.size<=x):ZL B S a c:=
 ⟨h.1.trans k.1,fun i hi hn=>(k.2 i (by have:=h.1.size; omega) (fun h2=>(hs i h2).elim hn (by omega))).trans (h.2 i hi hn)⟩
theorem ZL.trans' {B:Nat}{S:Nat->Prop}{a b c:World}(h:ZL B S a b)(k:ZL B S b c):ZL B S a c:=h.trans k fun _=>.inl
theorem ZL.setCell {B:Nat}{S:Nat->Prop}(w:World)(b o:Nat)(v:Value)(hB:B<=b)(hS:S b):ZL B S w (w.setCell ⟨b,o,none⟩ v):=
 ⟨(Below.refl B w).setCell hB v,fun k _ hn=>heap_setCell_other w _ k v (fun e=>hn (by rw[e]; exact hS))⟩
theorem VD {w:World}{B e s n c b:Nat}{xs:List Value}(h:w.ownsRow B e s (.slice (some ⟨b,0,none⟩) n c) n xs)(j:Nat)(v:Value)(hj:j<xs.length):(w.setCell ⟨b,j,none⟩ v).ownsRow B e s (.slice (some ⟨b,0,none⟩) n c) n (xs.set j v):=by
 have hlen:=h.1;rcases h.2 with⟨e0,-⟩ | ⟨g,cap,cur,e0,hb,hg,hn,hm,hc,ht⟩
 ·cases e0
 ·simp only[Value.slice.injEq,Option.some.injEq,Addr.mk.injEq,and_true,true_and] at e0;obtain⟨rfl,rfl⟩:=e0;refine⟨by simpa using hlen,.inr ⟨b,c,cur.setIfInBounds j v,rfl,hb,Joins.block_setCell hg v,hn,hm,by simpa using hc,?_⟩⟩;rw[Array.toList_setIfInBounds,List.take_set,ht]
theorem XK {w:World}{B e s n c b:Nat}{xs:List Value}(h:w.ownsRow B e s (.slice (some ⟨b,0,none⟩) n c) n xs):∃ cur,Bx w b cur e/\n*s<=cur.size/\B<=b/\cur.toList.take (n*s)=xs:=by
 rcases h.2 with⟨e0,-⟩ | ⟨g,cap,cur,e0,hb,hg,hn,hm,hc,ht⟩
 ·cases e0
 ·simp only[Value.slice.injEq,Option.some.injEq,Addr.mk.injEq,and_true,true_and] at e0;obtain⟨rfl,rfl⟩:=e0;exact⟨cur,hg,by rw[hc]; exact Nat.mul_le_mul_right _ hn,hb,ht⟩
theorem WX {w w':World}{B e s n c:Nat}{a:Option Addr}{xs:List Value}(h:w.ownsRow B e s (.slice a n c) n xs)(hs:∀ x,a=some x->w'.heap[x.block]?=w.heap[x.block]?):w'.ownsRow B e s (.slice a n c) n xs:=by
 refine⟨h.1,?_⟩;rcases h.2 with h0 | ⟨g,cap,cur,e0,hb,hg,r⟩
 ·exact .inl h0
 ·refine .inr ⟨g,cap,cur,e0,hb,?_,r⟩;simp only[Value.slice.injEq,true_and] at e0;rw[<- hg];exact hs _ e0.1
theorem ZL.sets {B b:Nat}{S:Nat->Prop}(hB:B<=b)(hS:S b):∀ (vs:List Value) (o:Nat) (w:World),ZL B S w (w.setCells b o vs)
 | [],o,w=>ZL.refl _ _ _
 | v::r,o,w=>(ZL.setCell w b o v hB hS).trans' (ZL.sets hB hS r (o+1) _)
theorem Hr {w:World}{P:Program}{t e s bytes:Nat}{v0:Value}(hu:P.underlying t=some (.slice e))(hinfo:(P.info? e).map (fun i=>(i.zero,i.size,i.bytes))=some (some v0,s,bytes))(hzs:v0.cells.size=s)(hs:0<s)(hby:bytes<=1000)
  {B n:Nat} {v:Value} {xs:List Value} (hO:w.ownsRow B e s v n xs) (b:Nat) (ys:List Value) (hP:Cs w (some ⟨b,0,none⟩) ys) (hl:ys.length=s) (h1:∀ u∈ys,u.oneCell'=true) (hB:B<=w.heap.size) (hn:n<=100000) :
  ∃ v' w',(Builtin.append_ #[t,t] t #[v,.slice (some ⟨b,0,none⟩) 1 1]).run P w=.ok v' w'/\w'.ownsRow B e s v' (n+1) (xs++ys)/\w.grownBy w' v.ownBlock/\(v'.ownBlock=v.ownBlock∨v'.ownBlock=some w.heap.size):=by
 obtain⟨i0,hi,hz0,hz1,hz2⟩:=info_parts hinfo;obtain⟨v',w',hr,h2,h3,-,h4⟩:=run_append_own_at (P:=P) w B t t e i0 v0 s bytes hu hi hz0 hz1 hz2 hzs hs v n xs hO ⟨b,0,none⟩ 1 1 ys (by omega) (fun j u hj=>by
  obtain⟨b2,off2,e2,-,hc⟩:=hP j u hj;simp only[Option.some.injEq,Addr.mk.injEq,and_true] at e2;obtain⟨rfl,rfl⟩:=e2;rw[Addr.add_mid];exact hc) h1 (by unfold maxLen; omega) (by have:=Nat.mul_le_mul (show n+1<=100001 by omega) hby; omega) hB
 exact⟨v',w',hr,h2,h3,h4⟩
theorem Kq {q:Option Addr}{n c k:Nat}(e:(Value.slice q n c).ownBlock=some k):∃ x,q=some x/\x.block=k:=by
 cases q with
 | none=>cases e
 | some x=>exact⟨x,rfl,by simpa [Value.ownBlock] using e⟩
theorem xU {a q:Option Addr}{n c n2 c2 K:Nat}(ha:(Value.slice a n c).ownBlock=(Value.slice q n2 c2).ownBlock∨(Value.slice a n c).ownBlock=some K)(y:Addr)(hy:a=some y):(∃ x,q=some x/\x.block=y.block)∨y.block=K:=by
 subst hy;rcases ha with e | e
 ·exact .inl (Kq e.symm)
 ·exact .inr (by simpa [Value.ownBlock] using e)
structure Hd where
 B:Nat
 ka:Option Addr
 kc:Nat
 A:List It
def qW (d:Hd):Array Value:=#[.slice d.ka d.A.length d.kc,.map (some d.B)]
def Ph (g:Nat)(d:Hd):Nat->Nat->Prop
 | 0,k=>k=g
 | 1,k=>k=d.B
 | 2,k=>∃ x,d.ka=some x/\x.block=k
 | _,_=>False
structure Mh (w:World)(g:Nat)(d:Hd)(f:Int->Option Int):Prop where
 bx:Bx w g (qW d) 128
 mp:Mf w d.B f
 rk:w.ownsRow 0 99 3 (.slice d.ka d.A.length d.kc) d.A.length (itc d.A)
 Qa:∀ i j k,Ph g d i k->Ph g d j k->i=j
section
variable {w w' : World} {g : Nat} {d : Hd} {f : Int -> Option Int}
theorem Mh.inn (h:Mh w g d f):∀ i k,Ph g d i k->k<w.heap.size
 | 0,k,hk=>by
  have e:k=g:=hk;rw[e]; exact h.bx.lt
 | 1,k,hk=>by
  have e:k=d.B:=hk;rw[e]; exact h.mp.lt
 | 2,k,hk=>by
  obtain⟨x,hx,rfl⟩:=hk;exact(h.rk.lt x.block (by rw[hx]; rfl)).2
theorem Mh.same (h:Mh w g d f)(hs:∀ i k,Ph g d i k->w'.heap[k]?=w.heap[k]?):Mh w' g d f:=
 {bx:=(hs 0 g rfl).trans h.bx
  mp:=h.mp.same (hs 1 d.B rfl)
  rk:=WX h.rk fun x hx=>hs 2 _ ⟨x,hx,rfl⟩
  Qa:=h.Qa }
theorem Mh.below (h:Mh w g d f)(hb:Below w.heap.size w w'):Mh w' g d f:=h.same fun i k hk=>hb.block k (h.inn i k hk)
theorem Mh.drew (h:Mh w g d f):Mh { w with drawn:=w.drawn+1 } g d f:=h.same fun _ _ _=>rfl
theorem Mh.dV (h:Mh w g d f):(Instr.loadAt 96 (Z7 g 0)).run Tryz.prog w=.ok (.slice d.ka d.A.length d.kc) w:=h.bx.ZM 0
theorem Mh.ld1 (h:Mh w g d f):(Instr.loadAt 126 (Z7 g 1)).run Tryz.prog w=.ok (.map (some d.B)) w:=h.bx.ZM 1
theorem Mh.addr (h:Mh w g d f)(hi:0<d.A.length):∃ b,d.ka=some ⟨b,0,none⟩:=by
 rcases h.rk.2 with⟨-,h0⟩ | ⟨b,cap,cur,e0,-⟩
 ·omega
 ·simp only[Value.slice.injEq,true_and] at e0;exact⟨b,e0.1⟩
theorem Mh.cap (h:Mh w g d f):d.A.length<=d.kc:=by
 obtain⟨a,c,e,-,hc⟩:=Yy h.rk;simp only[Value.slice.injEq,true_and] at e;rw[e.2]; exact hc
theorem Mh.cs (h:Mh w g d f):Cs w d.ka (itc d.A):=by
 obtain⟨a,c,e,hc,-⟩:=Yy h.rk;simp only[Value.slice.injEq,true_and] at e;rw[e.1]; exact hc
theorem Mh.range (h:Mh w g d f){b:Nat}(hb:d.ka=some ⟨b,0,none⟩){i:Nat}(hi:i<d.A.length):w.rangeAt b (i*3) (OT (ita d.A i)):=by
 obtain⟨b2,off,e,-,hr⟩:=FW h.cs hi;rw[hb] at e;simp only[Option.some.injEq,Addr.mk.injEq,and_true] at e;obtain⟨rfl,rfl⟩:=e;rw[Nat.zero_add] at hr;exact hr
theorem Mh.item (h:Mh w g d f){b:Nat}(hb:d.ka=some ⟨b,0,none⟩){i:Nat}(hi:i<d.A.length):(Instr.loadAt 99 (Z7 b (i*3))).run Tryz.prog w=.ok (.agg (Ym (ita d.A i))) w:=IK (h.range hb hi)
theorem Mh.id (h:Mh w g d f){b:Nat}(hb:d.ka=some ⟨b,0,none⟩){i:Nat}(hi:i<d.A.length):(Instr.loadAt 3 (Z7 b (i*3))).run Tryz.prog w=.ok (Z9 (ita d.A i).1) w:=by
 refine XH ?_ (by kernel_rfl);have:=h.range hb hi 0 (Z9 (ita d.A i).1) rfl;simpa using this
theorem Mh.there (h:Mh w g d f){b:Nat}(hb:d.ka=some ⟨b,0,none⟩){i:Nat}(hi:i<d.A.length):w.there b (i*3) 3:=fun j hj=>by
 have hr:=h.rk;rw[hb] at hr;obtain⟨cur,hcur,hz,-,-⟩:=XK hr;refine⟨?_,frozen_of_row w b _ _ 99 hcur⟩;rw[cell_of_row w b _ _ 99 (0,0) hcur,Array.getElem?_eq_getElem (by omega)];rfl
theorem Mh.store (h:Mh w g d f){b:Nat}(hb:d.ka=some ⟨b,0,none⟩){i:Nat}(hi:i<d.A.length)(x:It):(Instr.storeAt 99 (Z7 b (i*3)) (.agg (Ym x))).run Tryz.prog w=.ok () (w.setCells b (i*3) (OT x)):=
 run_storeAt_mid w b (i*3) 99 (OT x).toArray (h.there hb hi) (by kernel_rfl) (jB x)
end
def Sh (g:Nat)(d:Hd)(k:Nat):Prop:=∃ i,Ph g d i k
structure Gh (Bd g:Nat)(d:Hd)(w:World)(d':Hd)(f':Int->Option Int)(w':World):Prop where
 mem:Mh w' g d' f'
 sub:∀ k,Sh g d' k->Sh g d k∨w.heap.size<=k
 but:ZL Bd (Sh g d) w w'
section
variable {Bd g : Nat} {d d1 d2 : Hd} {f f1 f2 : Int -> Option Int} {w w1 w2 : World}
theorem Gh.refl (h:Mh w g d f):Gh Bd g d w d f w:=⟨h,fun k hk=>.inl hk,ZL.refl _ _ _⟩
theorem Gh.trans (h:Gh Bd g d w d1 f1 w1)(k:Gh Bd g d1 w1 d2 f2 w2):Gh Bd g d w d2 f2 w2:=
 ⟨k.mem,fun x hx=>(k.sub x hx).elim (h.sub x) (fun h2=>.inr (Nat.le_trans h.but.1.size h2)),h.but.trans k.but h.sub⟩
theorem Gh.base (h:Gh Bd g d w d1 f1 w1)(hB:∀ k,Sh g d k->Bd<=k)(hw:Bd<=w.heap.size):∀ k,Sh g d1 k->Bd<=k:=fun k hk=>(h.sub k hk).elim (hB k) (Nat.le_trans hw)
theorem Gh.size (h:Gh Bd g d w d1 f1 w1)(hw:Bd<=w.heap.size):Bd<=w1.heap.size:=Nat.le_trans hw h.but.1.size
theorem Gh.below (h:Mh w g d f)(hb:Below w.heap.size w w1)(hw:Bd<=w.heap.size):Gh Bd g d w d f w1:=⟨h.below hb,fun k hk=>.inl hk,ZL.of_below hb hw⟩
theorem Gh.drew (h:Gh Bd g d w d1 f1 w1):Gh Bd g d w d1 f1 { w1 with drawn:=w1.drawn+1 }:=
 ⟨h.mem.drew,h.sub,⟨h.but.1.drew,h.but.2⟩⟩
theorem ae0 {n:Nat}(hin:∀ i k,Ph g d i k->k<w.heap.size)(hd:∀ i j k,Ph g d i k->Ph g d j k->i=j)(hp:∀ j k,Ph g d1 j k->Ph g d j k∨(w.heap.size<=k/\j=n)):∀ i j k,Ph g d1 i k->Ph g d1 j k->i=j:=fun i j k hi hj=>by
 rcases hp i k hi with h1 | h1 <;> rcases hp j k hj with h2 | h2
 ·exact hd i j k h1 h2
 ·have:=hin i k h1;omega
 ·have:=hin j k h2;omega
 ·rw[h1.2,h2.2]
theorem Gh.map (h:Mh w g d f)(hB:Bd<=d.B)(hm:Mf w1 d.B f1)(hg:w.grownBy w1 (some d.B)):Gh Bd g d w d f1 w1:=by
 obtain⟨h1,h2,h3,h4,h5⟩:=hg;have hk:∀ i k,i≠1->Ph g d i k->w1.heap[k]?=w.heap[k]?:=fun i k hi hk=>h5 k (h.inn i k hk) fun e=>by
  rw[Option.some.injEq] at e;exact hi (h.Qa i 1 k hk e)
 exact⟨⟨(hk 0 g (by omega) rfl).trans h.bx,hm,WX h.rk fun x hx=>hk 2 _ (by omega) ⟨x,hx,rfl⟩,h.Qa⟩,fun k hk=>.inl hk,
  ⟨by assumption,by assumption,by assumption,by assumption,fun i hi=>h5 i (Nat.lt_of_lt_of_le hi (Nat.le_trans hB (Nat.le_of_lt h.mp.lt))) (fun e=>by rw[Option.some.injEq] at e; omega)⟩,fun i hi hn=>h5 i hi fun e=>hn ⟨1,by rw[Option.some.injEq] at e; exact e⟩⟩
theorem Gh.ao9 (h:Mh w g d f)(hB:∀ k,Sh g d k->Bd<=k){b:Nat}(hb:d.ka=some ⟨b,0,none⟩)(i:Nat)(hi:i<d.A.length)(x:It):Gh Bd g d w { d with A:=d.A.set i x } f (w.setCells b (i*3) (OT x)):=by
 have h2:Ph g d 2 b:=⟨_,hb,rfl⟩;have ae1:=ZL.sets (S:=fun x=>x=b) (hB b ⟨2,h2⟩) rfl (OT x) (i*3) w;have hs:∀ j k,j≠2->Ph g d j k->(w.setCells b (i*3) (OT x)).heap[k]?=w.heap[k]?:=fun j k hj hk=>ae1.2 k (h.inn j k hk) fun e=>hj (h.Qa j 2 k hk (by rw[e]; exact h2));have hl:(d.A.set i x).length=d.A.length:=List.length_set;refine⟨⟨?_,h.mp.same (hs 1 _ (by omega) rfl),?_,h.Qa⟩,fun k hk=>.inl hk,ae1.1,fun k hk hn=>ae1.2 k hk fun e=>hn ⟨2,by rw[e]; exact h2⟩⟩
 ·show Bx _ _ (qW { d with A:=d.A.set i x }) _;unfold qW;simp only[hl];exact(hs 0 g (by omega) rfl).trans h.bx
 ·show World.ownsRow _ 0 99 3 (.slice d.ka (d.A.set i x).length d.kc) (d.A.set i x).length (itc (d.A.set i x));have h1:=h.rk;rw[hl];rw[hb] at h1 ⊢;have h3:=VD (VD (VD h1 (i*3) (Z9 x.1) (by rw[Vz]; omega)) (i*3+1) (ZV x.2.1) (by rw[List.length_set,Vz]; omega)) (i*3+1+1) (Z9 x.2.2) (by rw[List.length_set,List.length_set,Vz]; omega);rw[Ez _ _ _ hi] at h3;exact h3
theorem Gh.head (h:Mh w g d f)(hB:∀ k,Sh g d k->Bd<=k){V:World}(hb:ZL Bd (Sh g d) w V)(h0:∀ j k,j<=1->Ph g d j k->V.heap[k]?=w.heap[k]?)(e1:d1.B=d.B)
  (r3:V.ownsRow 0 99 3 (.slice d1.ka d1.A.length d1.kc) d1.A.length (itc d1.A)) (hp:∀ k,Ph g d1 2 k->Ph g d 2 k∨w.heap.size<=k) (v:Value) (hv:v=.slice d1.ka d1.A.length d1.kc):Gh Bd g d w d1 f (V.setCell ⟨g,0,none⟩ v):=by
 have hp2:∀ j k,Ph g d1 j k->Ph g d j k∨(w.heap.size<=k/\j=2)
  | 0,k,hk=>.inl hk
  | 1,k,hk=>.inl (show k=d.B from e1 ▸ hk)
  | 2,k,hk=>(hp k hk).imp id fun h=>⟨h,rfl⟩
  | _+3,k,hk=>hk.elim
 have hdis:=ae0 h.inn h.Qa hp2;have hgw:=h.bx.lt;have hset:∀ j k,j≠0->Ph g d1 j k->(V.setCell ⟨g,0,none⟩ v).heap[k]?=V.heap[k]?:=fun j k hj hk=>heap_setCell_other V ⟨g,0,none⟩ k v fun e=>hj (hdis j 0 k hk e);refine⟨⟨?_,?_,WX r3 fun x hx=>hset 2 _ (by omega) ⟨x,hx,rfl⟩,hdis⟩,?_,hb.trans' (ZL.setCell V g 0 v (hB g ⟨0,rfl⟩) ⟨0,rfl⟩)⟩
 ·have:=Bx.Gs ((h0 0 g (by omega) rfl).trans h.bx:Bx V g (qW d) 128) (i:=0) v;rw[hv] at this ⊢;have e:qW d1=(qW d).setIfInBounds 0 (.slice d1.ka d1.A.length d1.kc):=by
   unfold qW;rw[e1];rfl
  rw[e];exact this
 ·rw[e1];exact h.mp.same ((hset 1 _ (by omega) e1.symm).trans (h0 1 _ (by omega) rfl))
 ·rintro k ⟨j,hj⟩;exact(hp2 j k hj).imp (fun h=>⟨j,h⟩) (·.1)
theorem Gh.grown (h:Mh w g d f)(hB:∀ k,Sh g d k->Bd<=k)(hw:Bd<=w.heap.size)(hb:Below w.heap.size w w1){row:Option Nat}(n:Nat)(hn:∀ k,row=some k->Ph g d n k)(hg:w1.grownBy w2 row):ZL Bd (Sh g d) w w2/\∀ j k,j≠n->Ph g d j k->w2.heap[k]?=w.heap[k]?:=by
 obtain⟨g1,g2,g3,g4,g5⟩:=hg;have hs:=hb.size;have hx:∀ k,k<w.heap.size->¬ Ph g d n k->w2.heap[k]?=w.heap[k]?:=fun k hk hn2=>(g5 k (by omega) fun e=>hn2 (hn k e.symm)).trans (hb.block k hk);have hb2:Below Bd w1 w2:=⟨by assumption,by assumption,by assumption,by assumption,fun i hi=>g5 i (by omega) fun e=>by
  have:=hB i ⟨n,hn i e.symm⟩;omega⟩
 exact⟨⟨(hb.mono hw).trans hb2,fun k hk hn2=>hx k hk fun h2=>hn2 ⟨n,h2⟩⟩,fun j k hj hk=>hx k (h.inn j k hk) fun h2=>hj (h.Qa j n k hk h2)⟩
theorem Gh.push (h:Mh w g d f)(hB:∀ k,Sh g d k->Bd<=k)(hw:Bd<=w.heap.size)(hb:Below w.heap.size w w1){v:Value}{x:It}(hO:w2.ownsRow 0 99 3 v (d.A.length+1) (itc (d.A++[x])))(hg:w1.grownBy w2 (Value.slice d.ka d.A.length d.kc).ownBlock)(ha:v.ownBlock=(Value.slice d.ka d.A.length d.kc).ownBlock∨v.ownBlock=some w1.heap.size) :
  ∃ a c,v=.slice a (d.A++[x]).length c/\Gh Bd g d w { d with ka:=a,kc:=c,A:=d.A++[x] } f (w2.setCell ⟨g,0,none⟩ v):=by
 obtain⟨a,c,rfl,-,-⟩:=Yy hO;have hl:d.A.length+1=(d.A++[x]).length:=by simp
 rw[hl] at hO ha ⊢;have hs:=hb.size;obtain⟨hb2,hk⟩:=Gh.grown h hB hw hb 2 (fun k e=>Kq e) hg;refine⟨a,c,rfl,Gh.head (d1:={ d with ka:=a,kc:=c,A:=d.A++[x] }) h hB hb2 (fun j k hj=>hk j k (by omega)) rfl hO ?_ _ rfl⟩;rintro k ⟨y,hy,e⟩;exact(xU ha y hy).elim (fun h2=>.inl (by rw[<- e]; exact h2)) fun h2=>.inr (by omega)
theorem Gh.cut (h:Mh w g d f)(hB:∀ k,Sh g d k->Bd<=k)(n:Nat)(hn:n<=d.A.length):Gh Bd g d w { d with A:=d.A.take n } f (w.setCell ⟨g,0,none⟩ (.slice d.ka n d.kc)):=by
 have hl:(d.A.take n).length=n:=by rw[List.length_take]; omega
 refine Gh.head (d1:={ d with A:=d.A.take n }) h hB (ZL.refl _ _ _) (fun _ _ _ _=>rfl) rfl ?_ (fun k hk=>.inl hk) _ (by show _=Value.slice d.ka (d.A.take n).length d.kc; rw[hl]);show w.ownsRow 0 99 3 (.slice d.ka (d.A.take n).length d.kc) (d.A.take n).length (itc (d.A.take n));rw[hl];refine⟨by rw[Vz,hl],?_⟩;rcases h.rk.2 with⟨e,e2⟩ | ⟨b,cap,cur,e,hb,hx,hc,hm,hs,ht⟩
 ·rw[e2] at hn;simp only[Value.slice.injEq] at e;exact .inl ⟨by rw[e.1,e.2.2,show n=0 by omega],by omega⟩
 ·simp only[Value.slice.injEq,true_and] at e;refine .inr ⟨b,cap,cur,by rw[e.1,e.2],hb,hx,by omega,hm,hs,?_⟩;rw[<- Ey,<- ht,List.take_take,Nat.min_eq_left (Nat.mul_le_mul_right _ hn)]
theorem Gh.ao3 {g0:Nat}(h:Mh w g d f)(h0:w.heap.size<=g0):¬ Sh g d g0:=fun⟨i,hi⟩=>by
 have:=h.inn i g0 hi;omega
end
def XJ (x y:Int):Int:=if x<y then -1 else if y<x then 1 else 0
def NK (a b:It):Int:=if XJ b.2.1 a.2.1=0 then (if XJ a.2.2 b.2.2=0 then XJ a.1 b.1 else XJ a.2.2 b.2.2) else XJ b.2.1 a.2.1
theorem BJ (x y:Int):XJ x y<0↔x<y:=by
 unfold XJ
 split
 ·omega
 ·split <;> omega
theorem Uy (x y:Int):XJ x y=0↔x=y:=by
 unfold XJ
 split
 ·omega
 ·split <;> omega
theorem zV (a b:It):decide (NK a b<0)=bf a b:=by
 rw[Bool.eq_iff_iff,decide_eq_true_iff,PN];unfold NK;by_cases h1:XJ b.2.1 a.2.1=0
 ·rw[if_pos h1];rw[Uy] at h1;by_cases h2:XJ a.2.2 b.2.2=0
  ·rw[if_pos h2,BJ];rw[Uy] at h2;omega
  ·rw[if_neg h2,BJ];rw[Uy] at h2;omega
 ·rw[if_neg h1,BJ];rw[Uy] at h1;omega
def Gd (W V:World):Prop:=Below W.heap.size W V/\W.drawn<=V.drawn
theorem Gd.trans {a b c:World}(h:Gd a b)(k:Gd b c):Gd a c:=⟨h.1.trans (k.1.mono h.1.size),Nat.le_trans h.2 k.2⟩
theorem Gd.alloc (W:World)(o:Obj):Gd W (W.alloc o):=⟨(Below.refl _ W).alloc (Nat.le_refl _) _,Nat.le_refl _⟩
theorem Gd.drew (W:World):Gd W { W with drawn:=W.drawn+1 }:=⟨(Below.refl _ W).drew,Nat.le_succ _⟩
theorem He (x:Int)(w:World):Calls Tryz.prog 142 #[ZV x] w fun e w'=>e=.returned ZY/\w=w':=by
 go_enter Tryz.func142,Tryz.ntmps142;go_wp2;go_ret;exact⟨rfl,rfl⟩
theorem G9 (x:Int)(w:World):Calls Tryz.prog 143 #[Z9 x] w fun e w'=>e=.returned ZY/\w=w':=by
 go_enter Tryz.func143,Tryz.ntmps143;go_wp2;go_ret;exact⟨rfl,rfl⟩
theorem ap0 (x y:Int)(w:World):Calls Tryz.prog 106 #[ZV x,ZV y] w fun e w'=>e=.returned (Z9 (XJ x y))/\w=w':=by
 unfold XJ;by_cases h1:x<y
 ·rw[if_pos h1];go_enter Tryz.func106,Tryz.ntmps106;go_wp2_with (go_at_call 142; refine(He _ _).mono ?_; rintro e w' ⟨rfl,rfl⟩)
  go_ret;exact⟨rfl,rfl⟩
 ·by_cases h2:y<x
  ·rw[if_neg h1,if_pos h2];go_enter Tryz.func106,Tryz.ntmps106;go_wp2_with (go_at_call 142; refine(He _ _).mono ?_; rintro e w' ⟨rfl,rfl⟩)
   go_ret;exact⟨rfl,rfl⟩
  ·rw[if_neg h1,if_neg h2];go_enter Tryz.func106,Tryz.ntmps106;go_wp2_with (go_at_call 142; refine(He _ _).mono ?_; rintro e w' ⟨rfl,rfl⟩)
   go_ret;exact⟨rfl,rfl⟩
theorem dO (x y:Int)(w:World):Calls Tryz.prog 107 #[Z9 x,Z9 y] w fun e w'=>e=.returned (Z9 (XJ x y))/\w=w':=by
 unfold XJ;by_cases h1:x<y
 ·rw[if_pos h1];go_enter Tryz.func107,Tryz.ntmps107;go_wp2_with (go_at_call 143; refine(G9 _ _).mono ?_; rintro e w' ⟨rfl,rfl⟩)
  go_ret;exact⟨rfl,rfl⟩
 ·by_cases h2:y<x
  ·rw[if_neg h1,if_pos h2];go_enter Tryz.func107,Tryz.ntmps107;go_wp2_with (go_at_call 143; refine(G9 _ _).mono ?_; rintro e w' ⟨rfl,rfl⟩)
   go_ret;exact⟨rfl,rfl⟩
  ·rw[if_neg h1,if_neg h2];go_enter Tryz.func107,Tryz.ntmps107;go_wp2_with (go_at_call 143; refine(G9 _ _).mono ?_; rintro e w' ⟨rfl,rfl⟩)
   go_ret;exact⟨rfl,rfl⟩
def Oj:List Int->Int
 | []=>0
 | x::r=>if x=0 then Oj r else x
theorem av8 {ρ:Operand->Value}{o:Oper}{x y:Operand}(ho:o.op=.binOp .neq 3 x y 3)(a b:Int)(hx:ρ x=Z9 a)(hy:ρ y=Z9 b)(w:World):(execOp ρ o).run Tryz.prog w=.ok (.value (.bool (a != b))) w:=by
 unfold execOp;simp only[ho,hx,hy];go_simp
theorem ap1 {ρ:Operand->Value}{o:Oper}{x y:Operand}(ho:o.op=.binOp .lss 3 x y 3)(a b:Int)(hx:ρ x=Z9 a)(hy:ρ y=Z9 b)(w:World):(execOp ρ o).run Tryz.prog w=.ok (.value (.bool (decide (a<b)))) w:=by
 unfold execOp;simp only[ho,hx,hy];go_simp
theorem eq_i {ρ:Operand->Value}{o:Oper}{x y:Operand}(ho:o.op=.binOp .eql 3 x y 3)(a b:Int)(hx:ρ x=Z9 a)(hy:ρ y=Z9 b)(w:World):(execOp ρ o).run Tryz.prog w=.ok (.value (.bool (decide (a=b)))) w:=by
 unfold execOp;simp only[ho,hx,hy];go_simp;rw[Bool.eq_iff_iff];simp
theorem BK (L:List Int)(k:Nat)(h:k<L.length):Oj (L.drop k)=if L.getD k 0=0 then Oj (L.drop (k+1)) else L.getD k 0:=by
 rw[List.drop_eq_getElem_cons h,getD_lt L k 0 h];rfl
theorem BL (L:List Int)(g c:Nat)(w:World)(hl:L.length<=1000)(hX:Cs w (some ⟨g,0,none⟩) (ZJ L)):Calls Tryz.prog 105 #[.slice (some ⟨g,0,none⟩) L.length c] w fun e w'=>e=.returned (Z9 (Oj L))/\w=w':=by
 have HR:=Z8 (show Oj (L.drop 0)=Oj L from rfl);have HC:=Z8 hX;generalize Oj L=R at *
 obtain⟨n,hn⟩:=ZR L.length;have HN:=Z8 hn;rw[hn] at hl ⊢;clear hn hX;go_enter Tryz.func105,Tryz.ntmps105;go_wp2_with fail;go_loopg [8] n (fun gg s8 wx=>∃ i:Nat,s8=Z9 i/\i<=n/\Hid (Oj (L.drop i)=R)/\w=wx/\n-i=gg)
 case atStart=>exact⟨0,rfl,by omega,HR,rfl,rfl⟩
 case round=>
  obtain⟨i,rfl,hi,hR,rfl,hg⟩:=hrel;by_cases hlt:i<n
  ·have hd:decide (i<n)=true:=decide_eq_true hlt;obtain⟨b,off,e2,hbb,hrx⟩:=PU HC.out (k:=i) (by rw[HN.out]; exact hlt);simp only[Option.some.injEq,Addr.mk.injEq,and_true] at e2;obtain⟨rfl,rfl⟩:=e2;have hR1:=hR.out;rw[BK L i (by rw[HN.out]; exact hlt)] at hR1;rw[Nat.zero_add] at hrx;generalize L.getD i 0=x at *
   have HR1:=Z8 hR1;have HG:Hid (n-(i+1)=gk-1/\0<gk/\i+1<=n):=Z8 ⟨by omega,by omega,by omega⟩;have HX:=Z8 hrx;clear hR1 hR hg hrx;go_upto_region 3 with fail;refine wl<|Yd (.bool (decide (i<n))) (Q9 rfl i n) ?_;simp only[pu];rw[hd];apply wpList_nil;go_upto_region 4 with fail;refine wl<|Za (Z7 g (0+i)) (Wn g 0 n c i hlt _ _ _ rfl (by kernel_rfl) (by kernel_rfl))<|ZC rfl ⟨g,0+i,none⟩ (Z9 x) (XH (by rw[Nat.zero_add]; exact HX.out) (by kernel_rfl))<|ZQ (Z9 x)<|wn ?_;simp only[pu];by_cases hx0:x=0
   ·have hR2:=HR1.out;rw[if_pos hx0] at hR2;have HR2:=Z8 hR2;obtain rfl:=hx0;clear hR2 HR1 HX;go_upto_region 5 with fail;refine wl<|YX (Z9 0) (Z9 0) ZY<|wn ?_;simp only[pu];go_upto_region 7 with fail;refine wl<|Za (Z9 (i+1:Nat)) (add_one rfl i (by omega) (by kernel_rfl) _)<|ZQ (Z9 (i+1:Nat))<|wn ?_;simp only[pu];go_wp2_with fail;go_roundg (gk-1)
    case measure=>have:=HG.out; omega
    case rel=>exact⟨i+1,rfl,HG.out.2.2,HR2,rfl,HG.out.1⟩
   ·have hR2:=HR1.out;rw[if_neg hx0] at hR2;have HR2:=Z8 hR2;have HN0:(x != 0)=true:=(by simpa using hx0);clear hR2 HR1 HX;go_upto_region 5 with fail;refine wl<|ZB (Z9 x) (Z9 0)<|Yd (.bool (x != 0)) (av8 rfl x 0) ?_;simp only[pu];rw[HN0];apply wpList_nil;have wM:=Z8 HN0;have zf:=Z8 hx0;clear HN0 hx0;go_upto_region 6 with fail;refine wl<|ZB (Z9 x) (Z9 x)<|wn ?_;simp only[pu];go_wp2_with fail;go_ret;exact⟨by rw[HR2.out]; rfl,rfl⟩
  ·have hd:decide (i<n)=false:=decide_eq_false hlt;have hR1:=hR.out;rw[List.drop_eq_nil_of_le (by rw[HN.out]; omega)] at hR1;have HR1:=Z8 hR1;clear hR1 hR hg;go_upto_region 3 with fail;refine wl<|Yd (.bool (decide (i<n))) (Q9 rfl i n) ?_;simp only[pu];rw[hd];apply wpList_nil;go_upto_region 8 with fail;refine wl<|ZB (Z9 0) (Z9 0)<|wn ?_;simp only[pu];go_wp2_with fail;go_ret;exact⟨by rw[<- HR1.out]; rfl,rfl⟩
end Go.Proofs.YtnelmomagdcmnaaGreat.Hp
