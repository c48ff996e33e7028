/-
  Texts joined.
-/
import Derived.Test.YtnelmomagdcmnaaGreatJ13
set_option maxRecDepth 100000
set_option maxHeartbeats 8000000
set_option linter.unusedSimpArgs false
set_option linter.unusedVariables false
namespace Go.Proofs.YtnelmomagdcmnaaGreat.Hp
attribute [local irreducible] wpList wpQuiet
open Go.RowKit
theorem zO (x y:It)(w:World):Gd w ((w.alloc (.cells (Ym x) 99)).alloc (.cells (Ym y) 99))/\Bx ((w.alloc (.cells (Ym x) 99)).alloc (.cells (Ym y) 99)) w.heap.size (Ym x) 99/\Bx ((w.alloc (.cells (Ym x) 99)).alloc (.cells (Ym y) 99)) (w.heap.size+1) (Ym y) 99:=by
 refine⟨(Gd.alloc w (.cells (Ym x) 99)).trans (Gd.alloc _ (.cells (Ym y) 99)),?_,?_⟩
 ·have h0:Bx (w.alloc (.cells (Ym x) 99)) w.heap.size (Ym x) 99:=heap_alloc_last w _;exact h0.below h0.lt ((Below.refl _ _).alloc (Nat.le_refl _) _)
 ·have h1:=heap_alloc_last (w.alloc (.cells (Ym x) 99)) (.cells (Ym y) 99);have e:(w.alloc (.cells (Ym x) 99)).heap.size=w.heap.size+1:=by simp
  rw[e] at h1;exact h1
theorem EC {w:World}{g:Nat}{x:It}(h:Bx w g (Ym x) 99):(Instr.loadAt 3 (Z7 g 0)).run Tryz.prog w=.ok (Z9 x.1) w:=h.ZM 0
theorem dQ {w:World}{g:Nat}{x:It}(h:Bx w g (Ym x) 99):(Instr.loadAt 23 (Z7 g 1)).run Tryz.prog w=.ok (ZV x.2.1) w:=h.ZM 1
theorem dP {w:World}{g:Nat}{x:It}(h:Bx w g (Ym x) 99):(Instr.loadAt 3 (Z7 g 2)).run Tryz.prog w=.ok (Z9 x.2.2) w:=h.ZM 2
theorem av7 (x y:It):Oj [XJ y.2.1 x.2.1,XJ x.2.2 y.2.2,XJ x.1 y.1]=NK x y:=by
 unfold NK Oj Oj Oj Oj;by_cases a1:XJ y.2.1 x.2.1=0
 ·rw[if_pos a1,if_pos a1];by_cases a2:XJ x.2.2 y.2.2=0
  ·rw[if_pos a2,if_pos a2];by_cases a3:XJ x.1 y.1=0
   ·rw[if_pos a3,a3]
   ·rw[if_neg a3]
  ·rw[if_neg a2,if_neg a2]
 ·rw[if_neg a1,if_neg a1]
theorem xQ (a b c:Int)(w:World):(Instr.buildSlice 22 3 #[(0,Z9 a),(1,Z9 b),(2,Z9 c)]).run Tryz.prog w=.ok (.slice (some ⟨w.heap.size,0,none⟩) 3 3) (w.alloc (.cells #[Z9 a,Z9 b,Z9 c] 3)):=by
 obtain⟨i0,hi,hz0,hz1,hz2⟩:=info_parts OB;refine run_buildSlice w 22 3 3 _ #[Z9 a,Z9 b,Z9 c] i0 _ Tryz.underlying22 hi hz0 (by rw[hz1]; omega) (by rw[hz1]; omega) ?_;rw[hz1];kernel_rfl
theorem qY (x y:It)(w:World):Calls Tryz.prog 75 #[.agg (Ym x),.agg (Ym y)] w fun e w'=>e=.returned (Z9 (NK x y))/\Gd w w':=by
 have HF:=Z8 (av7 x y);generalize NK x y=R at *
 obtain⟨hg,h1,h2⟩:=zO x y w;obtain⟨g0,e0⟩:=ZR w.heap.size;rw[e0] at h1 h2;go_enter Tryz.func75,Tryz.ntmps75;go_upto_region 1 with fail;change Code.wp _ _ _ _ ((w.alloc (.cells (Ym x) 99)).alloc (.cells (Ym y) 99));generalize (w.alloc (.cells (Ym x) 99)).alloc (.cells (Ym y) 99)=W at *
 clear e0;have HG:=Z8 hg;clear hg;refine ZP (C:=fun U=>Bx U g0 (Ym x) 99/\Bx U (g0+1) (Ym y) 99/\Gd W U) 15 (by kernel_rfl) (by kernel_rfl) (⟨h1,h2,Gd.drew W⟩) ?_;simp only[List.take_succ_cons,List.take_zero,List.drop_succ_cons,List.drop_zero];refine gy (Z7 (g0+1) 1)<|Zx rfl ⟨g0+1,1,none⟩ (ZV y.2.1) (fun U hU=>dQ hU.2.1)<|gy (Z7 g0 1)<|Zx rfl ⟨g0,1,none⟩ (ZV x.2.1) (fun U hU=>dQ hU.1) ?_;refine ZA (by kernel_rfl) (some 9) rfl 106 #[ZV y.2.1,ZV x.2.1] (Z9 (XJ y.2.1 x.2.1)) (fun U hU=>by kernel_rfl) (fun U hU=>(ap0 (y.2.1) (x.2.1) U).mono fun e w2 q=>⟨q.1,q.2 ▸ hU⟩) ?_;refine gy (Z7 g0 2)<|Zx rfl ⟨g0,2,none⟩ (Z9 x.2.2) (fun U hU=>dP hU.1)<|gy (Z7 (g0+1) 2)<|Zx rfl ⟨g0+1,2,none⟩ (Z9 y.2.2) (fun U hU=>dP hU.2.1) ?_;refine ZA (by kernel_rfl) (some 14) rfl 107 #[Z9 x.2.2,Z9 y.2.2] (Z9 (XJ x.2.2 y.2.2)) (fun U hU=>by kernel_rfl) (fun U hU=>(dO (x.2.2) (y.2.2) U).mono fun e w2 q=>⟨q.1,q.2 ▸ hU⟩) ?_;refine gy (Z7 g0 0)<|Zx rfl ⟨g0,0,none⟩ (Z9 x.1) (fun U hU=>EC hU.1)<|gy (Z7 (g0+1) 0)<|Zx rfl ⟨g0+1,0,none⟩ (Z9 y.1) (fun U hU=>EC hU.2.1) ?_;refine ZA (by kernel_rfl) (some 19) rfl 107 #[Z9 x.1,Z9 y.1] (Z9 (XJ x.1 y.1)) (fun U hU=>by kernel_rfl) (fun U hU=>(dO (x.1) (y.1) U).mono fun e w2 q=>⟨q.1,q.2 ▸ hU⟩) ?_;simp only[pu];apply wpQuiet_nil;intro V hV;have HV:=Z8 (HG.out.trans hV.2.2);clear hV h1 h2;have CS:Cs (V.alloc (.cells #[Z9 (XJ y.2.1 x.2.1),Z9 (XJ x.2.2 y.2.2),Z9 (XJ x.1 y.1)] 3)) (some ⟨V.heap.size,0,none⟩) (ZJ [XJ y.2.1 x.2.1,XJ x.2.2 y.2.2,XJ x.1 y.1]):=Cs.block (t:=3) (fr:=(0,0)) (heap_alloc_last V _);have CO:=BL [XJ y.2.1 x.2.1,XJ x.2.2 y.2.2,XJ x.1 y.1] V.heap.size 3 _ (by simp) CS;rw[HF.out] at CO;have HV2:=Z8 (HV.out.trans (Gd.alloc V (.cells #[Z9 (XJ y.2.1 x.2.1),Z9 (XJ x.2.2 y.2.2),Z9 (XJ x.1 y.1)] 3)));refine Zm (by kernel_rfl) (some 20) rfl 22 3 #[(0,.tmp 9),(1,.tmp 14),(2,.tmp 19)] rfl #[(0,Z9 (XJ y.2.1 x.2.1)),(1,Z9 (XJ x.2.2 y.2.2)),(2,Z9 (XJ x.1 y.1))] (by kernel_rfl) (.slice (some ⟨V.heap.size,0,none⟩) 3 3) _ (xQ _ _ _ V) ?_;simp only[pu];generalize V.alloc (.cells #[Z9 (XJ y.2.1 x.2.1),Z9 (XJ x.2.2 y.2.2),Z9 (XJ x.1 y.1)] 3)=V2 at *
 refine YD (Z9 R) (fun w9=>V2=w9) CO (fun w9 h9=>?_);simp only[pu];subst h9;refine ZQ (Z9 R)<|wn ?_;simp only[pu];clear CS CO HF HV;go_wp2_with fail;go_ret;exact⟨rfl,HV2.out⟩
theorem Jd (x y:It)(w:World):Calls Tryz.prog 111 #[.agg (Ym x),.agg (Ym y)] w fun e w'=>e=.returned (.bool (bf x y))/\Gd w w':=by
 have HC:=Z8 (fun V=>qY x y V);have HL:=Z8 (zV x y);generalize NK x y=R at *
 generalize bf x y=B at *
 obtain⟨hg,h1,h2⟩:=zO x y w;obtain⟨g0,e0⟩:=ZR w.heap.size;rw[e0] at h1 h2;go_enter Tryz.func111,Tryz.ntmps111;go_upto_region 1 with fail;change Code.wp _ _ _ _ ((w.alloc (.cells (Ym x) 99)).alloc (.cells (Ym y) 99));generalize (w.alloc (.cells (Ym x) 99)).alloc (.cells (Ym y) 99)=W at *
 clear e0;have HG:=Z8 hg;clear hg;refine wl<|ZC rfl ⟨g0,0,none⟩ (.agg (Ym x)) (Ko h1)<|ZC rfl ⟨g0+1,0,none⟩ (.agg (Ym y)) (Ko h2)<|YD (Z9 R) (fun w9=>Gd W w9) (HC.out W) (fun V hV=>?_);refine Za (.bool B) (by rw[<- HL.out]; exact ap1 rfl R 0 (by kernel_rfl) (by kernel_rfl) _)<|ZQ (.bool B)<|wn ?_;simp only[pu];have HV:=Z8 (HG.out.trans hV);clear hV h1 h2 HC HL;go_wp2_with fail;go_ret;exact⟨rfl,HV.out⟩
theorem jC {A:List It}{i j:Nat}(hi:i<A.length)(hj:j<A.length):ita (VR A i j) i=ita A j:=by
 rw[PG A i j i hi hj]
 split
 ·rename_i e; rw[e]
 ·rw[if_pos rfl]
theorem Hf {A:List It}{i j:Nat}(hi:i<A.length)(hj:j<A.length):ita (VR A i j) j=ita A i:=by
 rw[PG A i j j hi hj,if_pos rfl]
def exF (A:List It)(f:Int->Option Int)(i j:Nat):Int->Option Int:=XC (XC f (ita A j).1 (some (i:Int))) (ita A i).1 (some (j:Int))
theorem Mh.dS {w:World}{g b:Nat}{d:Hd}{f:Int->Option Int}(h:Mh w g d f)(hb:d.ka=some ⟨b,0,none⟩):(Instr.loadAt 96 (Z7 g 0)).run Tryz.prog w=.ok (.slice (some ⟨b,0,none⟩) d.A.length d.kc) w:=by
 rw[<- hb]; exact h.dV
structure XW (P0 P1 P2:World->Prop)(b16 b23 b25 b27:Bool)(V:World):Prop where
 p0:b25=false->P0 V
 p1:b25=true->b27=false->P1 V
 p2:b27=true->P2 V
 c1:b25=true->b16=true/\b23=true
 c2:b27=true->b25=true
section
variable {P0 P1 P2 : World -> Prop} {b16 b23 b25 b27 : Bool} {V : World}
theorem XW.start (h:P0 V):XW P0 P1 P2 false false false false V:=⟨fun _=>h,fun h=>(by cases h),fun h=>(by cases h),fun h=>(by cases h),fun h=>(by cases h)⟩
theorem XW.any (h:XW P0 P1 P2 b16 b23 b25 b27 V):P0 V∨P1 V∨P2 V:=by
 cases b25 with
 | false=>exact .inl (h.p0 rfl)
 | true=>
  cases b27 with
  | false=>exact .inr (.inl (h.p1 rfl rfl))
  | true=>exact .inr (.inr (h.p2 rfl))
theorem XW.m16 (h:XW P0 P1 P2 b16 b23 false b27 V):XW P0 P1 P2 true b23 false b27 V:=⟨h.p0,fun h=>(by cases h),h.p2,fun h=>(by cases h),h.c2⟩
theorem XW.m23 (h:XW P0 P1 P2 b16 b23 false b27 V):XW P0 P1 P2 b16 true false b27 V:=⟨h.p0,fun h=>(by cases h),h.p2,fun h=>(by cases h),h.c2⟩
end
theorem ad8 {Bd g:Nat}{d:Hd}{f:Int->Option Int}{w:World}(h:Mh w g d f)(hB:∀ k,Sh g d k->Bd<=k)(hw:Bd<=w.heap.size){i j:Nat}(hi:i<d.A.length)(hj:j<d.A.length) :
  Calls Tryz.prog 93 #[Z7 g 0,Z9 i,Z9 j] w fun e w'=>e=.returned (.tuple #[])/\Gh Bd g d w { d with A:=VR d.A i j } (exF d.A f i j) w':=by
 obtain⟨b,hb⟩:=h.addr (by omega);have H0:=Z8 (Gh.refl (Bd:=Bd) h);have oG:=Z8 (fun U (hU:Gh Bd g d w d f U)=>(⟨_,hU.mem.store hb hi (ita d.A j),hU.trans (Gh.ao9 hU.mem (hU.base hB hw) hb i hi (ita d.A j))⟩:∃ U1,(Instr.storeAt 99 (Z7 b (i*3)) (.agg (Ym (ita d.A j)))).run Tryz.prog U=.ok () U1/\Gh Bd g d w { d with A:=d.A.set i (ita d.A j) } f U1));have HS2:=Z8 (fun U (hU:Gh Bd g d w { d with A:=d.A.set i (ita d.A j) } f U)=>(⟨_,hU.mem.store hb (by show j<(d.A.set i (ita d.A j)).length; rw[List.length_set]; exact hj) (ita d.A i),hU.trans (Gh.ao9 hU.mem (hU.base hB hw) hb j (by show j<(d.A.set i (ita d.A j)).length; rw[List.length_set]; exact hj) (ita d.A i))⟩:∃ U1,(Instr.storeAt 99 (Z7 b (j*3)) (.agg (Ym (ita d.A i)))).run Tryz.prog U=.ok () U1/\Gh Bd g d w { d with A:=VR d.A i j } f U1));have nP:=Z8 (fun U (hU:Gh Bd g d w d f U∨Gh Bd g d w { d with A:=d.A.set i (ita d.A j) } f U∨Gh Bd g d w { d with A:=VR d.A i j } f U)=>(by
  rcases hU with hU | hU | hU
  ·exact hU.mem.dS hb
  ·have:=hU.mem.dS hb;rw[show({ d with A:=d.A.set i (ita d.A j) }:Hd).A.length=d.A.length from List.length_set] at this;exact this
  ·have:=hU.mem.dS hb;rw[show({ d with A:=VR d.A i j }:Hd).A.length=d.A.length from Yu _ _ _] at this;exact this:(Instr.loadAt 96 (Z7 g 0)).run Tryz.prog U=.ok (.slice (some ⟨b,0,none⟩) d.A.length d.kc) U))
 have HI1:=Z8 (fun U (hU:Gh Bd g d w d f U)=>hU.mem.item hb hi);have HI2:=Z8 (fun U (hU:Gh Bd g d w d f U)=>hU.mem.item hb hj);have HL2:=Z8 (fun U f2 (hU:Gh Bd g d w { d with A:=VR d.A i j } f2 U)=>(by
  have:=hU.mem.dS hb;rw[show({ d with A:=VR d.A i j }:Hd).A.length=d.A.length from Yu _ _ _] at this;exact this:(Instr.loadAt 96 (Z7 g 0)).run Tryz.prog U=.ok (.slice (some ⟨b,0,none⟩) d.A.length d.kc) U))
 have oH:=Z8 (fun U f2 (hU:Gh Bd g d w { d with A:=VR d.A i j } f2 U)=>hU.mem.ld1);have HA1:=Z8 (fun U f2 (hU:Gh Bd g d w { d with A:=VR d.A i j } f2 U)=>(by
  have:=hU.mem.id (i:=i) hb (by show i<(VR d.A i j).length; rw[Yu]; exact hi);rw[show ita ({ d with A:=VR d.A i j }:Hd).A i=ita d.A j from jC hi hj] at this;exact this:(Instr.loadAt 3 (Z7 b (i*3))).run Tryz.prog U=.ok (Z9 (ita d.A j).1) U))
 have HA2:=Z8 (fun U f2 (hU:Gh Bd g d w { d with A:=VR d.A i j } f2 U)=>(by
  have:=hU.mem.id (i:=j) hb (by show j<(VR d.A i j).length; rw[Yu]; exact hj);rw[show ita ({ d with A:=VR d.A i j }:Hd).A j=ita d.A i from Hf hi hj] at this;exact this:(Instr.loadAt 3 (Z7 b (j*3))).run Tryz.prog U=.ok (Z9 (ita d.A i).1) U))
 have HP:=Z8 (fun U f2 (hU:Gh Bd g d w { d with A:=VR d.A i j } f2 U) x v=>hU.mem.mp.put x v);have HG:=Z8 (fun U f2 (hU:Gh Bd g d w { d with A:=VR d.A i j } f2 U) U2 f3 (hm:Mf U2 d.B f3) (hg:U.grownBy U2 (some d.B))=>hU.trans (Gh.map hU.mem (hB d.B ⟨1,rfl⟩) hm hg));unfold exF;obtain⟨A2,hA2⟩:=ZR (VR d.A i j);rw[hA2] at HS2 nP HL2 oH HA1 HA2 HP HG ⊢;have HI:Hid (i<d.A.length/\j<d.A.length):=Z8 ⟨hi,hj⟩;obtain⟨n,hn⟩:=ZR d.A.length;rw[hn] at nP HL2 hi hj;generalize ita d.A i=y at *
 generalize ita d.A j=x at *
 clear h hB hw hb hA2 hn;go_enter Tryz.func93,Tryz.ntmps93;go_upto_region 0 with fail;have h0:=XW.start (H0.out.drew) (P1:=fun U=>Gh Bd g d w { d with A:=d.A.set i x } f U) (P2:=fun U=>Gh Bd g d w { d with A:=A2 } f U);refine ZK (fun listed ZH V=>∃ b0 b1 b2 b3 b4 b5 b6 b7 b8 b9 b10 b11 b12 b13 b14 b15 b16 b17 b18 b19 b20 b21 b22 b23 b24 b25 b26 b27:Bool,listed=#[b0,b1,b2,b3,b4,b5,b6,b7,b8,b9,b10,b11,b12,b13,b14,b15,b16,b17,b18,b19,b20,b21,b22,b23,b24,b25,b26,b27]/\ZH={ tmps:=#[Z7 g 0,Z9 i,Z9 j,undef,undef,undef,(cond b0 (Z7 g 0) undef),(cond b1 (Z7 g 0) undef),(cond b2 (Z7 g 0) undef),(cond b3 (.slice (some ⟨b,0,none⟩) n d.kc) undef),(cond b4 (Z9 i) undef),(cond b5 (Z7 g 0) undef),(cond b6 (Z7 g 0) undef),(cond b7 (Z7 g 0) undef),(cond b8 (.slice (some ⟨b,0,none⟩) n d.kc) undef),(cond b9 (Z9 j) undef),(cond b10 (Z7 g 0) undef),(cond b11 (Z7 g 0) undef),(cond b12 (Z7 g 0) undef),(cond b13 (.slice (some ⟨b,0,none⟩) n d.kc) undef),(cond b14 (Z9 j) undef),(cond b15 (Z7 b (j*3)) undef),(cond b16 (.agg (Ym x)) undef),(cond b17 (Z7 g 0) undef),(cond b18 (Z7 g 0) undef),(cond b19 (Z7 g 0) undef),(cond b20 (.slice (some ⟨b,0,none⟩) n d.kc) undef),(cond b21 (Z9 i) undef),(cond b22 (Z7 b (i*3)) undef),(cond b23 (.agg (Ym y)) undef),(cond b24 (Z7 b (i*3)) undef),(cond b26 (Z7 b (j*3)) undef),undef,undef,undef,undef,undef,undef,undef,undef,undef,undef,undef,undef,undef,undef,undef,undef,undef,undef,undef,undef,undef,undef,undef,undef,undef,undef],defers:=[] }/\XW (fun U=>Gh Bd g d w d f U) (fun U=>Gh Bd g d w { d with A:=d.A.set i x } f U) (fun U=>Gh Bd g d w { d with A:=A2 } f U) b16 b23 b25 b27 V) (by kernel_rfl) (by kernel_rfl) ?_ ?_ ?_
 ·exact⟨_,_,_,_,_,_,_,_,_,_,_,_,_,_,_,_,_,_,_,_,_,_,_,_,_,_,_,_,rfl,rfl,h0⟩
 ·intro i9 listed ZH V hi9 hr hJ;obtain⟨b0,b1,b2,b3,b4,b5,b6,b7,b8,b9,b10,b11,b12,b13,b14,b15,b16,b17,b18,b19,b20,b21,b22,b23,b24,b25,b26,b27,rfl,rfl,hF⟩:=hJ;have hi2:i9<28:=hi9;have hi3:i9=0∨i9=1∨i9=2∨i9=3∨i9=4∨i9=5∨i9=6∨i9=7∨i9=8∨i9=9∨i9=10∨i9=11∨i9=12∨i9=13∨i9=14∨i9=15∨i9=16∨i9=17∨i9=18∨i9=19∨i9=20∨i9=21∨i9=22∨i9=23∨i9=24∨i9=25∨i9=26∨i9=27:=by omega
  rcases hi3 with rfl | rfl | rfl | rfl | rfl | rfl | rfl | rfl | rfl | rfl | rfl | rfl | rfl | rfl | rfl | rfl | rfl | rfl | rfl | rfl | rfl | rfl | rfl | rfl | rfl | rfl | rfl | rfl
  ·obtain rfl:b0=false:=Z5 hr;refine ZW rfl (by kernel_rfl) (some 6) rfl (Z7 g 0) V (by kernel_rfl) ?_;exact⟨_,_,_,_,_,_,_,_,_,_,_,_,_,_,_,_,_,_,_,_,_,_,_,_,_,_,_,_,rfl,rfl,hF⟩
  ·obtain rfl:b1=false:=Z5 hr;obtain rfl:b0=true:=Z4 hr 0;refine ZW rfl (by kernel_rfl) (some 7) rfl (Z7 g 0) V (by kernel_rfl) ?_;exact⟨_,_,_,_,_,_,_,_,_,_,_,_,_,_,_,_,_,_,_,_,_,_,_,_,_,_,_,_,rfl,rfl,hF⟩
  ·obtain rfl:b2=false:=Z5 hr;obtain rfl:b1=true:=Z4 hr 1;refine ZW rfl (by kernel_rfl) (some 8) rfl (Z7 g 0) V (by kernel_rfl) ?_;exact⟨_,_,_,_,_,_,_,_,_,_,_,_,_,_,_,_,_,_,_,_,_,_,_,_,_,_,_,_,rfl,rfl,hF⟩
  ·obtain rfl:b3=false:=Z5 hr;obtain rfl:b2=true:=Z4 hr 2;refine ZI rfl (by kernel_rfl) (some 9) rfl 96 (.tmp 8) rfl ⟨g,0,none⟩ (.slice (some ⟨b,0,none⟩) n d.kc) (by kernel_rfl) (nP.out V hF.any) ?_;exact⟨_,_,_,_,_,_,_,_,_,_,_,_,_,_,_,_,_,_,_,_,_,_,_,_,_,_,_,_,rfl,rfl,hF⟩
  ·obtain rfl:b4=false:=Z5 hr;refine ZW rfl (by kernel_rfl) (some 10) rfl (Z9 i) V (by kernel_rfl) ?_;exact⟨_,_,_,_,_,_,_,_,_,_,_,_,_,_,_,_,_,_,_,_,_,_,_,_,_,_,_,_,rfl,rfl,hF⟩
  ·obtain rfl:b5=false:=Z5 hr;refine ZW rfl (by kernel_rfl) (some 11) rfl (Z7 g 0) V (by kernel_rfl) ?_;exact⟨_,_,_,_,_,_,_,_,_,_,_,_,_,_,_,_,_,_,_,_,_,_,_,_,_,_,_,_,rfl,rfl,hF⟩
  ·obtain rfl:b6=false:=Z5 hr;obtain rfl:b5=true:=Z4 hr 5;refine ZW rfl (by kernel_rfl) (some 12) rfl (Z7 g 0) V (by kernel_rfl) ?_;exact⟨_,_,_,_,_,_,_,_,_,_,_,_,_,_,_,_,_,_,_,_,_,_,_,_,_,_,_,_,rfl,rfl,hF⟩
  ·obtain rfl:b7=false:=Z5 hr;obtain rfl:b6=true:=Z4 hr 6;refine ZW rfl (by kernel_rfl) (some 13) rfl (Z7 g 0) V (by kernel_rfl) ?_;exact⟨_,_,_,_,_,_,_,_,_,_,_,_,_,_,_,_,_,_,_,_,_,_,_,_,_,_,_,_,rfl,rfl,hF⟩
  ·obtain rfl:b8=false:=Z5 hr;obtain rfl:b7=true:=Z4 hr 7;refine ZI rfl (by kernel_rfl) (some 14) rfl 96 (.tmp 13) rfl ⟨g,0,none⟩ (.slice (some ⟨b,0,none⟩) n d.kc) (by kernel_rfl) (nP.out V hF.any) ?_;exact⟨_,_,_,_,_,_,_,_,_,_,_,_,_,_,_,_,_,_,_,_,_,_,_,_,_,_,_,_,rfl,rfl,hF⟩
  ·obtain rfl:b9=false:=Z5 hr;refine ZW rfl (by kernel_rfl) (some 15) rfl (Z9 j) V (by kernel_rfl) ?_;exact⟨_,_,_,_,_,_,_,_,_,_,_,_,_,_,_,_,_,_,_,_,_,_,_,_,_,_,_,_,rfl,rfl,hF⟩
  ·obtain rfl:b10=false:=Z5 hr;refine ZW rfl (by kernel_rfl) (some 16) rfl (Z7 g 0) V (by kernel_rfl) ?_;exact⟨_,_,_,_,_,_,_,_,_,_,_,_,_,_,_,_,_,_,_,_,_,_,_,_,_,_,_,_,rfl,rfl,hF⟩
  ·obtain rfl:b11=false:=Z5 hr;obtain rfl:b10=true:=Z4 hr 10;refine ZW rfl (by kernel_rfl) (some 17) rfl (Z7 g 0) V (by kernel_rfl) ?_;exact⟨_,_,_,_,_,_,_,_,_,_,_,_,_,_,_,_,_,_,_,_,_,_,_,_,_,_,_,_,rfl,rfl,hF⟩
  ·obtain rfl:b12=false:=Z5 hr;obtain rfl:b11=true:=Z4 hr 11;refine ZW rfl (by kernel_rfl) (some 18) rfl (Z7 g 0) V (by kernel_rfl) ?_;exact⟨_,_,_,_,_,_,_,_,_,_,_,_,_,_,_,_,_,_,_,_,_,_,_,_,_,_,_,_,rfl,rfl,hF⟩
  ·obtain rfl:b13=false:=Z5 hr;obtain rfl:b12=true:=Z4 hr 12;refine ZI rfl (by kernel_rfl) (some 19) rfl 96 (.tmp 18) rfl ⟨g,0,none⟩ (.slice (some ⟨b,0,none⟩) n d.kc) (by kernel_rfl) (nP.out V hF.any) ?_;exact⟨_,_,_,_,_,_,_,_,_,_,_,_,_,_,_,_,_,_,_,_,_,_,_,_,_,_,_,_,rfl,rfl,hF⟩
  ·obtain rfl:b14=false:=Z5 hr;refine ZW rfl (by kernel_rfl) (some 20) rfl (Z9 j) V (by kernel_rfl) ?_;exact⟨_,_,_,_,_,_,_,_,_,_,_,_,_,_,_,_,_,_,_,_,_,_,_,_,_,_,_,_,rfl,rfl,hF⟩
  ·obtain rfl:b15=false:=Z5 hr;obtain rfl:b13=true:=Z4 hr 13;obtain rfl:b14=true:=Z4 hr 14;refine ZW rfl (by kernel_rfl) (some 21) rfl (Z7 b (j*3)) V (Vy b n d.kc j hj _ _ _ rfl (by kernel_rfl) (by kernel_rfl)) ?_;exact⟨_,_,_,_,_,_,_,_,_,_,_,_,_,_,_,_,_,_,_,_,_,_,_,_,_,_,_,_,rfl,rfl,hF⟩
  ·obtain rfl:b16=false:=Z5 hr;obtain rfl:b15=true:=Z4 hr 15;obtain rfl:b25=false:=(by cases b25; rfl; exact absurd (hF.c1 rfl).1 (by decide));refine ZI rfl (by kernel_rfl) (some 22) rfl 99 (.tmp 21) rfl ⟨b,j*3,none⟩ (.agg (Ym x)) (by kernel_rfl) (HI2.out V (hF.p0 rfl)) ?_;exact⟨_,_,_,_,_,_,_,_,_,_,_,_,_,_,_,_,_,_,_,_,_,_,_,_,_,_,_,_,rfl,rfl,hF.m16⟩
  ·obtain rfl:b17=false:=Z5 hr;refine ZW rfl (by kernel_rfl) (some 23) rfl (Z7 g 0) V (by kernel_rfl) ?_;exact⟨_,_,_,_,_,_,_,_,_,_,_,_,_,_,_,_,_,_,_,_,_,_,_,_,_,_,_,_,rfl,rfl,hF⟩
  ·obtain rfl:b18=false:=Z5 hr;obtain rfl:b17=true:=Z4 hr 17;refine ZW rfl (by kernel_rfl) (some 24) rfl (Z7 g 0) V (by kernel_rfl) ?_;exact⟨_,_,_,_,_,_,_,_,_,_,_,_,_,_,_,_,_,_,_,_,_,_,_,_,_,_,_,_,rfl,rfl,hF⟩
  ·obtain rfl:b19=false:=Z5 hr;obtain rfl:b18=true:=Z4 hr 18;refine ZW rfl (by kernel_rfl) (some 25) rfl (Z7 g 0) V (by kernel_rfl) ?_;exact⟨_,_,_,_,_,_,_,_,_,_,_,_,_,_,_,_,_,_,_,_,_,_,_,_,_,_,_,_,rfl,rfl,hF⟩
  ·obtain rfl:b20=false:=Z5 hr;obtain rfl:b19=true:=Z4 hr 19;refine ZI rfl (by kernel_rfl) (some 26) rfl 96 (.tmp 25) rfl ⟨g,0,none⟩ (.slice (some ⟨b,0,none⟩) n d.kc) (by kernel_rfl) (nP.out V hF.any) ?_;exact⟨_,_,_,_,_,_,_,_,_,_,_,_,_,_,_,_,_,_,_,_,_,_,_,_,_,_,_,_,rfl,rfl,hF⟩
  ·obtain rfl:b21=false:=Z5 hr;refine ZW rfl (by kernel_rfl) (some 27) rfl (Z9 i) V (by kernel_rfl) ?_;exact⟨_,_,_,_,_,_,_,_,_,_,_,_,_,_,_,_,_,_,_,_,_,_,_,_,_,_,_,_,rfl,rfl,hF⟩
  ·obtain rfl:b22=false:=Z5 hr;obtain rfl:b20=true:=Z4 hr 20;obtain rfl:b21=true:=Z4 hr 21;refine ZW rfl (by kernel_rfl) (some 28) rfl (Z7 b (i*3)) V (Vy b n d.kc i hi _ _ _ rfl (by kernel_rfl) (by kernel_rfl)) ?_;exact⟨_,_,_,_,_,_,_,_,_,_,_,_,_,_,_,_,_,_,_,_,_,_,_,_,_,_,_,_,rfl,rfl,hF⟩
  ·obtain rfl:b23=false:=Z5 hr;obtain rfl:b22=true:=Z4 hr 22;obtain rfl:b25=false:=(by cases b25; rfl; exact absurd (hF.c1 rfl).2 (by decide));refine ZI rfl (by kernel_rfl) (some 29) rfl 99 (.tmp 28) rfl ⟨b,i*3,none⟩ (.agg (Ym y)) (by kernel_rfl) (HI1.out V (hF.p0 rfl)) ?_;exact⟨_,_,_,_,_,_,_,_,_,_,_,_,_,_,_,_,_,_,_,_,_,_,_,_,_,_,_,_,rfl,rfl,hF.m23⟩
  ·obtain rfl:b24=false:=Z5 hr;obtain rfl:b3=true:=Z4 hr 3;obtain rfl:b4=true:=Z4 hr 4;refine ZW rfl (by kernel_rfl) (some 30) rfl (Z7 b (i*3)) V (Vy b n d.kc i hi _ _ _ rfl (by kernel_rfl) (by kernel_rfl)) ?_;exact⟨_,_,_,_,_,_,_,_,_,_,_,_,_,_,_,_,_,_,_,_,_,_,_,_,_,_,_,_,rfl,rfl,hF⟩
  ·obtain rfl:b25=false:=Z5 hr;obtain rfl:b24=true:=Z4 hr 24;obtain rfl:b16=true:=Z4 hr 16;obtain rfl:b23=true:=Z4 hr 23;obtain rfl:b27=false:=(by cases b27; rfl; exact absurd (hF.c2 rfl) (by decide));obtain⟨U1,hs1,hp1⟩:=oG.out V (hF.p0 rfl);refine YL rfl (by kernel_rfl) rfl 99 (.tmp 30) (.tmp 22) rfl (Z7 b (i*3)) (.agg (Ym x)) (by kernel_rfl) (by kernel_rfl) U1 hs1 ?_;exact⟨_,_,_,_,_,_,_,_,_,_,_,_,_,_,_,_,_,_,_,_,_,_,_,_,_,_,_,_,rfl,rfl,⟨fun h=>(by cases h),fun _ _=>hp1,fun h=>(by cases h),fun _=>⟨rfl,rfl⟩,fun h=>(by cases h)⟩⟩
  ·obtain rfl:b26=false:=Z5 hr;obtain rfl:b8=true:=Z4 hr 8;obtain rfl:b9=true:=Z4 hr 9;refine ZW rfl (by kernel_rfl) (some 31) rfl (Z7 b (j*3)) V (Vy b n d.kc j hj _ _ _ rfl (by kernel_rfl) (by kernel_rfl)) ?_;exact⟨_,_,_,_,_,_,_,_,_,_,_,_,_,_,_,_,_,_,_,_,_,_,_,_,_,_,_,_,rfl,rfl,hF⟩
  ·obtain rfl:b27=false:=Z5 hr;obtain rfl:b26=true:=Z4 hr 26;obtain rfl:b23=true:=Z4 hr 23;obtain rfl:b25=true:=Z4 hr 25;obtain⟨U1,hs1,hp1⟩:=HS2.out V (hF.p1 rfl rfl);refine YL rfl (by kernel_rfl) rfl 99 (.tmp 31) (.tmp 29) rfl (Z7 b (j*3)) (.agg (Ym y)) (by kernel_rfl) (by kernel_rfl) U1 hs1 ?_;exact⟨_,_,_,_,_,_,_,_,_,_,_,_,_,_,_,_,_,_,_,_,_,_,_,_,_,_,_,_,rfl,rfl,⟨fun h=>(by cases h),fun _ h=>(by cases h),fun _=>hp1,fun _=>⟨(hF.c1 rfl).1,(hF.c1 rfl).2⟩,fun _=>rfl⟩⟩
 ·intro ZH V hJ;obtain⟨b0,b1,b2,b3,b4,b5,b6,b7,b8,b9,b10,b11,b12,b13,b14,b15,b16,b17,b18,b19,b20,b21,b22,b23,b24,b25,b26,b27,he,rfl,hF⟩:=hJ;have he:(#[true,true,true,true,true,true,true,true,true,true,true,true,true,true,true,true,true,true,true,true,true,true,true,true,true,true,true,true]:Array Bool)=#[b0,b1,b2,b3,b4,b5,b6,b7,b8,b9,b10,b11,b12,b13,b14,b15,b16,b17,b18,b19,b20,b21,b22,b23,b24,b25,b26,b27]:=he;simp only[Array.mk.injEq,List.cons.injEq,and_true] at he;obtain⟨rfl,rfl,rfl,rfl,rfl,rfl,rfl,rfl,rfl,rfl,rfl,rfl,rfl,rfl,rfl,rfl,rfl,rfl,rfl,rfl,rfl,rfl,rfl,rfl,rfl,rfl,rfl,rfl⟩:=he;simp only[cond_true];have HG1:=Z8 (hF.p2 rfl);obtain⟨U2,eU⟩:=ZR V;rw[eU] at HG1 ⊢;clear hF h0 H0 nP HI1 HI2 oG HS2 eU;go_upto_region 1 with fail;refine ZP (C:=fun U=>Gh Bd g d w { d with A:=A2 } (f) U) 13 (by kernel_rfl) (by kernel_rfl) (HG1.out.drew) ?_;simp only[List.take_succ_cons,List.take_zero,List.drop_succ_cons,List.drop_zero];refine gy (Z7 g 0)<|gy (Z7 g 0)<|gy (Z7 g 1)<|Zx rfl ⟨g,1,none⟩ (.map (some d.B)) (fun U hU=>oH.out U _ hU)<|gy (Z7 g 0)<|gy (Z7 g 0)<|gy (Z7 g 0) <|
    Zx rfl ⟨g,0,none⟩ (.slice (some ⟨b,0,none⟩) n d.kc) (fun U hU=>HL2.out U _ hU)<|gy (Z9 i)<|Ze (Z7 b (i*3)) (fun U hU=>Vy b n d.kc i hi _ _ _ rfl (by kernel_rfl) (by kernel_rfl))<|gy (Z7 b (i*3)) <|
    Zx rfl ⟨b,i*3,none⟩ (Z9 x.1) (fun U hU=>HA1.out U _ hU)<|gy (Z9 i) ?_
  simp only[pu];apply wpQuiet_nil;intro X hX;obtain⟨X2,hp,hm,-,hg⟩:=HP.out X _ hX x.1 (i:Int);have HX:=Z8 (HG.out X _ hX X2 _ hm hg);clear hm hg hX HG1;refine UU (by kernel_rfl) rfl X2 (SI 126 (.tmp 35) (.tmp 43) (.tmp 44) rfl (.map (some d.B)) (Z9 x.1) (Z9 i) (by kernel_rfl) (by kernel_rfl) (by kernel_rfl) hp) ?_;apply wpList_nil;clear hp;go_upto_region 2 with fail;refine ZP (C:=fun U=>Gh Bd g d w { d with A:=A2 } (XC f x.1 (some (i:Int))) U) 13 (by kernel_rfl) (by kernel_rfl) (HX.out.drew) ?_;simp only[List.take_succ_cons,List.take_zero,List.drop_succ_cons,List.drop_zero];refine gy (Z7 g 0)<|gy (Z7 g 0)<|gy (Z7 g 1)<|Zx rfl ⟨g,1,none⟩ (.map (some d.B)) (fun U hU=>oH.out U _ hU)<|gy (Z7 g 0)<|gy (Z7 g 0)<|gy (Z7 g 0) <|
    Zx rfl ⟨g,0,none⟩ (.slice (some ⟨b,0,none⟩) n d.kc) (fun U hU=>HL2.out U _ hU)<|gy (Z9 j)<|Ze (Z7 b (j*3)) (fun U hU=>Vy b n d.kc j hj _ _ _ rfl (by kernel_rfl) (by kernel_rfl))<|gy (Z7 b (j*3)) <|
    Zx rfl ⟨b,j*3,none⟩ (Z9 y.1) (fun U hU=>HA2.out U _ hU)<|gy (Z9 j) ?_
  simp only[pu];apply wpQuiet_nil;intro Y hY;obtain⟨Y2,hp,hm,-,hg⟩:=HP.out Y _ hY y.1 (j:Int);have HY:=Z8 (HG.out Y _ hY Y2 _ hm hg);clear hm hg hY HX;refine UU (by kernel_rfl) rfl Y2 (SI 126 (.tmp 48) (.tmp 56) (.tmp 57) rfl (.map (some d.B)) (Z9 y.1) (Z9 j) (by kernel_rfl) (by kernel_rfl) (by kernel_rfl) hp) ?_;apply wpList_nil;clear hp;clear oH HL2 HA1 HA2 HP HG HI;go_wp2_with fail;exact end_none rfl rfl ⟨rfl,HY.out⟩
section
variable {ρ : Operand -> Value} {o : Oper} {x y : Operand}
theorem dR (ho:o.op=.binOp .gtr 3 x y 3)(a b:Int)(hx:ρ x=.int .i64 a)(hy:ρ y=.int .i64 b)(w:World):(execOp ρ o).run Tryz.prog w=.ok (.value (.bool (decide (b<a)))) w:=by
 unfold execOp;simp only[ho,hx,hy];go_simp
theorem qP (ho:o.op=.binOp .leq 3 x y 3)(a b:Int)(hx:ρ x=.int .i64 a)(hy:ρ y=.int .i64 b)(w:World):(execOp ρ o).run Tryz.prog w=.ok (.value (.bool (decide (a<=b)))) w:=by
 unfold execOp;simp only[ho,hx,hy];go_simp
theorem zQ (ho:o.op=.binOp .add 3 x y 3)(a b:Nat)(ha:a<=1000000)(hb:b<=1000000)(hx:ρ x=.int .i64 a)(hy:ρ y=.int .i64 b)(w:World):(execOp ρ o).run Tryz.prog w=.ok (.value (.int .i64 (a+b:Nat))) w:=by
 unfold execOp;simp only[ho,hx,hy];simp[go_sem];rw[IntKind.wrap_i64];omega
theorem qQ (ho:o.op=.binOp .sub 3 x y 3)(a b:Nat)(ha:a<=1000000)(hb:b<=a)(hx:ρ x=.int .i64 a)(hy:ρ y=.int .i64 b)(w:World):(execOp ρ o).run Tryz.prog w=.ok (.value (.int .i64 (a-b:Nat))) w:=by
 unfold execOp;simp only[ho,hx,hy];simp[go_sem];rw[IntKind.wrap_i64];omega
theorem zS (ho:o.op=.binOp .mul 3 x y 3)(a:Nat)(ha:a<=1000000)(hx:ρ x=.int .i64 2)(hy:ρ y=.int .i64 a)(w:World):(execOp ρ o).run Tryz.prog w=.ok (.value (.int .i64 (2*a:Nat))) w:=by
 unfold execOp;simp only[ho,hx,hy];simp[go_sem];rw[IntKind.wrap_i64];omega
theorem ao7 (ho:o.op=.binOp .quo 3 x y 3)(a:Nat)(ha:a<=1000000)(hx:ρ x=.int .i64 a)(hy:ρ y=.int .i64 2)(w:World):(execOp ρ o).run Tryz.prog w=.ok (.value (.int .i64 (a / 2:Nat))) w:=by
 unfold execOp;simp only[ho,hx,hy];simp[go_sem];rw[IntKind.wrap_i64];omega
theorem ao8 (ho:o.op=.unOp .not 4 x)(b:Bool)(hx:ρ x=.bool b)(w:World):(execOp ρ o).run Tryz.prog w=.ok (.value (.bool (!b))) w:=by
 unfold execOp;simp only[ho,hx];go_simp
end
structure Hm (Bd g:Nat)(d:Hd)(w:World)(T:List It)(V:World):Prop where
 pm:T.Perm d.A
 ex:∃ f,Gh Bd g d w { d with A:=T } f V/\Px T f
section
variable {Bd g : Nat} {d : Hd} {w V V2 : World} {T : List It}
theorem Hm.len (h:Hm Bd g d w T V):T.length=d.A.length:=h.pm.length_eq
theorem Hm.inj (h:Hm Bd g d w T V)(hn:(d.A.map (·.1)).Nodup):Inj T:=KL ((h.pm.map (·.1)).nodup_iff.2 hn)
theorem Hm.gd (h:Hm Bd g d w T V)(hw:Bd<=w.heap.size)(hg:Gd V V2):Hm Bd g d w T V2:=by
 obtain⟨pm,f,hG,hp⟩:=h;exact⟨pm,f,hG.trans (Gh.below hG.mem hg.1 (hG.size hw)),hp⟩
theorem Hm.drew (h:Hm Bd g d w T V):Hm Bd g d w T { V with drawn:=V.drawn+1 }:=by
 obtain⟨pm,f,hG,hp⟩:=h;exact⟨pm,f,hG.drew,hp⟩
theorem Hm.dS (h:Hm Bd g d w T V){b:Nat}(hb:d.ka=some ⟨b,0,none⟩):(Instr.loadAt 96 (.pointer (some ⟨g,0,none⟩))).run Tryz.prog V=.ok (.slice (some ⟨b,0,none⟩) T.length d.kc) V:=by
 obtain⟨pm,f,hG,hp⟩:=h;exact hG.mem.dS hb
theorem Hm.item (h:Hm Bd g d w T V){b:Nat}(hb:d.ka=some ⟨b,0,none⟩){i:Nat}(hi:i<T.length):(Instr.loadAt 99 (.pointer (some ⟨b,i*3,none⟩))).run Tryz.prog V=.ok (.agg (Ym (ita T i))) V:=by
 obtain⟨pm,f,hG,hp⟩:=h;exact hG.mem.item hb hi
theorem Hm.ao6 (h:Hm Bd g d w T V)(hB:∀ k,Sh g d k->Bd<=k)(hw:Bd<=w.heap.size)(hn:(d.A.map (·.1)).Nodup){i j:Nat}(hi:i<T.length)(hj:j<T.length) :
  Calls Tryz.prog 93 #[.pointer (some ⟨g,0,none⟩),.int .i64 i,.int .i64 j] V fun e w'=>e=.returned (.tuple #[])/\Hm Bd g d w (VR T i j) w':=by
 have hI:=h.inj hn;obtain⟨pm,f,hG,hp⟩:=h;exact(ad8 (Bd:=Bd) hG.mem (hG.base hB hw) (hG.size hw) hi hj).mono fun e w' q=>⟨q.1,(Qv T i j hi hj).trans pm,_,hG.trans q.2,hp.sw hI hi hj⟩
theorem Hm.start {f:Int->Option Int}(h:Mh w g d f)(hp:Px d.A f):Hm Bd g d w d.A w:=⟨List.Perm.refl _,f,Gh.refl h,hp⟩
end
theorem qO {A:List It}{i i0:Nat}(h:Gen A i)(h2:i=i0∨∀ c,0<c->c<A.length->(c-1) / 2=i->okA A c)(h3:0<i->okA A i)(h4:i0<A.length):uN A i0:=by
 rcases h2 with rfl | h2
 ·exact⟨h,h3⟩
 ·exact(aa0 ⟨h,h2⟩ h3).dn i0 h4
def UpR (Bd g:Nat)(d:Hd)(w:World)(i0:Nat)(gg:Nat)(s1:Value)(V:World):Prop:=
 ∃ (i:Nat) (T:List It),s1=.int .i64 i/\i=gg/\Hm Bd g d w T V/\i<T.length/\Gen T i/\(i=i0∨∀ c,0<c->c<T.length->(c-1) / 2=i->okA T c)
def UpO (Bd g:Nat)(d:Hd)(w:World)(i0:Nat)(e:Ending)(V:World):Prop:=e=.returned (.tuple #[])/\∃ T,Hm Bd g d w T V/\uN T i0
theorem ao5 {Bd g:Nat}{d:Hd}{f:Int->Option Int}{w:World}(h:Mh w g d f)(hp:Px d.A f)(hB:∀ k,Sh g d k->Bd<=k)(hw:Bd<=w.heap.size)(hn:(d.A.map (·.1)).Nodup)(hl:d.A.length<=100000){i0:Nat}(hi:i0<d.A.length)(hG:Gen d.A i0) :
  Calls Tryz.prog 87 #[.pointer (some ⟨g,0,none⟩),.int .i64 i0] w (UpO Bd g d w i0):=by
 obtain⟨b,hb⟩:=h.addr (by omega);have HS:Hid (UpR Bd g d w i0 i0 (.int .i64 i0) w):=Z8 ⟨i0,d.A,rfl,rfl,Hm.start h hp,hi,hG,.inl rfl⟩;have HB:=Z8 (fun(T:List It) (V:World) (h:Hm Bd g d w T V) (i j:Nat) (hi:i<T.length) (hj:j<T.length)=>h.ao6 hB hw hn hi hj);have dU:=Z8 (fun(T:List It) (V:World) (h:Hm Bd g d w T V)=>h.dS hb);have HIT:=Z8 (fun(T:List It) (V:World) (h:Hm Bd g d w T V) (i:Nat) (hi:i<T.length)=>h.item hb hi);have XL:=Z8 (fun(T:List It) (V V2:World) (h:Hm Bd g d w T V) (hg:Gd V V2)=>h.gd hw hg);have nR:Hid (i0<d.A.length/\d.A.length<=100000):=Z8 ⟨hi,hl⟩;clear h hp hB hw hn hl hi hG hb;go_enter Tryz.func87,Tryz.ntmps87;go_wp2_with fail;go_loopg [1] i0 (fun gg s1 wx=>UpR Bd g d w i0 gg s1 wx)
 case atStart=>exact HS.out
 case round=>
  obtain⟨i,T,rfl,hgi,hm,hiT,hG,hE⟩:=hrel;obtain⟨n,hn⟩:=ZR T.length;have hn1:n=d.A.length:=by rw[<- hn]; exact hm.len
  have hil:i<=100000:=by have:=nR.out.2; omega
  by_cases h0:0<i
  ·have HD:Hid (decide ((0:Int)<(i:Int))=true):=Z8 dT;obtain⟨p,hpp⟩:∃ p,p=(i-1) / 2:=⟨_,rfl⟩;have hpn:p<n:=(by omega);have hin:i<n:=(by omega);have HPP:=Z8 hpp;have HN:=Z8 hn;have wM:=Z8 hn1;have Xm:=Z8 hG;have HE:=Z8 hE;have JF:=Z8 hgi;have DT:=Z8 (fun V h=>by have:=dU.out T V h; rw[HN.out] at this; exact this);clear hpp hn hn1 hG hE hgi hiT;go_upto_region 0 with fail;refine wl<|ZQ (.int .i64 i)<|Za (.bool true) (by rw[<- HD.out]; exact dR rfl i 0 (by kernel_rfl) (by kernel_rfl) _)<|wn ?_;simp only[pu];go_upto_region 1 with fail;refine wl<|ZQ (.int .i64 i)<|Yd (.int .i64 (i-1:Nat)) (qQ rfl i 1 (by omega) (by omega))<|Za (.int .i64 p) (by rw[HPP.out]; exact ao7 rfl (i-1) (by omega) (by kernel_rfl) (by kernel_rfl) _)<|ZQ (.int .i64 p)<|wn ?_;simp only[pu];go_upto_region 2 with fail;have HI1:=Z8 (fun V h=>HIT.out T V h i (by rw[HN.out]; exact hin));have HI2:=Z8 (fun V h=>HIT.out T V h p (by rw[HN.out]; exact hpn));have HBF:Hid (bf (ita T i) (ita T p)=bf (ita T i) (ita T p)):=Z8 rfl;obtain⟨x,hx⟩:=ZR (ita T i);obtain⟨y,hy⟩:=ZR (ita T p);rw[hx] at HI1;rw[hy] at HI2;have HX:=Z8 hx;have HY:=Z8 hy;clear hx hy HBF;obtain⟨r,hr⟩:=ZR (bf x y);have HR:=Z8 hr;clear hr;refine ZT (C:=fun U=>Hm Bd g d w T U) (by kernel_rfl) (by kernel_rfl) (hm.drew) ?_;refine gy (.pointer (some ⟨g,0,none⟩))<|gy (.pointer (some ⟨g,0,none⟩))<|gy (.pointer (some ⟨g,0,none⟩))<|Zx rfl ⟨g,0,none⟩ (.slice (some ⟨b,0,none⟩) n d.kc) (fun U hU=>DT.out U hU)<|gy (.int .i64 i) <|
     Ze (.pointer (some ⟨b,i*3,none⟩)) (fun U hU=>Vy b n d.kc i hin _ _ _ rfl (by kernel_rfl) (by kernel_rfl))<|Zx rfl ⟨b,i*3,none⟩ (.agg (Ym x)) (fun U hU=>HI1.out U hU)<|gy (.pointer (some ⟨g,0,none⟩))<|gy (.pointer (some ⟨g,0,none⟩)) <|
     gy (.pointer (some ⟨g,0,none⟩))<|Zx rfl ⟨g,0,none⟩ (.slice (some ⟨b,0,none⟩) n d.kc) (fun U hU=>DT.out U hU)<|gy (.int .i64 p)<|Ze (.pointer (some ⟨b,p*3,none⟩)) (fun U hU=>Vy b n d.kc p hpn _ _ _ rfl (by kernel_rfl) (by kernel_rfl)) <|
     Zx rfl ⟨b,p*3,none⟩ (.agg (Ym y)) (fun U hU=>HI2.out U hU) ?_
   refine ZA (by kernel_rfl) (some 24) rfl 111 #[.agg (Ym x),.agg (Ym y)] (.bool r) (fun U hU=>by kernel_rfl) (fun U hU=>(Jd x y U).mono fun e w2 q=>⟨by rw[q.1,HR.out],XL.out T U w2 hU q.2⟩) ?_;refine Ze (.bool (!r)) (fun U hU=>ao8 rfl r (by kernel_rfl) _) ?_;simp only[pu];apply wpQuiet_nil;intro V hV;clear hm HI1 HI2 DT;cases r with
   | true=>
    have HH:=Z8 (lg Xm.out h0 (by rw[HN.out]; exact hin) (by rw[HX.out,<- HPP.out,HY.out]; exact HR.out));have OW:=Z8 (HB.out T V hV i p (by rw[HN.out]; exact hin) (by rw[HN.out]; exact hpn));clear hV HR HX HY Xm HE dU HIT;go_upto_region 3 with fail;refine wl<|YX (.pointer (some ⟨g,0,none⟩)) (.int .i64 i) (.int .i64 p)<|YD (.tuple #[]) (fun w9=>Hm Bd g d w (VR T i p) w9) OW.out (fun V2 hV2=>?_);simp only[pu];apply wpList_nil;go_upto_region 4 with fail;refine wl<|ZB (.int .i64 p) (.int .i64 p)<|wn ?_;simp only[pu];go_wp2_with fail;go_roundg p
    case measure=>have:=HPP.out; have:=JF.out; omega
    case rel=>exact⟨p,VR T i p,rfl,rfl,hV2,by rw[Yu,HN.out]; exact hpn,by rw[HPP.out]; exact HH.out.1,.inr (by rw[HPP.out]; exact HH.out.2)⟩
   | false=>
    have HO:Hid (UpO Bd g d w i0 (.returned (.tuple #[])) V):=Z8 ⟨rfl,T,hV,qO Xm.out HE.out (fun _=>by unfold okA; rw[<- HPP.out,HX.out,HY.out]; exact HR.out) (by rw[HN.out,wM.out]; exact nR.out.1)⟩;clear hV HR HX HY Xm HE dU HIT HB;go_wp2_with fail;exact end_none rfl rfl HO.out
  ·have HD:Hid (decide ((0:Int)<(i:Int))=false):=Z8 dF;have HO:Hid (UpO Bd g d w i0 (.returned (.tuple #[])) wr):=Z8 ⟨rfl,T,hm,qO hG hE (fun h=>absurd h h0) (by have:=nR.out.1; omega)⟩;clear hm hG hE hgi hn hn1 hiT;go_upto_region 0 with fail;refine wl<|ZQ (.int .i64 i)<|Za (.bool false) (by rw[<- HD.out]; exact dR rfl i 0 (by kernel_rfl) (by kernel_rfl) _)<|wn ?_;simp only[pu];go_wp2_with fail;exact end_none rfl rfl HO.out
def DnR (Bd g:Nat)(d:Hd)(w:World)(gg:Nat)(s1:Value)(V:World):Prop:=
 ∃ (i:Nat) (T:List It),s1=.int .i64 i/\d.A.length-i=gg/\Hm Bd g d w T V/\i<T.length/\uN T i
def DnO (Bd g:Nat)(d:Hd)(w:World)(e:Ending)(V:World):Prop:=e=.returned (.tuple #[])/\∃ T,Hm Bd g d w T V/\HO T
structure wQ (T:List It)(i n:Nat)(c fi:Nat):Prop where
 lo:2*i+1<=c
 hi:c<=2*i+3
 fn:fi<n
 fc:fi=i∨(0<fi/\(fi-1) / 2=i/\bf (ita T fi) (ita T i)=true)
 fm:∀ s,2*i+1<=s->s<c->s<n->bf (ita T s) (ita T fi)=false
theorem wQ.start {T:List It}{i n:Nat}(h:i<n):wQ T i n (2*i+1) i:=⟨by omega,by omega,h,.inl rfl,fun s h1 h2 _=>by omega⟩
theorem wQ.yes {T:List It}{i n c fi:Nat}(h:wQ T i n c fi)(hc:c<=2*i+2)(hn:c<n)(hb:bf (ita T c) (ita T fi)=true):wQ T i n (c+1) c:=by
 have h1:=h.lo;refine⟨by omega,by omega,hn,.inr ⟨by omega,by omega,?_⟩,fun s a1 a2 a3=>?_⟩
 ·rcases h.fc with e | ⟨_,_,e⟩
  ·rw[e] at hb; exact hb
  ·exact KQ hb e
 ·by_cases e:s=c
  ·rw[e]; exact uO _
  ·exact KP (h.fm s a1 (by omega) a3) (Qw hb)
theorem wQ.no {T:List It}{i n c fi:Nat}(h:wQ T i n c fi)(hc:c<=2*i+2)(hb:bf (ita T c) (ita T fi)=false):wQ T i n (c+1) fi:=by
 have h1:=h.lo;refine⟨by omega,by omega,h.fn,h.fc,fun s a1 a2 a3=>?_⟩;by_cases e:s=c
 ·rw[e]; exact hb
 ·exact h.fm s a1 (by omega) a3
theorem wQ.all {T:List It}{i n c fi:Nat}(h:wQ T i n c fi)(hc:¬ (c<=2*i+2/\c<n)):∀ s,0<s->s<n->(s-1) / 2=i->bf (ita T s) (ita T fi)=false:=fun s h1 h2 h3=>by
 have:=h.lo;have:=h.hi;exact h.fm s (by omega) (by omega) h2
def InW (Bd g:Nat)(d:Hd)(w:World)(T:List It)(i n:Nat)(gg:Nat)(s4 s5:Value)(V:World):Prop:=∃ c fi:Nat,s4=.int .i64 fi/\s5=.int .i64 c/\2*i+3-c=gg/\Hm Bd g d w T V/\wQ T i n c fi
theorem ad9 {Bd g:Nat}{d:Hd}{f:Int->Option Int}{w:World}(h:Mh w g d f)(hp:Px d.A f)(hB:∀ k,Sh g d k->Bd<=k)(hw:Bd<=w.heap.size)(hn:(d.A.map (·.1)).Nodup)(hl:d.A.length<=100000){i0:Nat}(hi:i0<d.A.length)(hG:uN d.A i0) :
  Calls Tryz.prog 94 #[.pointer (some ⟨g,0,none⟩),.int .i64 i0] w (DnO Bd g d w):=by
 obtain⟨b,hb⟩:=h.addr (by omega);have HS:Hid (DnR Bd g d w (d.A.length-i0) (.int .i64 i0) w):=Z8 ⟨i0,d.A,rfl,rfl,Hm.start h hp,hi,hG⟩;have HB:=Z8 (fun(T:List It) (V:World) (h:Hm Bd g d w T V) (i j:Nat) (hi:i<T.length) (hj:j<T.length)=>h.ao6 hB hw hn hi hj);have dU:=Z8 (fun(T:List It) (V:World) (h:Hm Bd g d w T V)=>h.dS hb);have HIT:=Z8 (fun(T:List It) (V:World) (h:Hm Bd g d w T V) (i:Nat) (hi:i<T.length)=>h.item hb hi);have XL:=Z8 (fun(T:List It) (V V2:World) (h:Hm Bd g d w T V) (hg:Gd V V2)=>h.gd hw hg);obtain⟨n,hdn⟩:=ZR d.A.length;have HDN:=Z8 hdn;rw[hdn] at hl hi;have nR:Hid (n<=100000):=Z8 hl;obtain⟨m0,hm0⟩:=ZR (d.A.length-i0);rw[hm0] at HS;clear h hp hB hw hn hl hi hG hb hdn hm0;go_enter Tryz.func94,Tryz.ntmps94;go_wp2_with fail;go_loopg [1] m0 (fun gg s1 wx=>DnR Bd g d w gg s1 wx)
 case atStart=>exact HS.out
 case round=>
  generalize wr=wR at *
  generalize gk=gO at *
  obtain⟨i,T,rfl,hgi,hm,hiT,hG⟩:=hrel;have hn:=hm.len;rw[HDN.out] at hn hgi;rw[hn] at hiT;have HN:=Z8 hn;have Xm:=Z8 hG;have JF:=Z8 hgi;have DT:=Z8 (fun V h=>by have:=dU.out T V h; rw[HN.out] at this; exact this);have HI1:=Z8 (fun V h (i:Nat) (hi:i<n)=>HIT.out T V h i (by rw[HN.out]; exact hi));have HST:Hid (InW Bd g d w T i n 2 (.int .i64 i) (.int .i64 (2*i+1:Nat)) wR):=Z8 ⟨_,i,rfl,rfl,by omega,hm,wQ.start hiT⟩;have hil:i<=100000:=by have:=nR.out; omega
  clear hn hG hgi hm dU HIT;go_upto_region 0 with fail;refine wl<|ZB (.int .i64 i) (.int .i64 i)<|wn ?_;simp only[pu];go_upto_region 1 with fail;refine wl<|ZQ (.int .i64 i)<|Yd (.int .i64 (2*i:Nat)) (zS rfl i (by omega))<|Yd (.int .i64 (2*i+1:Nat)) (zQ rfl (2*i) 1 (by omega) (by omega))<|ZQ (.int .i64 (2*i+1:Nat)) <|
   wpList_nil ?_
  simp only[pu];go_wp2_with fail;go_loopg [4,5] 2 (fun gg s4 s5 wx=>InW Bd g d w T i n gg s4 s5 wx)
  case atStart=>exact HST.out
  case round=>
   obtain⟨c,fi,rfl,rfl,hgc,hm,hr⟩:=hrel;have hc3:=hr.hi;have hfn:=hr.fn;have HR:=Z8 hr;have HGC:=Z8 hgc;clear hr hgc;go_upto_region 2 with fail;by_cases h2:c<=2*i+2
   ·have HD2:Hid (decide ((c:Int)<=((2*i+2:Nat):Int))=true):=Z8 dT;by_cases h3:c<n
    ·have HD3:Hid (decide (c<n)=true):=Z8 (decide_eq_true h3);refine wl<|ZB (.int .i64 c) (.int .i64 i)<|Yd (.int .i64 (2*i:Nat)) (zS rfl i (by omega))<|Yd (.int .i64 (2*i+2:Nat)) (zQ rfl (2*i) 2 (by omega) (by omega)) <|
      Za (.bool true) (by rw[<- HD2.out]; exact qP rfl c (2*i+2:Nat) (by kernel_rfl) (by kernel_rfl) _)<|Gg (.bool true) (.int .i64 c) (.pointer (some ⟨g,0,none⟩)) (.pointer (some ⟨g,0,none⟩)) (.pointer (some ⟨g,0,none⟩)) <|
      ZC rfl ⟨g,0,none⟩ (.slice (some ⟨b,0,none⟩) n d.kc) (DT.out _ hm)<|ZQ (.int .i64 n)<|Za (.bool true) (by rw[<- HD3.out]; exact Q9 rfl c n (by kernel_rfl) (by kernel_rfl) _)<|ZQ (.bool true)<|wn ?_
     simp only[pu];go_upto_region 4 with fail;have HC1:=Z8 (fun V h=>HI1.out V h c h3);have HC2:=Z8 (fun V h=>HI1.out V h fi hfn);obtain⟨x,hx⟩:=ZR (ita T c);obtain⟨y,hy⟩:=ZR (ita T fi);rw[hx] at HC1;rw[hy] at HC2;have HX:=Z8 hx;have HY:=Z8 hy;clear hx hy;obtain⟨r,hr⟩:=ZR (bf x y);have HBF:=Z8 hr;clear hr;refine ZT (C:=fun U=>Hm Bd g d w T U) (by kernel_rfl) (by kernel_rfl) (hm.drew) ?_;refine gy (.pointer (some ⟨g,0,none⟩))<|gy (.pointer (some ⟨g,0,none⟩))<|gy (.pointer (some ⟨g,0,none⟩))<|Zx rfl ⟨g,0,none⟩ (.slice (some ⟨b,0,none⟩) n d.kc) (fun U hU=>DT.out U hU)<|gy (.int .i64 c) <|
       Ze (.pointer (some ⟨b,c*3,none⟩)) (fun U hU=>Vy b n d.kc c h3 _ _ _ rfl (by kernel_rfl) (by kernel_rfl))<|Zx rfl ⟨b,c*3,none⟩ (.agg (Ym x)) (fun U hU=>HC1.out U hU)<|gy (.pointer (some ⟨g,0,none⟩))<|gy (.pointer (some ⟨g,0,none⟩)) <|
       gy (.pointer (some ⟨g,0,none⟩))<|Zx rfl ⟨g,0,none⟩ (.slice (some ⟨b,0,none⟩) n d.kc) (fun U hU=>DT.out U hU)<|gy (.int .i64 fi)<|Ze (.pointer (some ⟨b,fi*3,none⟩)) (fun U hU=>Vy b n d.kc fi hfn _ _ _ rfl (by kernel_rfl) (by kernel_rfl)) <|
       Zx rfl ⟨b,fi*3,none⟩ (.agg (Ym y)) (fun U hU=>HC2.out U hU) ?_
     refine ZA (by kernel_rfl) (some 40) rfl 111 #[.agg (Ym x),.agg (Ym y)] (.bool r) (fun U hU=>by kernel_rfl) (fun U hU=>(Jd x y U).mono fun e w2 q=>⟨by rw[q.1,HBF.out],XL.out T U w2 hU q.2⟩) ?_;simp only[pu];apply wpQuiet_nil;intro V hV;clear hm HC1 HC2;have HG:Hid (2*i+3-(c+1)=gk-1/\0<gk):=Z8 (by have:=HGC.out; omega);cases r with
     | true=>
      have HR2:=Z8 (HR.out.yes h2 h3 (by rw[HX.out,HY.out]; exact HBF.out));clear HBF HX HY;go_upto_region 5 with fail;refine wl<|ZB (.int .i64 c) (.int .i64 c)<|wn ?_;simp only[pu];go_upto_region 3 with fail;refine wl<|ZQ (.int .i64 c)<|Za (.int .i64 (c+1:Nat)) (add_one rfl c (by omega) (by kernel_rfl) _)<|ZQ (.int .i64 (c+1:Nat))<|wn ?_;simp only[pu];go_wp2_with fail;go_roundg (gk-1)
      case measure=>have:=HG.out; omega
      case rel=>exact⟨c+1,c,rfl,rfl,HG.out.1,hV,HR2.out⟩
     | false=>
      have HR2:=Z8 (HR.out.no h2 (by rw[HX.out,HY.out]; exact HBF.out));clear HBF HX HY;go_upto_region 3 with fail;refine wl<|ZQ (.int .i64 c)<|Za (.int .i64 (c+1:Nat)) (add_one rfl c (by omega) (by kernel_rfl) _)<|ZQ (.int .i64 (c+1:Nat))<|wn ?_;simp only[pu];go_wp2_with fail;go_roundg (gk-1)
      case measure=>have:=HG.out; omega
      case rel=>exact⟨c+1,fi,rfl,rfl,HG.out.1,hV,HR2.out⟩
    ·have HD3:Hid (decide (c<n)=false):=Z8 (decide_eq_false h3);refine wl<|ZB (.int .i64 c) (.int .i64 i)<|Yd (.int .i64 (2*i:Nat)) (zS rfl i (by omega))<|Yd (.int .i64 (2*i+2:Nat)) (zQ rfl (2*i) 2 (by omega) (by omega)) <|
      Za (.bool true) (by rw[<- HD2.out]; exact qP rfl c (2*i+2:Nat) (by kernel_rfl) (by kernel_rfl) _)<|Gg (.bool true) (.int .i64 c) (.pointer (some ⟨g,0,none⟩)) (.pointer (some ⟨g,0,none⟩)) (.pointer (some ⟨g,0,none⟩)) <|
      ZC rfl ⟨g,0,none⟩ (.slice (some ⟨b,0,none⟩) n d.kc) (DT.out _ hm)<|ZQ (.int .i64 n)<|Za (.bool false) (by rw[<- HD3.out]; exact Q9 rfl c n (by kernel_rfl) (by kernel_rfl) _)<|ZQ (.bool false)<|wn ?_
     simp only[pu];have jD:=Z8 (HR.out.all (by omega));have HFC:=Z8 HR.out.fc;clear HR HGC;by_cases he:fi=i
     ·have HE:Hid (decide ((fi:Int)=(i:Int))=true):=Z8 dT;have HO:Hid (DnO Bd g d w (.returned (.tuple #[])) wr):=Z8 ⟨rfl,T,hm,CZ Xm.out (by rw[HN.out]; have:=jD.out; rw[he] at this; exact this)⟩;clear hm jD HFC;go_upto_region 6 with fail;refine wl<|ZB (.int .i64 fi) (.int .i64 i)<|Za (.bool true) (by rw[<- HE.out]; exact eq_i rfl fi i (by kernel_rfl) (by kernel_rfl) _)<|wn ?_;simp only[pu];go_wp2_with fail;exact end_none rfl rfl HO.out
     ·have HE:Hid (decide ((fi:Int)=(i:Int))=false):=Z8 dF;have HF2:=Z8 (HFC.out.resolve_left he);have HH:=Z8 (Aq Xm.out (by rw[HN.out]; exact hiT) HF2.out.1 (by rw[HN.out]; exact hfn) HF2.out.2.1 HF2.out.2.2 (by rw[HN.out]; exact jD.out));have OW:=Z8 (HB.out T wr hm i fi (by rw[HN.out]; exact hiT) (by rw[HN.out]; exact hfn));have HIF:Hid (i<fi):=Z8 (by have:=HF2.out.1; have:=HF2.out.2.1; omega);clear hm jD HFC Xm HF2;go_upto_region 6 with fail;refine wl<|ZB (.int .i64 fi) (.int .i64 i)<|Za (.bool false) (by rw[<- HE.out]; exact eq_i rfl fi i (by kernel_rfl) (by kernel_rfl) _)<|wn ?_;simp only[pu];go_upto_region 7 with fail;refine wl<|YX (.pointer (some ⟨g,0,none⟩)) (.int .i64 i) (.int .i64 fi)<|YD (.tuple #[]) (fun w9=>Hm Bd g d w (VR T i fi) w9) OW.out (fun V2 hV2=>?_);simp only[pu];apply wpList_nil;go_upto_region 8 with fail;refine wl<|ZB (.int .i64 fi) (.int .i64 fi)<|wn ?_;simp only[pu];go_wp2_with fail;go_roundg (n-fi)
      case measure=>have:=HIF.out; have:=JF.out; omega
      case rel=>exact⟨fi,VR T i fi,rfl,by rw[HDN.out],hV2,by rw[Yu,HN.out]; exact hfn,HH.out⟩
   ·have HD2:Hid (decide ((c:Int)<=((2*i+2:Nat):Int))=false):=Z8 dF;refine wl<|ZB (.int .i64 c) (.int .i64 i)<|Yd (.int .i64 (2*i:Nat)) (zS rfl i (by omega))<|Yd (.int .i64 (2*i+2:Nat)) (zQ rfl (2*i) 2 (by omega) (by omega)) <|
     Za (.bool false) (by rw[<- HD2.out]; exact qP rfl c (2*i+2:Nat) (by kernel_rfl) (by kernel_rfl) _)<|Ia (.bool false) undef undef undef undef undef<|YX undef undef (.bool false)<|wn ?_
    simp only[pu];have jD:=Z8 (HR.out.all (by omega));have HFC:=Z8 HR.out.fc;clear HR HGC;by_cases he:fi=i
    ·have HE:Hid (decide ((fi:Int)=(i:Int))=true):=Z8 dT;have HO:Hid (DnO Bd g d w (.returned (.tuple #[])) wr):=Z8 ⟨rfl,T,hm,CZ Xm.out (by rw[HN.out]; have:=jD.out; rw[he] at this; exact this)⟩;clear hm jD HFC;go_upto_region 6 with fail;refine wl<|ZB (.int .i64 fi) (.int .i64 i)<|Za (.bool true) (by rw[<- HE.out]; exact eq_i rfl fi i (by kernel_rfl) (by kernel_rfl) _)<|wn ?_;simp only[pu];go_wp2_with fail;exact end_none rfl rfl HO.out
    ·have HE:Hid (decide ((fi:Int)=(i:Int))=false):=Z8 dF;have HF2:=Z8 (HFC.out.resolve_left he);have HH:=Z8 (Aq Xm.out (by rw[HN.out]; exact hiT) HF2.out.1 (by rw[HN.out]; exact hfn) HF2.out.2.1 HF2.out.2.2 (by rw[HN.out]; exact jD.out));have OW:=Z8 (HB.out T wr hm i fi (by rw[HN.out]; exact hiT) (by rw[HN.out]; exact hfn));have HIF:Hid (i<fi):=Z8 (by have:=HF2.out.1; have:=HF2.out.2.1; omega);clear hm jD HFC Xm HF2;go_upto_region 6 with fail;refine wl<|ZB (.int .i64 fi) (.int .i64 i)<|Za (.bool false) (by rw[<- HE.out]; exact eq_i rfl fi i (by kernel_rfl) (by kernel_rfl) _)<|wn ?_;simp only[pu];go_upto_region 7 with fail;refine wl<|YX (.pointer (some ⟨g,0,none⟩)) (.int .i64 i) (.int .i64 fi)<|YD (.tuple #[]) (fun w9=>Hm Bd g d w (VR T i fi) w9) OW.out (fun V2 hV2=>?_);simp only[pu];apply wpList_nil;go_upto_region 8 with fail;refine wl<|ZB (.int .i64 fi) (.int .i64 fi)<|wn ?_;simp only[pu];go_wp2_with fail;go_roundg (n-fi)
     case measure=>have:=HIF.out; have:=JF.out; omega
     case rel=>exact⟨fi,VR T i fi,rfl,by rw[HDN.out],hV2,by rw[Yu,HN.out]; exact hfn,HH.out⟩
structure zW (Bd g:Nat)(d:Hd)(f:Int->Option Int)(w:World):Prop where
 mem:Mh w g d f
 px:Px d.A f
 ho:HO d.A
 hB:∀ k,Sh g d k->Bd<=k
 hw:Bd<=w.heap.size
 ids:(d.A.map (·.1)).Nodup
 len:d.A.length<=90000
def yc (Bd g:Nat)(d:Hd)(w:World)(M:List It)(V:World):Prop:=∃ d' f',Gh Bd g d w d' f' V/\Px d'.A f'/\HO d'.A/\d'.A.Perm M
theorem P9 (w:World):Calls Tryz.prog 55 #[] w fun e w'=>∃ g d,e=.returned (Z7 g 0)/\Mh w' g d (fun _=>none)/\d.A=[]/\(∀ k,Sh g d k->w.heap.size<=k)/\Below w.heap.size w w':=by
 have hW1:Below w.heap.size w (w.alloc (.map #[] 0)):=(Below.refl _ w).alloc (Nat.le_refl _) _;have hM1:=Mf.new w;have hz1:(w.alloc (.map #[] 0)).heap.size=w.heap.size+1:=by simp
 have hb2:Below (w.alloc (.map #[] 0)).heap.size (w.alloc (.map #[] 0)) ((w.alloc (.map #[] 0)).alloc (.cells #[.slice none 0 0,.map (some w.heap.size)] 128)):=(Below.refl _ _).alloc (Nat.le_refl _) _;have hX2:Bx ((w.alloc (.map #[] 0)).alloc (.cells #[.slice none 0 0,.map (some w.heap.size)] 128)) (w.alloc (.map #[] 0)).heap.size #[.slice none 0 0,.map (some w.heap.size)] 128:=heap_alloc_last _ _;have hM2:=hM1.same (hb2.block _ hM1.lt);have HE:Hid (Mh ((w.alloc (.map #[] 0)).alloc (.cells #[.slice none 0 0,.map (some w.heap.size)] 128)) (w.alloc (.map #[] 0)).heap.size ⟨w.heap.size,none,0,[]⟩ (fun _=>none)/\(∀ k,Sh (w.alloc (.map #[] 0)).heap.size ⟨w.heap.size,none,0,[]⟩ k->w.heap.size<=k)):=Z8 ⟨⟨hX2,hM2,⟨rfl,.inl ⟨rfl,rfl⟩⟩,fun i j k hi hj=>by
   rw[hz1] at hi hj;match i,j,hi,hj with
   | 0,0,_,_=>rfl
   | 1,1,_,_=>rfl
   | 0,1,h1,h2=>
    have h1:k=w.heap.size+1:=h1;have h2:k=w.heap.size:=h2;omega
   | 1,0,h1,h2=>
    have h1:k=w.heap.size:=h1;have h2:k=w.heap.size+1:=h2;omega
   | 2,_,⟨x,hx,_⟩,_=>cases hx
   | 0,2,_,⟨x,hx,_⟩=>cases hx
   | 1,2,_,⟨x,hx,_⟩=>cases hx
   | _+3,_,h1,_=>exact h1.elim
   | 0,_+3,_,h2=>exact h2.elim
   | 1,_+3,_,h2=>exact h2.elim⟩,fun k hk=>by
   rw[hz1] at hk;obtain⟨i,hi⟩:=hk;match i,hi with
   | 0,h1=>
    have h1:k=w.heap.size+1:=h1;omega
   | 1,h1=>
    have h1:k=w.heap.size:=h1;omega
   | 2,⟨x,hx,_⟩=>cases hx
   | _+3,h1=>exact h1.elim⟩
 have HB:=Z8 (hW1.trans (hb2.mono hW1.size));clear hW1 hM1 hb2 hX2 hM2;go_enter Tryz.func55,Tryz.ntmps55;go_upto_region 1 with fail;apply wp_region_lit;refine Vd (by kernel_rfl) (some 1) rfl (.map (some w.heap.size)) (w.alloc (.map #[] 0)) (SK 126 rfl) ?_;refine ZQ (.agg #[.slice none 0 0,.map (some w.heap.size)]) ?_;refine Vd (by kernel_rfl) (some 3) rfl (Z7 ((w.alloc (.map #[] 0)).heap.size) 0) ((w.alloc (.map #[] 0)).alloc (.cells #[.slice none 0 0,.map (some w.heap.size)] 128)) (by kernel_rfl) ?_;refine ZQ (Z7 ((w.alloc (.map #[] 0)).heap.size) 0)<|wn ?_;simp only[pu];clear hz1;generalize (w.alloc (.map #[] 0)).alloc (.cells #[.slice none 0 0,.map (some w.heap.size)] 128)=V at *
 generalize (w.alloc (.map #[] 0)).heap.size=g at *
 go_wp2_with fail;go_ret;exact⟨g,_,rfl,HE.out.1,rfl,HE.out.2,HB.out⟩
end Go.Proofs.YtnelmomagdcmnaaGreat.Hp
