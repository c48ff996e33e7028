/-
  Texts joined.
-/
import Derived.Test.YtnelmomagdcmnaaGreatD10
import Derived.Shelf.SlSortCmp.NoneTotal
set_option maxRecDepth 100000
set_option maxHeartbeats 8000000
set_option linter.unusedSimpArgs false
set_option linter.unusedVariables false
namespace Go.Proofs.YtnelmomagdcmnaaGreat.Hp
attribute [local irreducible] wpList wpQuiet
open Go.RowKit
theorem zf {A:List It}{i j:Nat}(hi:i<A.length)(hj:j<A.length):ita (Uf A i j) i=ita A j:=by
 rw[NI A i j i hi hj]
 split
 ·rename_i e; rw[e]
 ·rw[if_pos rfl]
theorem y9 {A:List It}{i j:Nat}(hi:i<A.length)(hj:j<A.length):ita (Uf A i j) j=ita A i:=by
 rw[NI A i j j hi hj,if_pos rfl]
def exF (A:List It)(f:Int->Option Int)(i j:Nat):Int->Option Int:=Ya (Ya f (ita A j).1 (some (i:Int))) (ita A i).1 (some (j:Int))
theorem Mh.sU {w:World}{g b:Nat}{d:Hd}{f:Int->Option Int}(h:Mh w g d f)(hb:d.ka=some ⟨b,0,none⟩):(Instr.loadAt 96 (Z7 g 0)).run Tryz.prog w=.ok (.slice (some ⟨b,0,none⟩) d.A.length d.kc) w:=by
 rw[<- hb]; exact h.iC
structure XW (P0 P1 P2:World->Prop)(b16 b23 b25 b27:Bool)(V:World):Prop where
 p0:b25=false->P0 V
 p1:b25=true->b27=false->P1 V
 p2:b27=true->P2 V
 c1:b25=true->b16=true/\b23=true
 c2:b27=true->b25=true
section
variable {P0 P1 P2 : World -> Prop} {b16 b23 b25 b27 : Bool} {V : World}
theorem XW.start (h:P0 V):XW P0 P1 P2 false false false false V:=⟨fun _=>h,fun h=>(by cases h),fun h=>(by cases h),fun h=>(by cases h),fun h=>(by cases h)⟩
theorem XW.any (h:XW P0 P1 P2 b16 b23 b25 b27 V):P0 V∨P1 V∨P2 V:=by
 cases b25 with
 | false=>exact .inl (h.p0 rfl)
 | true=>
  cases b27 with
  | false=>exact .inr (.inl (h.p1 rfl rfl))
  | true=>exact .inr (.inr (h.p2 rfl))
theorem XW.m16 (h:XW P0 P1 P2 b16 b23 false b27 V):XW P0 P1 P2 true b23 false b27 V:=⟨h.p0,fun h=>(by cases h),h.p2,fun h=>(by cases h),h.c2⟩
theorem XW.m23 (h:XW P0 P1 P2 b16 b23 false b27 V):XW P0 P1 P2 b16 true false b27 V:=⟨h.p0,fun h=>(by cases h),h.p2,fun h=>(by cases h),h.c2⟩
end
theorem bF {Bd g:Nat}{d:Hd}{f:Int->Option Int}{w:World}(h:Mh w g d f)(hB:∀ k,Sh g d k->Bd<=k)(hw:Bd<=w.heap.size){i j:Nat}(hi:i<d.A.length)(hj:j<d.A.length) :
  Calls Tryz.prog 93 #[Z7 g 0,Z9 i,Z9 j] w fun e w'=>e=.returned (.tuple #[])/\Gh Bd g d w { d with A:=Uf d.A i j } (exF d.A f i j) w':=by
 obtain⟨b,hb⟩:=h.addr (by omega);have H0:=Z8 (Gh.refl (Bd:=Bd) h);have Jk:=Z8 (fun U (hU:Gh Bd g d w d f U)=>(⟨_,hU.mem.store hb hi (ita d.A j),hU.trans (Gh.kV hU.mem (hU.base hB hw) hb i hi (ita d.A j))⟩:∃ U1,(Instr.storeAt 99 (Z7 b (i*3)) (.agg (YS (ita d.A j)))).run Tryz.prog U=.ok () U1/\Gh Bd g d w { d with A:=d.A.set i (ita d.A j) } f U1));have HS2:=Z8 (fun U (hU:Gh Bd g d w { d with A:=d.A.set i (ita d.A j) } f U)=>(⟨_,hU.mem.store hb (by show j<(d.A.set i (ita d.A j)).length; rw[List.length_set]; exact hj) (ita d.A i),hU.trans (Gh.kV hU.mem (hU.base hB hw) hb j (by show j<(d.A.set i (ita d.A j)).length; rw[List.length_set]; exact hj) (ita d.A i))⟩:∃ U1,(Instr.storeAt 99 (Z7 b (j*3)) (.agg (YS (ita d.A i)))).run Tryz.prog U=.ok () U1/\Gh Bd g d w { d with A:=Uf d.A i j } f U1));have sQ:=Z8 (fun U (hU:Gh Bd g d w d f U∨Gh Bd g d w { d with A:=d.A.set i (ita d.A j) } f U∨Gh Bd g d w { d with A:=Uf d.A i j } f U)=>(by
  rcases hU with hU | hU | hU
  ·exact hU.mem.sU hb
  ·have:=hU.mem.sU hb;rw[show({ d with A:=d.A.set i (ita d.A j) }:Hd).A.length=d.A.length from List.length_set] at this;exact this
  ·have:=hU.mem.sU hb;rw[show({ d with A:=Uf d.A i j }:Hd).A.length=d.A.length from Xd _ _ _] at this;exact this:(Instr.loadAt 96 (Z7 g 0)).run Tryz.prog U=.ok (.slice (some ⟨b,0,none⟩) d.A.length d.kc) U))
 have HI1:=Z8 (fun U (hU:Gh Bd g d w d f U)=>hU.mem.item hb hi);have HI2:=Z8 (fun U (hU:Gh Bd g d w d f U)=>hU.mem.item hb hj);have HL2:=Z8 (fun U f2 (hU:Gh Bd g d w { d with A:=Uf d.A i j } f2 U)=>(by
  have:=hU.mem.sU hb;rw[show({ d with A:=Uf d.A i j }:Hd).A.length=d.A.length from Xd _ _ _] at this;exact this:(Instr.loadAt 96 (Z7 g 0)).run Tryz.prog U=.ok (.slice (some ⟨b,0,none⟩) d.A.length d.kc) U))
 have iq:=Z8 (fun U f2 (hU:Gh Bd g d w { d with A:=Uf d.A i j } f2 U)=>hU.mem.ld1);have HA1:=Z8 (fun U f2 (hU:Gh Bd g d w { d with A:=Uf d.A i j } f2 U)=>(by
  have:=hU.mem.id (i:=i) hb (by show i<(Uf d.A i j).length; rw[Xd]; exact hi);rw[show ita ({ d with A:=Uf d.A i j }:Hd).A i=ita d.A j from zf hi hj] at this;exact this:(Instr.loadAt 3 (Z7 b (i*3))).run Tryz.prog U=.ok (Z9 (ita d.A j).1) U))
 have HA2:=Z8 (fun U f2 (hU:Gh Bd g d w { d with A:=Uf d.A i j } f2 U)=>(by
  have:=hU.mem.id (i:=j) hb (by show j<(Uf d.A i j).length; rw[Xd]; exact hj);rw[show ita ({ d with A:=Uf d.A i j }:Hd).A j=ita d.A i from y9 hi hj] at this;exact this:(Instr.loadAt 3 (Z7 b (j*3))).run Tryz.prog U=.ok (Z9 (ita d.A i).1) U))
 have HP:=Z8 (fun U f2 (hU:Gh Bd g d w { d with A:=Uf d.A i j } f2 U) x v=>hU.mem.mp.put x v);have HG:=Z8 (fun U f2 (hU:Gh Bd g d w { d with A:=Uf d.A i j } f2 U) U2 f3 (hm:Mf U2 d.B f3) (hg:U.grownBy U2 (some d.B))=>hU.trans (Gh.map hU.mem (hB d.B ⟨1,rfl⟩) hm hg));unfold exF;obtain⟨A2,hA2⟩:=ZR (Uf d.A i j);rw[hA2] at HS2 sQ HL2 iq HA1 HA2 HP HG ⊢;have HI:Hid (i<d.A.length/\j<d.A.length):=Z8 ⟨hi,hj⟩;obtain⟨n,hn⟩:=ZR d.A.length;rw[hn] at sQ HL2 hi hj;generalize ita d.A i=y at *
 generalize ita d.A j=x at *
 clear h hB hw hb hA2 hn;go_enter Tryz.func93,Tryz.ntmps93;go_upto_region 0 with fail;have h0:=XW.start (H0.out.drew) (P1:=fun U=>Gh Bd g d w { d with A:=d.A.set i x } f U) (P2:=fun U=>Gh Bd g d w { d with A:=A2 } f U);refine ZI (fun listed Zr V=>∃ b0 b1 b2 b3 b4 b5 b6 b7 b8 b9 b10 b11 b12 b13 b14 b15 b16 b17 b18 b19 b20 b21 b22 b23 b24 b25 b26 b27:Bool,listed=#[b0,b1,b2,b3,b4,b5,b6,b7,b8,b9,b10,b11,b12,b13,b14,b15,b16,b17,b18,b19,b20,b21,b22,b23,b24,b25,b26,b27]/\Zr={ tmps:=#[Z7 g 0,Z9 i,Z9 j,undef,undef,undef,(cond b0 (Z7 g 0) undef),(cond b1 (Z7 g 0) undef),(cond b2 (Z7 g 0) undef),(cond b3 (.slice (some ⟨b,0,none⟩) n d.kc) undef),(cond b4 (Z9 i) undef),(cond b5 (Z7 g 0) undef),(cond b6 (Z7 g 0) undef),(cond b7 (Z7 g 0) undef),(cond b8 (.slice (some ⟨b,0,none⟩) n d.kc) undef),(cond b9 (Z9 j) undef),(cond b10 (Z7 g 0) undef),(cond b11 (Z7 g 0) undef),(cond b12 (Z7 g 0) undef),(cond b13 (.slice (some ⟨b,0,none⟩) n d.kc) undef),(cond b14 (Z9 j) undef),(cond b15 (Z7 b (j*3)) undef),(cond b16 (.agg (YS x)) undef),(cond b17 (Z7 g 0) undef),(cond b18 (Z7 g 0) undef),(cond b19 (Z7 g 0) undef),(cond b20 (.slice (some ⟨b,0,none⟩) n d.kc) undef),(cond b21 (Z9 i) undef),(cond b22 (Z7 b (i*3)) undef),(cond b23 (.agg (YS y)) undef),(cond b24 (Z7 b (i*3)) undef),(cond b26 (Z7 b (j*3)) undef),undef,undef,undef,undef,undef,undef,undef,undef,undef,undef,undef,undef,undef,undef,undef,undef,undef,undef,undef,undef,undef,undef,undef,undef,undef,undef],defers:=[] }/\XW (fun U=>Gh Bd g d w d f U) (fun U=>Gh Bd g d w { d with A:=d.A.set i x } f U) (fun U=>Gh Bd g d w { d with A:=A2 } f U) b16 b23 b25 b27 V) (by kernel_rfl) (by kernel_rfl) ?_ ?_ ?_
 ·exact⟨_,_,_,_,_,_,_,_,_,_,_,_,_,_,_,_,_,_,_,_,_,_,_,_,_,_,_,_,rfl,rfl,h0⟩
 ·intro i9 listed Zr V hi9 hr hJ;obtain⟨b0,b1,b2,b3,b4,b5,b6,b7,b8,b9,b10,b11,b12,b13,b14,b15,b16,b17,b18,b19,b20,b21,b22,b23,b24,b25,b26,b27,rfl,rfl,hF⟩:=hJ;have hi2:i9<28:=hi9;have hi3:i9=0∨i9=1∨i9=2∨i9=3∨i9=4∨i9=5∨i9=6∨i9=7∨i9=8∨i9=9∨i9=10∨i9=11∨i9=12∨i9=13∨i9=14∨i9=15∨i9=16∨i9=17∨i9=18∨i9=19∨i9=20∨i9=21∨i9=22∨i9=23∨i9=24∨i9=25∨i9=26∨i9=27:=by omega
  rcases hi3 with rfl | rfl | rfl | rfl | rfl | rfl | rfl | rfl | rfl | rfl | rfl | rfl | rfl | rfl | rfl | rfl | rfl | rfl | rfl | rfl | rfl | rfl | rfl | rfl | rfl | rfl | rfl | rfl
  ·obtain rfl:b0=false:=Z5 hr;refine ZX rfl (by kernel_rfl) (some 6) rfl (Z7 g 0) V (by kernel_rfl) ?_;exact⟨_,_,_,_,_,_,_,_,_,_,_,_,_,_,_,_,_,_,_,_,_,_,_,_,_,_,_,_,rfl,rfl,hF⟩
  ·obtain rfl:b1=false:=Z5 hr;obtain rfl:b0=true:=Z4 hr 0;refine ZX rfl (by kernel_rfl) (some 7) rfl (Z7 g 0) V (by kernel_rfl) ?_;exact⟨_,_,_,_,_,_,_,_,_,_,_,_,_,_,_,_,_,_,_,_,_,_,_,_,_,_,_,_,rfl,rfl,hF⟩
  ·obtain rfl:b2=false:=Z5 hr;obtain rfl:b1=true:=Z4 hr 1;refine ZX rfl (by kernel_rfl) (some 8) rfl (Z7 g 0) V (by kernel_rfl) ?_;exact⟨_,_,_,_,_,_,_,_,_,_,_,_,_,_,_,_,_,_,_,_,_,_,_,_,_,_,_,_,rfl,rfl,hF⟩
  ·obtain rfl:b3=false:=Z5 hr;obtain rfl:b2=true:=Z4 hr 2;refine ZJ rfl (by kernel_rfl) (some 9) rfl 96 (.tmp 8) rfl ⟨g,0,none⟩ (.slice (some ⟨b,0,none⟩) n d.kc) (by kernel_rfl) (sQ.out V hF.any) ?_;exact⟨_,_,_,_,_,_,_,_,_,_,_,_,_,_,_,_,_,_,_,_,_,_,_,_,_,_,_,_,rfl,rfl,hF⟩
  ·obtain rfl:b4=false:=Z5 hr;refine ZX rfl (by kernel_rfl) (some 10) rfl (Z9 i) V (by kernel_rfl) ?_;exact⟨_,_,_,_,_,_,_,_,_,_,_,_,_,_,_,_,_,_,_,_,_,_,_,_,_,_,_,_,rfl,rfl,hF⟩
  ·obtain rfl:b5=false:=Z5 hr;refine ZX rfl (by kernel_rfl) (some 11) rfl (Z7 g 0) V (by kernel_rfl) ?_;exact⟨_,_,_,_,_,_,_,_,_,_,_,_,_,_,_,_,_,_,_,_,_,_,_,_,_,_,_,_,rfl,rfl,hF⟩
  ·obtain rfl:b6=false:=Z5 hr;obtain rfl:b5=true:=Z4 hr 5;refine ZX rfl (by kernel_rfl) (some 12) rfl (Z7 g 0) V (by kernel_rfl) ?_;exact⟨_,_,_,_,_,_,_,_,_,_,_,_,_,_,_,_,_,_,_,_,_,_,_,_,_,_,_,_,rfl,rfl,hF⟩
  ·obtain rfl:b7=false:=Z5 hr;obtain rfl:b6=true:=Z4 hr 6;refine ZX rfl (by kernel_rfl) (some 13) rfl (Z7 g 0) V (by kernel_rfl) ?_;exact⟨_,_,_,_,_,_,_,_,_,_,_,_,_,_,_,_,_,_,_,_,_,_,_,_,_,_,_,_,rfl,rfl,hF⟩
  ·obtain rfl:b8=false:=Z5 hr;obtain rfl:b7=true:=Z4 hr 7;refine ZJ rfl (by kernel_rfl) (some 14) rfl 96 (.tmp 13) rfl ⟨g,0,none⟩ (.slice (some ⟨b,0,none⟩) n d.kc) (by kernel_rfl) (sQ.out V hF.any) ?_;exact⟨_,_,_,_,_,_,_,_,_,_,_,_,_,_,_,_,_,_,_,_,_,_,_,_,_,_,_,_,rfl,rfl,hF⟩
  ·obtain rfl:b9=false:=Z5 hr;refine ZX rfl (by kernel_rfl) (some 15) rfl (Z9 j) V (by kernel_rfl) ?_;exact⟨_,_,_,_,_,_,_,_,_,_,_,_,_,_,_,_,_,_,_,_,_,_,_,_,_,_,_,_,rfl,rfl,hF⟩
  ·obtain rfl:b10=false:=Z5 hr;refine ZX rfl (by kernel_rfl) (some 16) rfl (Z7 g 0) V (by kernel_rfl) ?_;exact⟨_,_,_,_,_,_,_,_,_,_,_,_,_,_,_,_,_,_,_,_,_,_,_,_,_,_,_,_,rfl,rfl,hF⟩
  ·obtain rfl:b11=false:=Z5 hr;obtain rfl:b10=true:=Z4 hr 10;refine ZX rfl (by kernel_rfl) (some 17) rfl (Z7 g 0) V (by kernel_rfl) ?_;exact⟨_,_,_,_,_,_,_,_,_,_,_,_,_,_,_,_,_,_,_,_,_,_,_,_,_,_,_,_,rfl,rfl,hF⟩
  ·obtain rfl:b12=false:=Z5 hr;obtain rfl:b11=true:=Z4 hr 11;refine ZX rfl (by kernel_rfl) (some 18) rfl (Z7 g 0) V (by kernel_rfl) ?_;exact⟨_,_,_,_,_,_,_,_,_,_,_,_,_,_,_,_,_,_,_,_,_,_,_,_,_,_,_,_,rfl,rfl,hF⟩
  ·obtain rfl:b13=false:=Z5 hr;obtain rfl:b12=true:=Z4 hr 12;refine ZJ rfl (by kernel_rfl) (some 19) rfl 96 (.tmp 18) rfl ⟨g,0,none⟩ (.slice (some ⟨b,0,none⟩) n d.kc) (by kernel_rfl) (sQ.out V hF.any) ?_;exact⟨_,_,_,_,_,_,_,_,_,_,_,_,_,_,_,_,_,_,_,_,_,_,_,_,_,_,_,_,rfl,rfl,hF⟩
  ·obtain rfl:b14=false:=Z5 hr;refine ZX rfl (by kernel_rfl) (some 20) rfl (Z9 j) V (by kernel_rfl) ?_;exact⟨_,_,_,_,_,_,_,_,_,_,_,_,_,_,_,_,_,_,_,_,_,_,_,_,_,_,_,_,rfl,rfl,hF⟩
  ·obtain rfl:b15=false:=Z5 hr;obtain rfl:b13=true:=Z4 hr 13;obtain rfl:b14=true:=Z4 hr 14;refine ZX rfl (by kernel_rfl) (some 21) rfl (Z7 b (j*3)) V (Wj b n d.kc j hj _ _ _ rfl (by kernel_rfl) (by kernel_rfl)) ?_;exact⟨_,_,_,_,_,_,_,_,_,_,_,_,_,_,_,_,_,_,_,_,_,_,_,_,_,_,_,_,rfl,rfl,hF⟩
  ·obtain rfl:b16=false:=Z5 hr;obtain rfl:b15=true:=Z4 hr 15;obtain rfl:b25=false:=(by cases b25; rfl; exact absurd (hF.c1 rfl).1 (by decide));refine ZJ rfl (by kernel_rfl) (some 22) rfl 99 (.tmp 21) rfl ⟨b,j*3,none⟩ (.agg (YS x)) (by kernel_rfl) (HI2.out V (hF.p0 rfl)) ?_;exact⟨_,_,_,_,_,_,_,_,_,_,_,_,_,_,_,_,_,_,_,_,_,_,_,_,_,_,_,_,rfl,rfl,hF.m16⟩
  ·obtain rfl:b17=false:=Z5 hr;refine ZX rfl (by kernel_rfl) (some 23) rfl (Z7 g 0) V (by kernel_rfl) ?_;exact⟨_,_,_,_,_,_,_,_,_,_,_,_,_,_,_,_,_,_,_,_,_,_,_,_,_,_,_,_,rfl,rfl,hF⟩
  ·obtain rfl:b18=false:=Z5 hr;obtain rfl:b17=true:=Z4 hr 17;refine ZX rfl (by kernel_rfl) (some 24) rfl (Z7 g 0) V (by kernel_rfl) ?_;exact⟨_,_,_,_,_,_,_,_,_,_,_,_,_,_,_,_,_,_,_,_,_,_,_,_,_,_,_,_,rfl,rfl,hF⟩
  ·obtain rfl:b19=false:=Z5 hr;obtain rfl:b18=true:=Z4 hr 18;refine ZX rfl (by kernel_rfl) (some 25) rfl (Z7 g 0) V (by kernel_rfl) ?_;exact⟨_,_,_,_,_,_,_,_,_,_,_,_,_,_,_,_,_,_,_,_,_,_,_,_,_,_,_,_,rfl,rfl,hF⟩
  ·obtain rfl:b20=false:=Z5 hr;obtain rfl:b19=true:=Z4 hr 19;refine ZJ rfl (by kernel_rfl) (some 26) rfl 96 (.tmp 25) rfl ⟨g,0,none⟩ (.slice (some ⟨b,0,none⟩) n d.kc) (by kernel_rfl) (sQ.out V hF.any) ?_;exact⟨_,_,_,_,_,_,_,_,_,_,_,_,_,_,_,_,_,_,_,_,_,_,_,_,_,_,_,_,rfl,rfl,hF⟩
  ·obtain rfl:b21=false:=Z5 hr;refine ZX rfl (by kernel_rfl) (some 27) rfl (Z9 i) V (by kernel_rfl) ?_;exact⟨_,_,_,_,_,_,_,_,_,_,_,_,_,_,_,_,_,_,_,_,_,_,_,_,_,_,_,_,rfl,rfl,hF⟩
  ·obtain rfl:b22=false:=Z5 hr;obtain rfl:b20=true:=Z4 hr 20;obtain rfl:b21=true:=Z4 hr 21;refine ZX rfl (by kernel_rfl) (some 28) rfl (Z7 b (i*3)) V (Wj b n d.kc i hi _ _ _ rfl (by kernel_rfl) (by kernel_rfl)) ?_;exact⟨_,_,_,_,_,_,_,_,_,_,_,_,_,_,_,_,_,_,_,_,_,_,_,_,_,_,_,_,rfl,rfl,hF⟩
  ·obtain rfl:b23=false:=Z5 hr;obtain rfl:b22=true:=Z4 hr 22;obtain rfl:b25=false:=(by cases b25; rfl; exact absurd (hF.c1 rfl).2 (by decide));refine ZJ rfl (by kernel_rfl) (some 29) rfl 99 (.tmp 28) rfl ⟨b,i*3,none⟩ (.agg (YS y)) (by kernel_rfl) (HI1.out V (hF.p0 rfl)) ?_;exact⟨_,_,_,_,_,_,_,_,_,_,_,_,_,_,_,_,_,_,_,_,_,_,_,_,_,_,_,_,rfl,rfl,hF.m23⟩
  ·obtain rfl:b24=false:=Z5 hr;obtain rfl:b3=true:=Z4 hr 3;obtain rfl:b4=true:=Z4 hr 4;refine ZX rfl (by kernel_rfl) (some 30) rfl (Z7 b (i*3)) V (Wj b n d.kc i hi _ _ _ rfl (by kernel_rfl) (by kernel_rfl)) ?_;exact⟨_,_,_,_,_,_,_,_,_,_,_,_,_,_,_,_,_,_,_,_,_,_,_,_,_,_,_,_,rfl,rfl,hF⟩
  ·obtain rfl:b25=false:=Z5 hr;obtain rfl:b24=true:=Z4 hr 24;obtain rfl:b16=true:=Z4 hr 16;obtain rfl:b23=true:=Z4 hr 23;obtain rfl:b27=false:=(by cases b27; rfl; exact absurd (hF.c2 rfl) (by decide));obtain⟨U1,hs1,hp1⟩:=Jk.out V (hF.p0 rfl);refine Zb rfl (by kernel_rfl) rfl 99 (.tmp 30) (.tmp 22) rfl (Z7 b (i*3)) (.agg (YS x)) (by kernel_rfl) (by kernel_rfl) U1 hs1 ?_;exact⟨_,_,_,_,_,_,_,_,_,_,_,_,_,_,_,_,_,_,_,_,_,_,_,_,_,_,_,_,rfl,rfl,⟨fun h=>(by cases h),fun _ _=>hp1,fun h=>(by cases h),fun _=>⟨rfl,rfl⟩,fun h=>(by cases h)⟩⟩
  ·obtain rfl:b26=false:=Z5 hr;obtain rfl:b8=true:=Z4 hr 8;obtain rfl:b9=true:=Z4 hr 9;refine ZX rfl (by kernel_rfl) (some 31) rfl (Z7 b (j*3)) V (Wj b n d.kc j hj _ _ _ rfl (by kernel_rfl) (by kernel_rfl)) ?_;exact⟨_,_,_,_,_,_,_,_,_,_,_,_,_,_,_,_,_,_,_,_,_,_,_,_,_,_,_,_,rfl,rfl,hF⟩
  ·obtain rfl:b27=false:=Z5 hr;obtain rfl:b26=true:=Z4 hr 26;obtain rfl:b23=true:=Z4 hr 23;obtain rfl:b25=true:=Z4 hr 25;obtain⟨U1,hs1,hp1⟩:=HS2.out V (hF.p1 rfl rfl);refine Zb rfl (by kernel_rfl) rfl 99 (.tmp 31) (.tmp 29) rfl (Z7 b (j*3)) (.agg (YS y)) (by kernel_rfl) (by kernel_rfl) U1 hs1 ?_;exact⟨_,_,_,_,_,_,_,_,_,_,_,_,_,_,_,_,_,_,_,_,_,_,_,_,_,_,_,_,rfl,rfl,⟨fun h=>(by cases h),fun _ h=>(by cases h),fun _=>hp1,fun _=>⟨(hF.c1 rfl).1,(hF.c1 rfl).2⟩,fun _=>rfl⟩⟩
 ·intro Zr V hJ;obtain⟨b0,b1,b2,b3,b4,b5,b6,b7,b8,b9,b10,b11,b12,b13,b14,b15,b16,b17,b18,b19,b20,b21,b22,b23,b24,b25,b26,b27,he,rfl,hF⟩:=hJ;have he:(#[true,true,true,true,true,true,true,true,true,true,true,true,true,true,true,true,true,true,true,true,true,true,true,true,true,true,true,true]:Array Bool)=#[b0,b1,b2,b3,b4,b5,b6,b7,b8,b9,b10,b11,b12,b13,b14,b15,b16,b17,b18,b19,b20,b21,b22,b23,b24,b25,b26,b27]:=he;simp only[Array.mk.injEq,List.cons.injEq,and_true] at he;obtain⟨rfl,rfl,rfl,rfl,rfl,rfl,rfl,rfl,rfl,rfl,rfl,rfl,rfl,rfl,rfl,rfl,rfl,rfl,rfl,rfl,rfl,rfl,rfl,rfl,rfl,rfl,rfl,rfl⟩:=he;simp only[cond_true];have bg:=Z8 (hF.p2 rfl);obtain⟨U2,eU⟩:=ZR V;rw[eU] at bg ⊢;clear hF h0 H0 sQ HI1 HI2 Jk HS2 eU;go_upto_region 1 with fail;refine ZO (C:=fun U=>Gh Bd g d w { d with A:=A2 } (f) U) 13 (by kernel_rfl) (by kernel_rfl) (bg.out.drew) ?_;simp only[List.take_succ_cons,List.take_zero,List.drop_succ_cons,List.drop_zero];refine gy (Z7 g 0)<|gy (Z7 g 0)<|gy (Z7 g 1)<|Zj rfl ⟨g,1,none⟩ (.map (some d.B)) (fun U hU=>iq.out U _ hU)<|gy (Z7 g 0)<|gy (Z7 g 0)<|gy (Z7 g 0) <|
    Zj rfl ⟨g,0,none⟩ (.slice (some ⟨b,0,none⟩) n d.kc) (fun U hU=>HL2.out U _ hU)<|gy (Z9 i)<|Yz (Z7 b (i*3)) (fun U hU=>Wj b n d.kc i hi _ _ _ rfl (by kernel_rfl) (by kernel_rfl))<|gy (Z7 b (i*3)) <|
    Zj rfl ⟨b,i*3,none⟩ (Z9 x.1) (fun U hU=>HA1.out U _ hU)<|gy (Z9 i) ?_
  simp only[pu];apply wpQuiet_nil;intro X hX;obtain⟨X2,hp,hm,-,hg⟩:=HP.out X _ hX x.1 (i:Int);have HX:=Z8 (HG.out X _ hX X2 _ hm hg);clear hm hg hX bg;refine Xe (by kernel_rfl) rfl X2 (Vu 126 (.tmp 35) (.tmp 43) (.tmp 44) rfl (.map (some d.B)) (Z9 x.1) (Z9 i) (by kernel_rfl) (by kernel_rfl) (by kernel_rfl) hp) ?_;apply wpList_nil;clear hp;go_upto_region 2 with fail;refine ZO (C:=fun U=>Gh Bd g d w { d with A:=A2 } (Ya f x.1 (some (i:Int))) U) 13 (by kernel_rfl) (by kernel_rfl) (HX.out.drew) ?_;simp only[List.take_succ_cons,List.take_zero,List.drop_succ_cons,List.drop_zero];refine gy (Z7 g 0)<|gy (Z7 g 0)<|gy (Z7 g 1)<|Zj rfl ⟨g,1,none⟩ (.map (some d.B)) (fun U hU=>iq.out U _ hU)<|gy (Z7 g 0)<|gy (Z7 g 0)<|gy (Z7 g 0) <|
    Zj rfl ⟨g,0,none⟩ (.slice (some ⟨b,0,none⟩) n d.kc) (fun U hU=>HL2.out U _ hU)<|gy (Z9 j)<|Yz (Z7 b (j*3)) (fun U hU=>Wj b n d.kc j hj _ _ _ rfl (by kernel_rfl) (by kernel_rfl))<|gy (Z7 b (j*3)) <|
    Zj rfl ⟨b,j*3,none⟩ (Z9 y.1) (fun U hU=>HA2.out U _ hU)<|gy (Z9 j) ?_
  simp only[pu];apply wpQuiet_nil;intro Y hY;obtain⟨Y2,hp,hm,-,hg⟩:=HP.out Y _ hY y.1 (j:Int);have HY:=Z8 (HG.out Y _ hY Y2 _ hm hg);clear hm hg hY HX;refine Xe (by kernel_rfl) rfl Y2 (Vu 126 (.tmp 48) (.tmp 56) (.tmp 57) rfl (.map (some d.B)) (Z9 y.1) (Z9 j) (by kernel_rfl) (by kernel_rfl) (by kernel_rfl) hp) ?_;apply wpList_nil;clear hp;clear iq HL2 HA1 HA2 HP HG HI;go_wp2_with fail;exact end_none rfl rfl ⟨rfl,HY.out⟩
section
variable {ρ : Operand -> Value} {o : Oper} {x y : Operand}
theorem xu (ho:o.op=.binOp .gtr 3 x y 3)(a b:Int)(hx:ρ x=.int .i64 a)(hy:ρ y=.int .i64 b)(w:World):(execOp ρ o).run Tryz.prog w=.ok (.value (.bool (decide (b<a)))) w:=by
 unfold execOp;simp only[ho,hx,hy];go_simp
theorem kZ (ho:o.op=.binOp .sub 3 x y 3)(a b:Nat)(ha:a<=1000000)(hb:b<=a)(hx:ρ x=.int .i64 a)(hy:ρ y=.int .i64 b)(w:World):(execOp ρ o).run Tryz.prog w=.ok (.value (.int .i64 (a-b:Nat))) w:=by
 unfold execOp;simp only[ho,hx,hy];simp[go_sem];rw[IntKind.wrap_i64];omega
theorem kY (ho:o.op=.binOp .quo 3 x y 3)(a:Nat)(ha:a<=1000000)(hx:ρ x=.int .i64 a)(hy:ρ y=.int .i64 2)(w:World):(execOp ρ o).run Tryz.prog w=.ok (.value (.int .i64 (a / 2:Nat))) w:=by
 unfold execOp;simp only[ho,hx,hy];simp[go_sem];rw[IntKind.wrap_i64];omega
theorem kX (ho:o.op=.unOp .not 4 x)(b:Bool)(hx:ρ x=.bool b)(w:World):(execOp ρ o).run Tryz.prog w=.ok (.value (.bool (!b))) w:=by
 unfold execOp;simp only[ho,hx];go_simp
end
structure Hm (Bd g:Nat)(d:Hd)(w:World)(T:List It)(V:World):Prop where
 pm:T.Perm d.A
 ex:∃ f,Gh Bd g d w { d with A:=T } f V/\Px T f
section
variable {Bd g : Nat} {d : Hd} {w V V2 : World} {T : List It}
theorem Hm.len (h:Hm Bd g d w T V):T.length=d.A.length:=h.pm.length_eq
theorem Hm.inj (h:Hm Bd g d w T V)(hn:(d.A.map (·.1)).Nodup):dS T:=uN ((h.pm.map (·.1)).nodup_iff.2 hn)
theorem Hm.gd (h:Hm Bd g d w T V)(hw:Bd<=w.heap.size)(hg:Gd V V2):Hm Bd g d w T V2:=by
 obtain⟨pm,f,hG,hp⟩:=h;exact⟨pm,f,hG.trans (Gh.below hG.mem hg.1 (hG.size hw)),hp⟩
theorem Hm.drew (h:Hm Bd g d w T V):Hm Bd g d w T { V with drawn:=V.drawn+1 }:=by
 obtain⟨pm,f,hG,hp⟩:=h;exact⟨pm,f,hG.drew,hp⟩
theorem Hm.sU (h:Hm Bd g d w T V){b:Nat}(hb:d.ka=some ⟨b,0,none⟩):(Instr.loadAt 96 (.pointer (some ⟨g,0,none⟩))).run Tryz.prog V=.ok (.slice (some ⟨b,0,none⟩) T.length d.kc) V:=by
 obtain⟨pm,f,hG,hp⟩:=h;exact hG.mem.sU hb
theorem Hm.item (h:Hm Bd g d w T V){b:Nat}(hb:d.ka=some ⟨b,0,none⟩){i:Nat}(hi:i<T.length):(Instr.loadAt 99 (.pointer (some ⟨b,i*3,none⟩))).run Tryz.prog V=.ok (.agg (YS (ita T i))) V:=by
 obtain⟨pm,f,hG,hp⟩:=h;exact hG.mem.item hb hi
theorem Hm.bG (h:Hm Bd g d w T V)(hB:∀ k,Sh g d k->Bd<=k)(hw:Bd<=w.heap.size)(hn:(d.A.map (·.1)).Nodup){i j:Nat}(hi:i<T.length)(hj:j<T.length) :
  Calls Tryz.prog 93 #[.pointer (some ⟨g,0,none⟩),.int .i64 i,.int .i64 j] V fun e w'=>e=.returned (.tuple #[])/\Hm Bd g d w (Uf T i j) w':=by
 have hI:=h.inj hn;obtain⟨pm,f,hG,hp⟩:=h;exact(bF (Bd:=Bd) hG.mem (hG.base hB hw) (hG.size hw) hi hj).mono fun e w' q=>⟨q.1,(AL T i j hi hj).trans pm,_,hG.trans q.2,hp.sw hI hi hj⟩
theorem Hm.start {f:Int->Option Int}(h:Mh w g d f)(hp:Px d.A f):Hm Bd g d w d.A w:=⟨List.Perm.refl _,f,Gh.refl h,hp⟩
end
theorem DV {A:List It}{i i0:Nat}(h:Gen A i)(h2:i=i0∨∀ c,0<c->c<A.length->(c-1) / 2=i->okA A c)(h3:0<i->okA A i)(h4:i0<A.length):qw A i0:=by
 rcases h2 with rfl | h2
 ·exact⟨h,h3⟩
 ·exact(uQ ⟨h,h2⟩ h3).dn i0 h4
def UpR (Bd g:Nat)(d:Hd)(w:World)(i0:Nat)(gg:Nat)(s1:Value)(V:World):Prop:=
 ∃ (i:Nat) (T:List It),s1=.int .i64 i/\i=gg/\Hm Bd g d w T V/\i<T.length/\Gen T i/\(i=i0∨∀ c,0<c->c<T.length->(c-1) / 2=i->okA T c)
def bD (Bd g:Nat)(d:Hd)(w:World)(i0:Nat)(e:Ending)(V:World):Prop:=e=.returned (.tuple #[])/\∃ T,Hm Bd g d w T V/\qw T i0
theorem bH {Bd g:Nat}{d:Hd}{f:Int->Option Int}{w:World}(h:Mh w g d f)(hp:Px d.A f)(hB:∀ k,Sh g d k->Bd<=k)(hw:Bd<=w.heap.size)(hn:(d.A.map (·.1)).Nodup)(hl:d.A.length<=100000){i0:Nat}(hi:i0<d.A.length)(hG:Gen d.A i0) :
  Calls Tryz.prog 87 #[.pointer (some ⟨g,0,none⟩),.int .i64 i0] w (bD Bd g d w i0):=by
 obtain⟨b,hb⟩:=h.addr (by omega);have HS:Hid (UpR Bd g d w i0 i0 (.int .i64 i0) w):=Z8 ⟨i0,d.A,rfl,rfl,Hm.start h hp,hi,hG,.inl rfl⟩;have HB:=Z8 (fun(T:List It) (V:World) (h:Hm Bd g d w T V) (i j:Nat) (hi:i<T.length) (hj:j<T.length)=>h.bG hB hw hn hi hj);have kW:=Z8 (fun(T:List It) (V:World) (h:Hm Bd g d w T V)=>h.sU hb);have HIT:=Z8 (fun(T:List It) (V:World) (h:Hm Bd g d w T V) (i:Nat) (hi:i<T.length)=>h.item hb hi);have HGD:=Z8 (fun(T:List It) (V V2:World) (h:Hm Bd g d w T V) (hg:Gd V V2)=>h.gd hw hg);have bn:Hid (i0<d.A.length/\d.A.length<=100000):=Z8 ⟨hi,hl⟩;clear h hp hB hw hn hl hi hG hb;go_enter Tryz.func87,Tryz.ntmps87;go_wp2_with fail;go_loopg [1] i0 (fun gg s1 wx=>UpR Bd g d w i0 gg s1 wx)
 case atStart=>exact HS.out
 case round=>
  obtain⟨i,T,rfl,hgi,hm,hiT,hG,hE⟩:=hrel;obtain⟨n,hn⟩:=ZR T.length;have hn1:n=d.A.length:=by rw[<- hn]; exact hm.len
  have hil:i<=100000:=by have:=bn.out.2; omega
  by_cases h0:0<i
  ·have HD:Hid (decide ((0:Int)<(i:Int))=true):=Z8 dT;obtain⟨p,hpp⟩:∃ p,p=(i-1) / 2:=⟨_,rfl⟩;have hpn:p<n:=(by omega);have hin:i<n:=(by omega);have pR:=Z8 hpp;have HN:=Z8 hn;have iF:=Z8 hn1;have WG:=Z8 hG;have HE:=Z8 hE;have HGI:=Z8 hgi;have IU:=Z8 (fun V h=>by have:=kW.out T V h; rw[HN.out] at this; exact this);clear hpp hn hn1 hG hE hgi hiT;go_upto_region 0 with fail;refine wl<|ZN (.int .i64 i)<|YT (.bool true) (by rw[<- HD.out]; exact xu rfl i 0 (by kernel_rfl) (by kernel_rfl) _)<|wn ?_;simp only[pu];go_upto_region 1 with fail;refine wl<|ZN (.int .i64 i)<|Yb (.int .i64 (i-1:Nat)) (kZ rfl i 1 (by omega) (by omega))<|YT (.int .i64 p) (by rw[pR.out]; exact kY rfl (i-1) (by omega) (by kernel_rfl) (by kernel_rfl) _)<|ZN (.int .i64 p)<|wn ?_;simp only[pu];go_upto_region 2 with fail;have HI1:=Z8 (fun V h=>HIT.out T V h i (by rw[HN.out]; exact hin));have HI2:=Z8 (fun V h=>HIT.out T V h p (by rw[HN.out]; exact hpn));have HBF:Hid (bf (ita T i) (ita T p)=bf (ita T i) (ita T p)):=Z8 rfl;obtain⟨x,hx⟩:=ZR (ita T i);obtain⟨y,hy⟩:=ZR (ita T p);rw[hx] at HI1;rw[hy] at HI2;have HX:=Z8 hx;have HY:=Z8 hy;clear hx hy HBF;obtain⟨r,hr⟩:=ZR (bf x y);have HR:=Z8 hr;clear hr;refine ZU (C:=fun U=>Hm Bd g d w T U) (by kernel_rfl) (by kernel_rfl) (hm.drew) ?_;refine gy (.pointer (some ⟨g,0,none⟩))<|gy (.pointer (some ⟨g,0,none⟩))<|gy (.pointer (some ⟨g,0,none⟩))<|Zj rfl ⟨g,0,none⟩ (.slice (some ⟨b,0,none⟩) n d.kc) (fun U hU=>IU.out U hU)<|gy (.int .i64 i) <|
     Yz (.pointer (some ⟨b,i*3,none⟩)) (fun U hU=>Wj b n d.kc i hin _ _ _ rfl (by kernel_rfl) (by kernel_rfl))<|Zj rfl ⟨b,i*3,none⟩ (.agg (YS x)) (fun U hU=>HI1.out U hU)<|gy (.pointer (some ⟨g,0,none⟩))<|gy (.pointer (some ⟨g,0,none⟩)) <|
     gy (.pointer (some ⟨g,0,none⟩))<|Zj rfl ⟨g,0,none⟩ (.slice (some ⟨b,0,none⟩) n d.kc) (fun U hU=>IU.out U hU)<|gy (.int .i64 p)<|Yz (.pointer (some ⟨b,p*3,none⟩)) (fun U hU=>Wj b n d.kc p hpn _ _ _ rfl (by kernel_rfl) (by kernel_rfl)) <|
     Zj rfl ⟨b,p*3,none⟩ (.agg (YS y)) (fun U hU=>HI2.out U hU) ?_
   refine Zz (by kernel_rfl) (some 24) rfl 111 #[.agg (YS x),.agg (YS y)] (.bool r) (fun U hU=>by kernel_rfl) (fun U hU=>(GY x y U).mono fun e w2 q=>⟨by rw[q.1,HR.out],HGD.out T U w2 hU q.2⟩) ?_;refine Yz (.bool (!r)) (fun U hU=>kX rfl r (by kernel_rfl) _) ?_;simp only[pu];apply wpQuiet_nil;intro V hV;clear hm HI1 HI2 IU;cases r with
   | true=>
    have HH:=Z8 (AB WG.out h0 (by rw[HN.out]; exact hin) (by rw[HX.out,<- pR.out,HY.out]; exact HR.out));have RJ:=Z8 (HB.out T V hV i p (by rw[HN.out]; exact hin) (by rw[HN.out]; exact hpn));clear hV HR HX HY WG HE kW HIT;go_upto_region 3 with fail;refine wl<|YU (.pointer (some ⟨g,0,none⟩)) (.int .i64 i) (.int .i64 p)<|Yd (.tuple #[]) (fun w9=>Hm Bd g d w (Uf T i p) w9) RJ.out (fun V2 hV2=>?_);simp only[pu];apply wpList_nil;go_upto_region 4 with fail;refine wl<|ZA (.int .i64 p) (.int .i64 p)<|wn ?_;simp only[pu];go_wp2_with fail;go_roundg p
    case measure=>have:=pR.out; have:=HGI.out; omega
    case rel=>exact⟨p,Uf T i p,rfl,rfl,hV2,by rw[Xd,HN.out]; exact hpn,by rw[pR.out]; exact HH.out.1,.inr (by rw[pR.out]; exact HH.out.2)⟩
   | false=>
    have HO:Hid (bD Bd g d w i0 (.returned (.tuple #[])) V):=Z8 ⟨rfl,T,hV,DV WG.out HE.out (fun _=>by unfold okA; rw[<- pR.out,HX.out,HY.out]; exact HR.out) (by rw[HN.out,iF.out]; exact bn.out.1)⟩;clear hV HR HX HY WG HE kW HIT HB;go_wp2_with fail;exact end_none rfl rfl HO.out
  ·have HD:Hid (decide ((0:Int)<(i:Int))=false):=Z8 dF;have HO:Hid (bD Bd g d w i0 (.returned (.tuple #[])) wr):=Z8 ⟨rfl,T,hm,DV hG hE (fun h=>absurd h h0) (by have:=bn.out.1; omega)⟩;clear hm hG hE hgi hn hn1 hiT;go_upto_region 0 with fail;refine wl<|ZN (.int .i64 i)<|YT (.bool false) (by rw[<- HD.out]; exact xu rfl i 0 (by kernel_rfl) (by kernel_rfl) _)<|wn ?_;simp only[pu];go_wp2_with fail;exact end_none rfl rfl HO.out
structure InR (T:List It)(i n:Nat)(c fi:Nat):Prop where
 lo:2*i+1<=c
 hi:c<=2*i+3
 fn:fi<n
 fc:fi=i∨(0<fi/\(fi-1) / 2=i/\bf (ita T fi) (ita T i)=true)
 fm:∀ s,2*i+1<=s->s<c->s<n->bf (ita T s) (ita T fi)=false
structure Ce (Bd g:Nat)(d:Hd)(f:Int->Option Int)(w:World):Prop where
 mem:Mh w g d f
 px:Px d.A f
 ho:HO d.A
 hB:∀ k,Sh g d k->Bd<=k
 hw:Bd<=w.heap.size
 ids:(d.A.map (·.1)).Nodup
 len:d.A.length<=90000
def tq (Bd g:Nat)(d:Hd)(w:World)(M:List It)(V:World):Prop:=∃ d' f',Gh Bd g d w d' f' V/\Px d'.A f'/\HO d'.A/\d'.A.Perm M
theorem Uy (w:World):Calls Tryz.prog 55 #[] w fun e w'=>∃ g d,e=.returned (Z7 g 0)/\Mh w' g d (fun _=>none)/\d.A=[]/\(∀ k,Sh g d k->w.heap.size<=k)/\Below w.heap.size w w':=by
 have hW1:Below w.heap.size w (w.alloc (.map #[] 0)):=(Below.refl _ w).alloc (Nat.le_refl _) _;have hM1:=Mf.new w;have hz1:(w.alloc (.map #[] 0)).heap.size=w.heap.size+1:=by simp
 have hb2:Below (w.alloc (.map #[] 0)).heap.size (w.alloc (.map #[] 0)) ((w.alloc (.map #[] 0)).alloc (.cells #[.slice none 0 0,.map (some w.heap.size)] 128)):=(Below.refl _ _).alloc (Nat.le_refl _) _;have hX2:Bx ((w.alloc (.map #[] 0)).alloc (.cells #[.slice none 0 0,.map (some w.heap.size)] 128)) (w.alloc (.map #[] 0)).heap.size #[.slice none 0 0,.map (some w.heap.size)] 128:=heap_alloc_last _ _;have hM2:=hM1.same (hb2.block _ hM1.lt);have HE:Hid (Mh ((w.alloc (.map #[] 0)).alloc (.cells #[.slice none 0 0,.map (some w.heap.size)] 128)) (w.alloc (.map #[] 0)).heap.size ⟨w.heap.size,none,0,[]⟩ (fun _=>none)/\(∀ k,Sh (w.alloc (.map #[] 0)).heap.size ⟨w.heap.size,none,0,[]⟩ k->w.heap.size<=k)):=Z8 ⟨⟨hX2,hM2,⟨rfl,.inl ⟨rfl,rfl⟩⟩,fun i j k hi hj=>by
   rw[hz1] at hi hj;match i,j,hi,hj with
   | 0,0,_,_=>rfl
   | 1,1,_,_=>rfl
   | 0,1,h1,h2=>
    have h1:k=w.heap.size+1:=h1;have h2:k=w.heap.size:=h2;omega
   | 1,0,h1,h2=>
    have h1:k=w.heap.size:=h1;have h2:k=w.heap.size+1:=h2;omega
   | 2,_,⟨x,hx,_⟩,_=>cases hx
   | 0,2,_,⟨x,hx,_⟩=>cases hx
   | 1,2,_,⟨x,hx,_⟩=>cases hx
   | _+3,_,h1,_=>exact h1.elim
   | 0,_+3,_,h2=>exact h2.elim
   | 1,_+3,_,h2=>exact h2.elim⟩,fun k hk=>by
   rw[hz1] at hk;obtain⟨i,hi⟩:=hk;match i,hi with
   | 0,h1=>
    have h1:k=w.heap.size+1:=h1;omega
   | 1,h1=>
    have h1:k=w.heap.size:=h1;omega
   | 2,⟨x,hx,_⟩=>cases hx
   | _+3,h1=>exact h1.elim⟩
 have HB:=Z8 (hW1.trans (hb2.mono hW1.size));clear hW1 hM1 hb2 hX2 hM2;go_enter Tryz.func55,Tryz.ntmps55;go_upto_region 1 with fail;apply wp_region_lit;refine VR (by kernel_rfl) (some 1) rfl (.map (some w.heap.size)) (w.alloc (.map #[] 0)) (Vw 126 rfl) ?_;refine ZN (.agg #[.slice none 0 0,.map (some w.heap.size)]) ?_;refine VR (by kernel_rfl) (some 3) rfl (Z7 ((w.alloc (.map #[] 0)).heap.size) 0) ((w.alloc (.map #[] 0)).alloc (.cells #[.slice none 0 0,.map (some w.heap.size)] 128)) (by kernel_rfl) ?_;refine ZN (Z7 ((w.alloc (.map #[] 0)).heap.size) 0)<|wn ?_;simp only[pu];clear hz1;generalize (w.alloc (.map #[] 0)).alloc (.cells #[.slice none 0 0,.map (some w.heap.size)] 128)=V at *
 generalize (w.alloc (.map #[] 0)).heap.size=g at *
 go_wp2_with fail;go_ret;exact⟨g,_,rfl,HE.out.1,rfl,HE.out.2,HB.out⟩
theorem Ce.none {Bd g:Nat}{d:Hd}{f:Int->Option Int}{w:World}(I:Ce Bd g d f w){k:Int}{M:List It}(hp:d.A.Perm M)(h:f k=none):XV k M=false:=by rw[<- QB hp]; exact I.px.no.1 h
theorem Ce.some {Bd g:Nat}{d:Hd}{f:Int->Option Int}{w:World}(I:Ce Bd g d f w){k n:Int}(h:f k=some n):∃ i:Nat,n=i/\i<d.A.length/\(ita d.A i).1=k:=(I.px k n).1 h
theorem Ce.ou {Bd g:Nat}{d:Hd}{f:Int->Option Int}{w V:World}(I:Ce Bd g d f w){M:List It}(hp:d.A.Perm M)(hb:Below w.heap.size w V):tq Bd g d w M V:=⟨d,f,Gh.below I.mem hb I.hw,I.px,I.ho,hp⟩
theorem DX {Bd g q:Nat}{d:Hd}{f:Int->Option Int}{V:World}(h:Mh V g d f)(hB:∀ k,Sh g d k->Bd<=k)(hw:Bd<=V.heap.size){x:It}(hq:Cs V (some ⟨q,0,none⟩) (itc [x]))(hl:d.A.length<=100000):∃ u V2,
  (Builtin.append_ #[96,96] 96 #[.slice d.ka d.A.length d.kc,.slice (some ⟨q,0,none⟩) 1 1]).run Tryz.prog V=.ok u V2/\∃ V3,
  (Instr.storeAt 96 (Z7 g 0) u).run Tryz.prog V2=.ok () V3/\∃ a c,Gh Bd g d V { d with ka:=a,kc:=c,A:=d.A++[x] } f V3:=by
 obtain⟨u,V2,hap,hO,hg,ha⟩:=Nz (P:=Tryz.prog) (t:=96) Tryz.underlying96 D7 (by kernel_rfl) (by omega) (by omega) h.rk q (itc [x]) hq rfl (Nv _) (Nat.zero_le _) hl;rw[<- zl] at hO;have hgB:=(Gh.grown h hB hw (Below.refl _ _) 2 (fun k e=>Ql e) hg).2 0 g (by omega) rfl;obtain⟨a,c,rfl,hG⟩:=Gh.push h hB hw (Below.refl _ _) hO hg ha;exact⟨_,V2,hap,_,Zh (i:=0) (ty:=96) (hgB.trans h.bx:Bx V2 g (zk d) 128) (by simp[zk]) rfl (by kernel_rfl),a,c,hG⟩
structure PW (x:It)(C D:World->Prop)(St:Value->World->Prop)(b4 b5 b6 b7 b10:Bool)(x32 x33:Value)(V:World):Prop where
 c0:b7=false->C V
 c1:b6=true->b7=false->∃ q,x32=.slice (some ⟨q,0,none⟩) 1 1/\Cs V (some ⟨q,0,none⟩) (itc [x])
 c2:b7=true->b10=false->St x33 V
 c3:b10=true->D V
 d1:b7=true->b4=true/\b6=true
 d2:b10=true->b7=true
 d3:b6=true->b5=true
section
variable {x : It} {C D : World -> Prop} {St : Value -> World -> Prop} {b4 b5 b6 b7 b10 : Bool} {x32 x33 u : Value} {V V2 : World}
theorem PW.start (h:C V):PW x C D St false false false false false undef undef V:=⟨fun _=>h,fun h=>(by cases h),fun h=>(by cases h),fun h=>(by cases h),fun h=>(by cases h),fun h=>(by cases h),fun h=>(by cases h)⟩
theorem PW.n7a (h:PW x C D St false b5 b6 b7 b10 x32 x33 V):b7=false:=by cases b7; rfl; exact absurd (h.d1 rfl).1 (by decide)
theorem PW.n7b (h:PW x C D St b4 b5 false b7 b10 x32 x33 V):b7=false:=by cases b7; rfl; exact absurd (h.d1 rfl).2 (by decide)
theorem PW.n6 (h:PW x C D St b4 false b6 b7 b10 x32 x33 V):b6=false:=by cases b6; rfl; exact absurd (h.d3 rfl) (by decide)
theorem PW.n10 (h:PW x C D St b4 b5 b6 false b10 x32 x33 V):b10=false:=by cases b10; rfl; exact absurd (h.d2 rfl) (by decide)
theorem PW.m4 (h:PW x C D St b4 b5 b6 b7 b10 x32 x33 V):PW x C D St true b5 b6 b7 b10 x32 x33 V:=⟨h.c0,h.c1,h.c2,h.c3,fun k=>⟨rfl,(h.d1 k).2⟩,h.d2,h.d3⟩
theorem PW.m5 (h:PW x C D St b4 b5 b6 b7 b10 x32 x33 V):PW x C D St b4 true b6 b7 b10 x32 x33 V:=⟨h.c0,h.c1,h.c2,h.c3,h.d1,h.d2,fun _=>rfl⟩
theorem PW.m6 (h:PW x C D St b4 true false false false x32 x33 V){q:Nat}(hC:C V2)(hq:Cs V2 (some ⟨q,0,none⟩) (itc [x])):PW x C D St b4 true true false false (.slice (some ⟨q,0,none⟩) 1 1) x33 V2:=
 ⟨fun _=>hC,fun _ _=>⟨q,rfl,hq⟩,fun h=>(by cases h),fun h=>(by cases h),fun h=>(by cases h),fun h=>(by cases h),fun _=>rfl⟩
theorem PW.m7 (h:PW x C D St true b5 true false false x32 x33 V)(hS:St u V2):PW x C D St true b5 true true false x32 u V2:=
 ⟨fun h=>(by cases h),fun _ h=>(by cases h),fun _ _=>hS,fun h=>(by cases h),fun _=>⟨rfl,rfl⟩,fun h=>(by cases h),h.d3⟩
theorem PW.m10 (h:PW x C D St b4 b5 b6 true b10 x32 x33 V)(hD:D V2):PW x C D St b4 b5 b6 true true x32 x33 V2:=
 ⟨fun h=>(by cases h),fun _ h=>(by cases h),fun _ h=>(by cases h),fun _=>hD,h.d1,fun _=>rfl,h.d3⟩
end
theorem zi {Bd g:Nat}{d:Hd}{f:Int->Option Int}{w:World}(I:Ce Bd g d f w)(x:It){M:List It}(hp:d.A.Perm M){n:Int}(hf:f x.1=some n):Calls Tryz.prog 60 #[Z7 g 0,.agg (YS x)] w fun e w'=>e=.returned (.bool (Xx M x).2)/\tq Bd g d w (Xx M x).1 w':=by
 have hh:XV x.1 M=true:=by
  obtain⟨i,-,hi,hk⟩:=I.some hf;exact Uh.2 ⟨_,hp.mem_iff.1 (NJ hi),hk⟩
 have e1:Xx M x=(M,false):=by unfold Xx; rw[hh]; rfl
 rw[e1];have HO:=Z8 (fun V (hV:Below w.heap.size w V)=>I.ou hp hV);obtain⟨hb,hX⟩:=(⟨Gd.alloc w _,heap_alloc_last w _⟩:Gd w (w.alloc (.cells (YS x) 99))/\Bx (w.alloc (.cells (YS x) 99)) w.heap.size (YS x) 99);have IU:=Z8 (fun U (hU:Below w.heap.size w U)=>(I.mem.below hU).ld1);have HM:=Z8 (fun U (hU:Below w.heap.size w U)=>(by
  have:=(I.mem.below hU).mp.look x.1 true;rw[hf] at this;exact this:(Instr.lookup 126 (.map (some d.B)) (Z9 x.1) true).run Tryz.prog U=.ok (.tuple #[Z9 n,ZT]) U))
 clear I hp hf hh e1;go_enter Tryz.func60,Tryz.ntmps60;go_upto_region 1 with fail;change Code.wp _ _ _ _ (w.alloc (.cells (YS x) 99));generalize w.alloc (.cells (YS x) 99)=W at *
 obtain⟨g0,hg0⟩:=ZR w.heap.size;rw[hg0] at hX;have HG0:=Z8 hg0;have HB0:=Z8 hb.1;clear hb;simp only[hg0];clear hg0;refine wl<|ZA (Z7 g 0) ZW<|wn ?_;simp only[pu];go_upto_region 3 with fail;refine ZU (C:=fun U=>Below w.heap.size w U/\Bx U g0 (YS x) 99) (by kernel_rfl) (by kernel_rfl) (⟨HB0.out.drew,hX⟩) ?_;refine gy (Z7 g 0)<|gy (Z7 g 0)<|gy (Z7 g 1)<|Zj rfl ⟨g,1,none⟩ (.map (some d.B)) (fun U hU=>IU.out U hU.1)<|gy (Z7 g0 0)<|Zj rfl ⟨g0,0,none⟩ (Z9 x.1) (fun U hU=>La hU.2) <|
   Yz (.tuple #[Z9 n,ZT]) (fun U hU=>Yy 126 (.tmp 14) (.tmp 16) true rfl (.map (some d.B)) (Z9 x.1) _ (by kernel_rfl) (by kernel_rfl) (HM.out U hU.1))<|gy (.tuple #[Z9 n,ZT])<|gy (Z9 n)<|gy ZT<|gy (Z9 n) <|
   gy ZT ?_
 simp only[pu];apply wpQuiet_nil;intro V hV;have HV:=Z8 hV;clear hV HM IU hX;go_upto_region 4 with fail;refine wl<|ZN ZT<|wn ?_;simp only[pu];go_upto_region 5 with fail;refine wl<|ZN ZW<|wn ?_;simp only[pu];have HE:=Z8 (HO.out V HV.out.1);clear HO HV;go_wp2_with fail;go_ret;exact⟨rfl,HE.out⟩
theorem zh {Bd g:Nat}{d:Hd}{f:Int->Option Int}{w:World}(I:Ce Bd g d f w)(x:It){M:List It}(hp:d.A.Perm M)(hf:f x.1=none)(hln:d.A.length+1<=90000):Calls Tryz.prog 60 #[Z7 g 0,.agg (YS x)] w fun e w'=>e=.returned (.bool (Xx M x).2)/\tq Bd g d w (Xx M x).1 w':=by
 have hh:XV x.1 M=false:=I.none hp hf;have bP:XV x.1 d.A=false:=by rw[QB hp]; exact hh
 rw[show(Xx M x).2=true by rw[Aw,hh]; rfl];have hPM:(d.A++[x]).Perm (Xx M x).1:=(List.perm_append_comm (l₁:=d.A) (l₂:=[x])).trans ((List.Perm.cons x hp).trans (QJ hh).symm);generalize (Xx M x).1=M2 at *
 have hpx:=I.px.app bP;have hgen:=AA I.ho x;have hnd:((d.A++[x]).map (·.1)).Nodup:=by
  rw[List.map_append,List.nodup_append];refine⟨I.ids,by simp,fun a ha b hb e=>?_⟩;obtain⟨y,hy,rfl⟩:=List.mem_map.1 ha;simp only[List.map_cons,List.map_nil,List.mem_singleton] at hb;exact VG.1 bP y hy (e.trans hb)
 have hlA:(d.A++[x]).length=d.A.length+1:=by simp
 obtain⟨hb,hX⟩:=(⟨Gd.alloc w _,heap_alloc_last w _⟩:Gd w (w.alloc (.cells (YS x) 99))/\Bx (w.alloc (.cells (YS x) 99)) w.heap.size (YS x) 99);have IU:=Z8 (fun U (hU:Below w.heap.size w U)=>(I.mem.below hU).ld1);have HM:=Z8 (fun U (hU:Below w.heap.size w U)=>(by
  have:=(I.mem.below hU).mp.look x.1 true;rw[hf] at this;exact this:(Instr.lookup 126 (.map (some d.B)) (Z9 x.1) true).run Tryz.prog U=.ok (.tuple #[Z9 0,ZW]) U))
 have bM:=Z8 (fun U (hU:Below w.heap.size w U)=>(Gh.below I.mem hU I.hw:Gh Bd g d w d f U));have HNI:=Z8 (Gh.lu I.mem (Nat.le_refl _));have bK:=Z8 I.hB;have pU:=Z8 I.hw;obtain⟨n,hn⟩:=ZR d.A.length;have HN:=Z8 hn;rw[hn] at hpx hgen hlA hln;have HPX:=Z8 hpx;have WG:=Z8 hgen;have HND:=Z8 hnd;have iy:=Z8 hlA;have HPM:=Z8 hPM;clear I hp hf hh bP hPM hpx hgen hnd hlA hn;go_enter Tryz.func60,Tryz.ntmps60;go_upto_region 1 with fail;change Code.wp _ _ _ _ (w.alloc (.cells (YS x) 99));generalize w.alloc (.cells (YS x) 99)=W at *
 obtain⟨g0,hg0⟩:=ZR w.heap.size;rw[hg0] at hX;have HG0:=Z8 hg0;have HB0:=Z8 hb.1;clear hb;simp only[hg0];clear hg0;refine wl<|ZA (Z7 g 0) ZW<|wn ?_;simp only[pu];go_upto_region 3 with fail;refine ZU (C:=fun U=>Below w.heap.size w U/\Bx U g0 (YS x) 99) (by kernel_rfl) (by kernel_rfl) (⟨HB0.out.drew,hX⟩) ?_;refine gy (Z7 g 0)<|gy (Z7 g 0)<|gy (Z7 g 1)<|Zj rfl ⟨g,1,none⟩ (.map (some d.B)) (fun U hU=>IU.out U hU.1)<|gy (Z7 g0 0)<|Zj rfl ⟨g0,0,none⟩ (Z9 x.1) (fun U hU=>La hU.2) <|
   Yz (.tuple #[Z9 0,ZW]) (fun U hU=>Yy 126 (.tmp 14) (.tmp 16) true rfl (.map (some d.B)) (Z9 x.1) _ (by kernel_rfl) (by kernel_rfl) (HM.out U hU.1))<|gy (.tuple #[Z9 0,ZW])<|gy (Z9 0)<|gy ZW<|gy (Z9 0) <|
   gy ZW ?_
 simp only[pu];apply wpQuiet_nil;intro V hV;have HV:=Z8 hV;clear hV HM IU hX;go_upto_region 4 with fail;refine wl<|ZN ZW<|wn ?_;simp only[pu];have xH:=Z8 (by
  have:=(bM.out V HV.out.1).mem.iC;rw[HN.out] at this;exact this:(Instr.loadAt 96 (Z7 g 0)).run Tryz.prog V=.ok (.slice d.ka n d.kc) V)
 go_upto_region 6 with fail;refine wl<|YU (Z7 g 0) (Z7 g 0) (Z7 g 0)<|Zq rfl ⟨g,0,none⟩ (.slice d.ka n d.kc) (xH.out)<|ZA (Z9 n) (Z9 n)<|wn ?_;simp only[pu];have hC0:(fun U=>Gh Bd g d w d f U/\Bx U g0 (YS x) 99) V:=⟨bM.out V HV.out.1,HV.out.2⟩;have bJ:Hid (¬ Sh g d g0):=Z8 (HG0.out ▸ HNI.out);have HL0:=Z8 (fun U (hU:(fun U=>Gh Bd g d w d f U/\Bx U g0 (YS x) 99) U)=>(by
  have:=hU.1.mem.iC;rw[HN.out] at this;exact this:(Instr.loadAt 96 (Z7 g 0)).run Tryz.prog U=.ok (.slice d.ka n d.kc) U))
 have HCA:=Z8 (fun U (hU:(fun U=>Gh Bd g d w d f U/\Bx U g0 (YS x) 99) U)=>(⟨hU.1.trans (Gh.below hU.1.mem ((Below.refl _ U).alloc (Nat.le_refl _) _) (hU.1.size pU.out)),hU.2.below hU.2.lt ((Below.refl _ U).alloc (Nat.le_refl _) _)⟩:(fun U=>Gh Bd g d w d f U/\Bx U g0 (YS x) 99) (U.alloc (.cells (YS x) 99))));have HAP:=Z8 (fun U (hU:(fun U=>Gh Bd g d w d f U/\Bx U g0 (YS x) 99) U) q (hq:Cs U (some ⟨q,0,none⟩) (itc [x]))=>(by
  obtain⟨u,U2,hap,U3,hst,a,c,hG⟩:=DX hU.1.mem (hU.1.base bK.out pU.out) (hU.1.size pU.out) hq (by rw[HN.out]; omega);rw[HN.out] at hap;exact⟨u,U2,hap,U3,hst,⟨a,c,hU.1.trans hG⟩,Bx.VQ hU.2 hG.but bJ.out⟩:∃ u U2,(Builtin.append_ #[96,96] 96 #[.slice d.ka n d.kc,.slice (some ⟨q,0,none⟩) 1 1]).run Tryz.prog U=.ok u U2/\(fun u U=>∃ U3,(Instr.storeAt 96 (Z7 g 0) u).run Tryz.prog U=.ok () U3/\(fun U=>(∃ a c,Gh Bd g d w { d with ka:=a,kc:=c,A:=d.A++[x] } f U)/\Bx U g0 (YS x) 99) U3) u U2))
 clear HV bM xH HNI;go_upto_region 7 with fail;have h0:PW x (fun U=>Gh Bd g d w d f U/\Bx U g0 (YS x) 99) (fun U=>(∃ a c,Gh Bd g d w { d with ka:=a,kc:=c,A:=d.A++[x] } f U)/\Bx U g0 (YS x) 99) (fun u U=>∃ U3,(Instr.storeAt 96 (Z7 g 0) u).run Tryz.prog U=.ok () U3/\(fun U=>(∃ a c,Gh Bd g d w { d with ka:=a,kc:=c,A:=d.A++[x] } f U)/\Bx U g0 (YS x) 99) U3) false false false false false undef undef V.drew:=PW.start ⟨hC0.1.drew,hC0.2⟩;clear hC0;refine ZI (fun listed Zr V=>∃ b0 b1 b2 b3 b4 b5 b6 b7 b8 b9 b10:Bool,∃ x32 x33:Value,listed=#[b0,b1,b2,b3,b4,b5,b6,b7,b8,b9,b10]/\Zr={ tmps:=#[Z7 g 0,.agg (YS x),undef,Z7 g0 0,ZW,Z9 0,ZW,Z9 n,Z7 g 0,ZW,.tuple #[Z9 0,ZW],Z7 g 0,Z7 g 0,Z7 g 1,.map (some d.B),Z7 g0 0,Z9 x.1,.tuple #[Z9 0,ZW],Z9 0,ZW,ZW,Z7 g 0,Z7 g 0,Z7 g 0,.slice d.ka n d.kc,Z9 n,(cond b0 (Z7 g 0) undef),(cond b1 (Z7 g 0) undef),(cond b2 (Z7 g 0) undef),(cond b3 (Z7 g 0) undef),(cond b4 (.slice d.ka n d.kc) undef),(cond b5 (.agg (YS x)) undef),x32,x33,(cond b8 (Z7 g 0) undef),(cond b9 (Z7 g 0) undef),undef,undef,undef,undef,undef,undef,undef,undef,undef,undef],defers:=[] }/\PW x (fun U=>Gh Bd g d w d f U/\Bx U g0 (YS x) 99) (fun U=>(∃ a c,Gh Bd g d w { d with ka:=a,kc:=c,A:=d.A++[x] } f U)/\Bx U g0 (YS x) 99) (fun u U=>∃ U3,(Instr.storeAt 96 (Z7 g 0) u).run Tryz.prog U=.ok () U3/\(fun U=>(∃ a c,Gh Bd g d w { d with ka:=a,kc:=c,A:=d.A++[x] } f U)/\Bx U g0 (YS x) 99) U3) b4 b5 b6 b7 b10 x32 x33 V) (by kernel_rfl) (by kernel_rfl) ?_ ?_ ?_
 ·exact⟨_,_,_,_,_,_,_,_,_,_,_,_,_,rfl,rfl,h0⟩
 ·intro i9 listed Zr V hi9 hr hJ;obtain⟨b0,b1,b2,b3,b4,b5,b6,b7,b8,b9,b10,x32,x33,rfl,rfl,hF⟩:=hJ;have hi2:i9<11:=hi9;have hi3:i9=0∨i9=1∨i9=2∨i9=3∨i9=4∨i9=5∨i9=6∨i9=7∨i9=8∨i9=9∨i9=10:=by omega
  rcases hi3 with rfl | rfl | rfl | rfl | rfl | rfl | rfl | rfl | rfl | rfl | rfl
  ·obtain rfl:b0=false:=Z5 hr;refine ZX rfl (by kernel_rfl) (some 26) rfl (Z7 g 0) V (by kernel_rfl) ?_;exact⟨_,_,_,_,_,_,_,_,_,_,_,_,_,rfl,rfl,hF⟩
  ·obtain rfl:b1=false:=Z5 hr;refine ZX rfl (by kernel_rfl) (some 27) rfl (Z7 g 0) V (by kernel_rfl) ?_;exact⟨_,_,_,_,_,_,_,_,_,_,_,_,_,rfl,rfl,hF⟩
  ·obtain rfl:b2=false:=Z5 hr;obtain rfl:b1=true:=Z4 hr 1;refine ZX rfl (by kernel_rfl) (some 28) rfl (Z7 g 0) V (by kernel_rfl) ?_;exact⟨_,_,_,_,_,_,_,_,_,_,_,_,_,rfl,rfl,hF⟩
  ·obtain rfl:b3=false:=Z5 hr;obtain rfl:b2=true:=Z4 hr 2;refine ZX rfl (by kernel_rfl) (some 29) rfl (Z7 g 0) V (by kernel_rfl) ?_;exact⟨_,_,_,_,_,_,_,_,_,_,_,_,_,rfl,rfl,hF⟩
  ·obtain rfl:b4=false:=Z5 hr;obtain rfl:b3=true:=Z4 hr 3;obtain rfl:b7=false:=hF.n7a;refine ZJ rfl (by kernel_rfl) (some 30) rfl 96 (.tmp 29) rfl ⟨g,0,none⟩ (.slice d.ka n d.kc) (by kernel_rfl) (HL0.out V (hF.c0 rfl)) ?_;exact⟨_,_,_,_,_,_,_,_,_,_,_,_,_,rfl,rfl,hF.m4⟩
  ·obtain rfl:b5=false:=Z5 hr;obtain rfl:b6=false:=hF.n6;obtain rfl:b7=false:=hF.n7b;refine ZJ rfl (by kernel_rfl) (some 31) rfl 99 (.tmp 3) rfl ⟨g0,0,none⟩ (.agg (YS x)) (by kernel_rfl) (Qk (hF.c0 rfl).2) ?_;exact⟨_,_,_,_,_,_,_,_,_,_,_,_,_,rfl,rfl,hF.m5⟩
  ·obtain rfl:b6=false:=Z5 hr;obtain rfl:b5=true:=Z4 hr 5;obtain rfl:b7=false:=hF.n7b;obtain rfl:b10=false:=hF.n10;have hC:=HCA.out V (hF.c0 rfl);refine Xu rfl (by kernel_rfl) (some 32) rfl 96 1 #[(0,.tmp 31)] rfl #[(0,.agg (YS x))] (by kernel_rfl) (.slice (some ⟨V.heap.size,0,none⟩) 1 1) _ (DW x V) ?_;exact⟨_,_,_,_,_,_,_,_,_,_,_,_,_,rfl,rfl,hF.m6 hC (lq x V)⟩
  ·obtain rfl:b7=false:=Z5 hr;obtain rfl:b4=true:=Z4 hr 4;obtain rfl:b6=true:=Z4 hr 6;obtain rfl:b10=false:=hF.n10;obtain⟨q,rfl,hq⟩:=hF.c1 rfl rfl;obtain⟨v,V2,hap,hst⟩:=HAP.out V (hF.c0 rfl) q hq;refine XG rfl (by kernel_rfl) (some 33) rfl 96 rfl (.tmp 30) (.tmp 32) 96 rfl (.slice d.ka n d.kc) (.slice (some ⟨q,0,none⟩) 1 1) v V2 (by kernel_rfl) (by kernel_rfl) hap ?_;exact⟨b0,b1,b2,b3,true,b5,true,true,b8,b9,false,.slice (some ⟨q,0,none⟩) 1 1,v,rfl,rfl,hF.m7 hst⟩
  ·obtain rfl:b8=false:=Z5 hr;obtain rfl:b0=true:=Z4 hr 0;refine ZX rfl (by kernel_rfl) (some 34) rfl (Z7 g 0) V (by kernel_rfl) ?_;exact⟨_,_,_,_,_,_,_,_,_,_,_,_,_,rfl,rfl,hF⟩
  ·obtain rfl:b9=false:=Z5 hr;obtain rfl:b8=true:=Z4 hr 8;refine ZX rfl (by kernel_rfl) (some 35) rfl (Z7 g 0) V (by kernel_rfl) ?_;exact⟨_,_,_,_,_,_,_,_,_,_,_,_,_,rfl,rfl,hF⟩
  ·obtain rfl:b10=false:=Z5 hr;obtain rfl:b7=true:=Z4 hr 7;obtain rfl:b9=true:=Z4 hr 9;obtain⟨V3,hst,hD⟩:=hF.c2 rfl rfl;refine Zb rfl (by kernel_rfl) rfl 96 (.tmp 35) (.tmp 33) rfl (Z7 g 0) x33 (by kernel_rfl) (by kernel_rfl) V3 hst ?_;exact⟨_,_,_,_,_,_,_,_,_,_,_,_,_,rfl,rfl,hF.m10 hD⟩
 ·intro Zr V hJ;obtain⟨b0,b1,b2,b3,b4,b5,b6,b7,b8,b9,b10,x32,x33,he,rfl,hF⟩:=hJ;have he:(#[true,true,true,true,true,true,true,true,true,true,true]:Array Bool)=#[b0,b1,b2,b3,b4,b5,b6,b7,b8,b9,b10]:=he;simp only[Array.mk.injEq,List.cons.injEq,and_true] at he;obtain⟨rfl,rfl,rfl,rfl,rfl,rfl,rfl,rfl,rfl,rfl,rfl⟩:=he;simp only[cond_true];have HD:=Z8 (hF.c3 rfl);obtain⟨V7,eV⟩:=ZR V;rw[eV] at HD ⊢;clear hF h0 HL0 HCA HAP eV;obtain⟨⟨a7,c7,hG7⟩,IQ⟩:=HD.out;have bI:=Z8 hG7;have sV:=Z8 IQ;clear hG7 IQ HD;obtain⟨d7,hd7⟩:∃ d7:Hd,({ d with ka:=a7,kc:=c7,A:=d.A++[x] }:Hd)=d7:=⟨_,rfl⟩;have tK:d7.A=d.A++[x]:=by rw[<- hd7]
  have hB7:d7.B=d.B:=by rw[<- hd7]
  rw[hd7] at bI;rw[<- tK] at HPX WG HND iy HPM;clear tK hd7;go_upto_region 8 with fail;refine ZO (C:=fun U=>Gh Bd g d w d7 f U/\Bx U g0 (YS x) 99) 7 (by kernel_rfl) (by kernel_rfl) (⟨bI.out.drew,sV.out⟩) ?_;simp only[List.take_succ_cons,List.take_zero,List.drop_succ_cons,List.drop_zero];refine gy (Z7 g 0)<|gy (Z7 g 0)<|gy (Z7 g 1)<|Zj rfl ⟨g,1,none⟩ (.map (some d7.B)) (fun U hU=>hU.1.mem.ld1)<|gy (Z7 g0 0)<|Zj rfl ⟨g0,0,none⟩ (Z9 x.1) (fun U hU=>La hU.2) <|
    gy (Z9 n) ?_
  simp only[pu];apply wpQuiet_nil;intro X hX;obtain⟨X2,hput,hmf,-,hgr⟩:=hX.1.mem.mp.put x.1 (n:Int);have lg:=Z8 (hX.1.trans (Gh.map hX.1.mem (hX.1.base bK.out pU.out d7.B ⟨1,rfl⟩) hmf hgr));clear hX hmf hgr bI sV;refine Xe (by kernel_rfl) rfl X2 (Vu 126 (.tmp 39) (.tmp 41) (.tmp 42) rfl (.map (some d7.B)) (Z9 x.1) (Z9 n) (by kernel_rfl) (by kernel_rfl) (by kernel_rfl) hput) ?_;apply wpList_nil;clear hput;have Cc:=Z8 (bH (Bd:=Bd) lg.out.mem HPX.out (lg.out.base bK.out pU.out) (lg.out.size pU.out) HND.out (by rw[iy.out]; omega) (by rw[iy.out]; omega) WG.out);go_upto_region 9 with fail;refine wl<|ZA (Z7 g 0) (Z9 n)<|Yd (.tuple #[]) (fun w9=>∃ T,Hm Bd g d7 X2 T w9/\qw T n) Cc.out (fun V4 hV4=>?_);simp only[pu];apply wpList_nil;obtain⟨T,hT,hDn⟩:=hV4;have HO:Hid (tq Bd g d w M2 V4):=Z8 (by
   have ho:=Az (n:=n) (by rw[hT.len,iy.out]; exact Nat.le_refl _) hDn;obtain⟨pm,f4,hG4,hp4⟩:=hT;exact⟨_,_,lg.out.trans hG4,hp4,ho,pm.trans HPM.out⟩)
  clear hT hDn Cc lg;go_upto_region 10 with fail;refine wl<|ZN ZT<|wn ?_;simp only[pu];go_wp2_with fail;go_ret;exact⟨rfl,HO.out⟩
theorem sZ {Bd g:Nat}{d:Hd}{f:Int->Option Int}{w:World}(I:Ce Bd g d f w)(x:It){M:List It}(hp:d.A.Perm M)(hln:d.A.length+1<=90000):Calls Tryz.prog 60 #[Z7 g 0,.agg (YS x)] w fun e w'=>e=.returned (.bool (Xx M x).2)/\tq Bd g d w (Xx M x).1 w':=by
 cases hf:f x.1 with
 | some n=>exact zi I x hp hf
 | none=>exact zh I x hp hf hln
end Go.Proofs.YtnelmomagdcmnaaGreat.Hp
namespace Go.Proofs.YtnelmomagdcmnaaGreat.Hp
open Go.RowKit
end Go.Proofs.YtnelmomagdcmnaaGreat.Hp
namespace Go.Proofs.YtnelmomagdcmnaaGreat.Hp
open Go.Shelf
def Vz:Go.Shelf.Ren:=⟨fun | 6=>74 | 15=>103 | 14=>104 | 28=>132 | 29=>133 | 20=>134 | 21=>135 | 22=>136 | 23=>137 | 24=>138 | 25=>139 | 26=>140 | 27=>141 | 46=>153 | 47=>149 | 48=>150 | 49=>154 | 50=>155 | 57=>159 | n=>n,fun | 22=>96 | 24=>99 | 25=>130 | 3=>3 | 39=>185 | 0=>0 | 53=>175 | 55=>23 | 4=>4 | 46=>210 | 45=>209 | 50=>162 | 5=>5 | 9=>9 | 66=>226 | 70=>190 | 76=>235 | 77=>236 | n=>n,fun | n=>n⟩
theorem RQ:Go.Proofs.SlLaysF0.n6 Tryz.prog Vz:={
  mixed:=by kernel_rfl
  f6:=⟨Tryz.f74.name,by decide,Tryz.func74.trans (congrArg some (by kernel_rfl))⟩
  f14:=⟨Tryz.f104.name,by decide,Tryz.func104.trans (congrArg some (by kernel_rfl))⟩
  f15:=Tryz.func103.trans (congrArg some (by kernel_rfl))
  f20:=⟨Tryz.f134.name,by decide,Tryz.func134.trans (congrArg some (by kernel_rfl))⟩
  f21:=⟨Tryz.f135.name,by decide,Tryz.func135.trans (congrArg some (by kernel_rfl))⟩
  f22:=⟨Tryz.f136.name,by decide,Tryz.func136.trans (congrArg some (by kernel_rfl))⟩
  f23:=⟨Tryz.f137.name,by decide,Tryz.func137.trans (congrArg some (by kernel_rfl))⟩
  f24:=⟨Tryz.f138.name,by decide,Tryz.func138.trans (congrArg some (by kernel_rfl))⟩
  f25:=⟨Tryz.f139.name,by decide,Tryz.func139.trans (congrArg some (by kernel_rfl))⟩
  f26:=⟨Tryz.f140.name,by decide,Tryz.func140.trans (congrArg some (by kernel_rfl))⟩
  f27:=⟨Tryz.f141.name,by decide,Tryz.func141.trans (congrArg some (by kernel_rfl))⟩
  f28:=Tryz.func132.trans (congrArg some (by kernel_rfl))
  f29:=Tryz.func133.trans (congrArg some (by kernel_rfl))
  f46:=⟨Tryz.f153.name,by decide,Tryz.func153.trans (congrArg some (by kernel_rfl))⟩
  f47:=Tryz.func149.trans (congrArg some (by kernel_rfl))
  f48:=Tryz.func150.trans (congrArg some (by kernel_rfl))
  f49:=⟨Tryz.f154.name,by decide,Tryz.func154.trans (congrArg some (by kernel_rfl))⟩
  f50:=⟨Tryz.f155.name,by decide,Tryz.func155.trans (congrArg some (by kernel_rfl))⟩
  f57:=⟨Tryz.f159.name,by decide,Tryz.func159.trans (congrArg some (by kernel_rfl))⟩
  t0:=Tryz.underlying0
  a0:=Tryz.isAgg0
  z0:=Tryz.sizeOf0
  v0:=Tryz.zeroValue0
  t3:=Tryz.underlying3
  a3:=Tryz.isAgg3
  z3:=Tryz.sizeOf3
  v3:=Tryz.zeroValue3
  t4:=Tryz.underlying4
  a4:=Tryz.isAgg4
  z4:=Tryz.sizeOf4
  v4:=Tryz.zeroValue4
  t5:=Tryz.underlying5
  a5:=Tryz.isAgg5
  z5:=Tryz.sizeOf5
  v5:=Tryz.zeroValue5
  t9:=Tryz.underlying9
  a9:=Tryz.isAgg9
  z9:=Tryz.sizeOf9
  v9:=Tryz.zeroValue9
  t22:=Tryz.underlying96
  a22:=Tryz.isAgg96
  z22:=Tryz.sizeOf96
  v22:=Tryz.zeroValue96
  t25:=Tryz.underlying130
  a25:=Tryz.isAgg130
  z25:=Tryz.sizeOf130
  v25:=Tryz.zeroValue130
  t39:=Tryz.underlying185
  a39:=Tryz.isAgg185
  z39:=Tryz.sizeOf185
  v39:=Tryz.zeroValue185
  t45:=Tryz.underlying209
  a45:=Tryz.isAgg209
  z45:=Tryz.sizeOf209
  v45:=Tryz.zeroValue209
  t46:=Tryz.underlying210
  a46:=Tryz.isAgg210
  z46:=Tryz.sizeOf210
  v46:=Tryz.zeroValue210
  t50:=Tryz.underlying162
  a50:=Tryz.isAgg162
  z50:=Tryz.sizeOf162
  v50:=Tryz.zeroValue162
  t53:=Tryz.underlying175
  a53:=Tryz.isAgg175
  z53:=Tryz.sizeOf175
  v53:=Tryz.zeroValue175
  t55:=Tryz.underlying23
  a55:=Tryz.isAgg23
  z55:=Tryz.sizeOf23
  v55:=Tryz.zeroValue23
  t66:=Tryz.underlying226
  a66:=Tryz.isAgg226
  z66:=Tryz.sizeOf226
  v66:=Tryz.zeroValue226
  t70:=Tryz.underlying190
  a70:=Tryz.isAgg190
  z70:=Tryz.sizeOf190
  v70:=Tryz.zeroValue190
  t76:=Tryz.underlying235
  a76:=Tryz.isAgg235
  z76:=Tryz.sizeOf235
  v76:=Tryz.zeroValue235
  t77:=Tryz.underlying236
  a77:=Tryz.isAgg236
  z77:=Tryz.sizeOf236
  v77:=Tryz.zeroValue236 }
end Go.Proofs.YtnelmomagdcmnaaGreat.Hp
