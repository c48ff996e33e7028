/-
  Texts joined.
-/
import Derived.Test.YtnelmomagdcmnaaGreatJ22
set_option maxRecDepth 100000
set_option maxHeartbeats 8000000
set_option linter.unusedSimpArgs false
set_option linter.unusedVariables false
namespace Go.Proofs.YtnelmomagdcmnaaGreat.Cg
attribute [local irreducible] wpList wpQuiet
open Go.RowKit
theorem GR {w:World}{g t:Nat}{S:List Int}(h:Bx w g (ZJ S).toArray t){k:Nat}(hk:k<S.length):(Instr.loadAt 3 (Z7 g (0+k))).run Tryz.prog w=.ok (Z9 (S.getD k 0)) w:=by
 rw[Nat.zero_add];exact Bx.load h (i:=k) (by rw[List.getElem?_toArray]; exact VP S k hk) (by kernel_rfl)
def KsO (w:World)(e:Ending)(w':World):Prop:=∃ g,e=.returned (.slice (some ⟨g,0,none⟩) 12 12)/\Bx w' g (strs keysB).toArray 9/\Below w.heap.size w w'
theorem ag2 (w:World):Calls Tryz.prog 97 #[] w (KsO w):=by
 have hbd:=xH w;have hbx:Bx (w.alloc (.cells (strs keysB).toArray 9)) w.heap.size (strs keysB).toArray 9:=heap_alloc_last w _;have hbw:Below w.heap.size w (w.alloc (.cells (strs keysB).toArray 9)):=(Below.refl _ w).alloc (Nat.le_refl _) _;generalize w.alloc (.cells (strs keysB).toArray 9)=V1 at *
 have HB:=Z8 hbw;obtain⟨g1,hg1⟩:=ZR w.heap.size;rw[hg1] at hbx hbd;clear hbw hg1;go_enter Tryz.func97,Tryz.ntmps97;go_upto_region 1 with fail;apply wp_region_lit;refine Zm (by kernel_rfl) (some 1) rfl 40 12 #[(0,.const (.string ⟨#[109,97,120,45,116,120,115]⟩)),(1,.const (.string ⟨#[109,97,120,45,98,121,116,101,115]⟩)),(2,.const (.string ⟨#[109,97,120,45,116,120,45,98,121,116,101,115]⟩)),(3,.const (.string ⟨#[99,97,99,104,101,45,115,105,122,101]⟩)),(4,.const (.string ⟨#[116,116,108,45,98,108,111,99,107,115]⟩)),(5,.const (.string ⟨#[116,116,108,45,116,105,109,101]⟩)),(6,.const (.string ⟨#[107,101,101,112,45,105,110,118,97,108,105,100]⟩)),(7,.const (.string ⟨#[98,108,111,99,107,45,98,121,116,101,115]⟩)),(8,.const (.string ⟨#[98,108,111,99,107,45,103,97,115]⟩)),(9,.const (.string ⟨#[112,114,105,99,101]⟩)),(10,.const (.string ⟨#[115,101,108,102]⟩)),(11,.const (.string ⟨#[110,111,100,101,115]⟩))] rfl #[(0,.string ⟨#[109,97,120,45,116,120,115]⟩),(1,.string ⟨#[109,97,120,45,98,121,116,101,115]⟩),(2,.string ⟨#[109,97,120,45,116,120,45,98,121,116,101,115]⟩),(3,.string ⟨#[99,97,99,104,101,45,115,105,122,101]⟩),(4,.string ⟨#[116,116,108,45,98,108,111,99,107,115]⟩),(5,.string ⟨#[116,116,108,45,116,105,109,101]⟩),(6,.string ⟨#[107,101,101,112,45,105,110,118,97,108,105,100]⟩),(7,.string ⟨#[98,108,111,99,107,45,98,121,116,101,115]⟩),(8,.string ⟨#[98,108,111,99,107,45,103,97,115]⟩),(9,.string ⟨#[112,114,105,99,101]⟩),(10,.string ⟨#[115,101,108,102]⟩),(11,.string ⟨#[110,111,100,101,115]⟩)] (by kernel_rfl) (.slice (some ⟨g1,0,none⟩) 12 12) _ hbd ?_;refine ZQ (.slice (some ⟨g1,0,none⟩) 12 12)<|wn ?_;simp only[pu];go_wp2_with fail;go_ret;exact⟨g1,rfl,hbx,HB.out⟩
theorem iO (i:Nat)(hi:i<12)(w:World):Calls Tryz.prog 99 #[Z9 i] w fun e w'=>e=.returned (Z9 (X8.getD i 0))/\Below w.heap.size w w':=by
 have hL:X8=[1,1,1,0,0,0,0,1,-1,0,0,1]:=rfl;have hbd:=Ny 1 1 1 0 0 0 0 1 (-1) 0 0 1 w;have hbx:Bx (w.alloc (.cells (ZJ [1,1,1,0,0,0,0,1,-1,0,0,1]).toArray 3)) w.heap.size (ZJ [1,1,1,0,0,0,0,1,-1,0,0,1]).toArray 3:=heap_alloc_last w _;have hbw:Below w.heap.size w (w.alloc (.cells (ZJ [1,1,1,0,0,0,0,1,-1,0,0,1]).toArray 3)):=(Below.refl _ w).alloc (Nat.le_refl _) _;rw[<- hL] at hbd hbx hbw;generalize w.alloc (.cells (ZJ X8).toArray 3)=V1 at *
 have HB:=Z8 hbw;obtain⟨g1,hg1⟩:=ZR w.heap.size;rw[hg1] at hbx hbd;clear hbw hg1;have Kz:Hid (X8.length=12):=Z8 rfl;clear hL;generalize X8=S at *
 go_enter Tryz.func99,Tryz.ntmps99;go_upto_region 1 with fail;apply wp_region_lit;refine Zm (by kernel_rfl) (some 3) rfl 22 12 #[(0,.const (Z9 1)),(1,.const (Z9 1)),(2,.const (Z9 1)),(3,.const (Z9 0)),(4,.const (Z9 0)),(5,.const (Z9 0)),(6,.const (Z9 0)),(7,.const (Z9 1)),(8,.const (Z9 (-1))),(9,.const (Z9 0)),(10,.const (Z9 0)),(11,.const (Z9 1))] rfl #[(0,Z9 1),(1,Z9 1),(2,Z9 1),(3,Z9 0),(4,Z9 0),(5,Z9 0),(6,Z9 0),(7,Z9 1),(8,Z9 (-1)),(9,Z9 0),(10,Z9 0),(11,Z9 1)] (by kernel_rfl) (.slice (some ⟨g1,0,none⟩) 12 12) _ hbd ?_;refine ZQ (Z9 i)<|Za (Z7 g1 (0+i)) (Wn g1 0 12 12 i hi _ _ _ rfl (by kernel_rfl) (by kernel_rfl))<|ZC rfl ⟨g1,0+i,none⟩ (Z9 (S.getD i 0)) (GR hbx (k:=i) (by rw[Kz.out]; exact hi))<|ZQ (Z9 (S.getD i 0))<|wn ?_;simp only[pu];go_wp2_with fail;go_ret;exact⟨rfl,HB.out⟩
theorem iM (i:Nat)(hi:i<12)(w:World):Calls Tryz.prog 100 #[Z9 i] w fun e w'=>e=.returned (Z9 (VL.getD i 0))/\Below w.heap.size w w':=by
 have hL:VL=[512,1048576,4096,1024,1073741824,1073741824,1,1048576,1125899906842624,0,7,8]:=rfl;have hbd:=Ny 512 1048576 4096 1024 1073741824 1073741824 1 1048576 1125899906842624 0 7 8 w;have hbx:Bx (w.alloc (.cells (ZJ [512,1048576,4096,1024,1073741824,1073741824,1,1048576,1125899906842624,0,7,8]).toArray 3)) w.heap.size (ZJ [512,1048576,4096,1024,1073741824,1073741824,1,1048576,1125899906842624,0,7,8]).toArray 3:=heap_alloc_last w _;have hbw:Below w.heap.size w (w.alloc (.cells (ZJ [512,1048576,4096,1024,1073741824,1073741824,1,1048576,1125899906842624,0,7,8]).toArray 3)):=(Below.refl _ w).alloc (Nat.le_refl _) _;rw[<- hL] at hbd hbx hbw;generalize w.alloc (.cells (ZJ VL).toArray 3)=V1 at *
 have HB:=Z8 hbw;obtain⟨g1,hg1⟩:=ZR w.heap.size;rw[hg1] at hbx hbd;clear hbw hg1;have Kz:Hid (VL.length=12):=Z8 rfl;clear hL;generalize VL=S at *
 go_enter Tryz.func100,Tryz.ntmps100;go_upto_region 1 with fail;apply wp_region_lit;refine Zm (by kernel_rfl) (some 3) rfl 22 12 #[(0,.const (Z9 512)),(1,.const (Z9 1048576)),(2,.const (Z9 4096)),(3,.const (Z9 1024)),(4,.const (Z9 1073741824)),(5,.const (Z9 1073741824)),(6,.const (Z9 1)),(7,.const (Z9 1048576)),(8,.const (Z9 1125899906842624)),(9,.const (Z9 0)),(10,.const (Z9 7)),(11,.const (Z9 8))] rfl #[(0,Z9 512),(1,Z9 1048576),(2,Z9 4096),(3,Z9 1024),(4,Z9 1073741824),(5,Z9 1073741824),(6,Z9 1),(7,Z9 1048576),(8,Z9 1125899906842624),(9,Z9 0),(10,Z9 7),(11,Z9 8)] (by kernel_rfl) (.slice (some ⟨g1,0,none⟩) 12 12) _ hbd ?_;refine ZQ (Z9 i)<|Za (Z7 g1 (0+i)) (Wn g1 0 12 12 i hi _ _ _ rfl (by kernel_rfl) (by kernel_rfl))<|ZC rfl ⟨g1,0+i,none⟩ (Z9 (S.getD i 0)) (GR hbx (k:=i) (by rw[Kz.out]; exact hi))<|ZQ (Z9 (S.getD i 0))<|wn ?_;simp only[pu];go_wp2_with fail;go_ret;exact⟨rfl,HB.out⟩
def dB (c:List Int):List Int:=[c.getD 0 0,c.getD 1 0,c.getD 2 0,c.getD 3 0,c.getD 4 0,c.getD 5 0,c.getD 6 0,c.getD 7 0,c.getD 8 0,0,c.getD 10 0,c.getD 11 0]
theorem iQ {c:List Int}:∀ i,i<12->i≠9->(dB c).getD i 0=c.getD i 0:=by
 intro i hi h9;match i,hi,h9 with
 | 0,_,_=>rfl
 | 1,_,_=>rfl
 | 2,_,_=>rfl
 | 3,_,_=>rfl
 | 4,_,_=>rfl
 | 5,_,_=>rfl
 | 6,_,_=>rfl
 | 7,_,_=>rfl
 | 8,_,_=>rfl
 | 10,_,_=>rfl
 | 11,_,_=>rfl
theorem Ee (x0 x1 x2 x3 x4 x5 x6 x7 x8 x9 x10 x11:Int)(q:Bool)(k:Int)(hq:(if q then 1 else 0)=k)(i:Nat)(hi:i<12)(w:World):Calls Tryz.prog 98 #[.agg #[Z9 x0,Z9 x1,Z9 x2,Z9 x3,Z9 x4,Z9 x5,.bool q,Z9 x7,Z9 x8,ZV x9,Z9 x10,Z9 x11],Z9 i] w fun e w'=>e=.returned (Z9 ([x0,x1,x2,x3,x4,x5,k,x7,x8,0,x10,x11].getD i 0))/\Below w.heap.size w w':=by
 have hb0:Below w.heap.size w (w.alloc (.cells #[Z9 x0,Z9 x1,Z9 x2,Z9 x3,Z9 x4,Z9 x5,.bool q,Z9 x7,Z9 x8,ZV x9,Z9 x10,Z9 x11] 25)):=(Below.refl _ w).alloc (Nat.le_refl _) _;have hX0:Bx (w.alloc (.cells #[Z9 x0,Z9 x1,Z9 x2,Z9 x3,Z9 x4,Z9 x5,.bool q,Z9 x7,Z9 x8,ZV x9,Z9 x10,Z9 x11] 25)) w.heap.size #[Z9 x0,Z9 x1,Z9 x2,Z9 x3,Z9 x4,Z9 x5,.bool q,Z9 x7,Z9 x8,ZV x9,Z9 x10,Z9 x11] 25:=heap_alloc_last w _;obtain⟨W,hW⟩:=ZR (w.alloc (.cells #[Z9 x0,Z9 x1,Z9 x2,Z9 x3,Z9 x4,Z9 x5,.bool q,Z9 x7,Z9 x8,ZV x9,Z9 x10,Z9 x11] 25));rw[hW] at hb0 hX0;have hbd:=Ny x0 x1 x2 x3 x4 x5 k x7 x8 0 x10 x11 W;have hbx:Bx (W.alloc (.cells (ZJ [x0,x1,x2,x3,x4,x5,k,x7,x8,0,x10,x11]).toArray 3)) W.heap.size (ZJ [x0,x1,x2,x3,x4,x5,k,x7,x8,0,x10,x11]).toArray 3:=heap_alloc_last W _;have hbw:Below W.heap.size W (W.alloc (.cells (ZJ [x0,x1,x2,x3,x4,x5,k,x7,x8,0,x10,x11]).toArray 3)):=(Below.refl _ W).alloc (Nat.le_refl _) _;have Kz:Hid ([x0,x1,x2,x3,x4,x5,k,x7,x8,0,x10,x11].length=12):=Z8 rfl;generalize [x0,x1,x2,x3,x4,x5,k,x7,x8,0,x10,x11]=S at *
 generalize W.alloc (.cells (ZJ S).toArray 3)=V1 at *
 have HB:=Z8 (hb0.trans (hbw.mono hb0.size));have HB0:=Z8 hb0;obtain⟨g1,hg1⟩:=ZR W.heap.size;rw[hg1] at hbx hbd;clear hbw hg1 hb0;go_enter Tryz.func98,Tryz.ntmps98;go_upto_region 1 with fail;obtain⟨g3,hg3⟩:=ZR w.heap.size;rw[hg3] at hX0;simp only[hg3];clear hW hg3;refine wl<|ZQ (Z9 0)<|wn ?_;simp only[pu];go_upto_region 2 with fail;refine wl<|ZQ (Z7 g3 6)<|ZC rfl ⟨g3,6,none⟩ (.bool q) (hX0.ZM 6)<|wn ?_;simp only[pu];cases q
 ·obtain rfl:(0:Int)=k:=hq;go_upto_region 4 with fail;refine wl<|ZQ (Z7 g3 0)<|ZC rfl ⟨g3,0,none⟩ (Z9 x0) (hX0.ZM 0)<|ZQ (Z7 g3 1)<|ZC rfl ⟨g3,1,none⟩ (Z9 x1) (hX0.ZM 1) <|
   ZQ (Z7 g3 2)<|ZC rfl ⟨g3,2,none⟩ (Z9 x2) (hX0.ZM 2)<|ZQ (Z7 g3 3)<|ZC rfl ⟨g3,3,none⟩ (Z9 x3) (hX0.ZM 3)<|ZQ (Z7 g3 4) <|
   ZC rfl ⟨g3,4,none⟩ (Z9 x4) (hX0.ZM 4)<|ZQ (Z7 g3 5)<|ZC rfl ⟨g3,5,none⟩ (Z9 x5) (hX0.ZM 5)<|ZB (Z9 0) (Z7 g3 7) <|
   ZC rfl ⟨g3,7,none⟩ (Z9 x7) (hX0.ZM 7)<|ZQ (Z7 g3 8)<|ZC rfl ⟨g3,8,none⟩ (Z9 x8) (hX0.ZM 8)<|ZQ (Z7 g3 10) <|
   ZC rfl ⟨g3,10,none⟩ (Z9 x10) (hX0.ZM 10)<|ZQ (Z7 g3 11)<|ZC rfl ⟨g3,11,none⟩ (Z9 x11) (hX0.ZM 11) ?_
  refine Zm (by kernel_rfl) (some 29) rfl 22 12 #[(0,.tmp 9),(1,.tmp 11),(2,.tmp 13),(3,.tmp 15),(4,.tmp 17),(5,.tmp 19),(6,.tmp 20),(7,.tmp 22),(8,.tmp 24),(9,.const (Z9 0)),(10,.tmp 26),(11,.tmp 28)] rfl #[(0,Z9 x0),(1,Z9 x1),(2,Z9 x2),(3,Z9 x3),(4,Z9 x4),(5,Z9 x5),(6,Z9 0),(7,Z9 x7),(8,Z9 x8),(9,Z9 0),(10,Z9 x10),(11,Z9 x11)] (by kernel_rfl) (.slice (some ⟨g1,0,none⟩) 12 12) _ hbd ?_;refine ZQ (Z9 i)<|Za (Z7 g1 (0+i)) (Wn g1 0 12 12 i hi _ _ _ rfl (by kernel_rfl) (by kernel_rfl))<|ZC rfl ⟨g1,0+i,none⟩ (Z9 (S.getD i 0)) (GR hbx (k:=i) (by rw[Kz.out]; exact hi))<|ZQ (Z9 (S.getD i 0))<|wn ?_;simp only[pu];go_wp2_with fail;go_ret;exact⟨rfl,HB.out⟩
 ·obtain rfl:(1:Int)=k:=hq;go_upto_region 3 with fail;refine wl<|ZQ (Z9 1)<|wn ?_;simp only[pu];go_upto_region 4 with fail;refine wl<|ZQ (Z7 g3 0)<|ZC rfl ⟨g3,0,none⟩ (Z9 x0) (hX0.ZM 0)<|ZQ (Z7 g3 1)<|ZC rfl ⟨g3,1,none⟩ (Z9 x1) (hX0.ZM 1) <|
   ZQ (Z7 g3 2)<|ZC rfl ⟨g3,2,none⟩ (Z9 x2) (hX0.ZM 2)<|ZQ (Z7 g3 3)<|ZC rfl ⟨g3,3,none⟩ (Z9 x3) (hX0.ZM 3)<|ZQ (Z7 g3 4) <|
   ZC rfl ⟨g3,4,none⟩ (Z9 x4) (hX0.ZM 4)<|ZQ (Z7 g3 5)<|ZC rfl ⟨g3,5,none⟩ (Z9 x5) (hX0.ZM 5)<|ZB (Z9 1) (Z7 g3 7) <|
   ZC rfl ⟨g3,7,none⟩ (Z9 x7) (hX0.ZM 7)<|ZQ (Z7 g3 8)<|ZC rfl ⟨g3,8,none⟩ (Z9 x8) (hX0.ZM 8)<|ZQ (Z7 g3 10) <|
   ZC rfl ⟨g3,10,none⟩ (Z9 x10) (hX0.ZM 10)<|ZQ (Z7 g3 11)<|ZC rfl ⟨g3,11,none⟩ (Z9 x11) (hX0.ZM 11) ?_
  refine Zm (by kernel_rfl) (some 29) rfl 22 12 #[(0,.tmp 9),(1,.tmp 11),(2,.tmp 13),(3,.tmp 15),(4,.tmp 17),(5,.tmp 19),(6,.tmp 20),(7,.tmp 22),(8,.tmp 24),(9,.const (Z9 0)),(10,.tmp 26),(11,.tmp 28)] rfl #[(0,Z9 x0),(1,Z9 x1),(2,Z9 x2),(3,Z9 x3),(4,Z9 x4),(5,Z9 x5),(6,Z9 1),(7,Z9 x7),(8,Z9 x8),(9,Z9 0),(10,Z9 x10),(11,Z9 x11)] (by kernel_rfl) (.slice (some ⟨g1,0,none⟩) 12 12) _ hbd ?_;refine ZQ (Z9 i)<|Za (Z7 g1 (0+i)) (Wn g1 0 12 12 i hi _ _ _ rfl (by kernel_rfl) (by kernel_rfl))<|ZC rfl ⟨g1,0+i,none⟩ (Z9 (S.getD i 0)) (GR hbx (k:=i) (by rw[Kz.out]; exact hi))<|ZQ (Z9 (S.getD i 0))<|wn ?_;simp only[pu];go_wp2_with fail;go_ret;exact⟨rfl,HB.out⟩
theorem iP {c:List Int}(h6:c.getD 6 0=0∨c.getD 6 0=1)(i:Nat)(hi:i<12)(w:World):Calls Tryz.prog 98 #[.agg (Zu c),Z9 i] w fun e w'=>e=.returned (Z9 ((dB c).getD i 0))/\Below w.heap.size w w':=
 Ee _ _ _ _ _ _ (c.getD 6 0) _ _ _ _ _ _ (c.getD 6 0) (by rcases h6 with h | h <;> rw[h] <;> rfl) i hi w
end Go.Proofs.YtnelmomagdcmnaaGreat.Cg
namespace Go.Proofs.YtnelmomagdcmnaaGreat.Cg
open Go.RowKit
theorem zG {w:World}{g k:Nat}{x0 x1 x2 x3 x4 x5 x7 x8 x9 x10 x11:Int}{q:Bool}(h:Bx w g #[Z9 x0,Z9 x1,Z9 x2,Z9 x3,Z9 x4,Z9 x5,.bool q,Z9 x7,Z9 x8,ZV x9,Z9 x10,Z9 x11] k):(Instr.loadAt 25 (Z7 g 0)).run Tryz.prog w=.ok (.agg #[Z9 x0,Z9 x1,Z9 x2,Z9 x3,Z9 x4,Z9 x5,.bool q,Z9 x7,Z9 x8,ZV x9,Z9 x10,Z9 x11]) w:=run_loadAt_mid w g 0 25 (#[Z9 x0,Z9 x1,Z9 x2,Z9 x3,Z9 x4,Z9 x5,.bool q,Z9 x7,Z9 x8,ZV x9,Z9 x10,Z9 x11]:Array Value).toList _ (ZU (cs:=(#[Z9 x0,Z9 x1,Z9 x2,Z9 x3,Z9 x4,Z9 x5,.bool q,Z9 x7,Z9 x8,ZV x9,Z9 x10,Z9 x11]:Array Value).toList) h) Tryz.underlying25 rfl (by kernel_rfl)
theorem yY (w:World):Calls Tryz.prog 32 #[] w fun e w'=>e=.returned (.agg (Zu Ru))/\Below w.heap.size w w':=by
 obtain⟨V2,hst,hb,hY⟩:=Zk (c:=#[Z9 0,Z9 0,Z9 0,Z9 0,Z9 0,Z9 0,ZY,Z9 0,Z9 0,ZV 0,Z9 0,Z9 0]) (c':=#[Z9 100,Z9 65536,Z9 1024,Z9 200,Z9 0,Z9 0,ZY,Z9 32768,Z9 (-1),ZV 1,Z9 0,Z9 1]) (ty:=25) w rfl (by kernel_rfl) (by kernel_rfl);have Vf:=Z8 (zG hY);have HE:=Z8 hb;clear hb hY;go_enter Tryz.func32,Tryz.ntmps32;go_upto_region 1 with fail;change Code.wp _ _ _ _ (w.alloc (.cells #[Z9 0,Z9 0,Z9 0,Z9 0,Z9 0,Z9 0,ZY,Z9 0,Z9 0,ZV 0,Z9 0,Z9 0] 25));generalize w.alloc (.cells #[Z9 0,Z9 0,Z9 0,Z9 0,Z9 0,Z9 0,ZY,Z9 0,Z9 0,ZV 0,Z9 0,Z9 0] 25)=W at *
 obtain⟨g0,hg0⟩:=ZR w.heap.size;simp only[hg0] at hst Vf ⊢;refine wl<|ZQ (.agg #[Z9 100,Z9 65536,Z9 1024,Z9 200,Z9 0,Z9 0,ZY,Z9 32768,Z9 (-1),ZV 1,Z9 0,Z9 1])<|Yb rfl (hst)<|wn ?_;simp only[pu];go_wp2_with fail;exact bodyPost_ret (YV rfl (by kernel_rfl) Vf.out) rfl ⟨rfl,HE.out⟩
end Go.Proofs.YtnelmomagdcmnaaGreat.Cg
namespace Go.Proofs.YtnelmomagdcmnaaGreat.Cg
attribute [local irreducible] wpList wpQuiet
open Go.RowKit
def KsV (w:World)(v:Value)(w':World):Prop:=∃ g,v=.slice (some ⟨g,0,none⟩) 12 12/\Bx w' g (strs keysB).toArray 9/\Below w.heap.size w w'
theorem iR (w:World):Calls Tryz.prog 97 #[] w fun e w'=>∃ v,e=.returned v/\KsV w v w':=(ag2 w).mono fun e w' z=>by
 obtain⟨g,h1,h2,h3⟩:=z;exact⟨_,h1,g,rfl,h2,h3⟩
def Gz (c:List Int)(j:Nat):Prop:=j=9∨(X8.getD j 0<=c.getD j 0/\c.getD j 0<=VL.getD j 0)
theorem IE {c:List Int}{i:Nat}(hi:i<12)(h:¬ Gz c i):Ve c=1:=by
 unfold Ve okL;rw[if_neg];intro hh;rw[Bool.and_eq_true,List.all_eq_true] at hh;have h1:=hh.1 i (List.mem_range.2 hi);rw[Bool.or_eq_true,Bool.and_eq_true,decide_eq_true_eq,decide_eq_true_eq,decide_eq_true_eq] at h1;exact h h1
theorem GV {c:List Int}(h:∀ i,i<12->Gz c i):Ve c=if c.getD 10 0<c.getD 11 0 then 0 else 1:=by
 have h1:((List.range 12).all fun i=>decide (i=9) || (decide (X8.getD i 0<=c.getD i 0) && decide (c.getD i 0<=VL.getD i 0)))=true:=by
  rw[List.all_eq_true];intro i hi;rw[Bool.or_eq_true,Bool.and_eq_true,decide_eq_true_eq,decide_eq_true_eq,decide_eq_true_eq];exact h i (List.mem_range.1 hi)
 unfold Ve okL;rw[h1,Bool.true_and];by_cases h2:c.getD 10 0<c.getD 11 0
 ·rw[if_pos (decide_eq_true h2),if_pos h2]
 ·rw[if_neg (by rw[decide_eq_true_eq]; exact h2),if_neg h2]
theorem AQ {c:List Int}(h6:c.getD 6 0=0∨c.getD 6 0=1)(w:World):Calls Tryz.prog 69 #[.agg (Zu c)] w fun e w'=>e=.returned (Z9 (Ve c))/\Below w.heap.size w w':=by
 have hb0:Below w.heap.size w (w.alloc (.cells (Zu c) 25)):=(Below.refl _ w).alloc (Nat.le_refl _) _;have hX0:Bx (w.alloc (.cells (Zu c) 25)) w.heap.size (Zu c) 25:=heap_alloc_last w _;obtain⟨W,hW⟩:=ZR (w.alloc (.cells (Zu c) 25));rw[hW] at hb0 hX0;have HB0:=Z8 hb0;have HBAD:Hid (∀ i,i<12->¬ Gz c i->(1:Int)=Ve c):=Z8 fun i hi h=>(IE hi h).symm;have RF:Hid ((∀ i,i<12->Gz c i)->(if c.getD 10 0<c.getD 11 0 then (0:Int) else 1)=Ve c):=Z8 fun h=>(GV h).symm;have HV:Hid (∀ i:Nat,i<12->i≠9->∀ V,Calls Tryz.prog 98 #[.agg (Zu c),Z9 i] V fun e w'=>e=.returned (Z9 (c.getD i 0))/\Below V.heap.size V w'):=Z8 fun i hi h9 V=>by
  rw[<- iQ i hi h9];exact iP h6 i hi V
 have Vf:Hid (∀ V g,Bx V g (Zu c) 25->(Instr.loadAt 25 (Z7 g 0)).run Tryz.prog V=.ok (.agg (Zu c)) V):=Z8 fun V g h=>RP h;have H10:Hid (∀ V g,Bx V g (Zu c) 25->(Instr.loadAt 3 (Z7 g 10)).run Tryz.prog V=.ok (Z9 (c.getD 10 0)) V/\(Instr.loadAt 3 (Z7 g 11)).run Tryz.prog V=.ok (Z9 (c.getD 11 0)) V):=Z8 fun V g h=>⟨h.ZM 10,h.ZM 11⟩;obtain⟨z,hz⟩:=ZR (Ve c);rw[hz] at HBAD RF ⊢;clear hz hb0 h6;go_enter Tryz.func69,Tryz.ntmps69;go_upto_region 1 with fail;obtain⟨g1,hg1⟩:=ZR w.heap.size;rw[hg1] at hX0;simp only[hg1];generalize Zu c=CC at *
 clear hW hg1;refine wl<|XQ (KsV W) (iR W) (fun vv W1 hq=>?_);obtain⟨gk1,rfl,aw2,hbk1⟩:=hq;refine ZB (Z9 12) (Z9 0)<|wn ?_;simp only[pu];have LU:=Z8 (hX0.below hX0.lt hbk1);have HB1:=Z8 (HB0.out.trans (hbk1.mono HB0.out.size));clear hX0 aw2 hbk1 HB0;go_wp2_with fail;go_loopg [6] 12 (fun gg s6 wx=>∃ (i:Nat),s6=Z9 i/\i<=12/\gg+i=12/\Hid (∀ j,j<i->Gz c j)/\Hid (Below W1.heap.size W1 wx))
 case atStart=>exact⟨0,rfl,by omega,by omega,Z8 (fun j hj=>absurd hj (Nat.not_lt_zero j)),Z8 (Below.refl _ _)⟩
 case round=>
  obtain⟨i,rfl,hin,hg,HP,HR⟩:=hrel;have WH:Hid (gk+i=12):=Z8 hg;have hX:=LU.out.below LU.out.lt HR.out;clear hg;by_cases hlt:i<12
  ·go_upto_region 2 with fail;refine wl<|Zg (ZG rfl (i) (12) dT)<|wn ?_;simp only[pu];go_upto_region 3 with fail;refine wl<|ZB (Z9 i) (Z9 i)<|wn ?_;simp only[pu];by_cases h9:i=9
   ·have HP2:Hid (∀ j,j<i+1->Gz c j):=Z8 fun j hj=>if hh:j<i then HP.out j hh else .inl (by omega)
    go_upto_region 4 with fail;refine wl<|ZQ (Z9 i)<|Zg (VQ rfl i 9 dF)<|Ia ZY undef undef undef undef undef<|Ia undef undef undef undef undef undef<|Qc undef undef undef ZY<|wn ?_;simp only[pu];clear h9 HP hX;go_upto_region 6 with fail;refine wl<|Za (Z9 (i+1:Nat)) (add_one rfl i (by omega) (by kernel_rfl) _)<|ZQ (Z9 (i+1:Nat))<|wn ?_;simp only[pu];go_wp2_with fail;go_roundg (12-(i+1))
    case measure=>have:=WH.out; omega
    case rel=>exact⟨i+1,rfl,by omega,by omega,HP2,HR⟩
   ·have CV:=HV.out i hlt h9;have HST:Hid (X8.getD i 0<=c.getD i 0->c.getD i 0<=VL.getD i 0->∀ j,j<i+1->Gz c j):=Z8 fun h1 h2 j hj=>if hh:j<i then HP.out j hh else by rw[show j=i by omega]; exact .inr ⟨h1,h2⟩
    have HB2:Hid (¬ (X8.getD i 0<=c.getD i 0/\c.getD i 0<=VL.getD i 0)->(1:Int)=z):=Z8 fun h=>HBAD.out i hlt fun hh=>hh.elim h9 h;have CL:=iO i hlt;have CG:=iM i hlt;generalize c.getD i 0=cv at *
    generalize X8.getD i 0=lo at *
    generalize VL.getD i 0=up at *
    by_cases h1:cv<lo
    ·go_upto_region 4 with fail;refine wl<|ZQ (Z9 i)<|Zg (VQ rfl i 9 dT)<|ZQ ZX<|ZC rfl ⟨g1,0,none⟩ (.agg CC) (Vf.out _ _ (by first | exact hX | exact nJ))<|ZQ (Z9 i) <|
      YD (Z9 cv) (fun w'=>Below wr.heap.size wr w') (CV wr) (fun V2 hb2=>?_)
     refine ZQ (Z9 i)<|YD (Z9 lo) (fun w'=>Below V2.heap.size V2 w') (CL V2) (fun V3 hb3=>?_);have Nz:=hb2.trans (hb3.mono hb2.size);have nJ:=hX.below hX.lt Nz;refine Zg (ZG rfl cv lo (decide_eq_true h1))<|Ia ZX undef undef undef undef undef<|YX undef ZX ZX<|wn ?_;simp only[pu];obtain rfl:=HB2.out fun h=>(by omega);have HE:=Z8 (HB1.out.trans ((HR.out.trans (Nz.mono HR.out.size)).mono HB1.out.size));clear CV CL CG HV HBAD RF Vf H10 hX nJ hb2 hb3 Nz HST HB2 HP;go_upto_region 5 with fail;refine wl<|ZQ (Z9 1)<|wn ?_;simp only[pu];go_wp2_with fail;go_ret;exact⟨rfl,HE.out⟩
    ·by_cases h2:up<cv
     ·go_upto_region 4 with fail;refine wl<|ZQ (Z9 i)<|Zg (VQ rfl i 9 dT)<|ZQ ZX<|ZC rfl ⟨g1,0,none⟩ (.agg CC) (Vf.out _ _ (by first | exact hX | exact nJ))<|ZQ (Z9 i) <|
       YD (Z9 cv) (fun w'=>Below wr.heap.size wr w') (CV wr) (fun V2 hb2=>?_)
      refine ZQ (Z9 i)<|YD (Z9 lo) (fun w'=>Below V2.heap.size V2 w') (CL V2) (fun V3 hb3=>?_);have Nz:=hb2.trans (hb3.mono hb2.size);have nJ:=hX.below hX.lt Nz;refine Zg (ZG rfl cv lo (decide_eq_false h1))<|ZQ ZY<|ZC rfl ⟨g1,0,none⟩ (.agg CC) (Vf.out _ _ (by first | exact hX | exact nJ))<|ZQ (Z9 i) <|
       YD (Z9 cv) (fun w'=>Below V3.heap.size V3 w') (CV V3) (fun V4 hb4=>?_)
      refine ZQ (Z9 i)<|YD (Z9 up) (fun w'=>Below V4.heap.size V4 w') (CG V4) (fun V5 hb5=>?_);refine Zg (YO rfl cv up (decide_eq_true h2))<|ZB ZX ZX<|wn ?_;simp only[pu];have HR5:=Z8 (HR.out.trans ((Nz.trans ((hb4.trans (hb5.mono hb4.size)).mono Nz.size)).mono HR.out.size));obtain rfl:=HB2.out fun h=>(by omega);have HE:=Z8 (HB1.out.trans (HR5.out.mono HB1.out.size));clear CV CL CG HV HBAD RF Vf H10 hX nJ hb2 hb3 Nz hb4 hb5 HST HB2 HP;go_upto_region 5 with fail;refine wl<|ZQ (Z9 1)<|wn ?_;simp only[pu];go_wp2_with fail;go_ret;exact⟨rfl,HE.out⟩
     ·go_upto_region 4 with fail;refine wl<|ZQ (Z9 i)<|Zg (VQ rfl i 9 dT)<|ZQ ZX<|ZC rfl ⟨g1,0,none⟩ (.agg CC) (Vf.out _ _ (by first | exact hX | exact nJ))<|ZQ (Z9 i) <|
       YD (Z9 cv) (fun w'=>Below wr.heap.size wr w') (CV wr) (fun V2 hb2=>?_)
      refine ZQ (Z9 i)<|YD (Z9 lo) (fun w'=>Below V2.heap.size V2 w') (CL V2) (fun V3 hb3=>?_);have Nz:=hb2.trans (hb3.mono hb2.size);have nJ:=hX.below hX.lt Nz;refine Zg (ZG rfl cv lo (decide_eq_false h1))<|ZQ ZY<|ZC rfl ⟨g1,0,none⟩ (.agg CC) (Vf.out _ _ (by first | exact hX | exact nJ))<|ZQ (Z9 i) <|
       YD (Z9 cv) (fun w'=>Below V3.heap.size V3 w') (CV V3) (fun V4 hb4=>?_)
      refine ZQ (Z9 i)<|YD (Z9 up) (fun w'=>Below V4.heap.size V4 w') (CG V4) (fun V5 hb5=>?_);refine Zg (YO rfl cv up (decide_eq_false h2))<|ZB ZY ZY<|wn ?_;simp only[pu];have HR5:=Z8 (HR.out.trans ((Nz.trans ((hb4.trans (hb5.mono hb4.size)).mono Nz.size)).mono HR.out.size));have HP2:=Z8 (HST.out (by omega) (by omega));clear CV CL CG hX nJ hb2 hb3 Nz hb4 hb5 HST HB2 HP h1 h2;go_upto_region 6 with fail;refine wl<|Za (Z9 (i+1:Nat)) (add_one rfl i (by omega) (by kernel_rfl) _)<|ZQ (Z9 (i+1:Nat))<|wn ?_;simp only[pu];go_wp2_with fail;go_roundg (12-(i+1))
      case measure=>have:=WH.out; omega
      case rel=>exact⟨i+1,rfl,by omega,by omega,HP2,HR5⟩
  ·obtain rfl:i=12:=(by omega);have hf:=RF.out HP.out;obtain⟨hl1,hl2⟩:=H10.out _ _ hX;have HE:=Z8 (HB1.out.trans (HR.out.mono HB1.out.size));generalize c.getD 10 0=a at *
   generalize c.getD 11 0=b at *
   clear HP HBAD RF Vf H10 HV hX;go_upto_region 2 with fail;refine wl<|Zg (ZG rfl ((12:Nat)) (12) dF)<|wn ?_;simp only[pu];by_cases hab:a<b
   ·rw[if_pos hab] at hf;obtain rfl:=hf;go_upto_region 7 with fail;refine wl<|ZQ (Z7 g1 10)<|ZC rfl ⟨g1,10,none⟩ (Z9 a) (hl1)<|ZQ (Z7 g1 11)<|ZC rfl ⟨g1,11,none⟩ (Z9 b) (hl2)<|Zg (Va rfl a b dF) <|
     wpList_nil ?_
    simp only[pu];clear hl1 hl2;go_upto_region 9 with fail;refine wl<|ZQ (Z9 0)<|wn ?_;simp only[pu];go_wp2_with fail;go_ret;exact⟨rfl,HE.out⟩
   ·rw[if_neg hab] at hf;obtain rfl:=hf;go_upto_region 7 with fail;refine wl<|ZQ (Z7 g1 10)<|ZC rfl ⟨g1,10,none⟩ (Z9 a) (hl1)<|ZQ (Z7 g1 11)<|ZC rfl ⟨g1,11,none⟩ (Z9 b) (hl2)<|Zg (Va rfl a b dT) <|
     wpList_nil ?_
    simp only[pu];clear hl1 hl2;go_upto_region 8 with fail;refine wl<|ZQ (Z9 1)<|wn ?_;simp only[pu];go_wp2_with fail;go_ret;exact⟨rfl,HE.out⟩
abbrev Bj (m:Bool)(s:Int):Array Value:=#[.bool m,ZV s]
def Rz (n:Int):Int:=if n<0 then -n else n
def Jb (m1:Bool)(s1:Int)(m2:Bool)(s2:Int):Bool:=match m1,m2 with
 | true,true=>decide (s2<s1)
 | false,false=>decide (s1<s2)
 | true,false=>true
 | false,true=>false
def iT (lo hi:Int)(m:Bool)(s:Int):Bool:=!(Jb m s (decide (lo<0)) (Rz lo)) && !(Jb false hi m s)
theorem iZ {lo hi v:Int}(hh:0<=hi):iT lo hi (decide (v<0)) (Rz v)=(decide (lo<=v) && decide (v<=hi)):=by
 unfold iT Rz;by_cases h1:v<0 <;> by_cases h2:lo<0 <;> simp only[h1,h2,decide_true,decide_false,if_true,if_false,Jb,Bool.not_true,Bool.not_false,Bool.true_and,Bool.false_and]
 ·rw[show decide (v<=hi)=true from decide_eq_true (by omega),Bool.and_true,Bool.and_true];by_cases h3:lo<=v
  ·rw[decide_eq_true h3,decide_eq_false (by omega)]; rfl
  ·rw[decide_eq_false h3,decide_eq_true (by omega)]; rfl
 ·rw[show decide (lo<=v)=false from decide_eq_false (by omega),Bool.false_and]
 ·rw[show decide (lo<=v)=true from decide_eq_true (by omega),Bool.true_and];by_cases h3:v<=hi
  ·rw[decide_eq_true h3,decide_eq_false (by omega)]; rfl
  ·rw[decide_eq_false h3,decide_eq_true (by omega)]; rfl
 ·by_cases h3:v<=hi <;> by_cases h4:lo<=v
  ·rw[decide_eq_true h3,decide_eq_true h4,decide_eq_false (show ¬ v<lo by omega),decide_eq_false (show ¬ hi<v by omega)]; rfl
  ·rw[decide_eq_true h3,decide_eq_false h4,decide_eq_true (show v<lo by omega)]; rfl
  ·rw[decide_eq_false h3,decide_eq_true h4,decide_eq_false (show ¬ v<lo by omega),decide_eq_true (show hi<v by omega)]; rfl
  ·rw[decide_eq_false h3,decide_eq_false h4,decide_eq_true (show v<lo by omega)]; rfl
theorem Vw {w:World}{g k:Nat}{m:Bool}{s:Int}(h:Bx w g (Bj m s) k):(Instr.loadAt 155 (Z7 g 0)).run Tryz.prog w=.ok (.agg (Bj m s)) w:=run_loadAt_mid w g 0 155 (Bj m s).toList _ (ZU (cs:=(Bj m s).toList) h) Tryz.underlying155 rfl (by kernel_rfl)
theorem Bh {n:Int}(h:-9223372036854775808<=n/\n<9223372036854775808):IntKind.u64.wrap (if IntKind.i64.wrap (-n) > n then IntKind.i64.wrap (-n) else n)=Rz n:=by
 unfold Rz;by_cases h0:n=-9223372036854775808
 ·subst h0; decide +kernel
 ·have e:IntKind.i64.wrap (-n)=-n:=by
   rw[show IntKind.i64.wrap (-n)=(-n+9223372036854775808) % 18446744073709551616-9223372036854775808 by simp[IntKind.wrap,IntKind.signed,IntKind.bits]; omega];omega
  rw[e,IntKind.wrap_u64]
  split <;> split <;> omega
section
variable {ρ : Operand -> Value} {o : Oper} {x y : Operand}
theorem rM (ho:o.op=.call { callee:=.builtin .max,args:=#[x,y],argTypes:=#[3,3] })(a b:Int)(hx:ρ x=Z9 a)(hy:ρ y=Z9 b)(w:World):(execOp ρ o).run Tryz.prog w=.ok (.value (Z9 (if b > a then b else a))) w:=by
 unfold execOp;simp only[ho,hx,hy];go_simp;all_goals (by_cases hab:a<b <;> first | (rw[if_pos hab,Int.max_eq_right (by omega)]) | (rw[if_neg hab,Int.max_eq_left (by omega)]))
theorem ap8 (ho:o.op=.unOp .neg 3 x)(a:Int)(hx:ρ x=Z9 a)(w:World):(execOp ρ o).run Tryz.prog w=.ok (.value (Z9 (IntKind.i64.wrap (-a)))) w:=by
 unfold execOp;simp only[ho,hx];go_simp
theorem pX (ho:o.op=.convert 3 23 x)(a b:Int)(hb:IntKind.u64.wrap a=b)(hx:ρ x=Z9 a)(w:World):(execOp ρ o).run Tryz.prog w=.ok (.value (ZV b)) w:=by
 unfold execOp;simp only[ho,hx];go_simp
theorem O9 (ho:o.op=.binOp .neq 4 x y 4)(a b:Bool){t:Bool}(ht:(a != b)=t)(hx:ρ x=.bool a)(hy:ρ y=.bool b)(w:World):(execOp ρ o).run Tryz.prog w=.ok (.value (.bool t)) w:=by
 subst ht;unfold execOp;simp only[ho,hx,hy];cases a <;> cases b <;> go_simp
end
theorem GU {n:Int}(hn:-9223372036854775808<=n/\n<9223372036854775808)(w:World):Calls Tryz.prog 110 #[Z9 n] w fun e w'=>e=.returned (.agg (Bj (decide (n<0)) (Rz n)))/\Below w.heap.size w w':=by
 have HA:=Bh hn;obtain⟨V2,hst,hb,hY⟩:=Zk (c:=#[ZY,ZV 0]) (c':=Bj (decide (n<0)) (Rz n)) (ty:=155) w rfl (by kernel_rfl) (by kernel_rfl);have Vf:=Z8 (Vw hY);have HE:=Z8 hb;clear hb hY;obtain⟨y,hy⟩:=ZR (IntKind.i64.wrap (-n));have HY:=Z8 hy;rw[hy] at HA;obtain⟨x8,h8⟩:=ZR ((if y > n then y else n));have H8:=Z8 h8;rw[h8] at HA;clear hy h8;generalize hA:Rz n=A at *
 clear hA;go_enter Tryz.func110,Tryz.ntmps110;go_upto_region 1 with fail;change Code.wp _ _ _ _ (w.alloc (.cells #[ZY,ZV 0] 155));generalize w.alloc (.cells #[ZY,ZV 0] 155)=W at *
 obtain⟨g0,hg0⟩:=ZR w.heap.size;simp only[hg0] at hst Vf ⊢;refine wl<|ZQ (Z9 n)<|Yd (.bool (decide (n<0))) (ZG rfl n 0 rfl)<|ZB (Z9 n) (Z9 n)<|Za (Z9 y) ((by rw[<- HY.out]; exact ap8 rfl n (by kernel_rfl) _)) <|
  Za (Z9 x8) ((by rw[<- H8.out]; exact rM rfl n y (by kernel_rfl) (by kernel_rfl) _))<|Za (ZV A) (pX rfl x8 A HA (by kernel_rfl) _)<|ZQ (.agg #[.bool (decide (n<0)),ZV A])<|Yb rfl (hst)<|wn ?_
 simp only[pu];go_wp2_with fail;exact bodyPost_ret (YV rfl (by kernel_rfl) Vf.out) rfl ⟨rfl,HE.out⟩
theorem pW (m1 m2:Bool)(s1 s2:Int)(w:World):Calls Tryz.prog 109 #[.agg (Bj m1 s1),.agg (Bj m2 s2)] w fun e w'=>e=.returned (.bool (Jb m1 s1 m2 s2))/\Below w.heap.size w w':=by
 go_enter Tryz.func109,Tryz.ntmps109;go_upto_region 1 with fail;change Code.wp _ _ _ _ ((w.alloc (.cells #[.bool m1,ZV s1] 155)).alloc (.cells #[.bool m2,ZV s2] 155));have Zd:Below w.heap.size w (w.alloc (.cells #[.bool m1,ZV s1] 155)):=(Below.refl _ w).alloc (Nat.le_refl _) _;have hX2:Bx (w.alloc (.cells #[.bool m1,ZV s1] 155)) w.heap.size #[.bool m1,ZV s1] 155:=heap_alloc_last w _;have Yg:(w.alloc (.cells #[.bool m1,ZV s1] 155)).heap.size=w.heap.size+1:=by simp
 generalize w.alloc (.cells #[.bool m1,ZV s1] 155)=YP at *
 have XE:Below w.heap.size w (YP.alloc (.cells #[.bool m2,ZV s2] 155)):=Zd.alloc Zd.size _;have hX2:=hX2.below hX2.lt ((Below.refl _ YP).alloc (Nat.le_refl _) (.cells #[.bool m2,ZV s2] 155));have Zr:Bx (YP.alloc (.cells #[.bool m2,ZV s2] 155)) YP.heap.size #[.bool m2,ZV s2] 155:=heap_alloc_last YP _;have Vg:(YP.alloc (.cells #[.bool m2,ZV s2] 155)).heap.size=YP.heap.size+1:=by simp
 generalize YP.alloc (.cells #[.bool m2,ZV s2] 155)=W at *
 obtain⟨g2,hg2⟩:=ZR w.heap.size;rw[hg2] at hX2;obtain⟨g3,hg3⟩:=ZR YP.heap.size;rw[hg3] at Zr;have hq1:w.heap.size+1=g3:=by omega
 have Xm:Hid (g2=w.heap.size+0/\g3=w.heap.size+1/\W.heap.size=w.heap.size+2):=Z8 ⟨by omega,by omega,by omega⟩;have HB:=Z8 XE;simp only[hg2];try simp only[show g2+1=g3 by omega]
 clear Zd Yg hg2 XE Vg hg3 hq1;have HE:=Z8 HB.out;clear Xm HB;cases m1 <;> cases m2
 ·refine wl<|ZQ (Z7 g2 0)<|ZC rfl ⟨g2,0,none⟩ ZY (hX2.ZM 0)<|ZQ (Z7 g3 0)<|ZC rfl ⟨g3,0,none⟩ ZY (Zr.ZM 0) <|
   Yd ZY (O9 rfl false false rfl)<|wn ?_
  simp only[pu];go_upto_region 3 with fail;refine wl<|ZQ (Z7 g2 0)<|ZC rfl ⟨g2,0,none⟩ ZY (hX2.ZM 0)<|wn ?_;simp only[pu];go_upto_region 5 with fail;refine wl<|ZQ (Z7 g2 1)<|ZC rfl ⟨g2,1,none⟩ (ZV s1) (hX2.ZM 1)<|ZQ (Z7 g3 1)<|ZC rfl ⟨g3,1,none⟩ (ZV s2) (Zr.ZM 1) <|
   Yd (.bool (decide (s1<s2))) (QZ rfl s1 s2 rfl)<|ZQ (.bool (decide (s1<s2)))<|wn ?_
  simp only[pu];go_wp2_with fail;go_ret;exact⟨rfl,HE.out⟩
 ·refine wl<|ZQ (Z7 g2 0)<|ZC rfl ⟨g2,0,none⟩ ZY (hX2.ZM 0)<|ZQ (Z7 g3 0)<|ZC rfl ⟨g3,0,none⟩ ZX (Zr.ZM 0) <|
   Yd ZX (O9 rfl false true rfl)<|wn ?_
  simp only[pu];go_upto_region 2 with fail;refine wl<|ZQ (Z7 g2 0)<|ZC rfl ⟨g2,0,none⟩ ZY (hX2.ZM 0)<|ZQ ZY<|wn ?_;simp only[pu];go_wp2_with fail;go_ret;exact⟨rfl,HE.out⟩
 ·refine wl<|ZQ (Z7 g2 0)<|ZC rfl ⟨g2,0,none⟩ ZX (hX2.ZM 0)<|ZQ (Z7 g3 0)<|ZC rfl ⟨g3,0,none⟩ ZY (Zr.ZM 0) <|
   Yd ZX (O9 rfl true false rfl)<|wn ?_
  simp only[pu];go_upto_region 2 with fail;refine wl<|ZQ (Z7 g2 0)<|ZC rfl ⟨g2,0,none⟩ ZX (hX2.ZM 0)<|ZQ ZX<|wn ?_;simp only[pu];go_wp2_with fail;go_ret;exact⟨rfl,HE.out⟩
 ·refine wl<|ZQ (Z7 g2 0)<|ZC rfl ⟨g2,0,none⟩ ZX (hX2.ZM 0)<|ZQ (Z7 g3 0)<|ZC rfl ⟨g3,0,none⟩ ZX (Zr.ZM 0) <|
   Yd ZY (O9 rfl true true rfl)<|wn ?_
  simp only[pu];go_upto_region 3 with fail;refine wl<|ZQ (Z7 g2 0)<|ZC rfl ⟨g2,0,none⟩ ZX (hX2.ZM 0)<|wn ?_;simp only[pu];go_upto_region 4 with fail;refine wl<|ZQ (Z7 g2 1)<|ZC rfl ⟨g2,1,none⟩ (ZV s1) (hX2.ZM 1)<|ZQ (Z7 g3 1)<|ZC rfl ⟨g3,1,none⟩ (ZV s2) (Zr.ZM 1) <|
   Yd (.bool (decide (s2<s1))) (KH rfl s1 s2 rfl)<|ZQ (.bool (decide (s2<s1)))<|wn ?_
  simp only[pu];go_wp2_with fail;go_ret;exact⟨rfl,HE.out⟩
theorem qg (k fv:Value)(hk1:k.oneCell'=true)(hk2:fv.oneCell'=true){lo hi:Int}(hlo:-9223372036854775808<=lo/\lo<9223372036854775808)(m:Bool)(s:Int)(w:World):Calls Tryz.prog 83 #[.agg #[k,fv,Z9 lo,ZV hi],.agg (Bj m s)] w fun e w'=>e=.returned (.bool (iT lo hi m s))/\Below w.heap.size w w':=by
 have CW:=fun V=>GU hlo V;have C1:=fun V=>pW m (decide (lo<0)) s (Rz lo) V;have C2:=fun V=>pW false m hi s V;unfold iT;generalize Jb m s (decide (lo<0)) (Rz lo)=q1 at *
 generalize Jb false hi m s=q2 at *
 generalize decide (lo<0)=b at *
 generalize Rz lo=z at *
 clear hlo;go_enter Tryz.func83,Tryz.ntmps83;go_upto_region 1 with fail;change Code.wp _ _ _ _ ((w.alloc (.cells #[k,fv,Z9 lo,ZV hi] 152)).alloc (.cells #[.bool m,ZV s] 155));have Zd:Below w.heap.size w (w.alloc (.cells #[k,fv,Z9 lo,ZV hi] 152)):=(Below.refl _ w).alloc (Nat.le_refl _) _;have hX2:Bx (w.alloc (.cells #[k,fv,Z9 lo,ZV hi] 152)) w.heap.size #[k,fv,Z9 lo,ZV hi] 152:=heap_alloc_last w _;have Yg:(w.alloc (.cells #[k,fv,Z9 lo,ZV hi] 152)).heap.size=w.heap.size+1:=by simp
 generalize w.alloc (.cells #[k,fv,Z9 lo,ZV hi] 152)=YP at *
 have XE:Below w.heap.size w (YP.alloc (.cells #[.bool m,ZV s] 155)):=Zd.alloc Zd.size _;have hX2:=hX2.below hX2.lt ((Below.refl _ YP).alloc (Nat.le_refl _) (.cells #[.bool m,ZV s] 155));have Zr:Bx (YP.alloc (.cells #[.bool m,ZV s] 155)) YP.heap.size #[.bool m,ZV s] 155:=heap_alloc_last YP _;have Vg:(YP.alloc (.cells #[.bool m,ZV s] 155)).heap.size=YP.heap.size+1:=by simp
 generalize YP.alloc (.cells #[.bool m,ZV s] 155)=W at *
 obtain⟨g2,hg2⟩:=ZR w.heap.size;rw[hg2] at hX2;obtain⟨g3,hg3⟩:=ZR YP.heap.size;rw[hg3] at Zr;have hq1:w.heap.size+1=g3:=by omega
 have Xm:Hid (g2=w.heap.size+0/\g3=w.heap.size+1/\W.heap.size=w.heap.size+2):=Z8 ⟨by omega,by omega,by omega⟩;have HB:=Z8 XE;simp only[hg2];try simp only[show g2+1=g3 by omega]
 clear Zd Yg hg2 XE Vg hg3 hq1;clear Xm;cases q1
 ·cases q2
  ·refine ZT (C:=fun U=>Below W.heap.size W U) (by kernel_rfl) (by kernel_rfl) ((Below.refl _ W).drew) ?_;refine Zx rfl ⟨g3,0,none⟩ (.agg #[.bool m,ZV s]) (fun U hU=>Vw (Zr.below Zr.lt hU))<|gy (Z7 g2 2)<|Zx rfl ⟨g2,2,none⟩ (Z9 lo) (fun U hU=>(hX2.below hX2.lt hU).ZM 2) ?_;refine ZA (by kernel_rfl) (some 8) rfl 110 #[Z9 lo] (.agg #[.bool b,ZV z]) (fun U hU=>by kernel_rfl) (fun U hU=>(CW U).mono fun e w2 z=>⟨z.1,hU.trans (z.2.mono hU.size)⟩) ?_;refine ZA (by kernel_rfl) (some 9) rfl 109 #[.agg #[.bool m,ZV s],.agg #[.bool b,ZV z]] ZY (fun U hU=>by kernel_rfl) (fun U hU=>(C1 U).mono fun e w2 z=>⟨z.1,hU.trans (z.2.mono hU.size)⟩) ?_;refine gy ZX<|gy ZX<|gy (Z7 g2 3)<|Zx rfl ⟨g2,3,none⟩ (ZV hi) (fun U hU=>(hX2.below hX2.lt hU).ZM 3)<|gy (.agg #[ZY,ZV hi]) <|
     Zx rfl ⟨g3,0,none⟩ (.agg #[.bool m,ZV s]) (fun U hU=>Vw (Zr.below Zr.lt hU)) ?_
   refine ZA (by kernel_rfl) (some 16) rfl 109 #[.agg #[ZY,ZV hi],.agg #[.bool m,ZV s]] ZY (fun U hU=>by kernel_rfl) (fun U hU=>(C2 U).mono fun e w2 z=>⟨z.1,hU.trans (z.2.mono hU.size)⟩) ?_;refine gy ZX<|gy ZX<|gy ZX ?_;simp only[pu];apply wpQuiet_nil;intro V hV;go_wp2_with fail;go_ret;exact⟨rfl,HB.out.trans (hV.mono HB.out.size)⟩
  ·refine ZT (C:=fun U=>Below W.heap.size W U) (by kernel_rfl) (by kernel_rfl) ((Below.refl _ W).drew) ?_;refine Zx rfl ⟨g3,0,none⟩ (.agg #[.bool m,ZV s]) (fun U hU=>Vw (Zr.below Zr.lt hU))<|gy (Z7 g2 2)<|Zx rfl ⟨g2,2,none⟩ (Z9 lo) (fun U hU=>(hX2.below hX2.lt hU).ZM 2) ?_;refine ZA (by kernel_rfl) (some 8) rfl 110 #[Z9 lo] (.agg #[.bool b,ZV z]) (fun U hU=>by kernel_rfl) (fun U hU=>(CW U).mono fun e w2 z=>⟨z.1,hU.trans (z.2.mono hU.size)⟩) ?_;refine ZA (by kernel_rfl) (some 9) rfl 109 #[.agg #[.bool m,ZV s],.agg #[.bool b,ZV z]] ZY (fun U hU=>by kernel_rfl) (fun U hU=>(C1 U).mono fun e w2 z=>⟨z.1,hU.trans (z.2.mono hU.size)⟩) ?_;refine gy ZX<|gy ZX<|gy (Z7 g2 3)<|Zx rfl ⟨g2,3,none⟩ (ZV hi) (fun U hU=>(hX2.below hX2.lt hU).ZM 3)<|gy (.agg #[ZY,ZV hi]) <|
     Zx rfl ⟨g3,0,none⟩ (.agg #[.bool m,ZV s]) (fun U hU=>Vw (Zr.below Zr.lt hU)) ?_
   refine ZA (by kernel_rfl) (some 16) rfl 109 #[.agg #[ZY,ZV hi],.agg #[.bool m,ZV s]] ZX (fun U hU=>by kernel_rfl) (fun U hU=>(C2 U).mono fun e w2 z=>⟨z.1,hU.trans (z.2.mono hU.size)⟩) ?_;refine gy ZY<|gy ZY<|gy ZY ?_;simp only[pu];apply wpQuiet_nil;intro V hV;go_wp2_with fail;go_ret;exact⟨rfl,HB.out.trans (hV.mono HB.out.size)⟩
 ·refine ZT (C:=fun U=>Below W.heap.size W U) (by kernel_rfl) (by kernel_rfl) ((Below.refl _ W).drew) ?_;refine Zx rfl ⟨g3,0,none⟩ (.agg #[.bool m,ZV s]) (fun U hU=>Vw (Zr.below Zr.lt hU))<|gy (Z7 g2 2)<|Zx rfl ⟨g2,2,none⟩ (Z9 lo) (fun U hU=>(hX2.below hX2.lt hU).ZM 2) ?_;refine ZA (by kernel_rfl) (some 8) rfl 110 #[Z9 lo] (.agg #[.bool b,ZV z]) (fun U hU=>by kernel_rfl) (fun U hU=>(CW U).mono fun e w2 z=>⟨z.1,hU.trans (z.2.mono hU.size)⟩) ?_;refine ZA (by kernel_rfl) (some 9) rfl 109 #[.agg #[.bool m,ZV s],.agg #[.bool b,ZV z]] ZX (fun U hU=>by kernel_rfl) (fun U hU=>(C1 U).mono fun e w2 z=>⟨z.1,hU.trans (z.2.mono hU.size)⟩) ?_;refine gy ZY<|gy ZY<|Zh<|Zh<|Zh<|Zh<|Zh<|Zh<|gy ZY<|gy ZY ?_;simp only[pu];apply wpQuiet_nil;intro V hV;go_wp2_with fail;go_ret;exact⟨rfl,HB.out.trans (hV.mono HB.out.size)⟩
def grP:List Int:=[512,1048576,4096,1024,1073741824,1073741824,1,1048576,1125899906842624,18446744073709551615,7,8]
def tyN (j:Nat):Nat:=if j=6 then 191 else if j=9 then 192 else 190
abbrev zF (g j:Nat):Array Value:=#[.string (keysB.getD j ⟨#[]⟩),.iface (tyN j) (Z7 g j),Z9 (X8.getD j 0),ZV (grP.getD j 0)]
def sgL (g j:Nat):List Value:=(zF g j).toList
def dD (g:Nat):List Value:=(List.range 12).flatMap (sgL g)
theorem ap7:(Tryz.prog.info? 152).map (fun i=>(i.zero,i.size,i.bytes))=some (some (.agg #[.string ByteArray.empty,.nilIface,Z9 0,ZV 0]),4,48):=by kernel_rfl
theorem pY (g:Nat)(V:World):(Instr.buildSlice 148 12 #[(0,.agg #[.string ⟨#[109,97,120,45,116,120,115]⟩,.iface 190 (Z7 g 0),Z9 1,ZV 512]),(1,.agg #[.string ⟨#[109,97,120,45,98,121,116,101,115]⟩,.iface 190 (Z7 g 1),Z9 1,ZV 1048576]),(2,.agg #[.string ⟨#[109,97,120,45,116,120,45,98,121,116,101,115]⟩,.iface 190 (Z7 g 2),Z9 1,ZV 4096]),(3,.agg #[.string ⟨#[99,97,99,104,101,45,115,105,122,101]⟩,.iface 190 (Z7 g 3),Z9 0,ZV 1024]),(4,.agg #[.string ⟨#[116,116,108,45,98,108,111,99,107,115]⟩,.iface 190 (Z7 g 4),Z9 0,ZV 1073741824]),(5,.agg #[.string ⟨#[116,116,108,45,116,105,109,101]⟩,.iface 190 (Z7 g 5),Z9 0,ZV 1073741824]),(6,.agg #[.string ⟨#[107,101,101,112,45,105,110,118,97,108,105,100]⟩,.iface 191 (Z7 g 6),Z9 0,ZV 1]),(7,.agg #[.string ⟨#[98,108,111,99,107,45,98,121,116,101,115]⟩,.iface 190 (Z7 g 7),Z9 1,ZV 1048576]),(8,.agg #[.string ⟨#[98,108,111,99,107,45,103,97,115]⟩,.iface 190 (Z7 g 8),Z9 (-1),ZV 1125899906842624]),(9,.agg #[.string ⟨#[112,114,105,99,101]⟩,.iface 192 (Z7 g 9),Z9 0,ZV 18446744073709551615]),(10,.agg #[.string ⟨#[115,101,108,102]⟩,.iface 190 (Z7 g 10),Z9 0,ZV 7]),(11,.agg #[.string ⟨#[110,111,100,101,115]⟩,.iface 190 (Z7 g 11),Z9 1,ZV 8])]).run Tryz.prog V=.ok (.slice (some ⟨V.heap.size,0,none⟩) 12 12) (V.alloc (.cells (dD g).toArray 152)):=by
 obtain⟨i0,hi,hz0,hz1,hz2⟩:=info_parts ap7;refine run_buildSlice V 148 152 12 _ (dD g).toArray i0 _ Tryz.underlying148 hi hz0 (by rw[hz1]; omega) (by rw[hz1]; omega) ?_;rw[hz1];kernel_rfl
theorem ag0 {c:List Int}{j:Nat}(hj:j<12):(Zu c)[j]?=some (if j=6 then .bool (decide (c.getD 6 0=1)) else if j=9 then ZV (c.getD 9 0) else Z9 (c.getD j 0)):=by
 match j,hj with
 | 0,_=>rfl
 | 1,_=>rfl
 | 2,_=>rfl
 | 3,_=>rfl
 | 4,_=>rfl
 | 5,_=>rfl
 | 6,_=>rfl
 | 7,_=>rfl
 | 8,_=>rfl
 | 9,_=>rfl
 | 10,_=>rfl
 | 11,_=>rfl
section
variable {ρ : Operand -> Value} {o : Oper} {x y : Operand}
end
theorem Bl (g:Nat)(w:World):Calls Tryz.prog 82 #[Z7 g 0] w fun e w'=>∃ v,e=.returned v/\∃ gs,v=.slice (some ⟨gs,0,none⟩) 12 12/\Bx w' gs (dD g).toArray 152/\w.heap.size<=gs/\Below w.heap.size w w':=by
 have HF:Hid (∀ V,Below w.heap.size w V->∃ gs,(.slice (some ⟨V.heap.size,0,none⟩) 12 12:Value)=.slice (some ⟨gs,0,none⟩) 12 12/\Bx (V.alloc (.cells (dD g).toArray 152)) gs (dD g).toArray 152/\w.heap.size<=gs/\Below w.heap.size w (V.alloc (.cells (dD g).toArray 152))):=Z8 fun V h=>⟨_,rfl,heap_alloc_last V _,h.size,h.alloc h.size _⟩;have HBU:=Z8 (pY g);go_enter Tryz.func82,Tryz.ntmps82;go_upto_region 0 with fail;refine wl<|ZQ (.slice none 0 0)<|wn ?_;simp only[pu];go_upto_region 1 with fail;refine ZP (C:=fun U=>Below w.heap.size w U) 60 (by kernel_rfl) (by kernel_rfl) ((Below.refl _ w).drew) ?_;simp only[List.take_succ_cons,List.take_zero,List.drop_succ_cons,List.drop_zero];refine gy (Z7 g 0)<|gy (Z7 g 0)<|gy (Z7 g 0)<|gy (.iface 190 (Z7 g 0))<|gy (.agg #[.string ⟨#[109,97,120,45,116,120,115]⟩,.iface 190 (Z7 g 0),Z9 1,ZV 512]) <|
   gy (Z7 g 0)<|gy (Z7 g 0)<|gy (Z7 g 1)<|gy (.iface 190 (Z7 g 1)) <|
   gy (.agg #[.string ⟨#[109,97,120,45,98,121,116,101,115]⟩,.iface 190 (Z7 g 1),Z9 1,ZV 1048576])<|gy (Z7 g 0)<|gy (Z7 g 0)<|gy (Z7 g 2) <|
   gy (.iface 190 (Z7 g 2))<|gy (.agg #[.string ⟨#[109,97,120,45,116,120,45,98,121,116,101,115]⟩,.iface 190 (Z7 g 2),Z9 1,ZV 4096])<|gy (Z7 g 0)<|gy (Z7 g 0) <|
   gy (Z7 g 3)<|gy (.iface 190 (Z7 g 3))<|gy (.agg #[.string ⟨#[99,97,99,104,101,45,115,105,122,101]⟩,.iface 190 (Z7 g 3),Z9 0,ZV 1024])<|gy (Z7 g 0) <|
   gy (Z7 g 0)<|gy (Z7 g 4)<|gy (.iface 190 (Z7 g 4))<|gy (.agg #[.string ⟨#[116,116,108,45,98,108,111,99,107,115]⟩,.iface 190 (Z7 g 4),Z9 0,ZV 1073741824]) <|
   gy (Z7 g 0)<|gy (Z7 g 0)<|gy (Z7 g 5)<|gy (.iface 190 (Z7 g 5)) <|
   gy (.agg #[.string ⟨#[116,116,108,45,116,105,109,101]⟩,.iface 190 (Z7 g 5),Z9 0,ZV 1073741824])<|gy (Z7 g 0)<|gy (Z7 g 0)<|gy (Z7 g 6) <|
   gy (.iface 191 (Z7 g 6))<|gy (.agg #[.string ⟨#[107,101,101,112,45,105,110,118,97,108,105,100]⟩,.iface 191 (Z7 g 6),Z9 0,ZV 1])<|gy (Z7 g 0)<|gy (Z7 g 0) <|
   gy (Z7 g 7)<|gy (.iface 190 (Z7 g 7))<|gy (.agg #[.string ⟨#[98,108,111,99,107,45,98,121,116,101,115]⟩,.iface 190 (Z7 g 7),Z9 1,ZV 1048576])<|gy (Z7 g 0) <|
   gy (Z7 g 0)<|gy (Z7 g 8)<|gy (.iface 190 (Z7 g 8))<|gy (.agg #[.string ⟨#[98,108,111,99,107,45,103,97,115]⟩,.iface 190 (Z7 g 8),Z9 (-1),ZV 1125899906842624]) <|
   gy (Z7 g 0)<|gy (Z7 g 0)<|gy (Z7 g 9)<|gy (.iface 192 (Z7 g 9))<|gy (.agg #[.string ⟨#[112,114,105,99,101]⟩,.iface 192 (Z7 g 9),Z9 0,ZV 18446744073709551615]) <|
   gy (Z7 g 0)<|gy (Z7 g 0)<|gy (Z7 g 10)<|gy (.iface 190 (Z7 g 10))<|gy (.agg #[.string ⟨#[115,101,108,102]⟩,.iface 190 (Z7 g 10),Z9 0,ZV 7]) <|
   gy (Z7 g 0)<|gy (Z7 g 0)<|gy (Z7 g 11)<|gy (.iface 190 (Z7 g 11))<|gy (.agg #[.string ⟨#[110,111,100,101,115]⟩,.iface 190 (Z7 g 11),Z9 1,ZV 8]) ?_
 simp only[pu];apply wpQuiet_nil;intro V hV;have hf:=HF.out V hV;refine Zm (by kernel_rfl) (some 63) rfl 148 12 #[(0,.tmp 7),(1,.tmp 12),(2,.tmp 17),(3,.tmp 22),(4,.tmp 27),(5,.tmp 32),(6,.tmp 37),(7,.tmp 42),(8,.tmp 47),(9,.tmp 52),(10,.tmp 57),(11,.tmp 62)] rfl #[(0,(.agg #[.string ⟨#[109,97,120,45,116,120,115]⟩,.iface 190 (Z7 g 0),Z9 1,ZV 512])),(1,(.agg #[.string ⟨#[109,97,120,45,98,121,116,101,115]⟩,.iface 190 (Z7 g 1),Z9 1,ZV 1048576])),(2,(.agg #[.string ⟨#[109,97,120,45,116,120,45,98,121,116,101,115]⟩,.iface 190 (Z7 g 2),Z9 1,ZV 4096])),(3,(.agg #[.string ⟨#[99,97,99,104,101,45,115,105,122,101]⟩,.iface 190 (Z7 g 3),Z9 0,ZV 1024])),(4,(.agg #[.string ⟨#[116,116,108,45,98,108,111,99,107,115]⟩,.iface 190 (Z7 g 4),Z9 0,ZV 1073741824])),(5,(.agg #[.string ⟨#[116,116,108,45,116,105,109,101]⟩,.iface 190 (Z7 g 5),Z9 0,ZV 1073741824])),(6,(.agg #[.string ⟨#[107,101,101,112,45,105,110,118,97,108,105,100]⟩,.iface 191 (Z7 g 6),Z9 0,ZV 1])),(7,(.agg #[.string ⟨#[98,108,111,99,107,45,98,121,116,101,115]⟩,.iface 190 (Z7 g 7),Z9 1,ZV 1048576])),(8,(.agg #[.string ⟨#[98,108,111,99,107,45,103,97,115]⟩,.iface 190 (Z7 g 8),Z9 (-1),ZV 1125899906842624])),(9,(.agg #[.string ⟨#[112,114,105,99,101]⟩,.iface 192 (Z7 g 9),Z9 0,ZV 18446744073709551615])),(10,(.agg #[.string ⟨#[115,101,108,102]⟩,.iface 190 (Z7 g 10),Z9 0,ZV 7])),(11,(.agg #[.string ⟨#[110,111,100,101,115]⟩,.iface 190 (Z7 g 11),Z9 1,ZV 8]))] (by kernel_rfl) (.slice (some ⟨V.heap.size,0,none⟩) 12 12) _ (HBU.out V) ?_;refine ZQ (.slice (some ⟨V.heap.size,0,none⟩) 12 12)<|wn ?_;simp only[pu];go_wp2_with fail;go_ret;exact⟨_,rfl,hf⟩
theorem ag1 (k:Value)(hk:k.oneCell'=true)(lo hi:Int){n:Int}(hn:-9223372036854775808<=n/\n<9223372036854775808)(g j:Nat)(w:World)(hg:g<w.heap.size)(hl:∀ V,Below w.heap.size w V->(Instr.loadAt 3 (Z7 g j)).run Tryz.prog V=.ok (Z9 n) V):Calls Tryz.prog 84 #[.agg #[k,.iface 190 (Z7 g j),Z9 lo,ZV hi]] w fun e w'=>e=.returned (.agg (Bj (decide (n<0)) (Rz n)))/\Below w.heap.size w w':=by
 have CW:=fun V=>GU hn V;generalize decide (n<0)=b at *
 generalize Rz n=z at *
 clear hn;go_enter Tryz.func84,Tryz.ntmps84;go_upto_region 1 with fail;change Code.wp _ _ _ _ ((w.alloc (.cells #[k,.iface 190 (Z7 g j),Z9 lo,ZV hi] 152)).alloc (.cells #[ZY,ZV 0] 155));have Zd:Below w.heap.size w (w.alloc (.cells #[k,.iface 190 (Z7 g j),Z9 lo,ZV hi] 152)):=(Below.refl _ w).alloc (Nat.le_refl _) _;have hX1:Bx (w.alloc (.cells #[k,.iface 190 (Z7 g j),Z9 lo,ZV hi] 152)) w.heap.size #[k,.iface 190 (Z7 g j),Z9 lo,ZV hi] 152:=heap_alloc_last w _;have Yg:(w.alloc (.cells #[k,.iface 190 (Z7 g j),Z9 lo,ZV hi] 152)).heap.size=w.heap.size+1:=by simp
 generalize w.alloc (.cells #[k,.iface 190 (Z7 g j),Z9 lo,ZV hi] 152)=YP at *
 have XE:Below w.heap.size w (YP.alloc (.cells #[ZY,ZV 0] 155)):=Zd.alloc Zd.size _;have hX1:=hX1.below hX1.lt ((Below.refl _ YP).alloc (Nat.le_refl _) (.cells #[ZY,ZV 0] 155));have hX2:Bx (YP.alloc (.cells #[ZY,ZV 0] 155)) YP.heap.size #[ZY,ZV 0] 155:=heap_alloc_last YP _;have Vg:(YP.alloc (.cells #[ZY,ZV 0] 155)).heap.size=YP.heap.size+1:=by simp
 generalize YP.alloc (.cells #[ZY,ZV 0] 155)=W at *
 obtain⟨g1,hg1⟩:=ZR w.heap.size;rw[hg1] at hX1;obtain⟨g2,hg2⟩:=ZR YP.heap.size;rw[hg2] at hX2;have hq1:w.heap.size+1=g2:=by omega
 have Xm:Hid (g1=w.heap.size+0/\g2=w.heap.size+1/\W.heap.size=w.heap.size+2):=Z8 ⟨by omega,by omega,by omega⟩;have HB:=Z8 XE;simp only[hg1];try simp only[show g1+1=g2 by omega]
 clear Zd Yg hg1 XE Vg hg2 hq1;refine wl<|ZQ (Z7 g1 1)<|ZC rfl ⟨g1,1,none⟩ (.iface 190 (Z7 g j)) (hX1.ZM 1)<|wn ?_;simp only[pu];go_upto_region 2 with fail;refine wl<|YX (.tuple #[Z7 g j,ZX]) ZX (Z7 g j)<|wn ?_;simp only[pu];go_upto_region 3 with fail;refine wl<|ZQ (Z7 g j)<|wn ?_;simp only[pu];have hld:=hl W HB.out;go_upto_region 4 with fail;refine wl<|ZB (Z7 g j) (Z7 g j)<|ZC rfl ⟨g,j,none⟩ (Z9 n) (hld)<|YD (.agg #[.bool b,ZV z]) (fun w'=>Below W.heap.size W w') (CW W) (fun V1 hb1=>?_);obtain⟨V2,hst,hY,hbt⟩:=st_all (cs':=#[.bool b,ZV z]) (ty:=155) (hX2.below hX2.lt hb1) rfl (by kernel_rfl) (by kernel_rfl);refine Yb rfl (hst)<|wn ?_;have HE:Hid (Below w.heap.size w V2):=Z8 ((HB.out.trans (hb1.mono HB.out.size)).trans (hbt.1.mono (by have:=Xm.out; omega)));have Vf:=Z8 (Vw hY);clear hX1 hX2 hb1 hbt hY hld hl;go_wp2_with fail;exact bodyPost_ret (YV (p:=2) rfl (by kernel_rfl) Vf.out) rfl ⟨rfl,HE.out⟩
theorem iW (k:Value)(hk:k.oneCell'=true)(lo hi:Int)(q:Bool)(g j:Nat)(w:World)(hg:g<w.heap.size)(hl:∀ V,Below w.heap.size w V->(Instr.loadAt 4 (Z7 g j)).run Tryz.prog V=.ok (.bool q) V):Calls Tryz.prog 84 #[.agg #[k,.iface 191 (Z7 g j),Z9 lo,ZV hi]] w fun e w'=>e=.returned (.agg (Bj false (if q=true then 1 else 0)))/\Below w.heap.size w w':=by
 have CW:∀ V,Calls Tryz.prog 110 #[Z9 1] V fun e w'=>e=.returned (.agg #[ZY,ZV 1])/\Below V.heap.size V w':=fun V=>GU (n:=1) (by omega) V;go_enter Tryz.func84,Tryz.ntmps84;go_upto_region 1 with fail;change Code.wp _ _ _ _ ((w.alloc (.cells #[k,.iface 191 (Z7 g j),Z9 lo,ZV hi] 152)).alloc (.cells #[ZY,ZV 0] 155));have Zd:Below w.heap.size w (w.alloc (.cells #[k,.iface 191 (Z7 g j),Z9 lo,ZV hi] 152)):=(Below.refl _ w).alloc (Nat.le_refl _) _;have hX1:Bx (w.alloc (.cells #[k,.iface 191 (Z7 g j),Z9 lo,ZV hi] 152)) w.heap.size #[k,.iface 191 (Z7 g j),Z9 lo,ZV hi] 152:=heap_alloc_last w _;have Yg:(w.alloc (.cells #[k,.iface 191 (Z7 g j),Z9 lo,ZV hi] 152)).heap.size=w.heap.size+1:=by simp
 generalize w.alloc (.cells #[k,.iface 191 (Z7 g j),Z9 lo,ZV hi] 152)=YP at *
 have XE:Below w.heap.size w (YP.alloc (.cells #[ZY,ZV 0] 155)):=Zd.alloc Zd.size _;have hX1:=hX1.below hX1.lt ((Below.refl _ YP).alloc (Nat.le_refl _) (.cells #[ZY,ZV 0] 155));have hX2:Bx (YP.alloc (.cells #[ZY,ZV 0] 155)) YP.heap.size #[ZY,ZV 0] 155:=heap_alloc_last YP _;have Vg:(YP.alloc (.cells #[ZY,ZV 0] 155)).heap.size=YP.heap.size+1:=by simp
 generalize YP.alloc (.cells #[ZY,ZV 0] 155)=W at *
 obtain⟨g1,hg1⟩:=ZR w.heap.size;rw[hg1] at hX1;obtain⟨g2,hg2⟩:=ZR YP.heap.size;rw[hg2] at hX2;have hq1:w.heap.size+1=g2:=by omega
 have Xm:Hid (g1=w.heap.size+0/\g2=w.heap.size+1/\W.heap.size=w.heap.size+2):=Z8 ⟨by omega,by omega,by omega⟩;have HB:=Z8 XE;simp only[hg1];try simp only[show g1+1=g2 by omega]
 clear Zd Yg hg1 XE Vg hg2 hq1;refine wl<|ZQ (Z7 g1 1)<|ZC rfl ⟨g1,1,none⟩ (.iface 191 (Z7 g j)) (hX1.ZM 1)<|wn ?_;simp only[pu];go_upto_region 2 with fail;refine wl<|YX (.tuple #[.pointer none,ZY]) ZY (.pointer none)<|wn ?_;simp only[pu];go_upto_region 5 with fail;refine wl<|YX (.tuple #[Z7 g j,ZX]) ZX (Z7 g j)<|wn ?_;simp only[pu];go_upto_region 6 with fail;refine wl<|ZQ (Z7 g j)<|wn ?_;simp only[pu];have hld:=hl W HB.out;cases q
 ·go_upto_region 7 with fail;refine wl<|ZB (Z7 g j) (Z7 g j)<|ZC rfl ⟨g,j,none⟩ ZY (hld)<|wn ?_;simp only[pu];obtain⟨V2,hst,hY,hbt⟩:=st_all (cs':=#[ZY,ZV 0]) (ty:=155) hX2 rfl (by kernel_rfl) (by kernel_rfl);go_upto_region 12 with fail;refine wl<|ZQ (.agg #[ZY,ZV 0])<|Yb rfl (hst)<|wn ?_;simp only[pu];have HE:Hid (Below w.heap.size w V2):=Z8 (HB.out.trans (hbt.1.mono (by have:=Xm.out; omega)));have Vf:=Z8 (Vw hY);clear hX1 hX2 hbt hY hld hl;go_wp2_with fail;exact bodyPost_ret (YV (p:=2) rfl (by kernel_rfl) Vf.out) rfl ⟨rfl,HE.out⟩
 ·go_upto_region 7 with fail;refine wl<|ZB (Z7 g j) (Z7 g j)<|ZC rfl ⟨g,j,none⟩ ZX (hld)<|wn ?_;simp only[pu];go_upto_region 8 with fail;refine wl<|YD (.agg #[ZY,ZV 1]) (fun w'=>Below W.heap.size W w') (CW W) (fun V1 hb1=>?_);obtain⟨V2,hst,hY,hbt⟩:=st_all (cs':=#[ZY,ZV 1]) (ty:=155) (hX2.below hX2.lt hb1) rfl (by kernel_rfl) (by kernel_rfl);refine Yb rfl (hst)<|wn ?_;have HE:Hid (Below w.heap.size w V2):=Z8 ((HB.out.trans (hb1.mono HB.out.size)).trans (hbt.1.mono (by have:=Xm.out; omega)));have Vf:=Z8 (Vw hY);clear hX1 hX2 hbt hY hld hl;go_wp2_with fail;exact bodyPost_ret (YV (p:=2) rfl (by kernel_rfl) Vf.out) rfl ⟨rfl,HE.out⟩
theorem iV (k:Value)(hk:k.oneCell'=true)(lo hi:Int)(n:Int)(g j:Nat)(w:World)(hg:g<w.heap.size)(hl:∀ V,Below w.heap.size w V->(Instr.loadAt 23 (Z7 g j)).run Tryz.prog V=.ok (ZV n) V):Calls Tryz.prog 84 #[.agg #[k,.iface 192 (Z7 g j),Z9 lo,ZV hi]] w fun e w'=>e=.returned (.agg (Bj false n))/\Below w.heap.size w w':=by
 go_enter Tryz.func84,Tryz.ntmps84;go_upto_region 1 with fail;change Code.wp _ _ _ _ ((w.alloc (.cells #[k,.iface 192 (Z7 g j),Z9 lo,ZV hi] 152)).alloc (.cells #[ZY,ZV 0] 155));have Zd:Below w.heap.size w (w.alloc (.cells #[k,.iface 192 (Z7 g j),Z9 lo,ZV hi] 152)):=(Below.refl _ w).alloc (Nat.le_refl _) _;have hX1:Bx (w.alloc (.cells #[k,.iface 192 (Z7 g j),Z9 lo,ZV hi] 152)) w.heap.size #[k,.iface 192 (Z7 g j),Z9 lo,ZV hi] 152:=heap_alloc_last w _;have Yg:(w.alloc (.cells #[k,.iface 192 (Z7 g j),Z9 lo,ZV hi] 152)).heap.size=w.heap.size+1:=by simp
 generalize w.alloc (.cells #[k,.iface 192 (Z7 g j),Z9 lo,ZV hi] 152)=YP at *
 have XE:Below w.heap.size w (YP.alloc (.cells #[ZY,ZV 0] 155)):=Zd.alloc Zd.size _;have hX1:=hX1.below hX1.lt ((Below.refl _ YP).alloc (Nat.le_refl _) (.cells #[ZY,ZV 0] 155));have hX2:Bx (YP.alloc (.cells #[ZY,ZV 0] 155)) YP.heap.size #[ZY,ZV 0] 155:=heap_alloc_last YP _;have Vg:(YP.alloc (.cells #[ZY,ZV 0] 155)).heap.size=YP.heap.size+1:=by simp
 generalize YP.alloc (.cells #[ZY,ZV 0] 155)=W at *
 obtain⟨g1,hg1⟩:=ZR w.heap.size;rw[hg1] at hX1;obtain⟨g2,hg2⟩:=ZR YP.heap.size;rw[hg2] at hX2;have hq1:w.heap.size+1=g2:=by omega
 have Xm:Hid (g1=w.heap.size+0/\g2=w.heap.size+1/\W.heap.size=w.heap.size+2):=Z8 ⟨by omega,by omega,by omega⟩;have HB:=Z8 XE;simp only[hg1];try simp only[show g1+1=g2 by omega]
 clear Zd Yg hg1 XE Vg hg2 hq1;refine wl<|ZQ (Z7 g1 1)<|ZC rfl ⟨g1,1,none⟩ (.iface 192 (Z7 g j)) (hX1.ZM 1)<|wn ?_;simp only[pu];go_upto_region 2 with fail;refine wl<|YX (.tuple #[.pointer none,ZY]) ZY (.pointer none)<|wn ?_;simp only[pu];go_upto_region 5 with fail;refine wl<|YX (.tuple #[.pointer none,ZY]) ZY (.pointer none)<|wn ?_;simp only[pu];go_upto_region 9 with fail;refine wl<|YX (.tuple #[Z7 g j,ZX]) ZX (Z7 g j)<|wn ?_;simp only[pu];go_upto_region 10 with fail;refine wl<|ZQ (Z7 g j)<|wn ?_;simp only[pu];have hld:=hl W HB.out;obtain⟨V2,hst,hY,hbt⟩:=st_all (cs':=#[ZY,ZV n]) (ty:=155) hX2 rfl (by kernel_rfl) (by kernel_rfl);go_upto_region 11 with fail;refine wl<|ZB (Z7 g j) (Z7 g j)<|ZC rfl ⟨g,j,none⟩ (ZV n) (hld)<|ZQ (.agg #[ZY,ZV n])<|Yb rfl (hst)<|wn ?_;simp only[pu];have HE:Hid (Below w.heap.size w V2):=Z8 (HB.out.trans (hbt.1.mono (by have:=Xm.out; omega)));have Vf:=Z8 (Vw hY);clear hX1 hX2 hbt hY hld hl;go_wp2_with fail;exact bodyPost_ret (YV (p:=2) rfl (by kernel_rfl) Vf.out) rfl ⟨rfl,HE.out⟩
theorem iU {j:Nat}(h6:j≠6)(h9:j≠9):tyN j=190:=by
 unfold tyN;rw[if_neg h6,if_neg h9]
theorem iY {c:List Int}(hc:VU c){g k:Nat}(j:Nat)(hj:j<12)(w:World)(hX:Bx w g (Zu c) k):Calls Tryz.prog 84 #[.agg (zF g j)] w fun e w'=>e=.returned (.agg (Bj (decide (c.getD j 0<0)) (Rz (c.getD j 0))))/\Below w.heap.size w w':=by
 have hlt:=hX.lt;have HB:=fun V (h:Below w.heap.size w V)=>hX.below hlt h;obtain⟨-,h6,h90,h91,hn⟩:=hc;by_cases e6:j=6
 ·subst e6;refine(iW _ rfl _ _ (decide (c.getD 6 0=1)) g 6 w hlt fun V h=>(HB V h).ZM 6).mono fun e w' z=>⟨?_,z.2⟩;rw[z.1];rcases h6 with h | h <;> rw[h] <;> rfl
 ·by_cases e9:j=9
  ·subst e9;refine(iV _ rfl _ _ (c.getD 9 0) g 9 w hlt fun V h=>(HB V h).ZM 9).mono fun e w' z=>⟨?_,z.2⟩;rw[z.1,decide_eq_false (by omega)];unfold Rz;rw[if_neg (by omega)]
  ·have e:=iU e6 e9;unfold zF;rw[e];exact ag1 _ rfl _ _ (hn j hj e9) g j w hlt fun V h=>(HB V h).load (i:=j) (by rw[ag0 hj,if_neg e6,if_neg e9]) (by kernel_rfl)
end Go.Proofs.YtnelmomagdcmnaaGreat.Cg
