/-
  Texts joined.
-/
import Derived.Test.YtnelmomagdcmnaaGreatD8
set_option maxRecDepth 100000
set_option maxHeartbeats 8000000
set_option linter.unusedSimpArgs false
set_option linter.unusedVariables false
namespace Go.Proofs.YtnelmomagdcmnaaGreat.Sl
attribute [local irreducible] wpList wpQuiet
open Go.RowKit
section
variable {ρ : Operand -> Value} {o : Oper} {x y : Operand}
theorem Eb (ho:o.op=.call { callee:=.builtin .max,args:=#[x,y],argTypes:=#[3,3] })(a b:Int)(hx:ρ x=.int .i64 a)(hy:ρ y=.int .i64 b)(w:World):(execOp ρ o).run Tryz.prog w=.ok (.value (.int .i64 (max a b))) w:=by
 unfold execOp;simp only[ho,hx,hy,resolve,invoke,builtin,Sem.run_bind,Sem.run_pure,Result.andThen_ok,List.map_toArray,List.map_cons,List.map_nil];simp[go_sem] <;> (by_cases hab:a<b <;> first | (rw[if_pos hab,Int.max_eq_right (by omega)]) | (rw[if_neg hab,Int.max_eq_left (by omega)]))
theorem lD (ho:o.op=.call { callee:=.builtin .min,args:=#[x,y],argTypes:=#[3,3] })(a b:Int)(hx:ρ x=.int .i64 a)(hy:ρ y=.int .i64 b)(w:World):(execOp ρ o).run Tryz.prog w=.ok (.value (.int .i64 (min a b))) w:=by
 unfold execOp;simp only[ho,hx,hy,resolve,invoke,builtin,Sem.run_bind,Sem.run_pure,Result.andThen_ok,List.map_toArray,List.map_cons,List.map_nil];simp[go_sem] <;> (by_cases hab:b<a <;> first | (rw[if_pos hab,Int.min_eq_right (by omega)]) | (rw[if_neg hab,Int.min_eq_left (by omega)]))
end
theorem zx {w:World}{g:Nat}{mo fr ln bt:Int}{a:Option Addr}{n c:Nat}(x y:Int)(hX:Bx w g (hdp mo fr ln bt a n c) 147)(hx:x<0):Calls Tryz.prog 80 #[.pointer (some ⟨g,0,none⟩),.agg #[.int .i64 x,.int .i64 y]] w fun e w'=>e=.returned (.bool false)/\Below w.heap.size w w':=by
 have hb0:Below w.heap.size w (w.alloc (.cells #[.int .i64 x,.int .i64 y] 104)):=(Below.refl _ w).alloc (Nat.le_refl _) _;have hY:Bx (w.alloc (.cells #[.int .i64 x,.int .i64 y] 104)) w.heap.size #[.int .i64 x,.int .i64 y] 104:=heap_alloc_last w _;go_enter Tryz.func80,Tryz.ntmps80;go_upto_region 1 with fail;change Code.wp _ _ _ _ (w.alloc (.cells #[.int .i64 x,.int .i64 y] 104));generalize w.alloc (.cells #[.int .i64 x,.int .i64 y] 104)=W at *
 obtain⟨g3,hg3⟩:=ZR w.heap.size;rw[hg3] at hY;simp only[hg3];have UF:=hX.below hX.lt hb0;have HB:=Z8 hb0;clear hb0 hX hg3;go_upto_region 1 with fail;refine ZU (C:=fun U=>Below W.heap.size W U) (by kernel_rfl) (by kernel_rfl) ((Below.refl _ W).drew) ?_;refine gy (.pointer (some ⟨g,0,none⟩))<|gy (.bool false)<|gy (.bool false)<|gy (.pointer (some ⟨g3,0,none⟩))<|Zj rfl ⟨g3,0,none⟩ (.int .i64 x) (fun U hU=>(hY.below hY.lt hU).ZL 0) <|
   Yz (.bool true) (fun U hU=>Zv rfl (x) (0) dT (by kernel_rfl) (by kernel_rfl) U)<|gy (.bool true)<|gy (.bool true)<|Wx<|Wx<|Wx<|Wx<|Wx<|Wx<|Wx<|Wx<|gy (.bool true) ?_
 simp only[pu];apply wpQuiet_nil;intro V hV;have HE:=HB.out.trans (hV.mono HB.out.size);go_wp2_with fail;go_ret;exact⟨rfl,HE⟩
theorem zu {w:World}{g:Nat}{mo fr ln bt:Int}{a:Option Addr}{n c:Nat}(x y:Int)(hX:Bx w g (hdp mo fr ln bt a n c) 147)(hx:0<=x)(hx2:(n:Int)<=x):Calls Tryz.prog 80 #[.pointer (some ⟨g,0,none⟩),.agg #[.int .i64 x,.int .i64 y]] w fun e w'=>e=.returned (.bool false)/\Below w.heap.size w w':=by
 have hb0:Below w.heap.size w (w.alloc (.cells #[.int .i64 x,.int .i64 y] 104)):=(Below.refl _ w).alloc (Nat.le_refl _) _;have hY:Bx (w.alloc (.cells #[.int .i64 x,.int .i64 y] 104)) w.heap.size #[.int .i64 x,.int .i64 y] 104:=heap_alloc_last w _;go_enter Tryz.func80,Tryz.ntmps80;go_upto_region 1 with fail;change Code.wp _ _ _ _ (w.alloc (.cells #[.int .i64 x,.int .i64 y] 104));generalize w.alloc (.cells #[.int .i64 x,.int .i64 y] 104)=W at *
 obtain⟨g3,hg3⟩:=ZR w.heap.size;rw[hg3] at hY;simp only[hg3];have UF:=hX.below hX.lt hb0;have HB:=Z8 hb0;clear hb0 hX hg3;go_upto_region 1 with fail;refine ZU (C:=fun U=>Below W.heap.size W U) (by kernel_rfl) (by kernel_rfl) ((Below.refl _ W).drew) ?_;refine gy (.pointer (some ⟨g,0,none⟩))<|gy (.bool false)<|gy (.bool false)<|gy (.pointer (some ⟨g3,0,none⟩))<|Zj rfl ⟨g3,0,none⟩ (.int .i64 x) (fun U hU=>(hY.below hY.lt hU).ZL 0) <|
   Yz (.bool false) (fun U hU=>Zv rfl (x) (0) dF (by kernel_rfl) (by kernel_rfl) U)<|gy (.bool false)<|gy (.bool false)<|gy (.pointer (some ⟨g3,0,none⟩))<|Zj rfl ⟨g3,0,none⟩ (.int .i64 x) (fun U hU=>(hY.below hY.lt hU).ZL 0) <|
   gy (.pointer (some ⟨g,0,none⟩))<|gy (.pointer (some ⟨g,0,none⟩))<|gy (.pointer (some ⟨g,1,none⟩))<|Zj rfl ⟨g,1,none⟩ (.slice a n c) (fun U hU=>(UF.below UF.lt hU).ZL 1)<|gy (.int .i64 n) <|
   Yz (.bool true) (fun U hU=>Qq rfl (x) (n) dT (by kernel_rfl) (by kernel_rfl) U)<|gy (.bool true) ?_
 simp only[pu];apply wpQuiet_nil;intro V hV;have HE:=HB.out.trans (hV.mono HB.out.size);go_wp2_with fail;go_ret;exact⟨rfl,HE⟩
theorem J6 {w:World}{g:Nat}{mo fr ln bt:Int}{b n c:Nat}(x y:Int)(hX:Bx w g (hdp mo fr ln bt (some ⟨b,0,none⟩) n c) 147){i:Nat}(hxi:x=i)(hin:i<n){s9:Sn}(hr:w.rangeAt b (0+i*44) (RX s9))(hfu:s9.full=false):Calls Tryz.prog 80 #[.pointer (some ⟨g,0,none⟩),.agg #[.int .i64 x,.int .i64 y]] w fun e w'=>e=.returned (.bool false)/\Below w.heap.size w w':=by
 have hb0:Below w.heap.size w (w.alloc (.cells #[.int .i64 x,.int .i64 y] 104)):=(Below.refl _ w).alloc (Nat.le_refl _) _;have hY:Bx (w.alloc (.cells #[.int .i64 x,.int .i64 y] 104)) w.heap.size #[.int .i64 x,.int .i64 y] 104:=heap_alloc_last w _;subst hxi;have KF:=Zu hr hb0;go_enter Tryz.func80,Tryz.ntmps80;go_upto_region 1 with fail;change Code.wp _ _ _ _ (w.alloc (.cells #[.int .i64 i,.int .i64 y] 104));generalize w.alloc (.cells #[.int .i64 i,.int .i64 y] 104)=W at *
 obtain⟨g3,hg3⟩:=ZR w.heap.size;rw[hg3] at hY;simp only[hg3];have UF:=hX.below hX.lt hb0;have HB:=Z8 hb0;clear hb0 hX hg3;go_upto_region 1 with fail;refine ZU (C:=fun U=>Below W.heap.size W U) (by kernel_rfl) (by kernel_rfl) ((Below.refl _ W).drew) ?_;refine gy (.pointer (some ⟨g,0,none⟩))<|gy (.bool false)<|gy (.bool false)<|gy (.pointer (some ⟨g3,0,none⟩))<|Zj rfl ⟨g3,0,none⟩ (.int .i64 i) (fun U hU=>(hY.below hY.lt hU).ZL 0) <|
   Yz (.bool false) (fun U hU=>Zv rfl (i) (0) dF (by kernel_rfl) (by kernel_rfl) U)<|gy (.bool false)<|gy (.bool false)<|gy (.pointer (some ⟨g3,0,none⟩))<|Zj rfl ⟨g3,0,none⟩ (.int .i64 i) (fun U hU=>(hY.below hY.lt hU).ZL 0) <|
   gy (.pointer (some ⟨g,0,none⟩))<|gy (.pointer (some ⟨g,0,none⟩))<|gy (.pointer (some ⟨g,1,none⟩))<|Zj rfl ⟨g,1,none⟩ (.slice (some ⟨b,0,none⟩) n c) (fun U hU=>(UF.below UF.lt hU).ZL 1)<|gy (.int .i64 n) <|
   Yz (.bool false) (fun U hU=>Qq rfl (i) (n) dF (by kernel_rfl) (by kernel_rfl) U)<|gy (.bool false) ?_
 simp only[pu];apply wpQuiet_nil;intro V hV;have QF:=UF.below UF.lt hV;have Ld:=hY.below hY.lt hV;have xA:=Zu KF hV;have JI:=Z8 (HB.out.trans (hV.mono HB.out.size));clear UF hY KF hV HB hr;go_upto_region 3 with fail;refine ZU (C:=fun U=>Below V.heap.size V U) (by kernel_rfl) (by kernel_rfl) ((Below.refl _ V).drew) ?_;refine gy (.pointer (some ⟨g,0,none⟩))<|gy (.pointer (some ⟨g,0,none⟩))<|gy (.pointer (some ⟨g,1,none⟩))<|Zj rfl ⟨g,1,none⟩ (.slice (some ⟨b,0,none⟩) n c) (fun U hU=>(QF.below QF.lt hU).ZL 1)<|gy (.pointer (some ⟨g3,0,none⟩)) <|
   Zj rfl ⟨g3,0,none⟩ (.int .i64 i) (fun U hU=>(Ld.below Ld.lt hU).ZL 0)<|Yz (.pointer (some ⟨b,0+i*44,none⟩)) (fun U hU=>Sz b 0 n c i hin U _ _ rfl (by kernel_rfl) (by kernel_rfl))<|gy (.pointer (some ⟨b,0+i*44,none⟩)) ?_
 simp only[pu];apply wpQuiet_nil;intro V2 hV2;have pX:=Ld.below Ld.lt hV2;have KF:=Zu xA hV2;have Vk:=Z8 (JI.out.trans (hV2.mono JI.out.size));clear QF Ld xA hV2 JI;go_upto_region 4 with fail;refine ZU (C:=fun U=>Below V2.heap.size V2 U) (by kernel_rfl) (by kernel_rfl) ((Below.refl _ V2).drew) ?_;refine gy (.pointer (some ⟨b,0+i*44,none⟩))<|gy (.pointer (some ⟨b,0+i*44,none⟩))<|gy (.pointer (some ⟨b,0+i*44+41,none⟩))<|Zj rfl ⟨b,0+i*44+41,none⟩ (.bool false) (fun U hU=>ZK (Zu KF hU) (j:=41) (by rw[<- hfu]; rfl) (by kernel_rfl)) <|
   gy (.bool false)<|Wx<|Wx<|Wx<|Wx<|Wx<|Wx<|Wx<|gy (.bool false)<|gy (.bool false) ?_
 simp only[pu];apply wpQuiet_nil;intro V3 UJ;have HE:=Vk.out.trans (UJ.mono Vk.out.size);go_wp2_with fail;go_ret;exact⟨rfl,HE⟩
theorem has_eq {w:World}{g:Nat}{mo fr ln bt:Int}{b n c:Nat}(x y:Int)(hX:Bx w g (hdp mo fr ln bt (some ⟨b,0,none⟩) n c) 147){i:Nat}(hxi:x=i)(hin:i<n){s9:Sn}(hr:w.rangeAt b (0+i*44) (RX s9))(hfu:s9.full=true)(hus:s9.us=y):Calls Tryz.prog 80 #[.pointer (some ⟨g,0,none⟩),.agg #[.int .i64 x,.int .i64 y]] w fun e w'=>e=.returned (.bool true)/\Below w.heap.size w w':=by
 have hb0:Below w.heap.size w (w.alloc (.cells #[.int .i64 x,.int .i64 y] 104)):=(Below.refl _ w).alloc (Nat.le_refl _) _;have hY:Bx (w.alloc (.cells #[.int .i64 x,.int .i64 y] 104)) w.heap.size #[.int .i64 x,.int .i64 y] 104:=heap_alloc_last w _;subst hxi;have KF:=Zu hr hb0;go_enter Tryz.func80,Tryz.ntmps80;go_upto_region 1 with fail;change Code.wp _ _ _ _ (w.alloc (.cells #[.int .i64 i,.int .i64 y] 104));generalize w.alloc (.cells #[.int .i64 i,.int .i64 y] 104)=W at *
 obtain⟨g3,hg3⟩:=ZR w.heap.size;rw[hg3] at hY;simp only[hg3];have UF:=hX.below hX.lt hb0;have HB:=Z8 hb0;clear hb0 hX hg3;go_upto_region 1 with fail;refine ZU (C:=fun U=>Below W.heap.size W U) (by kernel_rfl) (by kernel_rfl) ((Below.refl _ W).drew) ?_;refine gy (.pointer (some ⟨g,0,none⟩))<|gy (.bool false)<|gy (.bool false)<|gy (.pointer (some ⟨g3,0,none⟩))<|Zj rfl ⟨g3,0,none⟩ (.int .i64 i) (fun U hU=>(hY.below hY.lt hU).ZL 0) <|
   Yz (.bool false) (fun U hU=>Zv rfl (i) (0) dF (by kernel_rfl) (by kernel_rfl) U)<|gy (.bool false)<|gy (.bool false)<|gy (.pointer (some ⟨g3,0,none⟩))<|Zj rfl ⟨g3,0,none⟩ (.int .i64 i) (fun U hU=>(hY.below hY.lt hU).ZL 0) <|
   gy (.pointer (some ⟨g,0,none⟩))<|gy (.pointer (some ⟨g,0,none⟩))<|gy (.pointer (some ⟨g,1,none⟩))<|Zj rfl ⟨g,1,none⟩ (.slice (some ⟨b,0,none⟩) n c) (fun U hU=>(UF.below UF.lt hU).ZL 1)<|gy (.int .i64 n) <|
   Yz (.bool false) (fun U hU=>Qq rfl (i) (n) dF (by kernel_rfl) (by kernel_rfl) U)<|gy (.bool false) ?_
 simp only[pu];apply wpQuiet_nil;intro V hV;have QF:=UF.below UF.lt hV;have Ld:=hY.below hY.lt hV;have xA:=Zu KF hV;have JI:=Z8 (HB.out.trans (hV.mono HB.out.size));clear UF hY KF hV HB hr;go_upto_region 3 with fail;refine ZU (C:=fun U=>Below V.heap.size V U) (by kernel_rfl) (by kernel_rfl) ((Below.refl _ V).drew) ?_;refine gy (.pointer (some ⟨g,0,none⟩))<|gy (.pointer (some ⟨g,0,none⟩))<|gy (.pointer (some ⟨g,1,none⟩))<|Zj rfl ⟨g,1,none⟩ (.slice (some ⟨b,0,none⟩) n c) (fun U hU=>(QF.below QF.lt hU).ZL 1)<|gy (.pointer (some ⟨g3,0,none⟩)) <|
   Zj rfl ⟨g3,0,none⟩ (.int .i64 i) (fun U hU=>(Ld.below Ld.lt hU).ZL 0)<|Yz (.pointer (some ⟨b,0+i*44,none⟩)) (fun U hU=>Sz b 0 n c i hin U _ _ rfl (by kernel_rfl) (by kernel_rfl))<|gy (.pointer (some ⟨b,0+i*44,none⟩)) ?_
 simp only[pu];apply wpQuiet_nil;intro V2 hV2;have pX:=Ld.below Ld.lt hV2;have KF:=Zu xA hV2;have Vk:=Z8 (JI.out.trans (hV2.mono JI.out.size));clear QF Ld xA hV2 JI;go_upto_region 4 with fail;refine ZU (C:=fun U=>Below V2.heap.size V2 U) (by kernel_rfl) (by kernel_rfl) ((Below.refl _ V2).drew) ?_;refine gy (.pointer (some ⟨b,0+i*44,none⟩))<|gy (.pointer (some ⟨b,0+i*44,none⟩))<|gy (.pointer (some ⟨b,0+i*44+41,none⟩))<|Zj rfl ⟨b,0+i*44+41,none⟩ (.bool true) (fun U hU=>ZK (Zu KF hU) (j:=41) (by rw[<- hfu]; rfl) (by kernel_rfl)) <|
   gy (.bool true)<|gy (.pointer (some ⟨b,0+i*44,none⟩))<|gy (.pointer (some ⟨b,0+i*44,none⟩))<|gy (.pointer (some ⟨b,0+i*44+42,none⟩))<|Zj rfl ⟨b,0+i*44+42,none⟩ (.int .i64 s9.us) (fun U hU=>ZK (Zu KF hU) (j:=42) rfl (by kernel_rfl)) <|
   gy (.pointer (some ⟨g3,1,none⟩))<|Zj rfl ⟨g3,1,none⟩ (.int .i64 y) (fun U hU=>(pX.below pX.lt hU).ZL 1)<|Yz (.bool true) (fun U hU=>YA rfl (s9.us) (y) (decide_eq_true (hus)) (by kernel_rfl) (by kernel_rfl) U)<|gy (.bool true)<|gy (.bool true) ?_
 simp only[pu];apply wpQuiet_nil;intro V3 UJ;have HE:=Vk.out.trans (UJ.mono Vk.out.size);go_wp2_with fail;go_ret;exact⟨rfl,HE⟩
theorem tH {w:World}{g:Nat}{mo fr ln bt:Int}{b n c:Nat}(x y:Int)(hX:Bx w g (hdp mo fr ln bt (some ⟨b,0,none⟩) n c) 147){i:Nat}(hxi:x=i)(hin:i<n){s9:Sn}(hr:w.rangeAt b (0+i*44) (RX s9))(hfu:s9.full=true)(hus:s9.us≠y):Calls Tryz.prog 80 #[.pointer (some ⟨g,0,none⟩),.agg #[.int .i64 x,.int .i64 y]] w fun e w'=>e=.returned (.bool false)/\Below w.heap.size w w':=by
 have hb0:Below w.heap.size w (w.alloc (.cells #[.int .i64 x,.int .i64 y] 104)):=(Below.refl _ w).alloc (Nat.le_refl _) _;have hY:Bx (w.alloc (.cells #[.int .i64 x,.int .i64 y] 104)) w.heap.size #[.int .i64 x,.int .i64 y] 104:=heap_alloc_last w _;subst hxi;have KF:=Zu hr hb0;go_enter Tryz.func80,Tryz.ntmps80;go_upto_region 1 with fail;change Code.wp _ _ _ _ (w.alloc (.cells #[.int .i64 i,.int .i64 y] 104));generalize w.alloc (.cells #[.int .i64 i,.int .i64 y] 104)=W at *
 obtain⟨g3,hg3⟩:=ZR w.heap.size;rw[hg3] at hY;simp only[hg3];have UF:=hX.below hX.lt hb0;have HB:=Z8 hb0;clear hb0 hX hg3;go_upto_region 1 with fail;refine ZU (C:=fun U=>Below W.heap.size W U) (by kernel_rfl) (by kernel_rfl) ((Below.refl _ W).drew) ?_;refine gy (.pointer (some ⟨g,0,none⟩))<|gy (.bool false)<|gy (.bool false)<|gy (.pointer (some ⟨g3,0,none⟩))<|Zj rfl ⟨g3,0,none⟩ (.int .i64 i) (fun U hU=>(hY.below hY.lt hU).ZL 0) <|
   Yz (.bool false) (fun U hU=>Zv rfl (i) (0) dF (by kernel_rfl) (by kernel_rfl) U)<|gy (.bool false)<|gy (.bool false)<|gy (.pointer (some ⟨g3,0,none⟩))<|Zj rfl ⟨g3,0,none⟩ (.int .i64 i) (fun U hU=>(hY.below hY.lt hU).ZL 0) <|
   gy (.pointer (some ⟨g,0,none⟩))<|gy (.pointer (some ⟨g,0,none⟩))<|gy (.pointer (some ⟨g,1,none⟩))<|Zj rfl ⟨g,1,none⟩ (.slice (some ⟨b,0,none⟩) n c) (fun U hU=>(UF.below UF.lt hU).ZL 1)<|gy (.int .i64 n) <|
   Yz (.bool false) (fun U hU=>Qq rfl (i) (n) dF (by kernel_rfl) (by kernel_rfl) U)<|gy (.bool false) ?_
 simp only[pu];apply wpQuiet_nil;intro V hV;have QF:=UF.below UF.lt hV;have Ld:=hY.below hY.lt hV;have xA:=Zu KF hV;have JI:=Z8 (HB.out.trans (hV.mono HB.out.size));clear UF hY KF hV HB hr;go_upto_region 3 with fail;refine ZU (C:=fun U=>Below V.heap.size V U) (by kernel_rfl) (by kernel_rfl) ((Below.refl _ V).drew) ?_;refine gy (.pointer (some ⟨g,0,none⟩))<|gy (.pointer (some ⟨g,0,none⟩))<|gy (.pointer (some ⟨g,1,none⟩))<|Zj rfl ⟨g,1,none⟩ (.slice (some ⟨b,0,none⟩) n c) (fun U hU=>(QF.below QF.lt hU).ZL 1)<|gy (.pointer (some ⟨g3,0,none⟩)) <|
   Zj rfl ⟨g3,0,none⟩ (.int .i64 i) (fun U hU=>(Ld.below Ld.lt hU).ZL 0)<|Yz (.pointer (some ⟨b,0+i*44,none⟩)) (fun U hU=>Sz b 0 n c i hin U _ _ rfl (by kernel_rfl) (by kernel_rfl))<|gy (.pointer (some ⟨b,0+i*44,none⟩)) ?_
 simp only[pu];apply wpQuiet_nil;intro V2 hV2;have pX:=Ld.below Ld.lt hV2;have KF:=Zu xA hV2;have Vk:=Z8 (JI.out.trans (hV2.mono JI.out.size));clear QF Ld xA hV2 JI;go_upto_region 4 with fail;refine ZU (C:=fun U=>Below V2.heap.size V2 U) (by kernel_rfl) (by kernel_rfl) ((Below.refl _ V2).drew) ?_;refine gy (.pointer (some ⟨b,0+i*44,none⟩))<|gy (.pointer (some ⟨b,0+i*44,none⟩))<|gy (.pointer (some ⟨b,0+i*44+41,none⟩))<|Zj rfl ⟨b,0+i*44+41,none⟩ (.bool true) (fun U hU=>ZK (Zu KF hU) (j:=41) (by rw[<- hfu]; rfl) (by kernel_rfl)) <|
   gy (.bool true)<|gy (.pointer (some ⟨b,0+i*44,none⟩))<|gy (.pointer (some ⟨b,0+i*44,none⟩))<|gy (.pointer (some ⟨b,0+i*44+42,none⟩))<|Zj rfl ⟨b,0+i*44+42,none⟩ (.int .i64 s9.us) (fun U hU=>ZK (Zu KF hU) (j:=42) rfl (by kernel_rfl)) <|
   gy (.pointer (some ⟨g3,1,none⟩))<|Zj rfl ⟨g3,1,none⟩ (.int .i64 y) (fun U hU=>(pX.below pX.lt hU).ZL 1)<|Yz (.bool false) (fun U hU=>YA rfl (s9.us) (y) (decide_eq_false (hus)) (by kernel_rfl) (by kernel_rfl) U)<|gy (.bool false) <|
   gy (.bool false) ?_
 simp only[pu];apply wpQuiet_nil;intro V3 UJ;have HE:=Vk.out.trans (UJ.mono Vk.out.size);go_wp2_with fail;go_ret;exact⟨rfl,HE⟩
theorem xC {w:World}{g:Nat}{a:Option Addr}{c:Nat}{T:List Sn}{mo fr ln bt:Int}{m:Sm}(h:Mp w g a c T mo fr ln bt)(hl:Lk m T fr)(q:Int×Int):Calls Tryz.prog 80 #[.pointer (some ⟨g,0,none⟩),.agg #[.int .i64 q.1,.int .i64 q.2]] w fun e w'=>e=.returned (.bool (Xl m q))/\Below w.heap.size w w':=by
 by_cases h0:q.1<0
 ·rw[val_neg h0];exact zx _ _ h.bx h0
 ·by_cases h1:(T.length:Int)<=q.1
  ·rw[zq (by rw[<- hl.len]; exact h1)];exact zu _ _ h.bx (by omega) h1
  ·obtain⟨i,hi⟩:∃ i:Nat,q.1=i:=⟨q.1.toNat,by omega⟩;have hil:i<T.length:=(by omega);obtain⟨b,hb,hr⟩:=h.rg hil;have hbx:=h.bx;rw[hb] at hbx;have hu:=hl.us i hil;rw[tC hi (by rw[<- hl.len]; exact hil),<- hl.full i hil];rw[<- hl.full i hil] at hu;cases hf:(T.getD i Yj).full with
   | false=>
    exact J6 _ _ hbx hi hil hr hf
   | true=>
    rw[hf,if_pos rfl] at hu;rw[<- hu,Bool.true_and];by_cases he:(T.getD i Yj).us=q.2
    ·rw[decide_eq_true he];exact has_eq _ _ hbx hi hil hr hf he
    ·rw[decide_eq_false he];exact tH _ _ hbx hi hil hr hf he
theorem Qm {w:World}{Bd g:Nat}{a:Option Addr}{c:Nat}{T:List Sn}{mo ln bt:Int}(h:Mp w g a c T mo (-1) ln bt)(hB:∀ k,Sp g a T k->Bd<=k)(hw:Bd<=w.heap.size)(hn:T.length<=100000):Calls Tryz.prog 86 #[.pointer (some ⟨g,0,none⟩)] w fun e w'=>e=.returned (.int .i64 T.length)/\∃ a1 c1,Gm Bd g a T w a1 c1 (T++[Yj]) mo (-1) ln bt w':=by
 obtain⟨a1,c1,V1,V2,hap,hst,hG⟩:=Gm.push h hB hw hn;have hX:=h.bx;have hX2:Bx V2 g (hdp mo (-1) ln bt a1 (T.length+1) c1) 147:=by have:=hG.mem.bx; rw[List.length_append,List.length_singleton] at this; exact this
 have HG:=Z8 hG;have hbd:=Et Yj w;obtain⟨n,hn0⟩:=ZR T.length;have HN:=Z8 hn0;rw[hn0] at hap hst hX hX2 hn ⊢;clear h hB hw hG hn0;go_enter Tryz.func86,Tryz.ntmps86;go_upto_region 1 with fail;refine wl<|YU (.pointer (some ⟨g,0,none⟩)) (.pointer (some ⟨g,0,none⟩)) (.pointer (some ⟨g,2,none⟩))<|Zq rfl ⟨g,2,none⟩ (.int .i64 (-1)) (hX.ZL 2) <|
  YF (YA rfl ((-1)) ((-1)) (decide_eq_true (rfl)))<|wn ?_
 simp only[pu];go_upto_region 2 with fail;refine wl<|MR (.pointer (some ⟨g,0,none⟩)) (.pointer (some ⟨g,0,none⟩)) (.pointer (some ⟨g,0,none⟩)) (.pointer (some ⟨g,1,none⟩))<|Zq rfl ⟨g,1,none⟩ (.slice a n c) (hX.ZL 1)<|ZN (.agg (Gu Yj)) ?_;refine YM (by kernel_rfl) (some 15) rfl 145 1 #[(0,.tmp 14)] rfl #[(0,.agg (Gu Yj))] (by kernel_rfl) (.slice (some ⟨w.heap.size,0,none⟩) 1 1) _ hbd ?_;refine Y5 rfl (some 16) rfl 145 rfl (.tmp 13) (.tmp 15) 145 rfl (.slice a n c) (.slice (some ⟨w.heap.size,0,none⟩) 1 1) (.slice a1 (n+1) c1) V1 (by kernel_rfl) (by kernel_rfl) hap ?_;refine ZA (.pointer (some ⟨g,0,none⟩)) (.pointer (some ⟨g,1,none⟩))<|WC rfl (hst)<|wn ?_;simp only[pu];clear hap hst hbd hX;go_upto_region 3 with fail;refine wl<|YU (.pointer (some ⟨g,0,none⟩)) (.pointer (some ⟨g,0,none⟩)) (.pointer (some ⟨g,1,none⟩))<|Zq rfl ⟨g,1,none⟩ (.slice a1 (n+1) c1) (hX2.ZL 1)<|ZN (.int .i64 (n+1)) <|
  Yb (.int .i64 (((n+1:Nat):Int)-1)) (TQ rfl ((n+1:Nat):Int) 1 (by omega))<|ZN (.int .i64 (((n+1:Nat):Int)-1))<|wn ?_
 simp only[pu];go_wp2_with fail;go_ret;exact⟨congrArg (fun q=>Ending.returned (Value.int .i64 q)) (by omega),a1,c1,HG.out⟩
theorem Ea {w:World}{Bd g:Nat}{a:Option Addr}{c:Nat}{T:List Sn}{mo ln bt:Int}{i:Nat}(h:Mp w g a c T mo (i:Int) ln bt)(hi:i<T.length)(hB:∀ k,Sp g a T k->Bd<=k):Calls Tryz.prog 86 #[.pointer (some ⟨g,0,none⟩)] w fun e w'=>e=.returned (.int .i64 i)/\Gm Bd g a T w a c T mo (T.getD i Yj).nx ln bt w':=by
 obtain⟨V2,hst,hG⟩:=Gm.num h hB 2 (T.getD i Yj).nx (T.getD i Yj).nx ln bt (by decide) rfl;obtain⟨b,rfl,hr⟩:=h.rg hi;have hX:=h.bx;have HG:=Z8 hG;generalize T.getD i Yj=s9 at *
 obtain⟨n,hn0⟩:=ZR T.length;rw[hn0] at hX hi;clear h hB hG hn0;go_enter Tryz.func86,Tryz.ntmps86;go_upto_region 1 with fail;refine wl<|YU (.pointer (some ⟨g,0,none⟩)) (.pointer (some ⟨g,0,none⟩)) (.pointer (some ⟨g,2,none⟩))<|Zq rfl ⟨g,2,none⟩ (.int .i64 i) (hX.ZL 2) <|
  YF (YA rfl (i) ((-1)) dF)<|wn ?_
 simp only[pu];go_upto_region 4 with fail;refine wl<|YU (.pointer (some ⟨g,0,none⟩)) (.pointer (some ⟨g,0,none⟩)) (.pointer (some ⟨g,2,none⟩))<|Zq rfl ⟨g,2,none⟩ (.int .i64 i) (hX.ZL 2)<|ZN (.int .i64 i)<|wn ?_;simp only[pu];go_upto_region 5 with fail;refine wl<|MR (.pointer (some ⟨g,0,none⟩)) (.pointer (some ⟨g,0,none⟩)) (.pointer (some ⟨g,0,none⟩)) (.pointer (some ⟨g,1,none⟩))<|Zq rfl ⟨g,1,none⟩ (.slice (some ⟨b,0,none⟩) n c) (hX.ZL 1)<|ZN (.int .i64 i) <|
  YT (.pointer (some ⟨b,0+i*44,none⟩)) (Sz b 0 n c i hi _ _ _ rfl (by kernel_rfl) (by kernel_rfl))<|ZN (.pointer (some ⟨b,0+i*44+43,none⟩))<|Zq rfl ⟨b,0+i*44+43,none⟩ (.int .i64 s9.nx) (ZK hr (j:=43) rfl (by kernel_rfl)) <|
  ZA (.pointer (some ⟨g,0,none⟩)) (.pointer (some ⟨g,2,none⟩))<|WC rfl (hst)<|wn ?_
 simp only[pu];clear hst hr hX;go_wp2_with fail;go_ret;exact⟨rfl,HG.out⟩
theorem tY {w:World}{Bd g:Nat}{a:Option Addr}{c:Nat}{T:List Sn}{mo fr ln bt:Int}{m:Sm}{u:Nat}(h:Mp w g a c T mo fr ln bt)(hl:Lk m T fr)(hm:Wm m u)(hc:YO m.P<m.mo)(hB:∀ k,Sp g a T k->Bd<=k)(hw:Bd<=w.heap.size)(e:En):Calls Tryz.prog 86 #[.pointer (some ⟨g,0,none⟩)] w fun r w'=>∃ (i:Nat) (T1:List Sn) (Tm:Int) (a1:Option Addr) (c1:Nat),r=.returned (.int .i64 i)/\iH m e T1 Tm i/\Gm Bd g a T w a1 c1 T1 mo Tm ln bt w':=by
 have hn:T.length<=100000:=by rw[hl.len]; have:=hm.pl; omega
 rcases XZ m with h0 | ⟨-,⟨F,i,hF⟩ | hF⟩
 ·omega
 ·obtain⟨e1,e2⟩:=hl.G6 hm hc hF e;subst e1;exact(Ea h e2.il hB).mono fun r w' q=>⟨i,T,_,a,c,q.1,e2,q.2⟩
 ·obtain⟨e1,e2⟩:=hl.Qm hc hF e;subst e1;exact(Qm h hB hw hn).mono fun r w' q=>let ⟨q1,a1,c1,q2⟩:=q; ⟨T.length,_,_,a1,c1,q1,e2,q2⟩
theorem Uy (k:Int)(w:World):Calls Tryz.prog 54 #[.int .i64 k] w fun e w'=>∃ g S,e=.returned (.pointer (some ⟨g,0,none⟩))/\XB w' g S (newS k)/\(∀ j,S j->w.heap.size<=j)/\Below w.heap.size w w':=by
 have hb:Below w.heap.size w (w.alloc (.cells (hdp (min (max k 0) 512) (-1) 0 0 none 0 0) 147)):=(Below.refl _ w).alloc (Nat.le_refl _) _;have hX:Bx (w.alloc (.cells (hdp (min (max k 0) 512) (-1) 0 0 none 0 0) 147)) w.heap.size (hdp (min (max k 0) 512) (-1) 0 0 none 0 0) 147:=heap_alloc_last w _;have hz:min (max k 0) 512=((newS k).mo:Int):=by show _=((J8 k:Nat):Int); unfold J8; omega
 have HE:Hid (∃ g S,Ending.returned (.pointer (some ⟨w.heap.size,0,none⟩))=.returned (.pointer (some ⟨g,0,none⟩))/\XB (w.alloc (.cells (hdp (min (max k 0) 512) (-1) 0 0 none 0 0) 147)) g S (newS k)/\(∀ j,S j->w.heap.size<=j)/\Below w.heap.size w (w.alloc (.cells (hdp (min (max k 0) 512) (-1) 0 0 none 0 0) 147))):=Z8 ⟨w.heap.size,Sp w.heap.size none [],rfl,⟨none,0,[],-1,⟨by rw[<- hz]; exact hX,World.ownsRow_nil _ _ _ _,fun i h=>(by simp at h),fun x h=>(by cases h),fun i k h=>(by simp at h)⟩,Lk.new k,rfl⟩,fun j hj=>by
  rcases hj with rfl | ⟨x,hx,-⟩ | ⟨i,hi,-⟩
  ·exact Nat.le_refl _
  ·cases hx
  ·simp at hi,hb⟩
 clear hb hX hz;go_enter Tryz.func54,Tryz.ntmps54;go_upto_region 1 with fail;refine wl<|ZN (.int .i64 k)<|Yb (.int .i64 (max k 0)) (Eb rfl k 0)<|Yb (.int .i64 (min (max k 0) 512)) (lD rfl (max k 0) 512)<|ZN (.agg (hdp (min (max k 0) 512) (-1) 0 0 none 0 0)) ?_;refine YP rfl (some 7) rfl (.pointer (some ⟨w.heap.size,0,none⟩)) (w.alloc (.cells (hdp (min (max k 0) 512) (-1) 0 0 none 0 0) 147)) (by kernel_rfl) ?_;refine ZN (.pointer (some ⟨w.heap.size,0,none⟩))<|wn ?_;simp only[pu];go_wp2_with fail;go_ret;exact HE.out
theorem q_len {w:World}{g:Nat}{mo fr ln bt:Int}{a:Option Addr}{n c:Nat}(hX:Bx w g (hdp mo fr ln bt a n c) 147):Calls Tryz.prog 50 #[.pointer (some ⟨g,0,none⟩)] w fun e w'=>e=.returned (.int .i64 ln)/\w=w':=by
 go_enter Tryz.func50,Tryz.ntmps50;go_upto_region 1 with fail;refine wl<|ZA (.pointer (some ⟨g,0,none⟩)) (.bool false)<|wn ?_;simp only[pu];go_upto_region 3 with fail;refine wl<|YU (.pointer (some ⟨g,0,none⟩)) (.pointer (some ⟨g,0,none⟩)) (.pointer (some ⟨g,3,none⟩))<|Zq rfl ⟨g,3,none⟩ (.int .i64 ln) (hX.ZL 3)<|ZN (.int .i64 ln)<|wn ?_;simp only[pu];go_wp2_with fail;go_ret;exact⟨rfl,rfl⟩
theorem nK {w:World}{g:Nat}{mo fr ln bt:Int}{a:Option Addr}{n c:Nat}(hX:Bx w g (hdp mo fr ln bt a n c) 147):Calls Tryz.prog 51 #[.pointer (some ⟨g,0,none⟩)] w fun e w'=>e=.returned (.int .i64 bt)/\w=w':=by
 go_enter Tryz.func51,Tryz.ntmps51;go_upto_region 1 with fail;refine wl<|ZA (.pointer (some ⟨g,0,none⟩)) (.bool false)<|wn ?_;simp only[pu];go_upto_region 3 with fail;refine wl<|YU (.pointer (some ⟨g,0,none⟩)) (.pointer (some ⟨g,0,none⟩)) (.pointer (some ⟨g,4,none⟩))<|Zq rfl ⟨g,4,none⟩ (.int .i64 bt) (hX.ZL 4)<|ZN (.int .i64 bt)<|wn ?_;simp only[pu];go_wp2_with fail;go_ret;exact⟨rfl,rfl⟩
theorem ZP.but {B q:Nat}{S:Nat->Prop}{w w1 w2:World}(h:ZP B S w w1)(hb:But q w1 w2)(hq:w.heap.size<=q)(hB:B<=q):ZP B S w w2:=
 ⟨h.1.trans (hb.1.mono hB),fun k hk hn=>(hb.2 k (Nat.lt_of_lt_of_le hk h.1.size) (by omega)).trans (h.2 k hk hn)⟩
theorem Ob {m:Sm}{u:Nat}(h:Wm m u)(e:En)(hO:TT m=true):Xw (Xh m e).P=Xw m.P+e.raw.length:=by
 rcases XZ m with h0 | ⟨h0,⟨F,i,hF⟩ | hF⟩
 ·rw[(U8 e h0).2.2] at hO; cases hO
 ·rw[(Xv e h0 hF).1];have hi:=h.fr i (by rw[hF]; simp);have hc:=Oa m.P i ⟨true,(m.P.getD i Yp).us+1,e⟩ hi.1;rw[hi.2] at hc;simpa only[pb,Bool.false_eq_true,if_false,if_true,Nat.add_zero] using hc
 ·rw[(X7 e h0 hF).1];show Xw (m.P++_)=_;rw[N7]; simp[Xw]
theorem zA {m:Sm}{u:Nat}(h:Wm m u):YO m.P<=512:=Nat.le_trans h.len h.mo
theorem zy {m:Sm}{u:Nat}(h:Wm m u):Xw m.P<=40000000:=by
 have h1:=uY m.P 60000 fun p hp=>by
  obtain⟨i,hi,rfl⟩:=List.mem_iff_getElem.1 hp;have:=h.raw i hi;rwa [getD_lt _ _ _ hi] at this
 have h2:=h.pl;have:=Nat.mul_le_mul_right 60000 h2;omega
structure tZ (B g g3 g4:Nat)(a0:Option Addr)(T0:List Sn)(w:World)(e:En)(d:Ad)(a:Option Addr)(c:Nat)(T:List Sn)(mo fr ln bt:Int)(V:World):Prop where
 gm:Gm B g a0 T0 w a c T mo fr ln bt V
 b3:Bx V g3 (ZQ e d) 52
 b4:Bx V g4 #[Z9 0,Z9 0] 104
 en:Vl V e d
 n3:¬ Sp g a T g3
 n4:¬ Sp g a T g4
 ne:∀ k,EB e d k->¬ Sp g a T k
section
variable {B g g3 g4 : Nat} {a0 : Option Addr} {T0 : List Sn} {w : World} {e : En} {d : Ad} {a a1 : Option Addr} {c c1 : Nat} {T T1 : List Sn} {mo fr ln bt qg Tm zC zB : Int} {V V1 : World}
theorem tZ.step (h:tZ B g g3 g4 a0 T0 w e d a c T mo fr ln bt V)(k:Gm B g a T V a1 c1 T1 qg Tm zC zB V1):tZ B g g3 g4 a0 T0 w e d a1 c1 T1 qg Tm zC zB V1:=
 have key:∀ q,q<V.heap.size->¬ Sp g a T q->¬ Sp g a1 T1 q:=fun q hq hn h2=>(k.sub q h2).elim hn (by omega)
 ⟨h.gm.trans k,h.b3.VQ k.but h.n3,h.b4.VQ k.but h.n4,h.en.VQ k.but h.ne,key _ h.b3.lt h.n3,key _ h.b4.lt h.n4,fun q hq=>key q (h.en.lt q hq) (h.ne q hq)⟩
theorem tZ.below (h:tZ B g g3 g4 a0 T0 w e d a c T mo fr ln bt V)(hw:B<=w.heap.size)(hb:Below V.heap.size V V1):tZ B g g3 g4 a0 T0 w e d a c T mo fr ln bt V1:=h.step (Gm.below h.gm.mem hb (h.gm.but.1.size |> Nat.le_trans hw))
end
theorem Pv (e e2:En)(d d2:Ad)(f:Bool)(us nx:Int):(RX ⟨e,d,f,us,nx⟩).take 0++YN e2 d2++(RX ⟨e,d,f,us,nx⟩).drop (0+(YN e2 d2).length)=RX ⟨e2,d2,f,us,nx⟩:=by kernel_rfl
theorem Po (e:En)(d:Ad)(f b:Bool)(us nx:Int):(RX ⟨e,d,f,us,nx⟩).take 41++[.bool b]++(RX ⟨e,d,f,us,nx⟩).drop (41 + [Value.bool b].length)=RX ⟨e,d,b,us,nx⟩:=by kernel_rfl
theorem Qw {w:World}{g:Nat}{mo fr ln bt:Int}{a:Option Addr}{n c:Nat}{e:En}{d:Ad}(hX:Bx w g (hdp mo fr ln bt a n c) 147)(hl:ln=mo):Calls Tryz.prog 59 #[Z7 g 0,.agg (ZQ e d)] w fun r w'=>r=.returned (.tuple #[.agg #[Z9 0,Z9 0],ZW])/\Below w.heap.size w w':=by
 go_enter Tryz.func59,Tryz.ntmps59;go_upto_region 1 with fail;change Code.wp _ _ _ _ ((w.alloc (.cells (ZQ e d) 52)).alloc (.cells #[Z9 0,Z9 0] 104));have hb0:Below w.heap.size w ((w.alloc (.cells (ZQ e d) 52)).alloc (.cells #[Z9 0,Z9 0] 104)):=((Below.refl _ w).alloc (Nat.le_refl _) _).alloc (by simp) _;have Ze:Bx ((w.alloc (.cells (ZQ e d) 52)).alloc (.cells #[Z9 0,Z9 0] 104)) w.heap.size (ZQ e d) 52:=Bx.below (heap_alloc_last w _) (by simp) ((Below.refl _ _).alloc (Nat.le_refl _) _);have VH:Bx ((w.alloc (.cells (ZQ e d) 52)).alloc (.cells #[Z9 0,Z9 0] 104)) (w.heap.size+1) #[Z9 0,Z9 0] 104:=by
  have:=heap_alloc_last (w.alloc (.cells (ZQ e d) 52)) (.cells #[Z9 0,Z9 0] 104);rwa [show(w.alloc (.cells (ZQ e d) 52)).heap.size=w.heap.size+1 by simp] at this
 generalize (w.alloc (.cells (ZQ e d) 52)).alloc (.cells #[Z9 0,Z9 0] 104)=W at *
 obtain⟨g3,hg3⟩:=ZR w.heap.size;obtain⟨g4,hg4⟩:=ZR (g3+1);rw[show w.heap.size+1=g4 by omega] at VH;have HG:Hid (w.heap.size<=g3/\w.heap.size<=g4):=Z8 ⟨by omega,by omega⟩;rw[hg3] at Ze;simp only[hg3];simp only[hg4];have UF:=hX.below hX.lt hb0;have HB:=Z8 hb0;clear hb0 hg3 hg4 hX Ze;go_upto_region 1 with fail;refine ZU (C:=fun U=>Below W.heap.size W U) (by kernel_rfl) (by kernel_rfl) ((Below.refl _ W).drew) ?_;refine gy (Z7 g 0)<|gy ZW<|gy ZW<|gy (Z7 g 0)<|gy (Z7 g 0)<|gy (Z7 g 3) <|
   Zj rfl ⟨g,3,none⟩ (Z9 ln) (fun U hU=>(UF.below UF.lt hU).ZL 3)<|gy (Z7 g 0)<|gy (Z7 g 0)<|gy (Z7 g 0) <|
   Zj rfl ⟨g,0,none⟩ (Z9 mo) (fun U hU=>(UF.below UF.lt hU).ZL 0)<|Yz ZT (fun U hU=>YA rfl (ln) (mo) (decide_eq_true (hl)) (by kernel_rfl) (by kernel_rfl) U)<|gy ZT ?_
 simp only[pu];apply wpQuiet_nil;intro V hV;have Nw:=VH.below VH.lt hV;obtain⟨V2,hst,hY,hbt⟩:=st_all (cs':=#[Z9 0,Z9 0]) (ty:=104) Nw rfl (by simp[Value.oneCell']) (by kernel_rfl);have HE:=Z8 ((HB.out.trans (hV.mono HB.out.size)).trans (hbt.1.mono HG.out.2));clear hV hbt VH Nw UF;go_upto_region 2 with fail;refine wl<|ZN (.agg #[Z9 0,Z9 0])<|WC rfl (hst)<|ZN ZW<|wn ?_;simp only[pu];go_wp2_with fail;exact bodyPost_ret (XI rfl (by kernel_rfl) (UU (x:=(0,0)) (ZV (cs:=hnl (0,0)) hY)) (by kernel_rfl)) rfl ⟨rfl,HE.out⟩
theorem UQ {w:World}{B g:Nat}{mo fr ln bt:Int}{a:Option Addr}{c:Nat}{T:List Sn}{e:En}{d:Ad}{m:Sm}{u:Nat}(h:Mp w g a c T mo fr ln bt)(hl:Lk m T fr)(hm:Wm m u)(hc:YO m.P<m.mo)(hne:ln≠mo)(hln:0<=ln/\ln<=512)(hbt:0<=bt/\bt<=40000000)(he:Vl w e d)(hE:Bv e)(ho:∀ k,EB e d k->¬ Sp g a T k)(hB:∀ k,Sp g a T k->B<=k)(hw:B<=w.heap.size):Calls Tryz.prog 59 #[Z7 g 0,.agg (ZQ e d)] w fun r w'=>∃ (T1:List Sn) (Tm:Int) (a1:Option Addr) (c1:Nat),r=.returned (.tuple #[.agg #[Z9 (Yx m).1,Z9 (Yx m).2],ZT])/\Lk (Xh m e) T1 Tm/\Gm B g a T w a1 c1 T1 mo Tm (ln+1) (bt+e.raw.length) w':=by
 go_enter Tryz.func59,Tryz.ntmps59;go_upto_region 1 with fail;change Code.wp _ _ _ _ ((w.alloc (.cells (ZQ e d) 52)).alloc (.cells #[Z9 0,Z9 0] 104));have hb0:Below w.heap.size w ((w.alloc (.cells (ZQ e d) 52)).alloc (.cells #[Z9 0,Z9 0] 104)):=((Below.refl _ w).alloc (Nat.le_refl _) _).alloc (by simp) _;have Ze:Bx ((w.alloc (.cells (ZQ e d) 52)).alloc (.cells #[Z9 0,Z9 0] 104)) w.heap.size (ZQ e d) 52:=Bx.below (heap_alloc_last w _) (by simp) ((Below.refl _ _).alloc (Nat.le_refl _) _);have VH:Bx ((w.alloc (.cells (ZQ e d) 52)).alloc (.cells #[Z9 0,Z9 0] 104)) (w.heap.size+1) #[Z9 0,Z9 0] 104:=by
  have:=heap_alloc_last (w.alloc (.cells (ZQ e d) 52)) (.cells #[Z9 0,Z9 0] 104);rwa [show(w.alloc (.cells (ZQ e d) 52)).heap.size=w.heap.size+1 by simp] at this
 generalize (w.alloc (.cells (ZQ e d) 52)).alloc (.cells #[Z9 0,Z9 0] 104)=W at *
 obtain⟨g3,hg3⟩:=ZR w.heap.size;obtain⟨g4,hg4⟩:=ZR (g3+1);rw[show w.heap.size+1=g4 by omega] at VH;have HG:Hid (w.heap.size<=g3/\w.heap.size<=g4):=Z8 ⟨by omega,by omega⟩;rw[hg3] at Ze;simp only[hg3];simp only[hg4];have hg0:=h.bx.lt;have hn3:¬ Sp g a T g3:=fun q=>by have:=h.inn _ q; have:=HG.out; omega
 have hn4:¬ Sp g a T g4:=fun q=>by have:=h.inn _ q; have:=HG.out; omega
 have hA0:tZ B g g3 g4 a T w e d a c T mo fr ln bt W:=⟨Gm.below h hb0 hw,Ze,VH,he.below hb0,hn3,hn4,ho⟩;have UF:=hA0.gm.mem.bx;have HW:=Z8 hw;have lI:=Z8 hB;have Ux:=Z8 hl;have HWM:=Z8 hm;have HCC:=Z8 hc;have qh:=Z8 hE;have CJ:Hid (0<=ln/\ln<=512/\0<=bt/\bt<=40000000/\e.raw.length<=60000):=Z8 ⟨hln.1,hln.2,hbt.1,hbt.2,hE.1⟩;have lY:=Z8 hA0;obtain⟨n,hn⟩:=ZR T.length;rw[hn] at UF;clear hb0 hg3 hg4 Ze VH h hl hm hc he hE ho hB hw hn3 hn4 hA0 hn hln hbt hg0;go_upto_region 1 with fail;refine ZU (C:=fun U=>Below W.heap.size W U) (by kernel_rfl) (by kernel_rfl) ((Below.refl _ W).drew) ?_;refine gy (Z7 g 0)<|gy ZW<|gy ZW<|gy (Z7 g 0)<|gy (Z7 g 0)<|gy (Z7 g 3) <|
   Zj rfl ⟨g,3,none⟩ (Z9 ln) (fun U hU=>(UF.below UF.lt hU).ZL 3)<|gy (Z7 g 0)<|gy (Z7 g 0)<|gy (Z7 g 0) <|
   Zj rfl ⟨g,0,none⟩ (Z9 mo) (fun U hU=>(UF.below UF.lt hU).ZL 0)<|Yz ZW (fun U hU=>YA rfl (ln) (mo) (decide_eq_false (hne)) (by kernel_rfl) (by kernel_rfl) U)<|gy ZW ?_
 simp only[pu];apply wpQuiet_nil;intro V hV;have hA1:=lY.out.below HW.out hV;have CT:=tY hA1.gm.mem Ux.out HWM.out HCC.out lI.out (Nat.le_trans HW.out hA1.gm.but.1.size) e;have HA1:=Z8 hA1;clear UF hV lY hA1 hne;go_upto_region 3 with fail;refine wl<|ZN (Z7 g 0) <|
  Vx (fun v w'=>∃ (i:Nat) (T1:List Sn) (Tm:Int) (a1:Option Addr) (c1:Nat),v=Z9 i/\iH m e T1 Tm i/\Gm B g a T V a1 c1 T1 mo Tm ln bt w') (CT.mono fun r w' q=>by obtain⟨i,T1,Tm,a1,c1,q1,q2⟩:=q; exact⟨_,q1,i,T1,Tm,a1,c1,rfl,q2⟩) (fun vv V2 hq=>?_)
 obtain⟨i,T1,Tm,a1,c1,rfl,bV,hGm⟩:=hq;refine ZN (Z9 i)<|wn ?_;simp only[pu];have hA2:=HA1.out.step hGm;have hil:=bV.il;obtain⟨b,hab,hrg⟩:=hA2.gm.mem.rg hil;have iG:=Z8 bV;obtain⟨s9,hs9⟩:=ZR (T1.getD i Yj);have FT:=Z8 hs9;rw[hs9] at hrg;obtain⟨n1,hn1⟩:=ZR T1.length;have iF:=Z8 hn1;have hX2:=hA2.gm.mem.bx;rw[hn1,hab] at hX2;have hin:i<n1:=by omega
 have HA2:=Z8 hA2;have HAB:=Z8 hab;clear hGm CT HA1 bV hs9 hn1 hA2 hil hab;go_upto_region 4 with fail;refine wl<|YU (Z7 g 0) (Z7 g 0) (Z7 g 1)<|Zq rfl ⟨g,1,none⟩ (.slice (some ⟨b,0,none⟩) n1 c1) (hX2.ZL 1)<|ZN (Z9 i) <|
  YT (Z7 b (0+i*44)) (Sz b 0 n1 c1 i hin _ _ _ rfl (by kernel_rfl) (by kernel_rfl))<|ZN (Z7 b (0+i*44))<|wn ?_
 simp only[pu];have CA:=IY e d V2 HA2.out.en qh.out;have hB2:=Gm.base HA2.out.gm lI.out HW.out;have hw2:=Nat.le_trans HW.out HA2.out.gm.but.1.size;go_upto_region 5 with fail;refine wl<|ZA (Z7 b (0+i*44)) (Z7 b (0+i*44))<|Zq rfl ⟨g3,0,none⟩ (.agg (ZQ e d)) (ZC (ZV HA2.out.b3)) <|
  Vx (fun v w'=>∃ d',v=.agg (ZQ e d')/\XT w' V2.heap.size e d'/\Below V2.heap.size V2 w') (CA.mono fun r w' q=>by obtain⟨d',q1,q2⟩:=q; exact⟨_,q1,d',rfl,q2⟩) (fun vv V3 hq=>?_)
 obtain⟨d2,rfl,bU,hb3⟩:=hq;have Ci:=HA2.out.gm.mem.below hb3;have hil:i<T1.length:=iG.out.il;have hst3:=tX Ci HAB.out hil (o:=0) (ty:=52) (ZQ e d2) (by show 0+41<=44; decide) (by kernel_rfl) (Y3 e d2) (q:=0+i*44) (by omega);have hG3:=Gm.el HA2.out.gm.mem hB2 hw2 hb3 HAB.out hil (o:=0) (y:=⟨e,d2,s9.full,s9.us,s9.nx⟩) (vs:=YN e d2) (by show 0+41<=44; decide) (by rw[FT.out]; exact Pv _ _ _ _ _ _ _) bU.i (fun k hk=>.inr (bU.ge k hk));have hA3:=HA2.out.step hG3;have tV:i<(T1.set i ⟨e,d2,s9.full,s9.us,s9.nx⟩).length:=by rw[List.length_set]; exact hil
 have LG:=tN hA3.gm.mem HAB.out tV (o:=41) (ty:=4) ZT (by decide) (by kernel_rfl) rfl (q:=0+i*44+41) (by omega);have hG4:=Gm.el hA3.gm.mem (Gm.base hA3.gm lI.out HW.out) (Nat.le_trans HW.out hA3.gm.but.1.size) (Below.refl _ _) HAB.out tV (o:=41) (y:=⟨e,d2,true,s9.us,s9.nx⟩) (vs:=[ZT]) (by show 41+1<=44; decide) (by rw[YV _ _ _ _ hil]; exact Po _ _ _ _ _ _) (by have:=hA3.gm.mem.en i tV; rw[YV _ _ _ _ hil] at this; exact this) (fun k hk=>.inl (by rw[YV _ _ _ _ hil]; exact hk));rw[List.set_set] at hG4;have pY:=hA3.step hG4;change (Instr.storeAt 52 _ _).run _ _=.ok () (V3.setCells b (i*44+0) (YN e d2)) at hst3;generalize V3.setCells b (i*44+0) (YN e d2)=V4 at *
 generalize V4.setCells b (i*44+41) [ZT]=V5 at *
 clear hG3 hG4 hA3 bU hb3 Ci CA;refine ZA (Z7 b (0+i*44)) (Z7 b (0+i*44))<|WC rfl (hst3)<|ZA (Z7 b (0+i*44)) (Z7 b (0+i*44+41))<|WC rfl (LG)<|wn ?_;simp only[pu];clear hst3 LG hrg hX2;have HA4:=Z8 pY;have Ou:=pY.gm.mem.bx;have iE:(T1.set i ⟨e,d2,true,s9.us,s9.nx⟩).length=n1:=by rw[List.length_set]; exact iF.out
 rw[iE,HAB.out] at Ou;have HN5:=Z8 iE;obtain⟨V6,MJ,hG6⟩:=Gm.num pY.gm.mem (Gm.base pY.gm lI.out HW.out) 3 (ln+1) Tm (ln+1) bt (by decide) rfl;have iD:=pY.step hG6;have HA6:=Z8 iD;have U9:=iD.gm.mem.bx;rw[iE,HAB.out] at U9;clear hG6 HA4 pY iE HA2 hB2 hw2;go_upto_region 6 with fail;refine wl<|YU (Z7 g 0) (Z7 g 0) (Z7 g 3)<|Zq rfl ⟨g,3,none⟩ (Z9 ln) (Ou.ZL 3) <|
  Yb (Z9 (ln+1)) (Wq rfl ln 1 (by have:=CJ.out; omega))<|ZA (Z7 g 0) (Z7 g 3)<|WC rfl (MJ)<|wn ?_
 simp only[pu];clear MJ Ou;have Ze:=iD.b3;clear iD;go_upto_region 7 with fail;refine ZO (C:=fun U=>Below V6.heap.size V6 U) 10 (by kernel_rfl) (by kernel_rfl) ((Below.refl _ V6).drew) ?_;simp only[List.take_succ_cons,List.take_zero,List.drop_succ_cons,List.drop_zero];refine gy (Z7 g 0)<|gy (Z7 g 0)<|gy (Z7 g 4)<|Zj rfl ⟨g,4,none⟩ (Z9 bt) (fun U hU=>(U9.below U9.lt hU).ZL 4)<|gy (Z7 g3 32) <|
   Zj rfl ⟨g3,32,none⟩ (.slice d.ra e.raw.length d.rc) (fun U hU=>ZK (ZV (Ze.below Ze.lt hU)) (j:=32) rfl (by kernel_rfl))<|gy (Z9 e.raw.length) <|
   Yz (Z9 (bt+e.raw.length)) (fun U hU=>Wq rfl bt e.raw.length (by have:=CJ.out; omega) (by kernel_rfl) (by kernel_rfl) U)<|gy (Z7 g 0)<|gy (Z7 g 4) ?_
 simp only[pu];apply wpQuiet_nil;intro V7 hV7;have tK:=HA6.out.below HW.out hV7;obtain⟨V8,lG,hG8⟩:=Gm.num tK.gm.mem (Gm.base tK.gm lI.out HW.out) 4 (bt+e.raw.length) Tm (ln+1) (bt+e.raw.length) (by decide) rfl;have xB:=tK.step hG8;refine WC rfl lG<|wn ?_;have bT:i<(T1.set i ⟨e,d2,true,s9.us,s9.nx⟩).length:=by rw[HN5.out]; exact hin
 obtain⟨b8,tJ,lF⟩:=xB.gm.mem.rg bT;rw[HAB.out] at tJ;simp only[Option.some.injEq,Addr.mk.injEq,and_true] at tJ;subst tJ;rw[YV _ _ _ _ iG.out.il] at lF;obtain⟨V9,YB,nX,Ho⟩:=st_all (cs':=#[Z9 i,Z9 s9.us]) (ty:=104) xB.b4 rfl (by simp[Value.oneCell']) (by kernel_rfl);have HRA:Hid (Yx m=((i:Int),s9.us)):=Z8 (by rw[<- FT.out]; exact iG.out.hd);have dK:Hid (Lk (Xh m e) (T1.set i ⟨e,d2,true,s9.us,s9.nx⟩) Tm):=Z8 (by have:=iG.out.lk d2; rw[FT.out] at this; exact this);have HE:Hid (Gm B g a T w a1 c1 (T1.set i ⟨e,d2,true,s9.us,s9.nx⟩) mo Tm (ln+1) (bt+e.raw.length) V9):=Z8 ⟨xB.gm.mem.same fun k hk=>Ho.2 k (xB.gm.mem.inn k hk) fun e2=>xB.n4 (e2 ▸ hk),xB.gm.sub,ZP.but xB.gm.but Ho HG.out.2 (Nat.le_trans HW.out HG.out.2)⟩;clear tK hG8 xB lG hV7 HA6 U9 Ze Ho;go_upto_region 8 with fail;refine wl<|MR (Z9 i) (Z7 b (0+i*44)) (Z7 b (0+i*44)) (Z7 b (0+i*44+42))<|Zq rfl ⟨b,0+i*44+42,none⟩ (Z9 s9.us) (ZK lF (j:=42) rfl (by kernel_rfl)) <|
  ZN (.agg #[Z9 i,Z9 s9.us])<|WC rfl (YB)<|ZN ZT<|wn ?_
 simp only[pu];go_wp2_with fail;exact bodyPost_ret (XI rfl (by kernel_rfl) (UU (x:=((i:Int),s9.us)) (ZV (cs:=hnl ((i:Int),s9.us)) nX)) (by kernel_rfl)) rfl ⟨_,_,_,_,by rw[HRA.out],dK.out,HE.out⟩
theorem MK {w:World}{B g:Nat}{S:Nat->Prop}{m:Sm}{u:Nat}{e:En}{d:Ad}(h:XB w g S m)(hm:Wm m u)(he:Vl w e d)(hE:Bv e)(ho:∀ k,EB e d k->¬ S k)(hB:∀ k,S k->B<=k)(hw:B<=w.heap.size):Calls Tryz.prog 59 #[Z7 g 0,.agg (ZQ e d)] w fun r w'=>r=.returned (.tuple #[.agg #[Z9 (Yx m).1,Z9 (Yx m).2],.bool (TT m)])/\nI g B S (Xh m e) w w':=by
 obtain⟨a,c,T,fr,hM,hl,rfl⟩:=h;by_cases hc:YO m.P<m.mo
 ·have hO:TT m=true:=decide_eq_true hc;have h1:=zA hm;have h2:=zy hm;refine(UQ hM hl hm hc (by omega) (by omega) (by omega) he hE ho hB hw).mono fun r w' q=>?_;obtain⟨T1,Tm,a1,c1,q1,q2,q3⟩:=q;rw[hO];have h3:=NY hm e;rw[hO,if_pos rfl] at h3;have h4:=Ob hm e hO;refine⟨q1,Sp g a1 T1,⟨a1,c1,T1,Tm,?_,q2,rfl⟩,q3.sub,q3.but⟩;rw[h3.2,h3.1,h4];exact q3.mem
 ·obtain⟨e1,e2,e3⟩:=U8 e (show m.mo<=YO m.P by omega);have h3:=hm.len;rw[e1,e2,e3];exact(Qw hM.bx (by omega)).mono fun r w' q=>⟨q.1,_,⟨a,c,T,fr,hM.below q.2,hl,rfl⟩,fun k hk=>.inl hk,ZP.of_below q.2 hw⟩
structure RmS (B g g3:Nat)(a0:Option Addr)(T0:List Sn)(w:World)(q:Int×Int)(a:Option Addr)(c:Nat)(T:List Sn)(mo fr ln bt:Int)(V:World):Prop where
 gm:Gm B g a0 T0 w a c T mo fr ln bt V
 b3:Bx V g3 #[Z9 q.1,Z9 q.2] 104
 n3:¬ Sp g a T g3
section
variable {B g g3 : Nat} {a0 : Option Addr} {T0 : List Sn} {w : World} {q : Int × Int} {a a1 : Option Addr} {c c1 : Nat} {T T1 : List Sn} {mo fr ln bt qg Tm zC zB : Int} {V V1 : World}
end
theorem um {w w':World}{b o g:Nat}{cs:List Value}(h:w.rangeAt b o cs)(hb:But g w w')(hn:b≠g):w'.rangeAt b o cs:=fun j v hv=>by
 have h1:=h j v hv;have h2:=World.block_lt_of_cell? w (⟨b,o+j,none⟩:Addr) h1;rw[<- h1];unfold World.cell?;rw[hb.2 b h2 hn]
structure KG (g4:Nat)(E:En)(bC bS:Bool)(x:Value)(W V:World):Prop where
 but:But g4 W V
 b4:bS=false->Bx V g4 (ZQ Zf YW) 52
 cl:bC=true->∃ d,x=.agg (ZQ E d)/\XT V W.heap.size E d
 sc:bS=true->bC=true
 fin:bS=true->∃ d,Bx V g4 (ZQ E d) 52/\XT V W.heap.size E d
section
variable {g4 : Nat} {E : En} {bC bS : Bool} {x : Value} {W V V2 : World} {d : Ad}
theorem KG.start (hg:g4<W.heap.size)(h:Bx W g4 (ZQ Zf YW) 52):KG g4 E false false x W { W with drawn:=W.drawn+1 }:=⟨⟨(Below.refl _ W).drew,fun _ _ _=>rfl⟩,fun _=>h.below hg ((Below.refl _ W).drew),(fun e=>nomatch e),(fun e=>nomatch e),(fun e=>nomatch e)⟩
theorem KG.nos (h:KG g4 E false bS x W V):bS=false:=by
 cases bS with
 | false=>rfl
 | true=>exact absurd (h.sc rfl) (by decide)
theorem KG.call (h:KG g4 E false bS x W V)(hs:bS=false)(hw:XT V2 V.heap.size E d)(hb:Below V.heap.size V V2):KG g4 E true bS (.agg (ZQ E d)) W V2:=by
 subst hs;have h4:=h.b4 rfl;exact⟨h.but.trans (But.of_below hb (Nat.le_of_lt h4.lt)),fun _=>h4.below h4.lt hb,fun _=>⟨d,rfl,own_base hw.r h.but.1.size,own_base hw.p h.but.1.size⟩,(fun e=>nomatch e),(fun e=>nomatch e)⟩
theorem KG.store (h:KG g4 E true false (.agg (ZQ E d)) W V)(hw:XT V W.heap.size E d)(hg:g4<W.heap.size):∃ V2,(Instr.storeAt 52 (Z7 g4 0) (.agg (ZQ E d))).run Tryz.prog V=.ok () V2/\KG g4 E true true (.agg (ZQ E d)) W V2:=by
 obtain⟨V2,hst,hX,hbt⟩:=st_all (cs':=ZQ E d) (ty:=52) (h.b4 rfl) rfl (Y3 E d) (by kernel_rfl);have h2:XT V2 W.heap.size E d:=⟨Zo hw.r hbt fun y hy=>by have:=(hw.r.lt y.block (by rw[hy]; rfl)).1; omega,Zo hw.p hbt fun y hy=>by have:=(hw.p.lt y.block (by rw[hy]; rfl)).1; omega⟩;exact⟨V2,hst,h.but.trans hbt,(fun e=>nomatch e),fun _=>⟨d,rfl,h2⟩,fun _=>rfl,fun _=>⟨d,hX,h2⟩⟩
end
theorem nJ {w:World}{g:Nat}{S:Nat->Prop}{m:Sm}{u:Nat}(q:Int×Int)(h:XB w g S m)(hm:Wm m u):Calls Tryz.prog 47 #[Z7 g 0,.agg #[Z9 q.1,Z9 q.2]] w fun r w'=>∃ d,r=.returned (.tuple #[.agg (ZQ (SH m q) d),.bool (Xl m q)])/\XT w' w.heap.size (SH m q) d/\Below w.heap.size w w':=by
 obtain⟨a,c,T,fr,hM,hl,-⟩:=h;cases hv:Xl m q with
 | false=>
  rw[J3 hv];have zJ:=Z8 hM;have HL:=Z8 hl;have HV:=Z8 hv;clear hM hl hv hm;go_enter Tryz.func47,Tryz.ntmps47;go_upto_region 1 with fail;change Code.wp _ _ _ _ ((w.alloc (.cells #[Z9 q.1,Z9 q.2] 104)).alloc (.cells (ZQ Zf YW) 52));have hb0:Below w.heap.size w ((w.alloc (.cells #[Z9 q.1,Z9 q.2] 104)).alloc (.cells (ZQ Zf YW) 52)):=((Below.refl _ w).alloc (Nat.le_refl _) _).alloc (by simp) _;have Ze:Bx ((w.alloc (.cells #[Z9 q.1,Z9 q.2] 104)).alloc (.cells (ZQ Zf YW) 52)) w.heap.size #[Z9 q.1,Z9 q.2] 104:=Bx.below (heap_alloc_last w _) (by simp) ((Below.refl _ _).alloc (Nat.le_refl _) _);have VH:Bx ((w.alloc (.cells #[Z9 q.1,Z9 q.2] 104)).alloc (.cells (ZQ Zf YW) 52)) (w.heap.size+1) (ZQ Zf YW) 52:=by
   have:=heap_alloc_last (w.alloc (.cells #[Z9 q.1,Z9 q.2] 104)) (.cells (ZQ Zf YW) 52);rwa [show(w.alloc (.cells #[Z9 q.1,Z9 q.2] 104)).heap.size=w.heap.size+1 by simp] at this
  generalize (w.alloc (.cells #[Z9 q.1,Z9 q.2] 104)).alloc (.cells (ZQ Zf YW) 52)=W at *
  obtain⟨g3,hg3⟩:=ZR w.heap.size;obtain⟨g4,hg4⟩:=ZR (g3+1);rw[show w.heap.size+1=g4 by omega] at VH;have HG:Hid (w.heap.size<=g3/\w.heap.size<=g4/\g3≠g4):=Z8 ⟨by omega,by omega,by omega⟩;rw[hg3] at Ze;simp only[hg3];simp only[hg4];have CH:=xC (zJ.out.below hb0) HL.out q;rw[HV.out] at CH;have HB:=Z8 hb0;clear hb0 hg3 hg4 zJ HL;refine wl<|ZN (Z7 g 0)<|Zq rfl ⟨g3,0,none⟩ (.agg #[Z9 q.1,Z9 q.2]) (UU (x:=q) (ZV (cs:=hnl q) Ze))<|Yd ZW (fun w'=>Below W.heap.size W w') (CH) (fun V hV=>?_);refine ZN ZT<|wn ?_;simp only[pu];have Nw:=VH.below VH.lt hV;obtain⟨V2,hst,hY,hbt⟩:=st_all (cs':=ZQ Zf YW) (ty:=52) Nw rfl (Y3 _ _) (by kernel_rfl);have HE:=Z8 ((HB.out.trans (hV.mono HB.out.size)).trans (hbt.1.mono HG.out.2.1));clear hV hbt VH Nw Ze CH;go_upto_region 2 with fail;refine wl<|ZN (.agg (ZQ Zf YW))<|WC rfl (hst)<|ZN ZW<|wn ?_;simp only[pu];go_wp2_with fail;exact bodyPost_ret (XI rfl (by kernel_rfl) (ZC (ZV hY)) (by kernel_rfl)) rfl ⟨YW,rfl,⟨World.ownsRow_nil _ _ _ _,World.ownsRow_nil _ _ _ _⟩,HE.out⟩
 | true=>
  obtain⟨i,hi,hil,hf,-⟩:=NZ hv;rw[Rt hv hi];have Ec:i<T.length:=by rw[hl.len]; exact hil
  have hee:=hl.e i Ec;have hEB:Bv (m.P.getD i Yp).e:=⟨hm.raw i hil,hm.Y6 i hil⟩;have hen:=hM.en i Ec;rw[hee] at hen;obtain⟨b,hab,hrg⟩:=hM.rg Ec;have hrg2:=lZ hrg;rw[hee] at hrg2;have hX:=hM.bx;rw[hab] at hX;have zJ:=Z8 hM;have HL:=Z8 hl;have HV:=Z8 hv;have HI:=Z8 hi;have qh:=Z8 hEB;obtain⟨d9,hd9⟩:=ZR ((T.getD i Yj).d);rw[hd9] at hen hrg2;have hbw:b<w.heap.size:=zJ.out.inn b (.inr (.inl ⟨_,hab,rfl⟩));obtain⟨n,hn⟩:=ZR T.length;rw[hn] at hX Ec;generalize (m.P.getD i Yp).e=E at *
  clear hM hl hv hm hrg hi hf hee hEB hab hd9 hn;go_enter Tryz.func47,Tryz.ntmps47;go_upto_region 1 with fail;change Code.wp _ _ _ _ ((w.alloc (.cells #[Z9 q.1,Z9 q.2] 104)).alloc (.cells (ZQ Zf YW) 52));have hb0:Below w.heap.size w ((w.alloc (.cells #[Z9 q.1,Z9 q.2] 104)).alloc (.cells (ZQ Zf YW) 52)):=((Below.refl _ w).alloc (Nat.le_refl _) _).alloc (by simp) _;have Ze:Bx ((w.alloc (.cells #[Z9 q.1,Z9 q.2] 104)).alloc (.cells (ZQ Zf YW) 52)) w.heap.size #[Z9 q.1,Z9 q.2] 104:=Bx.below (heap_alloc_last w _) (by simp) ((Below.refl _ _).alloc (Nat.le_refl _) _);have VH:Bx ((w.alloc (.cells #[Z9 q.1,Z9 q.2] 104)).alloc (.cells (ZQ Zf YW) 52)) (w.heap.size+1) (ZQ Zf YW) 52:=by
   have:=heap_alloc_last (w.alloc (.cells #[Z9 q.1,Z9 q.2] 104)) (.cells (ZQ Zf YW) 52);rwa [show(w.alloc (.cells #[Z9 q.1,Z9 q.2] 104)).heap.size=w.heap.size+1 by simp] at this
  generalize (w.alloc (.cells #[Z9 q.1,Z9 q.2] 104)).alloc (.cells (ZQ Zf YW) 52)=W at *
  obtain⟨g3,hg3⟩:=ZR w.heap.size;obtain⟨g4,hg4⟩:=ZR (g3+1);rw[show w.heap.size+1=g4 by omega] at VH;have HG:Hid (w.heap.size<=g3/\w.heap.size<=g4/\g3≠g4):=Z8 ⟨by omega,by omega,by omega⟩;rw[hg3] at Ze;simp only[hg3];simp only[hg4];have zT:Hid (∀ k,EB E d9 k->k<g4):=Z8 fun k hk=>by have:=HG.out; have:=hen.lt k hk; omega
  have CH:=xC (zJ.out.below hb0) HL.out q;rw[HV.out] at CH;have HB:=Z8 hb0;have hX:=hX.below hX.lt hb0;have hen:=hen.below hb0;have hrg2:=Zu hrg2 hb0;have bW:Hid (b<g4/\g<g4):=Z8 ⟨by have:=HG.out; omega,by have:=HG.out; have:=zJ.out.bx.lt; omega⟩;clear hb0 hg3 hg4 zJ HL;refine wl<|ZN (Z7 g 0)<|Zq rfl ⟨g3,0,none⟩ (.agg #[Z9 q.1,Z9 q.2]) (UU (x:=q) (ZV (cs:=hnl q) Ze))<|Yd ZT (fun w'=>Below W.heap.size W w') (CH) (fun Y1 hV=>?_);refine ZN ZW<|wn ?_;simp only[pu];have uj:Bx Y1 g3 #[Z9 i,Z9 q.2] 104:=by rw[<- HI.out]; exact Ze.below Ze.lt hV
  have Nw:=VH.below VH.lt hV;have QF:=hX.below hX.lt hV;have uh:=hen.below hV;have ug:=Zu hrg2 hV;have JI:=Z8 (HB.out.trans (hV.mono HB.out.size));have uf:=Nw.lt;have h0:KG g4 E false false undef Y1 { Y1 with drawn:=Y1.drawn+1 }:=KG.start uf Nw;have H4:=Z8 uf;clear Ze VH hX hen hrg2 hV HB CH Nw uf;go_upto_region 3 with fail;have uj:=Z8 uj;have QF:=Z8 QF;have uh:=Z8 uh;have ug:=Z8 ug;refine ZI (fun listed Zr V=>∃ b0 b1 b2 b3 b4 b5 b6 b7 b8 b9 b10 b11:Bool,∃ x20:Value,listed=#[b0,b1,b2,b3,b4,b5,b6,b7,b8,b9,b10,b11]/\Zr={ tmps:=#[Z7 g 0,.agg #[Z9 q.1,Z9 q.2],undef,Z7 g3 0,Z7 g4 0,(cond b11 ZT ZW),Z7 g 0,.agg #[Z9 q.1,Z9 q.2],ZT,ZW,undef,(cond b0 (Z7 g 0) undef),(cond b1 (Z7 g 0) undef),(cond b2 (Z7 g 1) undef),(cond b3 (.slice (some ⟨b,0,none⟩) n c) undef),(cond b4 (Z7 g3 0) undef),(cond b5 (Z9 i) undef),(cond b6 (Z7 b (0+i*44)) undef),(cond b7 (Z7 b (0+i*44)) undef),(cond b8 (.agg (ZQ E d9)) undef),x20],defers:=[] }/\KG g4 E b9 b10 x20 Y1 V) (by kernel_rfl) (by kernel_rfl) ?_ ?_ ?_
  ·exact⟨_,_,_,_,_,_,_,_,_,_,_,_,_,rfl,rfl,h0⟩
  ·intro i9 listed Zr V hi9 hr hJ;obtain⟨b0,b1,b2,b3,b4,b5,b6,b7,b8,b9,b10,b11,x20,rfl,rfl,hF⟩:=hJ;have hi2:i9<12:=hi9;have hi3:i9=0∨i9=1∨i9=2∨i9=3∨i9=4∨i9=5∨i9=6∨i9=7∨i9=8∨i9=9∨i9=10∨i9=11:=(by omega);rcases hi3 with rfl | rfl | rfl | rfl | rfl | rfl | rfl | rfl | rfl | rfl | rfl | rfl
   ·obtain rfl:b0=false:=Z5 hr;refine ZX rfl (by kernel_rfl) (some 11) rfl (Z7 g 0) V (by kernel_rfl) ?_;exact⟨_,_,_,_,_,_,_,_,_,_,_,_,_,rfl,rfl,hF⟩
   ·obtain rfl:b1=false:=Z5 hr;obtain rfl:b0=true:=Z4 hr 0;refine ZX rfl (by kernel_rfl) (some 12) rfl (Z7 g 0) V (by kernel_rfl) ?_;exact⟨_,_,_,_,_,_,_,_,_,_,_,_,_,rfl,rfl,hF⟩
   ·obtain rfl:b2=false:=Z5 hr;obtain rfl:b1=true:=Z4 hr 1;refine ZX rfl (by kernel_rfl) (some 13) rfl (Z7 g 1) V (by kernel_rfl) ?_;exact⟨_,_,_,_,_,_,_,_,_,_,_,_,_,rfl,rfl,hF⟩
   ·obtain rfl:b3=false:=Z5 hr;obtain rfl:b2=true:=Z4 hr 2;refine ZJ rfl (by kernel_rfl) (some 14) rfl 145 (.tmp 13) rfl ⟨g,1,none⟩ (.slice (some ⟨b,0,none⟩) n c) (by kernel_rfl) ((QF.out.but hF.but (by have:=bW.out; omega)).ZL 1) ?_;exact⟨_,_,_,_,_,_,_,_,_,_,_,_,_,rfl,rfl,hF⟩
   ·obtain rfl:b4=false:=Z5 hr;refine ZX rfl (by kernel_rfl) (some 15) rfl (Z7 g3 0) V (by kernel_rfl) ?_;exact⟨_,_,_,_,_,_,_,_,_,_,_,_,_,rfl,rfl,hF⟩
   ·obtain rfl:b5=false:=Z5 hr;obtain rfl:b4=true:=Z4 hr 4;refine ZJ rfl (by kernel_rfl) (some 16) rfl 3 (.tmp 15) rfl ⟨g3,0,none⟩ (Z9 i) (by kernel_rfl) ((uj.out.but hF.but HG.out.2.2).ZL 0) ?_;exact⟨_,_,_,_,_,_,_,_,_,_,_,_,_,rfl,rfl,hF⟩
   ·obtain rfl:b6=false:=Z5 hr;obtain rfl:b3=true:=Z4 hr 3;obtain rfl:b5=true:=Z4 hr 5;refine ZX rfl (by kernel_rfl) (some 17) rfl (Z7 b (0+i*44)) V (Sz b 0 n c i Ec V _ _ rfl (by kernel_rfl) (by kernel_rfl)) ?_;exact⟨_,_,_,_,_,_,_,_,_,_,_,_,_,rfl,rfl,hF⟩
   ·obtain rfl:b7=false:=Z5 hr;obtain rfl:b6=true:=Z4 hr 6;refine ZX rfl (by kernel_rfl) (some 18) rfl (Z7 b (0+i*44)) V (by kernel_rfl) ?_;exact⟨_,_,_,_,_,_,_,_,_,_,_,_,_,rfl,rfl,hF⟩
   ·obtain rfl:b8=false:=Z5 hr;obtain rfl:b7=true:=Z4 hr 7;refine ZJ rfl (by kernel_rfl) (some 19) rfl 52 (.tmp 18) rfl ⟨b,0+i*44,none⟩ (.agg (ZQ E d9)) (by kernel_rfl) (ZC (um ug.out hF.but (by have:=bW.out; omega))) ?_;exact⟨_,_,_,_,_,_,_,_,_,_,_,_,_,rfl,rfl,hF⟩
   ·obtain rfl:b9=false:=Z5 hr;obtain rfl:b8=true:=Z4 hr 8;obtain rfl:=hF.nos;refine YX rfl (by kernel_rfl) (some 20) rfl 81 #[.agg (ZQ E d9)] (by kernel_rfl) ((IY E d9 V (uh.out.but hF.but fun q=>by have:=zT.out g4 q; omega) qh.out).mono ?_);rintro e V2 ⟨d2,rfl,hw2,hb2⟩;exact⟨_,rfl,_,_,_,_,_,_,_,_,_,_,_,_,_,rfl,rfl,hF.call rfl hw2 hb2⟩
   ·obtain rfl:b10=false:=Z5 hr;obtain rfl:b9=true:=Z4 hr 9;obtain⟨d2,rfl,hw2⟩:=hF.cl rfl;obtain⟨V2,hst,hF2⟩:=hF.store hw2 H4.out;refine Zb rfl (by kernel_rfl) rfl 52 (.tmp 4) (.tmp 20) rfl (Z7 g4 0) (.agg (ZQ E d2)) (by kernel_rfl) (by kernel_rfl) V2 hst ?_;exact⟨_,_,_,_,_,_,_,_,_,_,_,_,_,rfl,rfl,hF2⟩
   ·obtain rfl:b11=false:=Z5 hr;refine ZX rfl (by kernel_rfl) (some 5) rfl ZT V (by kernel_rfl) ?_;exact⟨_,_,_,_,_,_,_,_,_,_,_,_,_,rfl,rfl,hF⟩
  ·intro Zr V hJ;obtain⟨b0,b1,b2,b3,b4,b5,b6,b7,b8,b9,b10,b11,x20,he,rfl,hF⟩:=hJ;have he:(#[true,true,true,true,true,true,true,true,true,true,true,true]:Array Bool)=#[b0,b1,b2,b3,b4,b5,b6,b7,b8,b9,b10,b11]:=he;simp only[Array.mk.injEq,List.cons.injEq,and_true] at he;obtain⟨rfl,rfl,rfl,rfl,rfl,rfl,rfl,rfl,rfl,rfl,rfl,rfl⟩:=he;simp only[cond_true];obtain⟨d2,hY,hw2⟩:=hF.fin rfl;have HE:=Z8 (JI.out.trans (hF.but.1.mono HG.out.2.1));go_wp2_with fail;exact bodyPost_ret (XI rfl (by kernel_rfl) (ZC (ZV hY)) (by kernel_rfl)) rfl ⟨d2,rfl,⟨own_base hw2.r JI.out.size,own_base hw2.p JI.out.size⟩,HE.out⟩
end Go.Proofs.YtnelmomagdcmnaaGreat.Sl
namespace Go.Proofs.YtnelmomagdcmnaaGreat.Hp
open Go.RowKit
def TV (x:It):List Value:=[Z9 x.1,ZY x.2.1,Z9 x.2.2]
abbrev YS (x:It):Array Value:=#[Z9 x.1,ZY x.2.1,Z9 x.2.2]
def itc (A:List It):List Value:=A.flatMap TV
theorem Tj (x:It)(r:List It):itc (x::r)=Z9 x.1::ZY x.2.1::Z9 x.2.2::itc r:=rfl
theorem zl (A B:List It):itc (A++B)=itc A++itc B:=by simp[itc]
theorem Xb:∀ A:List It,(itc A).length=A.length*3
 | []=>rfl
 | x::r=>by have:=Xb r; rw[Tj]; simp; omega
theorem Nv (A:List It):∀ u∈itc A,u.oneCell'=true:=fun u hu=>by
 obtain⟨x,-,hx⟩:=List.mem_flatMap.1 hu;simp only[TV,List.mem_cons,List.not_mem_nil,or_false] at hx;rcases hx with rfl | rfl | rfl <;> rfl
theorem y8 (x:It):(YS x).all (·.oneCell')=true:=by simp[Value.oneCell']
theorem JH:∀ (A:List It) (k:Nat),k<A.length->(itc A)[k*3]?=some (Z9 (ita A k).1)/\(itc A)[k*3+1]?=some (ZY (ita A k).2.1)/\(itc A)[k*3+2]?=some (Z9 (ita A k).2.2)
 | [],k,h=>absurd h (by simp)
 | x::r,0,h=>by rw[Tj]; exact⟨rfl,rfl,rfl⟩
 | x::r,k+1,h=>by
  have:=JH r k (by simpa using h);rw[Tj,show(k+1)*3=k*3+1+1+1 by omega,show k*3+1+1+1+1=(k*3+1)+1+1+1 by omega,show k*3+1+1+1+2=(k*3+2)+1+1+1 by omega];simpa [ita,List.getD] using this
theorem KZ:∀ (A:List It) (k:Nat) (x:It),k<A.length->(((itc A).set (k*3) (Z9 x.1)).set (k*3+1) (ZY x.2.1)).set (k*3+1+1) (Z9 x.2.2)=itc (A.set k x)
 | [],k,_,h=>absurd h (by simp)
 | y::r,0,x,h=>rfl
 | y::r,k+1,x,h=>by
  have:=KZ r k x (by simpa using h);rw[Tj,show(k+1)*3=k*3+1+1+1 by omega];rw[show k*3+1+1+1+1=(k*3+1)+1+1+1 by omega];rw[show k*3+1+1+1+1+1=(k*3+1+1)+1+1+1 by omega];simp only[List.set_cons_succ];rw[this];rfl
theorem D7:(Tryz.prog.info? 99).map (fun i=>(i.zero,i.size,i.bytes))=some (some (.agg #[Z9 0,ZY 0,Z9 0]),3,24):=by kernel_rfl
theorem MN {w:World}{a:Option Addr}{A:List It}(h:Cs w a (itc A)){k:Nat}(hk:k<A.length):∃ b off,a=some ⟨b,off,none⟩/\b<w.heap.size/\w.rangeAt b (off+k*3) (TV (ita A k)):=by
 obtain⟨h0,h1,h2⟩:=JH A k hk;obtain⟨b,off,rfl,hb,c0⟩:=h _ _ h0;obtain⟨b1,off1,e1,-,c1⟩:=h _ _ h1;obtain⟨b2,off2,e2,-,c2⟩:=h _ _ h2;simp only[Option.some.injEq,Addr.mk.injEq,and_true] at e1 e2;obtain⟨rfl,rfl⟩:=e1;obtain⟨rfl,rfl⟩:=e2;refine⟨b,off,rfl,hb,fun j v hj=>?_⟩;have hj3:j<3:=by
  have:=(List.getElem?_eq_some_iff.1 hj).1;simpa [TV] using this
 rcases (show j=0∨j=1∨j=2 by omega) with rfl | rfl | rfl
 ·simp[TV] at hj; rw[<- hj]; exact c0
 ·simp[TV] at hj; rw[<- hj,Nat.add_assoc]; exact c1
 ·simp[TV] at hj; rw[<- hj,Nat.add_assoc]; exact c2
theorem Om {w:World}{b o:Nat}{x:It}(h:w.rangeAt b o (TV x)):(Instr.loadAt 99 (Z7 b o)).run Tryz.prog w=.ok (.agg (YS x)) w:=
 run_loadAt_mid w b o 99 (TV x) _ h Tryz.underlying99 rfl (by kernel_rfl)
theorem GV {w:World}{g t:Nat}{x:It}(h:Bx w g (YS x) t):w.rangeAt g 0 (TV x):=fun j v hv=>by
 rw[cell_of_row w g _ _ _ (0,0) h];simpa [TV] using hv
theorem Qk {w:World}{g t:Nat}{x:It}(h:Bx w g (YS x) t):(Instr.loadAt 99 (Z7 g 0)).run Tryz.prog w=.ok (.agg (YS x)) w:=Om (GV h)
theorem FW (b off n c k:Nat)(hk:k<n)(V:World)(ρ:Operand->Value)(o:Oper){x y:Operand}(ho:o.op=.indexAddr 96 x y)(hx:ρ x=.slice (some ⟨b,off,none⟩) n c)(hy:ρ y=Z9 k):(execOp ρ o).run Tryz.prog V=.ok (.value (Z7 b (off+k*3))) V:=by
 have hs:(sizeOf (Tryz.prog.elem 96)).run Tryz.prog V=.ok 3 V:=by kernel_rfl
 have hlm:(k:Int)<(n:Int):=by omega
 unfold execOp;simp only[ho,hx,hy];go_simp
theorem Wj (b n c k:Nat)(hk:k<n)(V:World)(ρ:Operand->Value)(o:Oper){x y:Operand}(ho:o.op=.indexAddr 96 x y)(hx:ρ x=.slice (some ⟨b,0,none⟩) n c)(hy:ρ y=Z9 k):(execOp ρ o).run Tryz.prog V=.ok (.value (Z7 b (k*3))) V:=by
 have:=FW b 0 n c k hk V ρ o ho hx hy;rw[Nat.zero_add] at this;exact this
theorem DW (x:It)(V:World):(Instr.buildSlice 96 1 #[(0,.agg (YS x))]).run Tryz.prog V=.ok (.slice (some ⟨V.heap.size,0,none⟩) 1 1) (V.alloc (.cells (YS x) 99)):=by
 obtain⟨i0,hi,hz0,hz1,hz2⟩:=info_parts D7;refine run_buildSlice V 96 99 1 _ (YS x) i0 _ Tryz.underlying96 hi hz0 (by rw[hz1]; omega) (by rw[hz1]; omega) ?_;rw[hz1];kernel_rfl
theorem lq (x:It)(w:World):Cs (w.alloc (.cells (YS x) 99)) (some ⟨w.heap.size,0,none⟩) (itc [x]):=
 Cs.block (t:=99) (fr:=(0,0)) (cs:=TV x) (heap_alloc_last w (.cells (YS x) 99))
end Go.Proofs.YtnelmomagdcmnaaGreat.Hp
