/-
  Texts joined.
-/
import Derived.Test.YtfpnnmeblefkkaaGreatDoorD6
import Derived.Laws.RangeString
set_option maxRecDepth 100000
set_option maxHeartbeats 8000000
set_option linter.unusedSimpArgs false
set_option linter.unusedVariables false
namespace Go.Proofs.YtfpnnmeblefkkaaGreatDoor
attribute [local irreducible] wpList wpQuiet
open Go.RowKit
theorem ak3 (T:ByteArray)(h:Nat)(hh:h<=T.size)(w:World):(Instr.slice 9 (.string T) none (some (Z8 (h:Int))) none).run Tryz.prog w=.ok (.string (T.extract 0 h)) w:=by
 simp[Instr.slice,run_underlying Tryz.underlying9,Instr.sliceBounds,Instr.sliceBound,asIntOf,go_sem];intro h';omega
theorem nN (T:ByteArray)(l:Nat)(hl:l<=T.size)(w:World):(Instr.slice 9 (.string T) (some (Z8 (l:Int))) none none).run Tryz.prog w=.ok (.string (T.extract l T.size)) w:=by
 simp[Instr.slice,run_underlying Tryz.underlying9,Instr.sliceBounds,Instr.sliceBound,asIntOf,go_sem];intro h';omega
theorem Og (s:ByteArray)(a b:Nat):nums (s.extract a b)=((nums s).drop a).take (b-a):=by
 unfold nums;rw[ByteArray.data_extract,Array.toList_extract,List.extract_eq_take_drop,List.map_take,List.map_drop]
theorem nM {a b:ByteArray}(h:nums a=nums b):a=b:=by rw[<- SH a,h,SH]
theorem Ee (a b:ByteArray):(a == b)=decide (nums a=nums b):=by
 by_cases h:nums a=nums b
 ·rw[decide_eq_true h,nM h,beq_toListBytes];simp
 ·rw[decide_eq_false h,Bool.eq_false_iff];intro e;rw[beq_toListBytes] at e;have e2:=eq_of_beq e;rw[ByteArray.toList_eq,ByteArray.toList_eq] at e2;exact h (by unfold nums; rw[e2])
def hpr (s p:ByteArray):Bool:=decide (p.size<=s.size) && (s.extract 0 p.size == p)
theorem ak4 (s p:ByteArray)(w:World)(h1:s.size<=140737488355328)(h2:p.size<=140737488355328):Calls Tryz.prog 155 #[.string s,.string p] w fun e w'=>e=.returned (.bool (hpr s p))/\w=w':=by
 unfold hpr;have HX:=fun(h:p.size<=s.size)=>ak3 s p.size h w;obtain⟨n,hn⟩:=ZQ s.size;obtain⟨m,hm⟩:=ZQ p.size;rw[hn,hm] at HX ⊢;by_cases hc:m<=n
 ·have hx:=HX hc;rw[decide_eq_true hc,Bool.true_and];generalize s.extract 0 m=u at *
  obtain⟨tb,ht⟩:=ZQ ((u == p));rw[ht];clear HX;go_enter Tryz.func155,Tryz.ntmps155;go_upto_region 1 with fail;refine wl<|ZV (.string s)<|YI (Z8 n) (by rw[<- hn]; kernel_rfl)<|ZV (.string p)<|YI (Z8 m) (by rw[<- hm]; kernel_rfl)<|ZM (Vg rfl (n) (m) dT) <|
   Yr ZW (.string s) (.string p)<|YI (Z8 m) (by rw[<- hm]; kernel_rfl) ?_
  refine MK (by kernel_rfl) (some 14) rfl 9 (.tmp 11) (.tmp 13) rfl (.string s) (Z8 m) (.string u) (by kernel_rfl) (by kernel_rfl) hx ?_;refine ZV (.string p)<|Yn (.bool tb) (Uf rfl u p ht)<|ZB (.bool tb) (.bool tb)<|wn ?_;simp only[pu];go_wp2_with fail;go_ret;exact⟨rfl,rfl⟩
 ·rw[decide_eq_false hc,Bool.false_and];clear HX;go_enter Tryz.func155,Tryz.ntmps155;go_upto_region 1 with fail;refine wl<|ZV (.string s)<|YI (Z8 n) (by rw[<- hn]; kernel_rfl)<|ZV (.string p)<|YI (Z8 m) (by rw[<- hm]; kernel_rfl)<|ZM (Vg rfl (n) (m) dF) <|
   Y0 ZY undef undef undef undef undef<|Yr undef ZY ZY<|wn ?_
  simp only[pu];go_wp2_with fail;go_ret;exact⟨rfl,rfl⟩
theorem nK (s p:ByteArray)(w:World)(h1:s.size<=140737488355328)(h2:p.size<=140737488355328):Calls Tryz.prog 146 #[.string s,.string p] w fun e w'=>e=.returned (.bool (hpr s p))/\w=w':=by
 have CL:=ak4 s p w h1 h2;generalize hpr s p=tb at *
 go_enter Tryz.func146,Tryz.ntmps146;go_upto_region 1 with fail;refine wl<|ZB (.string s) (.string p)<|YM (.bool tb) (fun w'=>w=w') (CL) (fun V9 VK=>?_);subst VK;refine ZV (.bool tb)<|wn ?_;simp only[pu];go_wp2_with fail;go_ret;exact⟨rfl,rfl⟩
def zT:ByteArray:=⟨#[239,191,189]⟩
theorem take3 (L:List Int)(i:Nat)(h:i+3<=L.length):(L.drop i).take 3=[L.getD i 0,L.getD (i+1) 0,L.getD (i+2) 0]:=by
 rw[List.drop_eq_getElem_cons (by omega),List.take_succ_cons,List.drop_eq_getElem_cons (by omega),List.take_succ_cons,List.drop_eq_getElem_cons (by omega),List.take_succ_cons,List.take_zero];simp[List.getD_eq_getElem?_getD,List.getElem?_eq_getElem (show i<L.length by omega),List.getElem?_eq_getElem (show i+1<L.length by omega),List.getElem?_eq_getElem (show i+2<L.length by omega)]
theorem xG (s:ByteArray)(i:Nat)(hi:i<=s.size):hpr (s.extract i s.size) zT=decide (i+3<=s.size/\(nums s).getD i 0=239/\(nums s).getD (i+1) 0=191/\(nums s).getD (i+2) 0=189):=by
 have e1:(s.extract i s.size).size=s.size-i:=by rw[<- Zf,Og,List.length_take,List.length_drop,Zf]; omega
 have e2:zT.size=3:=rfl;have e3:nums zT=[239,191,189]:=by decide +kernel
 unfold hpr;rw[e1,e2,Ee,e3,Og,Og,List.drop_zero];by_cases h:i+3<=s.size
 ·rw[decide_eq_true (show 3<=s.size-i by omega),Bool.true_and];have e4:((((nums s).drop i).take (s.size-i)).take (3-0))=[(nums s).getD i 0,(nums s).getD (i+1) 0,(nums s).getD (i+2) 0]:=by
   rw[List.take_take,show min (3-0) (s.size-i)=3 by omega];exact take3 _ _ (by rw[Zf]; exact h)
  rw[e4,decide_eq_decide];simp[h]
 ·rw[decide_eq_false (show ¬ 3<=s.size-i by omega),Bool.false_and,eq_comm];exact decide_eq_false (fun q=>h q.1)
theorem getD_byte (s:ByteArray)(j:Nat):0<=(nums s).getD j 0/\(nums s).getD j 0<256:=by
 rw[Uw];have:=(s.get! j).toNat_lt;omega
theorem eG (s:ByteArray)(i:Nat)(hi:i<s.size)(hk:runK (nums s) i≠0)(hv:Gq (nums s) i=65533):hpr (s.extract i s.size) zT=true:=by
 rw[xG s i (by omega)];have h3:=nJ (getD_byte s) hk hv;have hl:=Gp (L:=nums s) (i:=i) (by rw[Zf]; exact hi);rw[h3,Zf] at hl;have h0:=getD_byte s i;have h1:=getD_byte s (i+1);have h2:=getD_byte s (i+2);have hr:=h3;unfold runK runN at hr;unfold Gq at hv;rw[h3] at hv;have e:((nums s).getD i 0-224)*4096+((nums s).getD (i+1) 0-128)*64+((nums s).getD (i+2) 0-128)=65533:=hv;refine decide_eq_true ⟨hl,?_⟩;have f1:Ll (nums s) (i+1)=true/\Ll (nums s) (i+2)=true:=by
  split at hr
  ·omega
  split at hr
  ·omega
  split at hr
  ·rename_i q
   exact⟨q.1.2,q.2⟩
  split at hr
  ·split at hr <;> omega
  ·omega
 have g1:=WR f1.1;have g2:=WR f1.2;omega
theorem ak5 (s:ByteArray)(i:Nat)(hi:i<s.size)(hk:runK (nums s) i=0):hpr (s.extract i s.size) zT=false:=by
 rw[xG s i (by omega)];refine decide_eq_false fun⟨hl,e0,e1,e2⟩=>?_;have f1:Ll (nums s) (i+1)=true:=by
  unfold Ll;rw[e1,Zf,decide_eq_true (show i+1<s.size by omega)];rfl
 have f2:Ll (nums s) (i+2)=true:=by
  unfold Ll;rw[e2,Zf,decide_eq_true (show i+2<s.size by omega)];rfl
 unfold runK runN at hk;rw[e0,e1,f1,f2] at hk;simp at hk
theorem Gn (w:World)(s:ByteArray)(pos:Nat)(ty:TypeId)(h:pos<s.size) :
  (Instr.next (Z5 w.heap.size 0) true ty).run Tryz.prog (w.iter s pos) =
   .ok (.tuple #[ZW,Z8 pos,.int .i32 (Utf8.decode s pos).1]) (w.iter s (pos+(Utf8.decode s pos).2)):=by
 simp only[Instr.next,getObj,setObj,Sem.run_bind,Sem.run,World.iter_heap,Result.andThen,h,if_true,World.iter_set];simp[goInt,Sem.run,World.iter_heap,World.iter_set]
theorem eF {ρ:Operand->Value}{o:Oper}{x:Operand}(ho:o.op=.next x true)(w:World)(s:ByteArray)(pos:Nat)(h:pos<s.size)(hx:ρ x=Z5 w.heap.size 0) :
  (execOp ρ o).run Tryz.prog (w.iter s pos)=.ok (.value (.tuple #[ZW,Z8 pos,.int .i32 (Utf8.decode s pos).1])) (w.iter s (pos+(Utf8.decode s pos).2)):=by
 unfold execOp;simp only[ho,hx,Sem.run_bind,Gn w s pos _ h];rfl
theorem dZ {ρ:Operand->Value}{o:Oper}{x:Operand}(ho:o.op=.next x true)(w:World)(s:ByteArray)(pos:Nat)(h:¬ pos<s.size)(hx:ρ x=Z5 w.heap.size 0) :
  (execOp ρ o).run Tryz.prog (w.iter s pos)=.ok (.value (.tuple #[ZY])) (w.iter s pos):=by
 unfold execOp;simp only[ho,hx,Sem.run_bind,run_next_end w s pos _ h];rfl
theorem nI {ρ:Operand->Value}{o:Oper}{x:Operand}(ho:o.op=.range 9 x)(w:World)(s:ByteArray)(hx:ρ x=.string s) :
  (execOp ρ o).run Tryz.prog w=.ok (.value (Z5 w.heap.size 0)) (w.iter s 0):=by
 unfold execOp;simp only[ho,hx,Sem.run_bind,run_range_string w _ s Tryz.underlying9];rfl
theorem nH {ρ:Operand->Value}{o:Oper}{x y:Operand}(ho:o.op=.binOp .eql 21 x y 21)(a b:Int){t:Bool}(ht:decide (a=b)=t)(hx:ρ x=.int .i32 a)(hy:ρ y=.int .i32 b)(w:World):(execOp ρ o).run Tryz.prog w=.ok (.value (.bool t)) w:=by
 have e:(a == b)=t:=ht;unfold execOp;simp only[ho,hx,hy];go_simp
theorem nG {L:List Int}{i m:Nat}(h:Ran L i m)(hm:64<m):X7 L=false:=by
 unfold X7 Ran at *
 rw[h];cases runs L i with
 | none=>rfl
 | some k=>
  show decide (k+m<=64)=false;exact decide_eq_false (by omega)
theorem nD {L:List Int}(h:runs L 0=none):X7 L=false:=by unfold X7; rw[h]
theorem Lm {L:List Int}{m:Nat}(h:runs L 0=some m)(hm:m<=64):X7 L=true:=by unfold X7; rw[h]; exact decide_eq_true hm
theorem zS (w:World)(s:ByteArray)(i:Nat):Below w.heap.size w (w.iter s i):=(Below.refl _ w).alloc (Nat.le_refl _) _
theorem ext_size (s:ByteArray)(i:Nat):(s.extract i s.size).size=s.size-i:=by rw[<- Zf,Og,List.length_take,List.length_drop,Zf]; omega
theorem nO (s:ByteArray)(w:World)(hl:s.size<=140737488355328):Calls Tryz.prog 133 #[.string s] w fun e w'=>e=.returned (.bool (X7 (nums s)))/\Below w.heap.size w w':=by
 have MP:=Z9 (fun(ρ:Operand->Value) (o:Oper) (x:Operand) ho hx=>nI (ρ:=ρ) (o:=o) (x:=x) ho w s hx);have HOV:=Z9 (fun(ρ:Operand->Value) (o:Oper) (x:Operand) ho i h hx=>dZ (ρ:=ρ) (o:=o) (x:=x) ho w s i h hx);have HNX:=Z9 (fun(ρ:Operand->Value) (o:Oper) (x:Operand) ho i h hx=>eF (ρ:=ρ) (o:=o) (x:=x) ho w s i h hx);have HDC:=Z9 (dY s);have Gm:=Z9 (eG s);have zQ:=Z9 (ak5 s);have HCP:=Z9 (fun i V=>nK (s.extract i s.size) zT V (by rw[ext_size]; omega) (by decide));have HSF:=Z9 (fun i (h:i<=s.size) V=>nN s i h V);have HL:=Z9 (Zf s);have HB:=Z9 (zS w s);obtain⟨L,hL⟩:=ZQ (nums s);rw[hL] at HDC Gm zQ HL ⊢;have HR0:=Z9 (Ran.zero L);obtain⟨r,hr⟩:=ZQ (X7 L);have ru:=Z9 hr;rw[hr];clear hL hr;obtain⟨n,hn⟩:=ZQ s.size;have HN:=Z9 hn;rw[hn] at hl Gm zQ HL HOV HNX HCP HSF;obtain⟨WI,hWI⟩:∃ WI:Nat->World,(fun i=>w.iter s i)=WI:=⟨_,rfl⟩;have HWI:∀ i,w.iter s i=WI i:=fun i=>congrFun hWI i;simp only[HWI] at MP HOV HNX HB;obtain⟨q,hq⟩:=ZQ w.heap.size;have HQ:=Z9 hq;rw[hq] at MP HOV HNX;clear hq hn hWI HWI;go_enter Tryz.func133,Tryz.ntmps133;go_upto_region 1 with fail;refine wl<|ZV (Z8 0)<|wn ?_;simp only[pu];go_upto_region 2 with fail;refine wl<|ZV (.string s) ?_;refine O6 (by kernel_rfl) (some 7) rfl (Z5 q 0) (WI 0) (MP.out _ _ _ rfl (by kernel_rfl)) ?_;simp only[pu];apply wpList_nil;clear MP;go_wp2_with fail;go_loopg [3] n (fun gg s3 wx=>∃ i m:Nat,s3=Z8 m/\i<=n/\m<=64/\Hid (Ran L i m)/\wx=WI i/\n-i<=gg)
 case atStart=>exact⟨0,0,rfl,by omega,by omega,HR0,rfl,by omega⟩
 case round=>
  obtain⟨i,m,rfl,hi,hm,HM,rfl,hg⟩:=hrel;clear HR0;by_cases hlt:i<n
  ·have hk4:=Gl L i;have hkl:=Gp (L:=L) (i:=i) (by rw[HL.out]; omega);have HST:=Z9 (HM.out.step (by rw[HL.out]; omega));have Aj:=Z9 (HM.out.bad (by rw[HL.out]; omega));rw[HL.out] at hkl;have hdc:=HDC.out i;have hys:=Gm.out i hlt;have hno:=zQ.out i hlt;have hcp:=HCP.out i;have hsf:=HSF.out i hi;have hnx:=fun ρ o x ho hx=>HNX.out ρ o x ho i hlt hx;obtain⟨d1,hd1⟩:∃ d1:Int,((Utf8.decode s i).1:Int)=d1:=⟨_,rfl⟩;rw[hd1] at hdc hnx;generalize (Utf8.decode s i).2=d2 at *
   generalize runK L i=k at *
   generalize Gq L i=v at *
   generalize hpr (s.extract i n) zT=hb at *
   generalize s.extract i n=u at *
   clear HM HDC Gm zQ HCP HSF HNX HOV hd1;obtain⟨nC,D6⟩:=hdc;go_upto_region 3 with fail;by_cases hk:k=0
   ·rw[if_pos hk] at D6 nC;have HHB:=hno hk;have HE:Hid (r=false):=Z9 (by rw[<- ru.out]; exact nD (Aj.out hk));have HB2:=Z9 (HB.out (i+d2));clear hys hno HST Aj ru HB hk hkl hk4 nC hg;apply wp_region_lit;refine O6 (by kernel_rfl) (some 8) rfl (.tuple #[ZW,Z8 i,.int .i32 d1]) (WI (i+d2)) (hnx _ _ _ rfl (by kernel_rfl)) ?_;refine ZV ZW<|wn ?_;simp only[pu];clear hnx;go_upto_region 4 with fail;refine wl<|U8 (Z8 i) (.int .i32 d1) (Z8 i) (.int .i32 d1)<|wn ?_;simp only[pu];have CP:=hcp (WI (i+d2));rw[HHB] at CP;clear hcp HHB;go_upto_region 5 with fail;refine wl<|ZV (.int .i32 d1)<|ZM (nH rfl (d1) (65533) (decide_eq_true (D6)))<|Yr ZW (.string s) (Z8 i) ?_;refine MJ (by kernel_rfl) (some 17) rfl 9 (.tmp 15) (.tmp 16) rfl (.string s) (Z8 i) (.string u) (by kernel_rfl) (by kernel_rfl) (hsf _) ?_;refine YM ZY (fun w'=>WI (i+d2)=w') (CP) (fun V9 VK=>?_);subst VK;refine ZB ZW ZW<|wn ?_;simp only[pu];clear CP hsf;go_upto_region 6 with fail;refine wl<|ZV ZY<|wn ?_;simp only[pu];go_wp2_with fail;go_ret;rw[HE.out];exact⟨rfl,HB2.out⟩
   ·rw[if_neg hk] at D6 nC;have HS2:=Z9 (HST.out hk);have Bh:Hid (64<m+1->r=false):=Z9 fun h=>(by rw[<- ru.out]; exact nG HS2.out h);have HB2:=Z9 (HB.out (i+d2));have HG:Hid (0<k/\i+k<=n/\i<n/\n-i<=gk/\d2=k):=Z9 ⟨by omega,hkl,hlt,hg,nC⟩;clear hno HST Aj hkl hk4 nC hg;apply wp_region_lit;refine O6 (by kernel_rfl) (some 8) rfl (.tuple #[ZW,Z8 i,.int .i32 d1]) (WI (i+d2)) (hnx _ _ _ rfl (by kernel_rfl)) ?_;refine ZV ZW<|wn ?_;simp only[pu];clear hnx;go_upto_region 4 with fail;refine wl<|U8 (Z8 i) (.int .i32 d1) (Z8 i) (.int .i32 d1)<|wn ?_;simp only[pu];go_upto_region 5 with fail;by_cases hv:v=65533
    ·have HHB:=hys hk hv;rw[hv] at D6;have CP:=hcp (WI (i+d2));rw[HHB] at CP;clear hcp HHB hys hv hk;refine wl<|ZV (.int .i32 d1)<|ZM (nH rfl (d1) (65533) (decide_eq_true (D6)))<|Yr ZW (.string s) (Z8 i) ?_;refine MJ (by kernel_rfl) (some 17) rfl 9 (.tmp 15) (.tmp 16) rfl (.string s) (Z8 i) (.string u) (by kernel_rfl) (by kernel_rfl) (hsf _) ?_;refine YM ZW (fun w'=>WI (i+d2)=w') (CP) (fun V9 VK=>?_);subst VK;refine ZB ZY ZY<|wn ?_;simp only[pu];clear CP hsf D6;have HD2:=Z9 HG.out.2.2.2.2;go_upto_region 7 with fail;refine wl<|ZV (Z8 m)<|Yn (Z8 (m+1:Nat)) (Zz rfl m 1 (by omega))<|ZV (Z8 (m+1:Nat))<|wn ?_;simp only[pu];go_upto_region 8 with fail;by_cases hm2:64<m+1
     ·have HE:=Z9 (Bh.out hm2);clear Bh ru HB;refine wl<|ZV (Z8 (m+1:Nat))<|ZM (Zn rfl ((m+1:Nat)) (64) dT)<|wn ?_;simp only[pu];go_upto_region 9 with fail;refine wl<|ZV ZY<|wn ?_;simp only[pu];go_wp2_with fail;go_ret;rw[HE.out];exact⟨rfl,HB2.out⟩
     ·clear Bh;refine wl<|ZV (Z8 (m+1:Nat))<|ZM (Zn rfl ((m+1:Nat)) (64) dF)<|wn ?_;simp only[pu];go_wp2_with fail;go_roundg (n-(i+k))
      case measure=>have:=HG.out; omega
      case rel=>exact⟨i+k,m+1,rfl,HG.out.2.1,by omega,HS2,by rw[HD2.out],Nat.le_refl _⟩
    ·have aB0:¬ d1=65533:=(by rw[D6]; exact hv);clear hcp hys D6 hsf hv hk;refine wl<|ZV (.int .i32 d1)<|ZM (nH rfl (d1) (65533) (decide_eq_false (aB0)))<|Y0 ZY undef undef undef undef undef<|ZV ZY<|wn ?_;simp only[pu];clear aB0;have HD2:=Z9 HG.out.2.2.2.2;go_upto_region 7 with fail;refine wl<|ZV (Z8 m)<|Yn (Z8 (m+1:Nat)) (Zz rfl m 1 (by omega))<|ZV (Z8 (m+1:Nat))<|wn ?_;simp only[pu];go_upto_region 8 with fail;by_cases hm2:64<m+1
     ·have HE:=Z9 (Bh.out hm2);clear Bh ru HB;refine wl<|ZV (Z8 (m+1:Nat))<|ZM (Zn rfl ((m+1:Nat)) (64) dT)<|wn ?_;simp only[pu];go_upto_region 9 with fail;refine wl<|ZV ZY<|wn ?_;simp only[pu];go_wp2_with fail;go_ret;rw[HE.out];exact⟨rfl,HB2.out⟩
     ·clear Bh;refine wl<|ZV (Z8 (m+1:Nat))<|ZM (Zn rfl ((m+1:Nat)) (64) dF)<|wn ?_;simp only[pu];go_wp2_with fail;go_roundg (n-(i+k))
      case measure=>have:=HG.out; omega
      case rel=>exact⟨i+k,m+1,rfl,HG.out.2.1,by omega,HS2,by rw[HD2.out],Nat.le_refl _⟩
  ·have HE:Hid (r=true):=Z9 (by rw[<- ru.out]; exact Lm (HM.out.done (by rw[HL.out]; omega)) hm);have HB2:=Z9 (HB.out i);have hov:=fun ρ o x ho hx=>HOV.out ρ o x ho i hlt hx;clear HM ru HB hg HOV HNX HDC Gm zQ HCP HSF;go_upto_region 3 with fail;refine wl<|YI (.tuple #[ZY]) (hov _ _ _ rfl (by kernel_rfl))<|ZV ZY<|wn ?_;simp only[pu];go_upto_region 10 with fail;refine wl<|ZV ZW<|wn ?_;simp only[pu];go_wp2_with fail;go_ret;rw[HE.out];exact⟨rfl,HB2.out⟩
theorem RP (x:YV)(a:Option Addr)(c:Nat)(w:World)(hR:Cs w a (QZ x.tr))(h2:x.memo.size<=140737488355328) :
  Calls Tryz.prog 103 #[.agg (ZA x a c)] w fun e w'=>e=.returned (Z8 (Xv x))/\Below w.heap.size w w':=by
 have hb0:Below w.heap.size w (w.alloc (.cells (ZA x a c) 63)):=(Below.refl _ w).alloc (Nat.le_refl _) _;have hX0:Bx (w.alloc (.cells (ZA x a c) 63)) w.heap.size (ZA x a c) 63:=heap_alloc_last w _;have HA:=Z9 (hR.below hb0);have CN:=Z9 (fun V=>OG x.snd V);have CM:=Z9 (fun V=>nO x.memo V h2);have HV:Hid (Xv x=if isName (nums x.snd)=false then 10 else if x.Zx=0 then 15 else if X7 (nums x.memo)=false then 11 else if x.tr.length=0∨16<x.tr.length then 3 else RQ x.tr):=Z9 rfl;have HT:=Z9 (fun j (hj:j<x.tr.length) V=>OG (tfa x.tr j).1 V);obtain⟨snd,sq,Zx,Y8,memo,M⟩:=x;simp only[ZA] at hb0 hX0 HA ⊢;dsimp only at *
 have HO:=Z9 (AY.zero M);generalize Xv _=r at *
 generalize isName (nums snd)=t1 at *
 generalize X7 (nums memo)=t2 at *
 obtain⟨n,hn⟩:=ZQ M.length;have HN:=Z9 hn;rw[hn] at hb0 hX0 HA HV ⊢;clear hR h2;go_enter Tryz.func103,Tryz.ntmps103;go_upto_region 1 with fail;change Code.wp _ _ _ _ (w.alloc (.cells #[.string snd,Z7 sq,Z7 Zx,Z7 Y8,.string memo,.slice a n c] 63));generalize w.alloc (.cells #[.string snd,Z7 sq,Z7 Zx,Z7 Y8,.string memo,.slice a n c] 63)=W at *
 obtain⟨g0,hg0⟩:=ZQ w.heap.size;have HB0:=Z9 hb0;have KN:=Z9 (hX0.lt);have HGE:Hid (g0<=w.heap.size/\w.heap.size<=g0):=Z9 ⟨by omega,by omega⟩;rw[hg0] at hX0 KN;simp only[hg0];clear hb0 hg0 hn;have CNW:=CN.out W;clear CN;cases t1
 ·refine wl<|ZV (Z5 g0 0)<|ZL rfl ⟨g0,0,none⟩ (.string snd) (hX0.ZR 0)<|YM ZY (fun w'=>Below W.heap.size W w') (CNW) (fun V hV=>?_);refine ZB ZW ZW<|wn ?_;simp only[pu];have hX1:=hX0.below KN.out hV;have HB1:=Z9 (HB0.out.trans (hV.mono HB0.out.size));have HA1:=Z9 (HA.out.below hV);clear hV CNW hX0 HB0 HA KN;have HE:Hid (r=10):=Z9 (by rw[HV.out]; rfl);clear HV;go_upto_region 2 with fail;refine wl<|ZV (Z8 10)<|wn ?_;simp only[pu];go_wp2_with fail;go_ret;rw[HE.out];exact⟨rfl,HB1.out⟩
 ·refine wl<|ZV (Z5 g0 0)<|ZL rfl ⟨g0,0,none⟩ (.string snd) (hX0.ZR 0)<|YM ZW (fun w'=>Below W.heap.size W w') (CNW) (fun V hV=>?_);refine ZB ZY ZY<|wn ?_;simp only[pu];have hX1:=hX0.below KN.out hV;have HB1:=Z9 (HB0.out.trans (hV.mono HB0.out.size));have HA1:=Z9 (HA.out.below hV);clear hV CNW hX0 HB0 HA KN;go_upto_region 3 with fail;by_cases Q5:Zx=0
  ·refine wl<|ZV (Z5 g0 2)<|ZL rfl ⟨g0,2,none⟩ (Z7 Zx) (hX1.ZR 2)<|ZM (Tn rfl Zx (decide_eq_true Q5))<|ZV ZW<|wn ?_;simp only[pu];have HE:Hid (r=15):=Z9 (by rw[HV.out]; rw[if_neg (by decide),if_pos Q5]);clear HV;go_upto_region 4 with fail;refine wl<|ZV (Z8 15)<|wn ?_;simp only[pu];go_wp2_with fail;go_ret;rw[HE.out];exact⟨rfl,HB1.out⟩
  ·refine wl<|ZV (Z5 g0 2)<|ZL rfl ⟨g0,2,none⟩ (Z7 Zx) (hX1.ZR 2)<|ZM (Tn rfl Zx (decide_eq_false Q5))<|ZV ZY<|wn ?_;simp only[pu];have CMV:=CM.out V;clear CM;go_upto_region 5 with fail;cases t2
   ·refine wl<|ZV (Z5 g0 4)<|ZL rfl ⟨g0,4,none⟩ (.string memo) (hX1.ZR 4)<|YM ZY (fun w'=>Below V.heap.size V w') (CMV) (fun U hV=>?_);refine ZB ZW ZW<|wn ?_;simp only[pu];have hX2:=hX1.below hX1.lt hV;have HB2:=Z9 (HB1.out.trans (hV.mono HB1.out.size));have HA2:=Z9 (HA1.out.below hV);clear hV CMV hX1 HB1 HA1;have HE:Hid (r=11):=Z9 (by rw[HV.out]; rw[if_neg (by decide),if_neg Q5,if_pos rfl]);clear HV;go_upto_region 6 with fail;refine wl<|ZV (Z8 11)<|wn ?_;simp only[pu];go_wp2_with fail;go_ret;rw[HE.out];exact⟨rfl,HB2.out⟩
   ·refine wl<|ZV (Z5 g0 4)<|ZL rfl ⟨g0,4,none⟩ (.string memo) (hX1.ZR 4)<|YM ZW (fun w'=>Below V.heap.size V w') (CMV) (fun U hV=>?_);refine ZB ZY ZY<|wn ?_;simp only[pu];have hX2:=hX1.below hX1.lt hV;have HB2:=Z9 (HB1.out.trans (hV.mono HB1.out.size));have HA2:=Z9 (HA1.out.below hV);clear hV CMV hX1 HB1 HA1;go_upto_region 7 with fail;rcases (show n=0∨16<n∨(0<n/\n<=16) by omega) with hc | hc | hc
    ·refine wl<|ZV (Z5 g0 5)<|ZL rfl ⟨g0,5,none⟩ (.slice a n c) (hX2.ZR 5)<|ZV (Z8 n)<|ZM (Zr rfl (n) (1) dT) <|
      Y0 ZW undef undef undef undef ZW<|ZV ZW<|wn ?_
     simp only[pu];have HE:Hid (r=3):=Z9 (by rw[HV.out]; rw[if_neg (by decide),if_neg Q5,if_neg (by decide),if_pos (.inl hc)]);clear HV;go_upto_region 8 with fail;refine wl<|ZV (Z8 3)<|wn ?_;simp only[pu];go_wp2_with fail;go_ret;rw[HE.out];exact⟨rfl,HB2.out⟩
    ·refine wl<|ZV (Z5 g0 5)<|ZL rfl ⟨g0,5,none⟩ (.slice a n c) (hX2.ZR 5)<|ZV (Z8 n)<|ZM (Zr rfl (n) (1) dF) <|
      ZB ZY (Z5 g0 5)<|ZL rfl ⟨g0,5,none⟩ (.slice a n c) (hX2.ZR 5)<|ZV (Z8 n)<|ZM (Zn rfl (n) (16) dT)<|ZB ZW ZW <|
      wpList_nil ?_
     simp only[pu];have HE:Hid (r=3):=Z9 (by rw[HV.out]; rw[if_neg (by decide),if_neg Q5,if_neg (by decide),if_pos (.inr hc)]);clear HV;go_upto_region 8 with fail;refine wl<|ZV (Z8 3)<|wn ?_;simp only[pu];go_wp2_with fail;go_ret;rw[HE.out];exact⟨rfl,HB2.out⟩
    ·refine wl<|ZV (Z5 g0 5)<|ZL rfl ⟨g0,5,none⟩ (.slice a n c) (hX2.ZR 5)<|ZV (Z8 n)<|ZM (Zr rfl (n) (1) dF) <|
      ZB ZY (Z5 g0 5)<|ZL rfl ⟨g0,5,none⟩ (.slice a n c) (hX2.ZR 5)<|ZV (Z8 n)<|ZM (Zn rfl (n) (16) dF) <|
      ZB ZY ZY<|wn ?_
     simp only[pu];have HE:Hid (r=RQ M):=Z9 (by rw[HV.out,if_neg (by decide),if_neg Q5,if_neg (by decide),if_neg (by omega)]);clear HV;go_upto_region 9 with fail;refine wl<|ZV (Z5 g0 5)<|ZL rfl ⟨g0,5,none⟩ (.slice a n c) (hX2.ZR 5)<|ZB (Z8 n) (Z8 0)<|wn ?_;simp only[pu];have IV:=Z9 hX2;clear hX2;go_wp2_with fail;go_loopg [33] n (fun gg s33 wx=>∃ j:Nat,s33=Z8 j/\j<=n/\Hid (AY M j)/\Hid (Below U.heap.size U wx)/\n-j=gg)
     case atStart=>exact⟨0,rfl,by omega,HO,Z9 (Below.refl _ _),by omega⟩
     case round=>
      obtain⟨j,rfl,hj,HK,HB,hg⟩:=hrel;clear HO;by_cases hlt:j<n
      ·have HG:Hid (n-(j+1)=gk-1/\0<gk/\j+1<=n):=Z9 ⟨by omega,by omega,by omega⟩;have hjm:j<M.length:=(by rw[HN.out]; exact hlt);obtain⟨b,off,rfl,-,hrx⟩:=Ux (HA2.out.below HB.out) (k:=j) hjm;have YD:=Z9 (Ub hrx);have CT:=Z9 (fun V=>HT.out j hjm V);have eU:=Z9 (HK.out.name hjm);have Ag:=Z9 (HK.out.zam hjm);have eP:=Z9 (HK.out.step hjm);generalize tfa M j=y at *
       obtain⟨V2,hst,hb2,hbx⟩:=Tt wr y;have Ru:=Z9 (HB.out.trans (hb2.mono HB.out.size));clear hrx hb2 HK HB hjm hg;go_upto_region 10 with fail;refine wl<|ZM (Zr rfl (j) (n) dT)<|wn ?_;simp only[pu];go_upto_region 11 with fail;refine wl<|YI (Z5 b (off+j*2)) (O7 b off n c j hlt _ _ _ rfl (by kernel_rfl) (by kernel_rfl))<|ZL rfl ⟨b,off+j*2,none⟩ (.agg (Yy y)) (YD.out) ?_;refine Zy rfl (some 4) rfl (Z5 wr.heap.size 0) (wr.alloc (.cells (Yy Un) 60)) (by kernel_rfl) ?_;refine Zk rfl (hst)<|wn ?_;obtain⟨g4,hg4⟩:=ZQ wr.heap.size;rw[hg4] at hbx ⊢;clear hst hg4 YD;have CTV:=CT.out V2;clear CT;generalize isName (nums y.1)=ty at *
       go_upto_region 12 with fail;cases ty
       ·refine wl<|ZV (Z5 g4 0)<|ZL rfl ⟨g4,0,none⟩ (.string y.1) (hbx.ZR 0)<|YM ZY (fun w'=>Below V2.heap.size V2 w') (CTV) (fun V3 hV=>?_);refine ZV ZW<|wn ?_;simp only[pu];have RV:=Z9 (Ru.out.trans (hV.mono Ru.out.size));have hby:=hbx.below hbx.lt hV;clear CTV hV hbx Ru;have HE2:Hid (r=10):=Z9 (by rw[HE.out]; exact eU.out rfl);have Zg:=Z9 (HB2.out.trans (RV.out.mono HB2.out.size));clear HE RV eU Ag eP HB2;go_upto_region 13 with fail;refine wl<|ZV (Z8 10)<|wn ?_;simp only[pu];go_wp2_with fail;go_ret;rw[HE2.out];exact⟨rfl,Zg.out⟩
       ·refine wl<|ZV (Z5 g4 0)<|ZL rfl ⟨g4,0,none⟩ (.string y.1) (hbx.ZR 0)<|YM ZW (fun w'=>Below V2.heap.size V2 w') (CTV) (fun V3 hV=>?_);refine ZV ZY<|wn ?_;simp only[pu];have RV:=Z9 (Ru.out.trans (hV.mono Ru.out.size));have hby:=hbx.below hbx.lt hV;clear CTV hV hbx Ru;go_upto_region 14 with fail;by_cases h0:y.2=0
        ·refine wl<|ZV (Z5 g4 1)<|ZL rfl ⟨g4,1,none⟩ (Z7 y.2) (hby.ZR 1)<|ZM (Tn rfl y.2 (decide_eq_true h0))<|wn ?_;simp only[pu];have HE2:Hid (r=12):=Z9 (by rw[HE.out]; exact Ag.out rfl h0);have Zg:=Z9 (HB2.out.trans (RV.out.mono HB2.out.size));clear HE RV eU Ag eP HB2;go_upto_region 15 with fail;refine wl<|ZV (Z8 12)<|wn ?_;simp only[pu];go_wp2_with fail;go_ret;rw[HE2.out];exact⟨rfl,Zg.out⟩
        ·refine wl<|ZV (Z5 g4 1)<|ZL rfl ⟨g4,1,none⟩ (Z7 y.2) (hby.ZR 1)<|ZM (Tn rfl y.2 (decide_eq_false h0))<|wn ?_;simp only[pu];have HK9:=Z9 (eP.out rfl h0);clear eU Ag eP hby;go_upto_region 16 with fail;refine wl<|YI (Z8 (j+1:Nat)) (add_one rfl j (by omega) (by kernel_rfl) _)<|ZV (Z8 (j+1:Nat))<|wn ?_;simp only[pu];go_wp2_with fail;go_roundg (gk-1)
         case measure=>have:=HG.out; omega
         case rel=>exact⟨j+1,rfl,HG.out.2.2,HK9,RV,HG.out.1⟩
      ·have HE2:Hid (r=0):=Z9 (by rw[HE.out]; exact HK.out.done (by rw[HN.out]; omega));have Zg:=Z9 (HB2.out.trans (HB.out.mono HB2.out.size));clear HE HB HK HB2 hg;go_upto_region 10 with fail;refine wl<|ZM (Zr rfl (j) (n) dF)<|wn ?_;simp only[pu];go_upto_region 17 with fail;refine wl<|ZV (Z8 0)<|wn ?_;simp only[pu];go_wp2_with fail;go_ret;rw[HE2.out];exact⟨rfl,Zg.out⟩
end Go.Proofs.YtfpnnmeblefkkaaGreatDoor
namespace Go.Proofs.YtfpnnmeblefkkaaGreatDoor
open Go.RowKit
def aA6 (w:World)(B:Nat)(L:List Int)(e:Ending)(w':World):Prop:=∃ v,e=.returned v/\Own w' B v L/\Below w.heap.size w w'
theorem YH {w:World}{g k:Nat}{x:Tf}(h:Bx w g (Yy x) k):(Instr.loadAt 60 (Z5 g 0)).run Tryz.prog w=.ok (.agg (Yy x)) w:=
 Ub fun j v hv=>by
  rw[cell_of_row w g _ _ _ (0,0) h];simpa [rG] using hv
end Go.Proofs.YtfpnnmeblefkkaaGreatDoor
namespace Go.Proofs.YtfpnnmeblefkkaaGreatDoor
attribute [local irreducible] wpList wpQuiet
open Go.RowKit
theorem ff {a b:Bool}(h:a=true->b=true)(hb:b=false):a=false:=by
 cases a
 ·rfl
 ·rw[h rfl] at hb; cases hb
structure KF (W:World)(B g5:Nat)(y:Tf)(R3:Value)(ps:List (Zj×Value))(b0 b2 b3 b5 b6 b7 b8 b9 b10 b11:Bool)(x35 x38 x39 x40 x41 x42 x3:Value)(V:World):Prop where
 o3:b3=true->b2=true
 o5:b6=true->b5=true
 o6:b6=true->b3=true
 o7:b7=true->b6=true
 o8:b8=true->b7=true
 o9:b9=true->b8=true
 o10:b10=true->b9=true
 o11:b11=true->b10=true
 o0:b10=true->b0=true
 bel:Below B W V
 old:b10=false->Below W.heap.size W V
 r35:b3=true->b6=false->∃ qs,Yg V W.heap.size x35 qs/\qs.map Prod.fst=tF 1 y.1
 r38:b6=true->b7=false->∃ qs,Yg V W.heap.size x38 qs/\qs.map Prod.fst=Um y
 r39:b7=true->b9=false->Own V W.heap.size x39 (msg (Um y))
 v40:b8=true->∃ a c,x39=.slice a (msg (Um y)).length c/\x40=.agg (XR (Tq y) a c)
 n41:b9=true->b10=false->∃ V0 a c,V=V0.alloc (.cells (XR (Tq y) a c) 77)/\x41=.slice (some ⟨V0.heap.size,0,none⟩) 1 1/\Below W.heap.size W V0/\Own V0 W.heap.size (.slice a (msg (Um y)).length c) (msg (Um y))
 d42:b10=true->∃ qs,Yg V B x42 qs/\qs.map Prod.fst=ps.map Prod.fst++[Tq y]
 d3:b11=true->∃ qs,Yg V B x3 qs/\qs.map Prod.fst=ps.map Prod.fst++[Tq y]
 n3:b11=false->x3=R3
section
variable {W : World} {B g5 : Nat} {y : Tf} {R3 : Value} {ps : List (Zj × Value)} {b0 b2 b3 b5 b6 b7 b8 b9 b10 b11 : Bool} {x35 x38 x39 x40 x41 x42 x3 : Value} {V : World}
theorem KF.init (hW:B<=W.heap.size):KF W B g5 y R3 ps false false false false false false false false false false x35 x38 x39 x40 x41 x42 R3 W.drew:=
 ⟨(fun h=>nomatch h),(fun h=>nomatch h),(fun h=>nomatch h),(fun h=>nomatch h),(fun h=>nomatch h),(fun h=>nomatch h),(fun h=>nomatch h),(fun h=>nomatch h),(fun h=>nomatch h),(Below.refl _ _).drew,fun _=>(Below.refl _ _).drew,(fun h=>nomatch h),(fun h=>nomatch h),(fun h=>nomatch h),(fun h=>nomatch h),(fun h=>nomatch h),(fun h=>nomatch h),(fun h=>nomatch h),fun _=>rfl⟩
theorem KF.s0 (h:KF W B g5 y R3 ps false b2 b3 b5 b6 b7 b8 b9 b10 b11 x35 x38 x39 x40 x41 x42 x3 V):b10=false/\b11=false/\x3=R3/\KF W B g5 y R3 ps true b2 b3 b5 b6 b7 b8 b9 b10 b11 x35 x38 x39 x40 x41 x42 x3 V:=by
 have h10:=ff h.o0 rfl;have h11:=ff h.o11 h10;exact⟨h10,h11,h.n3 h11,{ h with o0:=fun _=>rfl }⟩
theorem KF.s3 (h:KF W B g5 y R3 ps b0 b2 false b5 b6 b7 b8 b9 b10 b11 x35 x38 x39 x40 x41 x42 x3 V)(hB:B<=W.heap.size){v:Value}{V2:World}{qs:List (Zj×Value)}(hr:Yg V2 W.heap.size v qs)(hq:qs.map Prod.fst=tF 1 y.1)(h2':true=true->b2=true)(hb:Below W.heap.size V V2):KF W B g5 y R3 ps b0 b2 true b5 b6 b7 b8 b9 b10 b11 v x38 x39 x40 x41 x42 x3 V2:=by
 have h6:=ff h.o6 rfl;have h7:=ff h.o7 h6;have h8:=ff h.o8 h7;have h9:=ff h.o9 h8;have h10:=ff h.o10 h9;have h11:=ff h.o11 h10;subst h6 h7 h8 h9 h10 h11;have ho:=(h.old rfl).trans hb;exact⟨h2',(fun h=>nomatch h),fun _=>rfl,h.o7,h.o8,h.o9,h.o10,h.o11,h.o0,ho.mono hB,fun _=>ho,fun _ _=>⟨qs,hr,hq⟩,(fun h=>nomatch h),(fun h=>nomatch h),(fun h=>nomatch h),(fun h=>nomatch h),(fun h=>nomatch h),(fun h=>nomatch h),h.n3⟩
theorem KF.s6 (h:KF W B g5 y R3 ps b0 b2 true b5 false b7 b8 b9 b10 b11 x35 x38 x39 x40 x41 x42 x3 V)(hB:B<=W.heap.size){v:Value}{V2:World}{qs:List (Zj×Value)}(hr:Yg V2 W.heap.size v qs)(hq:qs.map Prod.fst=Um y)(h5':true=true->b5=true)(hb:Below W.heap.size V V2):KF W B g5 y R3 ps b0 b2 true b5 true b7 b8 b9 b10 b11 x35 v x39 x40 x41 x42 x3 V2:=by
 have h7:=ff h.o7 rfl;have h8:=ff h.o8 h7;have h9:=ff h.o9 h8;have h10:=ff h.o10 h9;have h11:=ff h.o11 h10;subst h7 h8 h9 h10 h11;have ho:=(h.old rfl).trans hb;exact⟨h.o3,h5',fun _=>rfl,fun _=>rfl,h.o8,h.o9,h.o10,h.o11,h.o0,ho.mono hB,fun _=>ho,(fun _ h=>nomatch h),fun _ _=>⟨qs,hr,hq⟩,(fun h=>nomatch h),(fun h=>nomatch h),(fun h=>nomatch h),(fun h=>nomatch h),(fun h=>nomatch h),h.n3⟩
theorem KF.s7 (h:KF W B g5 y R3 ps b0 b2 b3 b5 true false b8 b9 b10 b11 x35 x38 x39 x40 x41 x42 x3 V)(hB:B<=W.heap.size){v:Value}{V2:World}(hr:Own V2 W.heap.size v (msg (Um y)))(hb:Below V.heap.size V V2):KF W B g5 y R3 ps b0 b2 b3 b5 true true b8 b9 b10 b11 x35 x38 v x40 x41 x42 x3 V2:=by
 have h8:=ff h.o8 rfl;have h9:=ff h.o9 h8;have h10:=ff h.o10 h9;have h11:=ff h.o11 h10;subst h8 h9 h10 h11;have ho:=(h.old rfl).trans (hb.mono (h.old rfl).size);exact⟨h.o3,h.o5,h.o6,fun _=>rfl,fun _=>rfl,h.o9,h.o10,h.o11,h.o0,ho.mono hB,fun _=>ho,(fun _ h=>nomatch h),(fun _ h=>nomatch h),fun _ _=>hr,(fun h=>nomatch h),(fun h=>nomatch h),(fun h=>nomatch h),(fun h=>nomatch h),h.n3⟩
theorem KF.s8 (h:KF W B g5 y R3 ps b0 b2 b3 b5 b6 true false b9 b10 b11 x35 x38 x39 x40 x41 x42 x3 V):∃ a c,x39=.slice a (msg (Um y)).length c/\KF W B g5 y R3 ps b0 b2 b3 b5 b6 true true b9 b10 b11 x35 x38 x39 (.agg (XR (Tq y) a c)) x41 x42 x3 V:=by
 have h9:=ff h.o9 rfl;have h10:=ff h.o10 h9;have h11:=ff h.o11 h10;subst h9 h10 h11;obtain⟨a,c,e,-,-⟩:=(h.r39 rfl rfl).sl;exact⟨a,c,e,h.o3,h.o5,h.o6,h.o7,fun _=>rfl,fun _=>rfl,h.o10,h.o11,h.o0,h.bel,h.old,h.r35,h.r38,h.r39,fun _=>⟨a,c,e,rfl⟩,(fun h=>nomatch h),(fun h=>nomatch h),(fun h=>nomatch h),h.n3⟩
theorem KF.s9 (h:KF W B g5 y R3 ps b0 b2 b3 b5 b6 b7 true false b10 b11 x35 x38 x39 x40 x41 x42 x3 V)(hB:B<=W.heap.size):∃ a c,x40=.agg (XR (Tq y) a c)/\KF W B g5 y R3 ps b0 b2 b3 b5 b6 b7 true true b10 b11 x35 x38 x39 x40 (.slice (some ⟨V.heap.size,0,none⟩) 1 1) x42 x3 (V.alloc (.cells (XR (Tq y) a c) 77)):=by
 have h10:=ff h.o10 rfl;have h11:=ff h.o11 h10;subst h10 h11;obtain⟨a,c,e1,e2⟩:=h.v40 rfl;have hb:Below V.heap.size V (V.alloc (.cells (XR (Tq y) a c) 77)):=(Below.refl _ V).alloc (Nat.le_refl _) _;have ho:=(h.old rfl).trans (hb.mono (h.old rfl).size);have h7:=h.o8 rfl;have h6:=h.o7 h7;have h3:=h.o6 h6;subst h3 h6 h7;refine⟨a,c,e2,h.o3,h.o5,h.o6,h.o7,h.o8,fun _=>rfl,fun _=>rfl,h.o11,h.o0,ho.mono hB,fun _=>ho,(fun _ h=>nomatch h),(fun _ h=>nomatch h),(fun _ h=>nomatch h),h.v40,fun _ _=>⟨V,a,c,rfl,rfl,h.old rfl,by rw[<- e1]; exact h.r39 rfl rfl⟩,(fun h=>nomatch h),(fun h=>nomatch h),h.n3⟩
theorem KF.s10 (h:KF W B g5 y R3 ps true b2 b3 b5 b6 b7 b8 true false b11 x35 x38 x39 x40 x41 x42 x3 V)(hR:Yg W B R3 ps)(hB:B<=W.heap.size)(hl:ps.length<=100000):∃ a V2 v2,x41=.slice a 1 1/\(Builtin.append_ #[78,78] 78 #[R3,x41]).run Tryz.prog V=.ok v2 V2/\KF W B g5 y R3 ps true b2 b3 b5 b6 b7 b8 true true b11 x35 x38 x39 x40 x41 v2 x3 V2:=by
 have h11:=ff h.o11 rfl;subst h11;obtain⟨V0,a,c,rfl,rfl,hb0,ho⟩:=h.n41 rfl rfl;obtain⟨a',c',e,hs,-⟩:=ho.sl;simp only[Value.slice.injEq,true_and] at e;obtain⟨rfl,rfl⟩:=e;obtain⟨v2,V2,hap,hr2,hb2⟩:=zU (hR.below hb0) (Nat.le_trans hB hb0.size) (Tq y) a c ⟨a,c,rfl,hs,fun x hx=>by
  refine⟨?_,?_,fun e=>?_⟩
  ·have:=ho.lt x.block (by rw[hx]; rfl);omega
  ·have:=ho.lt x.block (by rw[hx]; rfl);exact this.2
  ·have q1:=ho.lt x.block (by rw[hx]; rfl);have q2:=hR.1.lt x.block e;omega⟩ hl
 have hc:(Tq y).bytes=msg (Um y):=rfl;refine⟨_,V2,v2,rfl,hap,h.o3,h.o5,h.o6,h.o7,h.o8,h.o9,fun _=>rfl,fun _=>rfl,fun _=>rfl,(hb0.mono hB).trans hb2,(fun h=>nomatch h),?_,?_,(fun _ h=>nomatch h),h.v40,(fun _ h=>nomatch h),fun _=>⟨_,hr2,by rw[List.map_append]; rfl⟩,(fun h=>nomatch h),h.n3⟩
 ·intro _ h6;have:=h.o7 (h.o8 (h.o9 rfl));rw[this] at h6;cases h6
 ·intro _ h7;have:=h.o8 (h.o9 rfl);rw[this] at h7;cases h7
theorem KF.s11 (h:KF W B g5 y R3 ps b0 b2 b3 b5 b6 b7 b8 b9 true false x35 x38 x39 x40 x41 x42 x3 V):KF W B g5 y R3 ps b0 b2 b3 b5 b6 b7 b8 b9 true true x35 x38 x39 x40 x41 x42 x42 V:=
 ⟨h.o3,h.o5,h.o6,h.o7,h.o8,h.o9,h.o10,fun _=>rfl,h.o0,h.bel,h.old,h.r35,h.r38,h.r39,h.v40,h.n41,h.d42,h.d42,(fun h=>nomatch h)⟩
end
theorem Nq (v:Value)(ps:List (Zj×Value))(B:Nat)(k:Int)(s:ByteArray)(w:World)(h:Yg w B v ps)(hB:B<=w.heap.size)(hl:ps.length<=100000):Calls Tryz.prog 62 #[v,Z8 k,.string s] w (L8 w B ps (tF k s)):=D8 v ps B k s w h hB hl
theorem Oo (v:Value)(ps:List (Zj×Value))(B:Nat)(k n:Int)(w:World)(h:Yg w B v ps)(hB:B<=w.heap.size)(hl:ps.length<=100000):Calls Tryz.prog 63 #[v,Z8 k,Z7 n] w (L8 w B ps (nF k n)):=ML v ps B k n w h hB hl
def vM (t:YV):List Zj:=tF 1 t.snd++nF 2 t.sq++nF 3 t.Zx++nF 4 t.Y8++tF 5 t.memo
def iQ (t:YV)(j:Nat):List Zj:=vM t++(t.tr.take j).map Tq
theorem nS (t:YV):iQ t 0=vM t:=by unfold iQ; rw[List.take_zero,List.map_nil,List.append_nil]
theorem fB (t:YV)(j:Nat)(h:t.tr.length<=j):iQ t j=Iz t:=by unfold iQ vM Iz; rw[List.take_of_length_le h]; simp only[List.append_assoc]
theorem nR (t:YV)(j:Nat)(h:j<t.tr.length):iQ t (j+1)=iQ t j++[Tq (tfa t.tr j)]:=by
 unfold iQ;rw[List.take_succ_eq_append_getElem h,List.map_append,<- List.append_assoc,List.map_cons,List.map_nil,VF h]
theorem O9 (k:Int)(s:ByteArray):(tF k s).length<=1:=by unfold tF; split <;> simp
theorem QH (k v:Int):(nF k v).length<=1:=by unfold nF; split <;> simp
theorem fA (t:YV)(j:Nat):(iQ t j).length<=5+t.tr.length:=by
 unfold iQ vM;simp only[List.length_append,List.length_map,List.length_take];have a:=O9 1 t.snd;have b:=QH 2 t.sq;have c:=QH 3 t.Zx;have d:=QH 4 t.Y8;have e:=O9 5 t.memo;omega
theorem Gu {P:List (Zj×Value)}{M:List Zj}(e:P.map Prod.fst=M)(h:∀ x,x∈M->Vf x):∀ p,p∈P->D7 p.1.num p.1.kind p.1.val p.1.bytes.length/\W64 p.1.val:=fun p hp=>by
 have:=h p.1 (by rw[<- e]; exact List.mem_map_of_mem hp);exact⟨this.1,this.2.1⟩
theorem Ei (x:YV)(a:Option Addr)(c:Nat)(w:World)(hR:Cs w a (QZ x.tr))(hok:Bo x) :
  Calls Tryz.prog 32 #[.agg (ZA x a c)] w (aA6 w w.heap.size (form x)):=by
 have hb0:Below w.heap.size w (w.alloc (.cells (ZA x a c) 63)):=(Below.refl _ w).alloc (Nat.le_refl _) _;have hX0:Bx (w.alloc (.cells (ZA x a c) 63)) w.heap.size (ZA x a c) 63:=heap_alloc_last w _;have HA:=Z9 (hR.below hb0);have HWT:=Z9 (fun j (hj:j<x.tr.length)=>hok.tr (x:=tfa x.tr j) (by rw[VF hj]; exact List.getElem_mem hj));have HVF:=Z9 hok.vf;have iY:Hid ((msg (Iz x)).length<=900000):=Z9 (by have:=(Ot x).1; have:=hok.wt; unfold form at *; omega);have HST:=Z9 (fun j hj=>nR x j hj);have HHD:Hid (vM x=tF 1 x.snd++nF 2 x.sq++nF 3 x.Zx++nF 4 x.Y8++tF 5 x.memo):=Z9 rfl;have HZ:=Z9 (nS x);have uQ:=Z9 (fun j h=>fB x j h);have nP:=Z9 (fA x);have eY:Hid (x.tr.length<=20000):=Z9 (by have:=xH x.tr; have:=hok.wt; unfold Iw at this; omega);have HFO:Hid (form x=msg (Iz x)):=Z9 rfl;have HL1:=Z9 (O9 1 x.snd);have HL2:=Z9 (QH 2 x.sq);have HL3:=Z9 (QH 3 x.Zx);have eX:=Z9 (QH 4 x.Y8);have HT1:=Z9 (fun V (v:Value) ps B (h:Yg V B v ps) (hB:B<=V.heap.size) hl=>Nq v ps B 1 x.snd V h hB hl);have fU:=Z9 (fun V (v:Value) ps B (h:Yg V B v ps) (hB:B<=V.heap.size) hl=>Oo v ps B 2 x.sq V h hB hl);have iU:=Z9 (fun V (v:Value) ps B (h:Yg V B v ps) (hB:B<=V.heap.size) hl=>Oo v ps B 3 x.Zx V h hB hl);have HN4:=Z9 (fun V (v:Value) ps B (h:Yg V B v ps) (hB:B<=V.heap.size) hl=>Oo v ps B 4 x.Y8 V h hB hl);have HT5:=Z9 (fun V (v:Value) ps B (h:Yg V B v ps) (hB:B<=V.heap.size) hl=>Nq v ps B 5 x.memo V h hB hl);generalize vM x=HD at *
 generalize form x=FO at *
 generalize iQ x=TJ at *
 generalize Iz x=TXF at *
 obtain⟨snd,sq,Zx,Y8,memo,M⟩:=x;simp only[ZA] at hb0 hX0 HA ⊢;dsimp only at *
 generalize tF 1 snd=l1 at *
 generalize nF 2 sq=l2 at *
 generalize nF 3 Zx=l3 at *
 generalize nF 4 Y8=l4 at *
 generalize tF 5 memo=l5 at *
 obtain⟨n,hn⟩:=ZQ M.length;have HN:=Z9 hn;rw[hn] at hb0 hX0 HA eY nP uQ ⊢;clear hR hok;go_enter Tryz.func32,Tryz.ntmps32;go_upto_region 1 with fail;change Code.wp _ _ _ _ (w.alloc (.cells #[.string snd,Z7 sq,Z7 Zx,Z7 Y8,.string memo,.slice a n c] 63));generalize w.alloc (.cells #[.string snd,Z7 sq,Z7 Zx,Z7 Y8,.string memo,.slice a n c] 63)=W at *
 obtain⟨g0,hg0⟩:=ZQ w.heap.size;have HB0:=Z9 hb0;rw[hg0] at hX0;simp only[hg0];have hgl:=hX0.lt;clear hb0 hg0 hn;go_upto_region 1 with fail;refine wl<|ZV (Z5 g0 0)<|ZL rfl ⟨g0,0,none⟩ (.string snd) (hX0.ZR 0) <|
  XI (fun v w'=>∃ qs,qs.map Prod.fst=List.map Prod.fst ([])++l1/\Yg w' W.heap.size v qs/\Below W.heap.size W w') ((HT1.out W (.slice none 0 0) ([]) W.heap.size (Yg.nil W W.heap.size) (Below.refl W.heap.size W).size (by simp)).mono fun e w' q=>by obtain⟨v,qs,h1,h2⟩:=q; exact⟨v,h1,qs,h2⟩) (fun u1 V1 hq=>?_)
 refine ZV (u1)<|wn ?_;simp only[pu];obtain⟨q0,hq0,hO0,hb0⟩:=hq;have hB0:=(Below.refl W.heap.size W).trans hb0;have hX1:=hX0.below hgl hb0;rw[List.map_nil,List.nil_append] at hq0;have hl0:q0.length<=100000:=by have:=congrArg List.length hq0; simp only[List.length_map,List.length_append] at this; have:=HL1.out; have:=HL2.out; have:=HL3.out; have:=eX.out; omega
 clear hb0 hX0;go_upto_region 2 with fail;refine wl<|ZB (u1) (Z5 g0 1)<|ZL rfl ⟨g0,1,none⟩ (Z7 sq) (hX1.ZR 1) <|
  XI (fun v w'=>∃ qs,qs.map Prod.fst=List.map Prod.fst (q0)++l2/\Yg w' W.heap.size v qs/\Below W.heap.size V1 w') ((fU.out V1 (u1) (q0) W.heap.size hO0 hB0.size hl0).mono fun e w' q=>by obtain⟨v,qs,h1,h2⟩:=q; exact⟨v,h1,qs,h2⟩) (fun u2 V2 hq=>?_)
 refine ZV (u2)<|wn ?_;simp only[pu];obtain⟨q1,hq1,hO1,hb1⟩:=hq;have hB1:=hB0.trans hb1;have hX2:=hX1.below hgl hb1;rw[hq0] at hq1;have hl1:q1.length<=100000:=by have:=congrArg List.length hq1; simp only[List.length_map,List.length_append] at this; have:=HL1.out; have:=HL2.out; have:=HL3.out; have:=eX.out; omega
 clear hb1 hX1 hO0 hB0;go_upto_region 3 with fail;refine wl<|ZB (u2) (Z5 g0 2)<|ZL rfl ⟨g0,2,none⟩ (Z7 Zx) (hX2.ZR 2) <|
  XI (fun v w'=>∃ qs,qs.map Prod.fst=List.map Prod.fst (q1)++l3/\Yg w' W.heap.size v qs/\Below W.heap.size V2 w') ((iU.out V2 (u2) (q1) W.heap.size hO1 hB1.size hl1).mono fun e w' q=>by obtain⟨v,qs,h1,h2⟩:=q; exact⟨v,h1,qs,h2⟩) (fun u3 V3 hq=>?_)
 refine ZV (u3)<|wn ?_;simp only[pu];obtain⟨q2,hq2,hO2,hb2⟩:=hq;have hB2:=hB1.trans hb2;have VJ:=hX2.below hgl hb2;rw[hq1] at hq2;have hl2:q2.length<=100000:=by have:=congrArg List.length hq2; simp only[List.length_map,List.length_append] at this; have:=HL1.out; have:=HL2.out; have:=HL3.out; have:=eX.out; omega
 clear hb2 hX2 hO1 hB1;go_upto_region 4 with fail;refine wl<|ZB (u3) (Z5 g0 3)<|ZL rfl ⟨g0,3,none⟩ (Z7 Y8) (VJ.ZR 3) <|
  XI (fun v w'=>∃ qs,qs.map Prod.fst=List.map Prod.fst (q2)++l4/\Yg w' W.heap.size v qs/\Below W.heap.size V3 w') ((HN4.out V3 (u3) (q2) W.heap.size hO2 hB2.size hl2).mono fun e w' q=>by obtain⟨v,qs,h1,h2⟩:=q; exact⟨v,h1,qs,h2⟩) (fun u4 V4 hq=>?_)
 refine ZV (u4)<|wn ?_;simp only[pu];obtain⟨q3,hq3,hO3,hb3⟩:=hq;have hB3:=hB2.trans hb3;have Xy:=VJ.below hgl hb3;rw[hq2] at hq3;have hl3:q3.length<=100000:=by have:=congrArg List.length hq3; simp only[List.length_map,List.length_append] at this; have:=HL1.out; have:=HL2.out; have:=HL3.out; have:=eX.out; omega
 clear hb3 VJ hO2 hB2;go_upto_region 5 with fail;refine wl<|ZB (u4) (Z5 g0 4)<|ZL rfl ⟨g0,4,none⟩ (.string memo) (Xy.ZR 4) <|
  XI (fun v w'=>∃ qs,qs.map Prod.fst=List.map Prod.fst (q3)++l5/\Yg w' W.heap.size v qs/\Below W.heap.size V4 w') ((HT5.out V4 (u4) (q3) W.heap.size hO3 hB3.size hl3).mono fun e w' q=>by obtain⟨v,qs,h1,h2⟩:=q; exact⟨v,h1,qs,h2⟩) (fun u5 V5 hq=>?_)
 refine ZV (u5)<|wn ?_;simp only[pu];obtain⟨q4,hq4,hO4,hb4⟩:=hq;have hB4:=hB3.trans hb4;have Jh:=Xy.below hgl hb4;rw[hq3] at hq4;clear hb4 Xy hO3 hB3;go_upto_region 6 with fail;refine wl<|ZV (Z5 g0 5)<|ZL rfl ⟨g0,5,none⟩ (.slice a n c) (Jh.ZR 5)<|ZB (Z8 n) (Z8 0)<|wn ?_;simp only[pu];have Q8:=Z9 hB4;have HQ5:Hid (q4.map Prod.fst=TJ 0):=Z9 (by rw[hq4,HZ.out,HHD.out]);have HO5:=Z9 hO4;obtain⟨p5,d5,rfl,-⟩:=HO5.out.form;have hlw:=HB0.out.size;have Jf:=Z9 hlw;clear hO4 hB4 Jh HT1 fU iU HN4 HT5 HHD HZ hq4 HL1 HL2 HL3 eX hlw hl0 hl1 hl2 hl3 hq0 hq1 hq2 hq3 hgl;go_wp2_with fail;go_loopg [3,28] n (fun gg s3 s28 wx=>∃ (j:Nat) (p3:Option Addr) (k3 d3:Nat) (ps:List (Zj×Value)),s3=.slice p3 k3 d3/\s28=Z8 j/\j<=n/\Hid (Yg wx W.heap.size (.slice p3 k3 d3) ps)/\Hid (ps.map Prod.fst=TJ j)/\Hid (Below W.heap.size V5 wx)/\n-j=gg)
 case atStart=>exact⟨0,p5,_,d5,q4,rfl,rfl,by omega,HO5,HQ5,Z9 (Below.refl _ _),by omega⟩
 case round=>
  obtain⟨j,p3,k3,d3,ps,rfl,rfl,hj,HO,HQ,HB,hg⟩:=hrel;clear HO5 HQ5;by_cases hlt:j<n
  ·have HG:Hid (n-(j+1)=gk-1/\0<gk/\j+1<=n/\j+1<=100000):=Z9 ⟨by omega,by omega,by omega,by have:=eY.out; omega⟩;have hjm:j<M.length:=(by rw[HN.out]; exact hlt);have hA5:=HA.out.below (Q8.out.trans HB.out);obtain⟨b,off,rfl,-,hrx⟩:=Ux hA5 (k:=j) hjm;have YD:=Z9 (Ub hrx);have hwt:=HWT.out j hjm;have aA7:=Z9 (HST.out j hjm);have aA8:ps.length<=100000:=(by have:=congrArg List.length HQ.out; rw[List.length_map] at this; have:=nP.out j; have:=eY.out; omega);generalize tfa M j=y at *
   obtain⟨V6,hst,hb6,hbx⟩:=Tt wr y;have RV:Hid (W.heap.size<=wr.heap.size):=Z9 (Nat.le_trans (by have:=Q8.out.size; omega) HB.out.size);have X9:=Z9 (HB.out.trans (hb6.mono RV.out));have HO6:=Z9 (HO.out.below hb6);have Md:Hid (W.heap.size<=V6.heap.size):=Z9 (Nat.le_trans RV.out hb6.size);clear hrx hb6 hjm hg HO HB HWT HST nP hA5;go_upto_region 7 with fail;refine wl<|ZM (Zr rfl (j) (n) dT)<|wn ?_;simp only[pu];go_upto_region 8 with fail;refine wl<|YI (Z5 b (off+j*2)) (O7 b off n c j hlt _ _ _ rfl (by kernel_rfl) (by kernel_rfl))<|ZL rfl ⟨b,off+j*2,none⟩ (.agg (Yy y)) (YD.out) ?_;refine Zy rfl (some 5) rfl (Z5 wr.heap.size 0) (wr.alloc (.cells (Yy Un) 60)) (by kernel_rfl) ?_;refine Zk rfl (hst)<|wn ?_;obtain⟨g4,hg4⟩:=ZQ wr.heap.size;rw[hg4] at hbx ⊢;clear hst hg4 YD;have CT:∀ V,Below V6.heap.size V6 V->Calls Tryz.prog 62 #[.slice none 0 0,Z8 1,.string y.1] V (L8 V V6.heap.size [] (tF 1 y.1)):=fun V hV=>D8 (.slice none 0 0) [] V6.heap.size 1 y.1 V (Yg.nil V _) hV.size (Nat.zero_le _);have CN:∀ V u qs,Below V6.heap.size V6 V->Yg V V6.heap.size u qs->qs.map Prod.fst=tF 1 y.1->Calls Tryz.prog 63 #[u,Z8 2,Z7 y.2] V (L8 V V6.heap.size qs (nF 2 y.2)):=fun V u qs hV hu hq=>ML u qs V6.heap.size 2 y.2 V hu hV.size (by have:=congrArg List.length hq; rw[List.length_map] at this; have:=O9 1 y.1; omega);have CM:∀ V u qs,Below V6.heap.size V6 V->Yg V V6.heap.size u qs->qs.map Prod.fst=Um y->Calls Tryz.prog 29 #[u] V (fun e w'=>∃ v,e=.returned v/\Own w' V6.heap.size v (msg (Um y))/\Below V.heap.size V w'):=fun V u qs hV hu hq=>by
    obtain⟨ua,uc,rfl,-,hfs⟩:=hu.fs;have q1:=Om y;have:=Uc ua uc qs V hfs (Gu hq (Ec (by omega) hwt.2)) (by rw[hq]; omega) (by
     have:=congrArg List.length hq;rw[List.length_map] at this;have:=O9 1 y.1;have:=QH 2 y.2;unfold Um at *
     rw[List.length_append] at *
     omega)
    rw[hq] at this;exact this.mono fun e w' q=>by
     obtain⟨v,h1,h2,h3⟩:=q;exact⟨v,h1,h2.base hV.size,h3⟩
   have hX:∀ V,Below V6.heap.size V6 V->Bx V g4 (Yy y) 60:=fun V hV=>hbx.below hbx.lt hV;have h0:=KF.init (g5:=g4) (y:=y) (R3:=.slice p3 k3 d3) (ps:=ps) (x35:=u35) (x38:=u38) (x39:=u39) (x40:=u40) (x41:=u41) (x42:=u42) Md.out;clear hbx;go_upto_region 9 with fail;refine Zw (fun listed YZ V=>∃ b0 b1 b2 b3 b4 b5 b6 b7 b8 b9 b10 b11:Bool,∃ x35 x38 x39 x40 x41 x42 x3:Value,listed=#[b0,b1,b2,b3,b4,b5,b6,b7,b8,b9,b10,b11]/\YZ={ tmps:=#[.agg #[.string snd,Z7 sq,Z7 Zx,Z7 Y8,.string memo,.slice (some ⟨b,off,none⟩) n c],Z5 g0 0,.slice none 0 0,x3,undef,Z5 g4 0,Z5 g0 0,.string snd,u1,u1,Z5 g0 1,Z7 sq,u2,u2,Z5 g0 2,Z7 Zx,u3,u3,Z5 g0 3,Z7 Y8,u4,u4,Z5 g0 4,.string memo,.slice p5 q4.length d5,Z5 g0 5,.slice (some ⟨b,off,none⟩) n c,Z8 n,Z8 j,ZW,Z5 b (off+j*2),.agg (Yy y),(cond b0 (.slice p3 k3 d3) (u32)),(cond b1 (Z5 g4 0) (u33)),(cond b2 (.string y.1) (u34)),x35,(cond b4 (Z5 g4 1) (u36)),(cond b5 (Z7 y.2) (u37)),x38,x39,x40,x41,x42,u43,undef,undef],defers:=[] }/\KF V6 W.heap.size g4 y (.slice p3 k3 d3) ps b0 b2 b3 b5 b6 b7 b8 b9 b10 b11 x35 x38 x39 x40 x41 x42 x3 V) (by kernel_rfl) (by kernel_rfl) ?_ ?_ ?_
   ·exact⟨false,false,false,false,false,false,false,false,false,false,false,false,u35,u38,u39,u40,u41,u42,.slice p3 k3 d3,rfl,rfl,h0⟩
   ·intro i9 listed YZ V hi9 hr hJ;obtain⟨b0,b1,b2,b3,b4,b5,b6,b7,b8,b9,b10,b11,x35,x38,x39,x40,x41,x42,x3,rfl,rfl,hF⟩:=hJ;have hi2:i9<12:=hi9;have hi3:i9=0∨i9=1∨i9=2∨i9=3∨i9=4∨i9=5∨i9=6∨i9=7∨i9=8∨i9=9∨i9=10∨i9=11:=(by omega);rcases hi3 with rfl | rfl | rfl | rfl | rfl | rfl | rfl | rfl | rfl | rfl | rfl | rfl
    ·obtain rfl:b0=false:=Z4 hr;obtain⟨rfl,rfl,rfl,hF2⟩:=hF.s0;refine ZK rfl (by kernel_rfl) (some 32) rfl (.slice p3 k3 d3) V (by kernel_rfl) ?_;exact⟨_,_,_,_,_,_,_,_,_,_,_,_,_,_,_,_,_,_,_,rfl,rfl,hF2⟩
    ·obtain rfl:b1=false:=Z4 hr;refine ZK rfl (by kernel_rfl) (some 33) rfl (Z5 g4 0) V (by kernel_rfl) ?_;exact⟨_,_,_,_,_,_,_,_,_,_,_,_,_,_,_,_,_,_,_,rfl,rfl,hF⟩
    ·obtain rfl:b2=false:=Z4 hr;obtain rfl:b1=true:=ZX hr 1;have h10:=(ff hF.o10 (ff hF.o9 (ff hF.o8 (ff hF.o7 (ff hF.o6 (ff hF.o3 rfl))))));refine Zu rfl (by kernel_rfl) (some 34) rfl 9 (.tmp 33) rfl ⟨g4,0,none⟩ (.string y.1) (by kernel_rfl) ((hX V (hF.old h10)).ZR 0) ?_;exact⟨_,_,_,_,_,_,_,_,_,_,_,_,_,_,_,_,_,_,_,rfl,rfl,{ hF with o3:=fun _=>rfl }⟩
    ·obtain rfl:b3=false:=Z4 hr;obtain rfl:b2=true:=ZX hr 2;have h10:=(ff hF.o10 (ff hF.o9 (ff hF.o8 (ff hF.o7 (ff hF.o6 rfl)))));refine X8 rfl (by kernel_rfl) (some 35) rfl 62 #[.slice none 0 0,Z8 1,.string y.1] (by kernel_rfl) ((CT V (hF.old h10)).mono ?_);rintro e V2 ⟨v,qs,rfl,hq,hr,hb⟩;exact⟨v,rfl,b0,b1,true,true,b4,b5,b6,b7,b8,b9,b10,b11,v,x38,x39,x40,x41,x42,x3,rfl,rfl,hF.s3 Md.out hr (by simpa using hq) (fun _=>rfl) hb⟩
    ·obtain rfl:b4=false:=Z4 hr;refine ZK rfl (by kernel_rfl) (some 36) rfl (Z5 g4 1) V (by kernel_rfl) ?_;exact⟨_,_,_,_,_,_,_,_,_,_,_,_,_,_,_,_,_,_,_,rfl,rfl,hF⟩
    ·obtain rfl:b5=false:=Z4 hr;obtain rfl:b4=true:=ZX hr 4;have h10:=(ff hF.o10 (ff hF.o9 (ff hF.o8 (ff hF.o7 (ff hF.o5 rfl)))));refine Zu rfl (by kernel_rfl) (some 37) rfl 24 (.tmp 36) rfl ⟨g4,1,none⟩ (Z7 y.2) (by kernel_rfl) ((hX V (hF.old h10)).ZR 1) ?_;exact⟨_,_,_,_,_,_,_,_,_,_,_,_,_,_,_,_,_,_,_,rfl,rfl,{ hF with o5:=fun _=>rfl }⟩
    ·obtain rfl:b6=false:=Z4 hr;obtain rfl:b3=true:=ZX hr 3;obtain rfl:b5=true:=ZX hr 5;have h10:=(ff hF.o10 (ff hF.o9 (ff hF.o8 (ff hF.o7 rfl))));obtain⟨q35,aM6,aA9⟩:=hF.r35 rfl rfl;refine X8 rfl (by kernel_rfl) (some 38) rfl 63 #[x35,Z8 2,Z7 y.2] (by kernel_rfl) ((CN V x35 q35 (hF.old h10) aM6 aA9).mono ?_);rintro e V2 ⟨v,qs,rfl,hq,hr,hb⟩;exact⟨v,rfl,b0,b1,b2,true,b4,true,true,b7,b8,b9,b10,b11,x35,v,x39,x40,x41,x42,x3,rfl,rfl,hF.s6 Md.out hr (by rw[hq,aA9]; rfl) (fun _=>rfl) hb⟩
    ·obtain rfl:b7=false:=Z4 hr;obtain rfl:b6=true:=ZX hr 6;have h10:=(ff hF.o10 (ff hF.o9 (ff hF.o8 rfl)));obtain⟨q38,aM7,aM8⟩:=hF.r38 rfl rfl;refine X8 rfl (by kernel_rfl) (some 39) rfl 29 #[x38] (by kernel_rfl) ((CM V x38 q38 (hF.old h10) aM7 aM8).mono ?_);rintro e V2 ⟨v,rfl,hO,hb⟩;exact⟨v,rfl,b0,b1,b2,b3,b4,b5,true,true,b8,b9,b10,b11,x35,x38,v,x40,x41,x42,x3,rfl,rfl,hF.s7 Md.out hO hb⟩
    ·obtain rfl:b8=false:=Z4 hr;obtain rfl:b7=true:=ZX hr 7;obtain⟨a9,c9,rfl,hF2⟩:=hF.s8;refine ZK rfl (by kernel_rfl) (some 40) rfl (.agg (XR (Tq y) a9 c9)) V (by kernel_rfl) ?_;exact⟨_,_,_,_,_,_,_,_,_,_,_,_,_,_,_,_,_,_,_,rfl,rfl,hF2⟩
    ·obtain rfl:b9=false:=Z4 hr;obtain rfl:b8=true:=ZX hr 8;obtain⟨a9,c9,rfl,hF2⟩:=hF.s9 Md.out;refine UE rfl (by kernel_rfl) (some 41) rfl 78 1 #[(0,.tmp 40)] rfl #[(0,.agg (XR (Tq y) a9 c9))] (by kernel_rfl) (.slice (some ⟨V.heap.size,0,none⟩) 1 1) _ (J9 (Tq y) a9 c9 V) ?_;exact⟨_,_,_,_,_,_,_,_,_,_,_,_,_,_,_,_,_,_,_,rfl,rfl,hF2⟩
    ·obtain rfl:b10=false:=Z4 hr;obtain rfl:b0=true:=ZX hr 0;obtain rfl:b9=true:=ZX hr 9;obtain⟨a9,V2,v,-,hap,hF2⟩:=hF.s10 HO6.out Md.out aA8;refine VL rfl (by kernel_rfl) (some 42) rfl 78 rfl (.tmp 32) (.tmp 41) 78 rfl (.slice p3 k3 d3) x41 v V2 (by kernel_rfl) (by kernel_rfl) hap ?_;exact⟨true,b1,b2,b3,b4,b5,b6,b7,b8,true,true,b11,x35,x38,x39,x40,x41,v,x3,rfl,rfl,hF2⟩
    ·obtain rfl:b11=false:=Z4 hr;obtain rfl:b10=true:=ZX hr 10;refine ZK rfl (by kernel_rfl) (some 3) rfl x42 V (by kernel_rfl) ?_;exact⟨_,_,_,_,_,_,_,_,_,_,_,_,_,_,_,_,_,_,_,rfl,rfl,hF.s11⟩
   ·intro YZ V hJ;obtain⟨b0,b1,b2,b3,b4,b5,b6,b7,b8,b9,b10,b11,x35,x38,x39,x40,x41,x42,x3,he,rfl,hF⟩:=hJ;have he:(#[true,true,true,true,true,true,true,true,true,true,true,true]:Array Bool)=#[b0,b1,b2,b3,b4,b5,b6,b7,b8,b9,b10,b11]:=he;simp only[Array.mk.injEq,List.cons.injEq,and_true] at he;obtain⟨rfl,rfl,rfl,rfl,rfl,rfl,rfl,rfl,rfl,rfl,rfl,rfl⟩:=he;simp only[cond_true];obtain⟨qs,hrow,hqs⟩:=hF.d3 rfl;have Qr:=Z9 (X9.out.trans hF.bel);have HO8:=Z9 hrow;obtain⟨b8,d8,rfl,-⟩:=hrow.form;have HQ8:Hid (qs.map Prod.fst=TJ (j+1)):=Z9 (by rw[hqs,HQ.out,aA7.out]);clear hF hrow hqs HQ aA7 h0 CT CN CM hX X9 HO6 hwt aA8;go_upto_region 10 with fail;refine wl<|YI (Z8 (j+1:Nat)) (add_one rfl j (by have:=HG.out; omega) (by kernel_rfl) _)<|ZV (Z8 (j+1:Nat))<|wn ?_;simp only[pu];go_wp2_with fail;go_roundg (gk-1)
    case measure=>have:=HG.out; omega
    case rel=>exact⟨j+1,b8,_,d8,qs,rfl,rfl,HG.out.2.2.1,HO8,HQ8,Qr,HG.out.1⟩
  ·have hqx:ps.map Prod.fst=TXF:=(by rw[HQ.out,uQ.out j (by omega)]);obtain⟨ua,uc,e3,-,hfs⟩:=HO.out.fs;simp only[Value.slice.injEq] at e3;obtain⟨rfl,rfl,rfl⟩:=e3;have CM:=Uc p3 d3 ps wr hfs (Gu hqx HVF.out) (by rw[hqx]; exact iY.out) (by have:=congrArg List.length HQ.out; rw[List.length_map] at this; have:=nP.out j; have:=eY.out; omega);rw[hqx] at CM;have RV:Hid (W.heap.size<=wr.heap.size):=Z9 (Nat.le_trans (by have:=Q8.out.size; omega) HB.out.size);have LD:=Z9 (Q8.out.trans HB.out);clear HO HQ HB hg uQ HWT HST nP hqx hfs HVF iY;go_upto_region 7 with fail;refine wl<|ZM (Zr rfl (j) (n) dF)<|wn ?_;simp only[pu];go_upto_region 11 with fail;refine wl<|ZV (.slice p3 ps.length d3)<|XI (fun v w'=>Own w' wr.heap.size v (msg TXF)/\Below wr.heap.size wr w') CM (fun u9 V9 hq=>?_);refine ZV (u9)<|wn ?_;simp only[pu];have HE:=Z9 (⟨u9,rfl,by rw[HFO.out]; exact hq.1.base (Nat.le_trans HB0.out.size RV.out),HB0.out.trans ((LD.out.trans (hq.2.mono RV.out)).mono HB0.out.size)⟩:aA6 w w.heap.size FO (.returned u9) V9);clear hq CM LD RV HFO;go_wp2_with fail;go_ret;exact HE.out
end Go.Proofs.YtfpnnmeblefkkaaGreatDoor
