/-
  Texts joined.
-/
import Derived.Test.YtfpnnmeblefkkaaGreatDoorD4
import Derived.Lib.SlBytesConst
set_option maxRecDepth 100000
set_option maxHeartbeats 8000000
set_option linter.unusedSimpArgs false
set_option linter.unusedVariables false
namespace Go.Proofs.YtfpnnmeblefkkaaGreatDoor
attribute [local irreducible] wpList wpQuiet
open Go.RowKit
theorem O1 (s:ByteArray)(k:Nat)(w:World):Calls Tryz.prog 143 #[.string s,Z8 k] w fun e w'=>e=.returned (.bool (Ll (nums s) k))/\w=w':=by
 have ER:=Z9 (fun(h:k<s.size)=>FT s k h);have HV:Hid (Ll (nums s) k=(decide (k<s.size) && (decide (128<=(nums s).getD k 0) && decide ((nums s).getD k 0<192)))):=Z9 (by unfold Ll; rw[Zf]);generalize Ll (nums s) k=t at *
 generalize (nums s).getD k 0=c at *
 obtain⟨n,hn⟩:=ZQ s.size;rw[hn] at ER HV;go_enter Tryz.func143,Tryz.ntmps143;go_upto_region 1 with fail;rcases (show n<=k∨(k<n/\c<128)∨(k<n/\128<=c/\c<192)∨(k<n/\192<=c) by omega) with hc | hc | hc | hc
 ·have H8:Hid (decide ((k:Int)<(n:Int))=false):=Z9 dF;have HE:Hid (t=false):=Z9 (by rw[HV.out]; rw[Bool.eq_false_iff]; simp only[ne_eq,Bool.and_eq_true,decide_eq_true_eq]; omega);clear ER HV;refine wl<|ZB (Z8 k) (.string s)<|YI (Z8 n) (by rw[<- hn]; kernel_rfl)<|Yn ZY (Zr rfl k n H8.out)<|Y0 ZY undef undef undef undef ZY <|
   Y0 ZY undef undef undef undef ZY<|ZV ZY<|wn ?_
  simp only[pu];go_wp2_with fail;go_ret;rw[HE.out];exact⟨rfl,rfl⟩
 ·have H8:Hid (decide ((k:Int)<(n:Int))=true):=Z9 dT;have HE:Hid (t=false):=Z9 (by rw[HV.out]; rw[Bool.eq_false_iff]; simp only[ne_eq,Bool.and_eq_true,decide_eq_true_eq]; omega);have hix:=ER.out hc.1;clear ER HV;refine wl<|ZB (Z8 k) (.string s)<|YI (Z8 n) (by rw[<- hn]; kernel_rfl)<|Yn ZW (Zr rfl k n H8.out)<|Yr ZW (.string s) (Z8 k)<|YI (.int .u8 c) (hix _ _ _ _ rfl (by kernel_rfl) (by kernel_rfl) _) <|
   ZM (YQ rfl c 128 dF)<|Y0 ZY ZY undef undef undef undef<|ZB ZY ZY<|wn ?_
  simp only[pu];go_wp2_with fail;go_ret;rw[HE.out];exact⟨rfl,rfl⟩
 ·have H8:Hid (decide ((k:Int)<(n:Int))=true):=Z9 dT;have HE:Hid (t=true):=Z9 (by rw[HV.out]; simp only[Bool.and_eq_true,decide_eq_true_eq]; omega);have hix:=ER.out hc.1;clear ER HV;refine wl<|ZB (Z8 k) (.string s)<|YI (Z8 n) (by rw[<- hn]; kernel_rfl)<|Yn ZW (Zr rfl k n H8.out)<|Yr ZW (.string s) (Z8 k)<|YI (.int .u8 c) (hix _ _ _ _ rfl (by kernel_rfl) (by kernel_rfl) _) <|
   ZM (YQ rfl c 128 dT)<|U8 ZW ZW (.string s) (Z8 k)<|YI (.int .u8 c) (hix _ _ _ _ rfl (by kernel_rfl) (by kernel_rfl) _) <|
   ZM (Yp rfl c 192 dT)<|ZB ZW ZW<|wn ?_
  simp only[pu];go_wp2_with fail;go_ret;rw[HE.out];exact⟨rfl,rfl⟩
 ·have H8:Hid (decide ((k:Int)<(n:Int))=true):=Z9 dT;have HE:Hid (t=false):=Z9 (by rw[HV.out]; rw[Bool.eq_false_iff]; simp only[ne_eq,Bool.and_eq_true,decide_eq_true_eq]; omega);have hix:=ER.out hc.1;clear ER HV;refine wl<|ZB (Z8 k) (.string s)<|YI (Z8 n) (by rw[<- hn]; kernel_rfl)<|Yn ZW (Zr rfl k n H8.out)<|Yr ZW (.string s) (Z8 k)<|YI (.int .u8 c) (hix _ _ _ _ rfl (by kernel_rfl) (by kernel_rfl) _) <|
   ZM (YQ rfl c 128 dT)<|U8 ZW ZW (.string s) (Z8 k)<|YI (.int .u8 c) (hix _ _ _ _ rfl (by kernel_rfl) (by kernel_rfl) _) <|
   ZM (Yp rfl c 192 dF)<|ZB ZY ZY<|wn ?_
  simp only[pu];go_wp2_with fail;go_ret;rw[HE.out];exact⟨rfl,rfl⟩
theorem lD (s:ByteArray)(i:Nat)(w:World)(hi:i<s.size)(hl:s.size<=140737488355328):Calls Tryz.prog 126 #[.string s,Z8 i] w fun e w'=>e=.returned (Z8 (runK (nums s) i:Nat))/\w=w':=by
 have hix:=FT s i hi;have HI1:=Z9 (fun(h:Ll (nums s) (i+1)=true)=>FT s (i+1) (by have:=(WR h).1; rwa [Zf] at this));have dh:=O1 s (i+1) w;have CF2:=O1 s (i+2) w;have CF3:=O1 s (i+3) w;have HV:Hid (runK (nums s) i=runN ((nums s).getD i 0) ((nums s).getD (i+1) 0) (Ll (nums s) (i+1)) (Ll (nums s) (i+2)) (Ll (nums s) (i+3))):=Z9 rfl;generalize runK (nums s) i=r at *
 generalize (nums s).getD i 0=c at *
 generalize (nums s).getD (i+1) 0=d at *
 generalize Ll (nums s) (i+1)=f1 at *
 generalize Ll (nums s) (i+2)=f2 at *
 generalize Ll (nums s) (i+3)=f3 at *
 go_enter Tryz.func126,Tryz.ntmps126;go_upto_region 1 with fail;refine wl<|ZB (.string s) (Z8 i)<|YI (.int .u8 c) (hix _ _ _ _ rfl (by kernel_rfl) (by kernel_rfl) _)<|ZV (.int .u8 c)<|wn ?_;simp only[pu];clear hix;go_upto_region 2 with fail;rcases (show(c<128)∨(128<=c/\c<194)∨(194<=c/\c<224)∨(224<=c/\c<240)∨(240<=c/\c<245)∨(245<=c) by omega) with hc | hc | hc | hc | hc | hc
 ·refine wl<|ZV (.int .u8 c)<|ZM (Yp rfl c 128 dT)<|ZV ZW<|wn ?_;simp only[pu];have HE:Hid (r=1):=by
   refine Z9 ?_;rw[HV.out];unfold runN;try simp only[and_true,and_false,false_and,true_and,if_false,if_true,eq_self,Bool.false_eq_true,reduceCtorEq]
   repeat' split
   all_goals (first | rfl | omega)
  go_upto_region 3 with fail;refine wl<|ZV (Z8 1)<|wn ?_;simp only[pu];go_wp2_with fail;go_ret;rw[HE.out];exact⟨rfl,rfl⟩
 ·refine wl<|ZV (.int .u8 c)<|ZM (Yp rfl c 128 dF)<|ZV ZY<|wn ?_;simp only[pu];go_upto_region 4 with fail;refine wl<|ZV (.int .u8 c)<|ZM (YQ rfl c 194 dF)<|Y0 ZY undef undef ZY ZY undef<|Rf undef undef undef ZY ZY<|wn ?_;simp only[pu];go_upto_region 6 with fail;refine wl<|ZV (.int .u8 c)<|ZM (YQ rfl c 224 dF)<|Y0 ZY undef undef ZY ZY undef<|Y0 undef undef undef ZY ZY undef <|
   Rf undef undef undef ZY ZY<|wn ?_
  simp only[pu];go_upto_region 10 with fail;refine wl<|ZV (.int .u8 c)<|ZM (YQ rfl c 240 dF)<|Y0 ZY undef undef ZY ZY undef<|Y0 undef undef undef ZY ZY undef <|
   Y0 undef undef undef ZY ZY undef<|Rf undef undef undef ZY ZY<|wn ?_
  simp only[pu];have HE:Hid (r=0):=by
   refine Z9 ?_;rw[HV.out];unfold runN;try simp only[and_true,and_false,false_and,true_and,if_false,if_true,eq_self,Bool.false_eq_true,reduceCtorEq]
   repeat' split
   all_goals (first | rfl | omega)
  go_upto_region 14 with fail;refine wl<|ZV (Z8 0)<|wn ?_;simp only[pu];go_wp2_with fail;go_ret;rw[HE.out];exact⟨rfl,rfl⟩
 ·refine wl<|ZV (.int .u8 c)<|ZM (Yp rfl c 128 dF)<|ZV ZY<|wn ?_;simp only[pu];cases f1
  ·go_upto_region 4 with fail;refine wl<|ZV (.int .u8 c)<|ZM (YQ rfl c 194 dT)<|ZB ZW (.int .u8 c)<|ZM (Yp rfl c 224 dT) <|
    U8 ZW ZW (.string s) (Z8 i)<|Yn (Z8 (i+1:Nat)) (Zz rfl i 1 (by omega))<|YM ZY (fun w'=>w=w') dh (fun W hW=>?_)
   subst hW;refine ZB ZY ZY<|wn ?_;simp only[pu];go_upto_region 6 with fail;refine wl<|ZV (.int .u8 c)<|ZM (YQ rfl c 224 dF)<|Y0 ZY undef undef ZY ZY undef<|Y0 undef undef undef ZY ZY undef <|
    Rf undef undef undef ZY ZY<|wn ?_
   simp only[pu];go_upto_region 10 with fail;refine wl<|ZV (.int .u8 c)<|ZM (YQ rfl c 240 dF)<|Y0 ZY undef undef ZY ZY undef<|Y0 undef undef undef ZY ZY undef <|
    Y0 undef undef undef ZY ZY undef<|Rf undef undef undef ZY ZY<|wn ?_
   simp only[pu];have HE:Hid (r=0):=by
    refine Z9 ?_;rw[HV.out];unfold runN;try simp only[and_true,and_false,false_and,true_and,if_false,if_true,eq_self,Bool.false_eq_true,reduceCtorEq]
    repeat' split
    all_goals (first | rfl | omega)
   go_upto_region 14 with fail;refine wl<|ZV (Z8 0)<|wn ?_;simp only[pu];go_wp2_with fail;go_ret;rw[HE.out];exact⟨rfl,rfl⟩
  ·go_upto_region 4 with fail;refine wl<|ZV (.int .u8 c)<|ZM (YQ rfl c 194 dT)<|ZB ZW (.int .u8 c)<|ZM (Yp rfl c 224 dT) <|
    U8 ZW ZW (.string s) (Z8 i)<|Yn (Z8 (i+1:Nat)) (Zz rfl i 1 (by omega))<|YM ZW (fun w'=>w=w') dh (fun W hW=>?_)
   subst hW;refine ZB ZW ZW<|wn ?_;simp only[pu];have HE:Hid (r=2):=by
    refine Z9 ?_;rw[HV.out];unfold runN;try simp only[and_true,and_false,false_and,true_and,if_false,if_true,eq_self,Bool.false_eq_true,reduceCtorEq]
    repeat' split
    all_goals (first | rfl | omega)
   go_upto_region 5 with fail;refine wl<|ZV (Z8 2)<|wn ?_;simp only[pu];go_wp2_with fail;go_ret;rw[HE.out];exact⟨rfl,rfl⟩
 ·refine wl<|ZV (.int .u8 c)<|ZM (Yp rfl c 128 dF)<|ZV ZY<|wn ?_;simp only[pu];cases f1
  ·go_upto_region 4 with fail;refine wl<|ZV (.int .u8 c)<|ZM (YQ rfl c 194 dT)<|ZB ZW (.int .u8 c)<|ZM (Yp rfl c 224 dF) <|
    Y0 ZY ZY undef undef undef undef<|ZB ZY ZY<|wn ?_
   simp only[pu];go_upto_region 6 with fail;refine wl<|ZV (.int .u8 c)<|ZM (YQ rfl c 224 dT)<|ZB ZW (.int .u8 c)<|ZM (Yp rfl c 240 dT) <|
    U8 ZW ZW (.string s) (Z8 i)<|Yn (Z8 (i+1:Nat)) (Zz rfl i 1 (by omega))<|YM ZY (fun w'=>w=w') dh (fun W hW=>?_)
   subst hW;refine Y0 ZY ZY undef undef undef undef<|ZB ZY ZY<|wn ?_;simp only[pu];go_upto_region 10 with fail;refine wl<|ZV (.int .u8 c)<|ZM (YQ rfl c 240 dF)<|Y0 ZY undef undef ZY ZY undef<|Y0 undef undef undef ZY ZY undef <|
    Y0 undef undef undef ZY ZY undef<|Rf undef undef undef ZY ZY<|wn ?_
   simp only[pu];have HE:Hid (r=0):=by
    refine Z9 ?_;rw[HV.out];unfold runN;try simp only[and_true,and_false,false_and,true_and,if_false,if_true,eq_self,Bool.false_eq_true,reduceCtorEq]
    repeat' split
    all_goals (first | rfl | omega)
   go_upto_region 14 with fail;refine wl<|ZV (Z8 0)<|wn ?_;simp only[pu];go_wp2_with fail;go_ret;rw[HE.out];exact⟨rfl,rfl⟩
  ·cases f2
   ·go_upto_region 4 with fail;refine wl<|ZV (.int .u8 c)<|ZM (YQ rfl c 194 dT)<|ZB ZW (.int .u8 c)<|ZM (Yp rfl c 224 dF) <|
     Y0 ZY ZY undef undef undef undef<|ZB ZY ZY<|wn ?_
    simp only[pu];go_upto_region 6 with fail;refine wl<|ZV (.int .u8 c)<|ZM (YQ rfl c 224 dT)<|ZB ZW (.int .u8 c)<|ZM (Yp rfl c 240 dT) <|
     U8 ZW ZW (.string s) (Z8 i)<|Yn (Z8 (i+1:Nat)) (Zz rfl i 1 (by omega))<|YM ZW (fun w'=>w=w') dh (fun W hW=>?_)
    subst hW;refine U8 ZW ZW (.string s) (Z8 i)<|Yn (Z8 (i+2:Nat)) (Zz rfl i 2 (by omega))<|YM ZY (fun w'=>w=w') CF2 (fun W hW=>?_);subst hW;refine ZB ZY ZY<|wn ?_;simp only[pu];go_upto_region 10 with fail;refine wl<|ZV (.int .u8 c)<|ZM (YQ rfl c 240 dF)<|Y0 ZY undef undef ZY ZY undef<|Y0 undef undef undef ZY ZY undef <|
     Y0 undef undef undef ZY ZY undef<|Rf undef undef undef ZY ZY<|wn ?_
    simp only[pu];have HE:Hid (r=0):=by
     refine Z9 ?_;rw[HV.out];unfold runN;try simp only[and_true,and_false,false_and,true_and,if_false,if_true,eq_self,Bool.false_eq_true,reduceCtorEq]
     repeat' split
     all_goals (first | rfl | omega)
    go_upto_region 14 with fail;refine wl<|ZV (Z8 0)<|wn ?_;simp only[pu];go_wp2_with fail;go_ret;rw[HE.out];exact⟨rfl,rfl⟩
   ·go_upto_region 4 with fail;refine wl<|ZV (.int .u8 c)<|ZM (YQ rfl c 194 dT)<|ZB ZW (.int .u8 c)<|ZM (Yp rfl c 224 dF) <|
     Y0 ZY ZY undef undef undef undef<|ZB ZY ZY<|wn ?_
    simp only[pu];go_upto_region 6 with fail;refine wl<|ZV (.int .u8 c)<|ZM (YQ rfl c 224 dT)<|ZB ZW (.int .u8 c)<|ZM (Yp rfl c 240 dT) <|
     U8 ZW ZW (.string s) (Z8 i)<|Yn (Z8 (i+1:Nat)) (Zz rfl i 1 (by omega))<|YM ZW (fun w'=>w=w') dh (fun W hW=>?_)
    subst hW;refine U8 ZW ZW (.string s) (Z8 i)<|Yn (Z8 (i+2:Nat)) (Zz rfl i 2 (by omega))<|YM ZW (fun w'=>w=w') CF2 (fun W hW=>?_);subst hW;refine ZB ZW ZW<|wn ?_;simp only[pu];have hid:=HI1.out rfl;clear HI1;go_upto_region 7 with fail;rcases (show(c=224/\d<160)∨(c=224/\160<=d)∨(c=237/\d<160)∨(c=237/\160<=d)∨(c≠224/\c≠237) by omega) with hd | hd | hd | hd | hd
    ·refine wl<|ZV (.int .u8 c)<|ZM (XH rfl c 224 dT)<|Yr ZW (.string s) (Z8 i)<|Yn (Z8 (i+1:Nat)) (Zz rfl i 1 (by omega)) <|
      YI (.int .u8 d) (hid _ _ _ _ rfl (by kernel_rfl) (by kernel_rfl) _)<|ZM (Yp rfl d 160 dT)<|Y0 ZW ZW undef undef undef undef<|Y0 undef undef undef undef undef ZW <|
      wpList_nil ?_
     simp only[pu];have HE:Hid (r=0):=by
      refine Z9 ?_;rw[HV.out];unfold runN;try simp only[and_true,and_false,false_and,true_and,if_false,if_true,eq_self,Bool.false_eq_true,reduceCtorEq]
      repeat' split
      all_goals (first | rfl | omega)
     go_upto_region 8 with fail;refine wl<|ZV (Z8 0)<|wn ?_;simp only[pu];go_wp2_with fail;go_ret;rw[HE.out];exact⟨rfl,rfl⟩
    ·refine wl<|ZV (.int .u8 c)<|ZM (XH rfl c 224 dT)<|Yr ZW (.string s) (Z8 i)<|Yn (Z8 (i+1:Nat)) (Zz rfl i 1 (by omega)) <|
      YI (.int .u8 d) (hid _ _ _ _ rfl (by kernel_rfl) (by kernel_rfl) _)<|ZM (Yp rfl d 160 dF)<|Yr ZY ZY (.int .u8 c) <|
      ZM (XH rfl c 237 dF)<|Y0 ZY undef undef undef undef undef<|ZB ZY ZY<|wn ?_
     simp only[pu];have HE:Hid (r=3):=by
      refine Z9 ?_;rw[HV.out];unfold runN;try simp only[and_true,and_false,false_and,true_and,if_false,if_true,eq_self,Bool.false_eq_true,reduceCtorEq]
      repeat' split
      all_goals (first | rfl | omega)
     go_upto_region 9 with fail;refine wl<|ZV (Z8 3)<|wn ?_;simp only[pu];go_wp2_with fail;go_ret;rw[HE.out];exact⟨rfl,rfl⟩
    ·refine wl<|ZV (.int .u8 c)<|ZM (XH rfl c 224 dF)<|Y0 ZY undef undef undef undef undef<|Yr ZY ZY (.int .u8 c) <|
      ZM (XH rfl c 237 dT)<|Yr ZW (.string s) (Z8 i)<|Yn (Z8 (i+1:Nat)) (Zz rfl i 1 (by omega)) <|
      YI (.int .u8 d) (hid _ _ _ _ rfl (by kernel_rfl) (by kernel_rfl) _)<|ZM (YQ rfl d 160 dF)<|ZB ZY ZY<|wn ?_
     simp only[pu];have HE:Hid (r=3):=by
      refine Z9 ?_;rw[HV.out];unfold runN;try simp only[and_true,and_false,false_and,true_and,if_false,if_true,eq_self,Bool.false_eq_true,reduceCtorEq]
      repeat' split
      all_goals (first | rfl | omega)
     go_upto_region 9 with fail;refine wl<|ZV (Z8 3)<|wn ?_;simp only[pu];go_wp2_with fail;go_ret;rw[HE.out];exact⟨rfl,rfl⟩
    ·refine wl<|ZV (.int .u8 c)<|ZM (XH rfl c 224 dF)<|Y0 ZY undef undef undef undef undef<|Yr ZY ZY (.int .u8 c) <|
      ZM (XH rfl c 237 dT)<|Yr ZW (.string s) (Z8 i)<|Yn (Z8 (i+1:Nat)) (Zz rfl i 1 (by omega)) <|
      YI (.int .u8 d) (hid _ _ _ _ rfl (by kernel_rfl) (by kernel_rfl) _)<|ZM (YQ rfl d 160 dT)<|ZB ZW ZW<|wn ?_
     simp only[pu];have HE:Hid (r=0):=by
      refine Z9 ?_;rw[HV.out];unfold runN;try simp only[and_true,and_false,false_and,true_and,if_false,if_true,eq_self,Bool.false_eq_true,reduceCtorEq]
      repeat' split
      all_goals (first | rfl | omega)
     go_upto_region 8 with fail;refine wl<|ZV (Z8 0)<|wn ?_;simp only[pu];go_wp2_with fail;go_ret;rw[HE.out];exact⟨rfl,rfl⟩
    ·refine wl<|ZV (.int .u8 c)<|ZM (XH rfl c 224 dF)<|Y0 ZY undef undef undef undef undef<|Yr ZY ZY (.int .u8 c) <|
      ZM (XH rfl c 237 dF)<|Y0 ZY undef undef undef undef undef<|ZB ZY ZY<|wn ?_
     simp only[pu];have HE:Hid (r=3):=by
      refine Z9 ?_;rw[HV.out];unfold runN;try simp only[and_true,and_false,false_and,true_and,if_false,if_true,eq_self,Bool.false_eq_true,reduceCtorEq]
      repeat' split
      all_goals (first | rfl | omega)
     go_upto_region 9 with fail;refine wl<|ZV (Z8 3)<|wn ?_;simp only[pu];go_wp2_with fail;go_ret;rw[HE.out];exact⟨rfl,rfl⟩
 ·refine wl<|ZV (.int .u8 c)<|ZM (Yp rfl c 128 dF)<|ZV ZY<|wn ?_;simp only[pu];cases f1
  ·go_upto_region 4 with fail;refine wl<|ZV (.int .u8 c)<|ZM (YQ rfl c 194 dT)<|ZB ZW (.int .u8 c)<|ZM (Yp rfl c 224 dF) <|
    Y0 ZY ZY undef undef undef undef<|ZB ZY ZY<|wn ?_
   simp only[pu];go_upto_region 6 with fail;refine wl<|ZV (.int .u8 c)<|ZM (YQ rfl c 224 dT)<|ZB ZW (.int .u8 c)<|ZM (Yp rfl c 240 dF) <|
    Y0 ZY ZY undef undef undef undef<|Y0 ZY ZY undef undef undef undef<|ZB ZY ZY<|wn ?_
   simp only[pu];go_upto_region 10 with fail;refine wl<|ZV (.int .u8 c)<|ZM (YQ rfl c 240 dT)<|ZB ZW (.int .u8 c)<|ZM (Yp rfl c 245 dT) <|
    U8 ZW ZW (.string s) (Z8 i)<|Yn (Z8 (i+1:Nat)) (Zz rfl i 1 (by omega))<|YM ZY (fun w'=>w=w') dh (fun W hW=>?_)
   subst hW;refine Y0 ZY ZY undef undef undef undef<|Y0 ZY ZY undef undef undef undef<|ZB ZY ZY<|wn ?_;simp only[pu];have HE:Hid (r=0):=by
    refine Z9 ?_;rw[HV.out];unfold runN;try simp only[and_true,and_false,false_and,true_and,if_false,if_true,eq_self,Bool.false_eq_true,reduceCtorEq]
    repeat' split
    all_goals (first | rfl | omega)
   go_upto_region 14 with fail;refine wl<|ZV (Z8 0)<|wn ?_;simp only[pu];go_wp2_with fail;go_ret;rw[HE.out];exact⟨rfl,rfl⟩
  ·cases f2
   ·go_upto_region 4 with fail;refine wl<|ZV (.int .u8 c)<|ZM (YQ rfl c 194 dT)<|ZB ZW (.int .u8 c)<|ZM (Yp rfl c 224 dF) <|
     Y0 ZY ZY undef undef undef undef<|ZB ZY ZY<|wn ?_
    simp only[pu];go_upto_region 6 with fail;refine wl<|ZV (.int .u8 c)<|ZM (YQ rfl c 224 dT)<|ZB ZW (.int .u8 c)<|ZM (Yp rfl c 240 dF) <|
     Y0 ZY ZY undef undef undef undef<|Y0 ZY ZY undef undef undef undef<|ZB ZY ZY<|wn ?_
    simp only[pu];go_upto_region 10 with fail;refine wl<|ZV (.int .u8 c)<|ZM (YQ rfl c 240 dT)<|ZB ZW (.int .u8 c)<|ZM (Yp rfl c 245 dT) <|
     U8 ZW ZW (.string s) (Z8 i)<|Yn (Z8 (i+1:Nat)) (Zz rfl i 1 (by omega))<|YM ZW (fun w'=>w=w') dh (fun W hW=>?_)
    subst hW;refine U8 ZW ZW (.string s) (Z8 i)<|Yn (Z8 (i+2:Nat)) (Zz rfl i 2 (by omega))<|YM ZY (fun w'=>w=w') CF2 (fun W hW=>?_);subst hW;refine Y0 ZY ZY undef undef undef undef<|ZB ZY ZY<|wn ?_;simp only[pu];have HE:Hid (r=0):=by
     refine Z9 ?_;rw[HV.out];unfold runN;try simp only[and_true,and_false,false_and,true_and,if_false,if_true,eq_self,Bool.false_eq_true,reduceCtorEq]
     repeat' split
     all_goals (first | rfl | omega)
    go_upto_region 14 with fail;refine wl<|ZV (Z8 0)<|wn ?_;simp only[pu];go_wp2_with fail;go_ret;rw[HE.out];exact⟨rfl,rfl⟩
   ·cases f3
    ·go_upto_region 4 with fail;refine wl<|ZV (.int .u8 c)<|ZM (YQ rfl c 194 dT)<|ZB ZW (.int .u8 c)<|ZM (Yp rfl c 224 dF) <|
      Y0 ZY ZY undef undef undef undef<|ZB ZY ZY<|wn ?_
     simp only[pu];go_upto_region 6 with fail;refine wl<|ZV (.int .u8 c)<|ZM (YQ rfl c 224 dT)<|ZB ZW (.int .u8 c)<|ZM (Yp rfl c 240 dF) <|
      Y0 ZY ZY undef undef undef undef<|Y0 ZY ZY undef undef undef undef<|ZB ZY ZY<|wn ?_
     simp only[pu];go_upto_region 10 with fail;refine wl<|ZV (.int .u8 c)<|ZM (YQ rfl c 240 dT)<|ZB ZW (.int .u8 c)<|ZM (Yp rfl c 245 dT) <|
      U8 ZW ZW (.string s) (Z8 i)<|Yn (Z8 (i+1:Nat)) (Zz rfl i 1 (by omega))<|YM ZW (fun w'=>w=w') dh (fun W hW=>?_)
     subst hW;refine U8 ZW ZW (.string s) (Z8 i)<|Yn (Z8 (i+2:Nat)) (Zz rfl i 2 (by omega))<|YM ZW (fun w'=>w=w') CF2 (fun W hW=>?_);subst hW;refine U8 ZW ZW (.string s) (Z8 i)<|Yn (Z8 (i+3:Nat)) (Zz rfl i 3 (by omega))<|YM ZY (fun w'=>w=w') CF3 (fun W hW=>?_);subst hW;refine ZB ZY ZY<|wn ?_;simp only[pu];have HE:Hid (r=0):=by
      refine Z9 ?_;rw[HV.out];unfold runN;try simp only[and_true,and_false,false_and,true_and,if_false,if_true,eq_self,Bool.false_eq_true,reduceCtorEq]
      repeat' split
      all_goals (first | rfl | omega)
     go_upto_region 14 with fail;refine wl<|ZV (Z8 0)<|wn ?_;simp only[pu];go_wp2_with fail;go_ret;rw[HE.out];exact⟨rfl,rfl⟩
    ·go_upto_region 4 with fail;refine wl<|ZV (.int .u8 c)<|ZM (YQ rfl c 194 dT)<|ZB ZW (.int .u8 c)<|ZM (Yp rfl c 224 dF) <|
      Y0 ZY ZY undef undef undef undef<|ZB ZY ZY<|wn ?_
     simp only[pu];go_upto_region 6 with fail;refine wl<|ZV (.int .u8 c)<|ZM (YQ rfl c 224 dT)<|ZB ZW (.int .u8 c)<|ZM (Yp rfl c 240 dF) <|
      Y0 ZY ZY undef undef undef undef<|Y0 ZY ZY undef undef undef undef<|ZB ZY ZY<|wn ?_
     simp only[pu];go_upto_region 10 with fail;refine wl<|ZV (.int .u8 c)<|ZM (YQ rfl c 240 dT)<|ZB ZW (.int .u8 c)<|ZM (Yp rfl c 245 dT) <|
      U8 ZW ZW (.string s) (Z8 i)<|Yn (Z8 (i+1:Nat)) (Zz rfl i 1 (by omega))<|YM ZW (fun w'=>w=w') dh (fun W hW=>?_)
     subst hW;refine U8 ZW ZW (.string s) (Z8 i)<|Yn (Z8 (i+2:Nat)) (Zz rfl i 2 (by omega))<|YM ZW (fun w'=>w=w') CF2 (fun W hW=>?_);subst hW;refine U8 ZW ZW (.string s) (Z8 i)<|Yn (Z8 (i+3:Nat)) (Zz rfl i 3 (by omega))<|YM ZW (fun w'=>w=w') CF3 (fun W hW=>?_);subst hW;refine ZB ZW ZW<|wn ?_;simp only[pu];have hid:=HI1.out rfl;clear HI1;go_upto_region 11 with fail;rcases (show(c=240/\d<144)∨(c=240/\144<=d)∨(c=244/\d<144)∨(c=244/\144<=d)∨(c≠240/\c≠244) by omega) with hd | hd | hd | hd | hd
     ·refine wl<|ZV (.int .u8 c)<|ZM (XH rfl c 240 dT)<|Yr ZW (.string s) (Z8 i)<|Yn (Z8 (i+1:Nat)) (Zz rfl i 1 (by omega)) <|
       YI (.int .u8 d) (hid _ _ _ _ rfl (by kernel_rfl) (by kernel_rfl) _)<|ZM (Yp rfl d 144 dT)<|Y0 ZW ZW undef undef undef undef<|Y0 undef undef undef undef undef ZW <|
       wpList_nil ?_
      simp only[pu];have HE:Hid (r=0):=by
       refine Z9 ?_;rw[HV.out];unfold runN;try simp only[and_true,and_false,false_and,true_and,if_false,if_true,eq_self,Bool.false_eq_true,reduceCtorEq]
       repeat' split
       all_goals (first | rfl | omega)
      go_upto_region 12 with fail;refine wl<|ZV (Z8 0)<|wn ?_;simp only[pu];go_wp2_with fail;go_ret;rw[HE.out];exact⟨rfl,rfl⟩
     ·refine wl<|ZV (.int .u8 c)<|ZM (XH rfl c 240 dT)<|Yr ZW (.string s) (Z8 i)<|Yn (Z8 (i+1:Nat)) (Zz rfl i 1 (by omega)) <|
       YI (.int .u8 d) (hid _ _ _ _ rfl (by kernel_rfl) (by kernel_rfl) _)<|ZM (Yp rfl d 144 dF)<|Yr ZY ZY (.int .u8 c) <|
       ZM (XH rfl c 244 dF)<|Y0 ZY undef undef undef undef undef<|ZB ZY ZY<|wn ?_
      simp only[pu];have HE:Hid (r=4):=by
       refine Z9 ?_;rw[HV.out];unfold runN;try simp only[and_true,and_false,false_and,true_and,if_false,if_true,eq_self,Bool.false_eq_true,reduceCtorEq]
       repeat' split
       all_goals (first | rfl | omega)
      go_upto_region 13 with fail;refine wl<|ZV (Z8 4)<|wn ?_;simp only[pu];go_wp2_with fail;go_ret;rw[HE.out];exact⟨rfl,rfl⟩
     ·refine wl<|ZV (.int .u8 c)<|ZM (XH rfl c 240 dF)<|Y0 ZY undef undef undef undef undef<|Yr ZY ZY (.int .u8 c) <|
       ZM (XH rfl c 244 dT)<|Yr ZW (.string s) (Z8 i)<|Yn (Z8 (i+1:Nat)) (Zz rfl i 1 (by omega)) <|
       YI (.int .u8 d) (hid _ _ _ _ rfl (by kernel_rfl) (by kernel_rfl) _)<|ZM (YQ rfl d 144 dF)<|ZB ZY ZY<|wn ?_
      simp only[pu];have HE:Hid (r=4):=by
       refine Z9 ?_;rw[HV.out];unfold runN;try simp only[and_true,and_false,false_and,true_and,if_false,if_true,eq_self,Bool.false_eq_true,reduceCtorEq]
       repeat' split
       all_goals (first | rfl | omega)
      go_upto_region 13 with fail;refine wl<|ZV (Z8 4)<|wn ?_;simp only[pu];go_wp2_with fail;go_ret;rw[HE.out];exact⟨rfl,rfl⟩
     ·refine wl<|ZV (.int .u8 c)<|ZM (XH rfl c 240 dF)<|Y0 ZY undef undef undef undef undef<|Yr ZY ZY (.int .u8 c) <|
       ZM (XH rfl c 244 dT)<|Yr ZW (.string s) (Z8 i)<|Yn (Z8 (i+1:Nat)) (Zz rfl i 1 (by omega)) <|
       YI (.int .u8 d) (hid _ _ _ _ rfl (by kernel_rfl) (by kernel_rfl) _)<|ZM (YQ rfl d 144 dT)<|ZB ZW ZW<|wn ?_
      simp only[pu];have HE:Hid (r=0):=by
       refine Z9 ?_;rw[HV.out];unfold runN;try simp only[and_true,and_false,false_and,true_and,if_false,if_true,eq_self,Bool.false_eq_true,reduceCtorEq]
       repeat' split
       all_goals (first | rfl | omega)
      go_upto_region 12 with fail;refine wl<|ZV (Z8 0)<|wn ?_;simp only[pu];go_wp2_with fail;go_ret;rw[HE.out];exact⟨rfl,rfl⟩
     ·refine wl<|ZV (.int .u8 c)<|ZM (XH rfl c 240 dF)<|Y0 ZY undef undef undef undef undef<|Yr ZY ZY (.int .u8 c) <|
       ZM (XH rfl c 244 dF)<|Y0 ZY undef undef undef undef undef<|ZB ZY ZY<|wn ?_
      simp only[pu];have HE:Hid (r=4):=by
       refine Z9 ?_;rw[HV.out];unfold runN;try simp only[and_true,and_false,false_and,true_and,if_false,if_true,eq_self,Bool.false_eq_true,reduceCtorEq]
       repeat' split
       all_goals (first | rfl | omega)
      go_upto_region 13 with fail;refine wl<|ZV (Z8 4)<|wn ?_;simp only[pu];go_wp2_with fail;go_ret;rw[HE.out];exact⟨rfl,rfl⟩
 ·refine wl<|ZV (.int .u8 c)<|ZM (Yp rfl c 128 dF)<|ZV ZY<|wn ?_;simp only[pu];go_upto_region 4 with fail;refine wl<|ZV (.int .u8 c)<|ZM (YQ rfl c 194 dT)<|ZB ZW (.int .u8 c)<|ZM (Yp rfl c 224 dF) <|
   Y0 ZY ZY undef undef undef undef<|ZB ZY ZY<|wn ?_
  simp only[pu];go_upto_region 6 with fail;refine wl<|ZV (.int .u8 c)<|ZM (YQ rfl c 224 dT)<|ZB ZW (.int .u8 c)<|ZM (Yp rfl c 240 dF) <|
   Y0 ZY ZY undef undef undef undef<|Y0 ZY ZY undef undef undef undef<|ZB ZY ZY<|wn ?_
  simp only[pu];go_upto_region 10 with fail;refine wl<|ZV (.int .u8 c)<|ZM (YQ rfl c 240 dT)<|ZB ZW (.int .u8 c)<|ZM (Yp rfl c 245 dF) <|
   Y0 ZY ZY undef undef undef undef<|Y0 ZY ZY undef undef undef undef<|Y0 ZY ZY undef undef undef undef<|ZB ZY ZY<|wn ?_
  simp only[pu];have HE:Hid (r=0):=by
   refine Z9 ?_;rw[HV.out];unfold runN;try simp only[and_true,and_false,false_and,true_and,if_false,if_true,eq_self,Bool.false_eq_true,reduceCtorEq]
   repeat' split
   all_goals (first | rfl | omega)
  go_upto_region 14 with fail;refine wl<|ZV (Z8 0)<|wn ?_;simp only[pu];go_wp2_with fail;go_ret;rw[HE.out];exact⟨rfl,rfl⟩
theorem Ou {L:List Int}{i:Nat}(h:¬ i<L.length):runs L i=some 0:=by rw[runs,dif_neg h]
theorem DT {L:List Int}{i:Nat}(h:i<L.length)(hk:runK L i=0):runs L i=none:=by rw[runs,dif_pos h,if_pos hk]
theorem SN {L:List Int}{i:Nat}(h:i<L.length)(hk:runK L i≠0):runs L i=(runs L (i+runK L i)).map (· + 1):=by rw[runs,dif_pos h,if_neg hk]
def Ran (L:List Int)(i n:Nat):Prop:=runs L 0=(runs L i).map (· + n)
theorem Ran.zero (L:List Int):Ran L 0 0:=by
 unfold Ran;cases runs L 0 <;> rfl
theorem Ran.step {L:List Int}{i n:Nat}(h:Ran L i n)(hi:i<L.length)(hk:runK L i≠0):Ran L (i+runK L i) (n+1):=by
 unfold Ran at h ⊢;rw[h,SN hi hk];cases runs L (i+runK L i) with
 | none=>rfl
 | some m=>simp; omega
theorem Ran.bad {L:List Int}{i n:Nat}(h:Ran L i n)(hi:i<L.length)(hk:runK L i=0):runs L 0=none:=by
 unfold Ran at h;rw[h,DT hi hk];rfl
theorem Ran.done {L:List Int}{i n:Nat}(h:Ran L i n)(hi:¬ i<L.length):runs L 0=some n:=by
 unfold Ran at h;rw[h,Ou hi];simp
def aC0:Option Nat->Value
 | none=>.tuple #[Z8 0,ZY]
 | some n=>.tuple #[Z8 n,ZW]
theorem Np {ρ:Operand->Value}{o:Oper}{x y:Operand}(ho:o.op=.binOp .eql 3 x y 3)(a:Int){t:Bool}(ht:decide (a=0)=t)(hx:ρ x=Z8 a)(hy:ρ y=Z8 0)(w:World):(execOp ρ o).run Tryz.prog w=.ok (.value (.bool t)) w:=by
 have e:(a == 0)=t:=ht;unfold execOp;simp only[ho,hx,hy];go_simp
theorem um (s:ByteArray)(w:World)(hl:s.size<=140737488355328):Calls Tryz.prog 97 #[.string s] w fun e w'=>e=.returned (aC0 (runs (nums s) 0))/\w=w':=by
 have HR:=Z9 (fun(i:Nat) (V:World) (hi:i<s.size)=>lD s i V hi hl);have HL:=Z9 (Zf s);obtain⟨L,hL⟩:=ZQ (nums s);rw[hL] at HR HL ⊢;have HR0:=Z9 (Ran.zero L);obtain⟨r,hr⟩:=ZQ (runs L 0);have ru:=Z9 hr;rw[hr];clear hL hr;obtain⟨n,hn⟩:=ZQ s.size;rw[hn] at hl;go_enter Tryz.func97,Tryz.ntmps97;go_upto_region 1 with fail;refine wl<|ZV (Z8 0)<|wn ?_;simp only[pu];go_upto_region 2 with fail;refine wl<|ZV (Z8 0)<|wn ?_;simp only[pu];go_wp2_with fail;go_loopg [4,5] n (fun gg s4 s5 wx=>∃ i m:Nat,s4=Z8 m/\s5=Z8 i/\i<=n/\m<=i/\Hid (Ran L i m)/\wx=w/\n-i<=gg)
 case atStart=>exact⟨0,0,rfl,rfl,by omega,by omega,HR0,rfl,by omega⟩
 case round=>
  obtain⟨i,m,rfl,rfl,hi,hmi,HM,rfl,hg⟩:=hrel;clear HR0;by_cases hlt:i<n
  ·have HD:Hid (decide ((i:Int)<(n:Int))=true):=Z9 dT;have CR:=HR.out i wr (by omega);have hk4:=Gl L i;have hkl:=Gp (L:=L) (i:=i) (by rw[HL.out]; omega);have HST:=Z9 (HM.out.step (by rw[HL.out]; omega));have Aj:=Z9 (HM.out.bad (by rw[HL.out]; omega));rw[HL.out] at hkl;clear HM;generalize runK L i=k at *
   go_upto_region 3 with fail;refine wl<|ZB (Z8 i) (.string s)<|YI (Z8 n) (by rw[<- hn]; kernel_rfl)<|Yn ZW (Zr rfl i n HD.out)<|wn ?_;simp only[pu];go_upto_region 4 with fail;refine wl<|ZB (.string s) (Z8 i)<|YM (Z8 k) (fun w'=>wr=w') CR (fun W hW=>?_);subst hW;refine ZV (Z8 k)<|wn ?_;simp only[pu];go_upto_region 5 with fail;by_cases h0:k=0
   ·have HE:Hid (r=none):=Z9 (by rw[<- ru.out]; exact Aj.out h0);subst h0;clear HST Aj ru CR HR;refine wl<|ZV (Z8 (0:Nat))<|Yn ZW (Np rfl 0 rfl)<|wn ?_;simp only[pu];go_upto_region 6 with fail;refine wl<|ZB (Z8 0) ZY<|wn ?_;simp only[pu];go_wp2_with fail;go_ret2;rw[HE.out];exact⟨rfl,rfl⟩
   ·have HS2:=Z9 (HST.out h0);have HG:Hid (i<n/\0<k/\i+k<=n/\n-i<=gk):=Z9 ⟨hlt,by omega,by rw[<- hn]; exact hkl,hg⟩;clear HST Aj CR hg;refine wl<|ZV (Z8 k)<|ZM (Np rfl k dF)<|wn ?_;simp only[pu];go_upto_region 7 with fail;refine wl<|ZB (Z8 i) (Z8 k)<|Yn (Z8 (i+k:Nat)) (Zz rfl i k (by omega))<|ZV (Z8 (i+k:Nat))<|wn ?_;simp only[pu];go_upto_region 8 with fail;refine wl<|ZV (Z8 m)<|Yn (Z8 (m+1:Nat)) (Zz rfl m 1 (by omega))<|ZV (Z8 (m+1:Nat))<|wn ?_;simp only[pu];go_wp2_with fail;go_roundg (n-(i+k))
    case measure=>have:=HG.out; omega
    case rel=>exact⟨i+k,m+1,rfl,rfl,HG.out.2.2.1,by have:=HG.out; omega,HS2,rfl,Nat.le_refl _⟩
  ·have HD:Hid (decide ((i:Int)<(n:Int))=false):=Z9 dF;have HE:Hid (r=some m):=Z9 (by rw[<- ru.out]; exact HM.out.done (by rw[HL.out]; omega));clear HM ru HR hg;go_upto_region 3 with fail;refine wl<|ZB (Z8 i) (.string s)<|YI (Z8 n) (by rw[<- hn]; kernel_rfl)<|Yn ZY (Zr rfl i n HD.out)<|wn ?_;simp only[pu];go_upto_region 9 with fail;refine wl<|Yr (Z8 m) (Z8 m) ZW<|wn ?_;simp only[pu];go_wp2_with fail;go_ret2;rw[HE.out];exact⟨rfl,rfl⟩
theorem zA (s:ByteArray)(w:World)(hl:s.size<=140737488355328):Calls Tryz.prog 61 #[.string s] w fun e w'=>e=.returned (.bool (X7 (nums s)))/\w=w':=by
 have CS:=um s w hl;unfold X7;generalize runs (nums s) 0=r at *
 cases r with
 | none=>
  have CS:Calls Tryz.prog 97 #[.string s] w fun e w2=>e=.returned (.tuple #[Z8 0,ZY])/\w=w2:=CS;have HE:Hid (False->False):=Z9 id;go_enter Tryz.func61,Tryz.ntmps61;go_upto_region 1 with fail;refine wl<|ZV (.string s)<|YM (.tuple #[Z8 0,ZY]) (fun w'=>w=w') CS (fun W hW=>?_);subst hW;refine Rf (.tuple #[Z8 0,ZY]) (Z8 0) ZY (Z8 0) ZY<|wn ?_;simp only[pu];clear CS;go_upto_region 2 with fail;refine wl<|Y0 ZY ZY undef undef ZY ZY<|wn ?_;simp only[pu];go_wp2_with fail;go_ret;exact⟨rfl,rfl⟩
 | some n=>
  have CS:Calls Tryz.prog 97 #[.string s] w fun e w2=>e=.returned (.tuple #[Z8 n,ZW])/\w=w2:=CS;obtain⟨t,ht⟩:=ZQ (decide (n<=64));have H2:Hid (decide ((n:Int)<=(64:Int))=t):=Z9 (by rw[<- ht]; exact decide_eq_decide.2 (by omega));show Calls _ _ _ _ fun e w2=>e=.returned (.bool (decide (n<=64)))/\w=w2;rw[ht];clear ht;go_enter Tryz.func61,Tryz.ntmps61;go_upto_region 1 with fail;refine wl<|ZV (.string s)<|YM (.tuple #[Z8 n,ZW]) (fun w'=>w=w') CS (fun W hW=>?_);subst hW;refine Rf (.tuple #[Z8 n,ZW]) (Z8 n) ZW (Z8 n) ZW<|wn ?_;simp only[pu];clear CS;go_upto_region 2 with fail;refine wl<|Yr ZW ZW (Z8 n)<|Yn (.bool t) (ad3 rfl n 64 H2.out)<|ZB (.bool t) (.bool t)<|wn ?_;simp only[pu];go_wp2_with fail;go_ret;exact⟨rfl,rfl⟩
theorem RI (s:ByteArray)(w:World)(hl:s.size<=140737488355328):Calls Tryz.prog 60 #[.string s] w fun e w'=>e=.returned (.bool (isName (nums s)))/\w=w':=by
 have ER:=Z9 (fun(i:Nat) (h:i<s.size)=>FT s i h);have HL:=Z9 (Zf s);obtain⟨L,hL⟩:=ZQ (nums s);rw[hL] at ER HL ⊢;have zQ:=Z9 (fun i (h:i<L.length)=>mZ h);have mY:=Z9 (@xE L);clear hL;obtain⟨n,hn⟩:=ZQ s.size;go_enter Tryz.func60,Tryz.ntmps60;go_upto_region 1 with fail;refine wl<|ZV (Z8 0)<|wn ?_;simp only[pu];go_wp2_with fail;go_loopg [3] n (fun gg s3 wx=>∃ i:Nat,s3=Z8 i/\i<=n/\(∀ j,j<i->Px (L.getD j 0)=true)/\wx=w/\n-i=gg)
 case atStart=>exact⟨0,rfl,by omega,fun j hj=>by omega,rfl,by omega⟩
 case round=>
  obtain⟨i,rfl,hi,hyes,rfl,hg⟩:=hrel;by_cases hlt:i<n
  ·have HG:Hid (n-(i+1)=gk-1/\0<gk/\i+1<=n):=Z9 ⟨by omega,by omega,by omega⟩;have hix:=ER.out i (by omega);have hno:=zQ.out i (by rw[HL.out]; omega);obtain⟨c,hc⟩:=ZQ (L.getD i 0);rw[hc] at hix hno;have Gm:Hid (Px c=true->∀ j,j<i+1->Px (L.getD j 0)=true):=Z9 fun hb j hj=>by
    by_cases e:j=i
    ·rw[e,hc]; exact hb
    ·exact hyes j (by omega)
   have HD:Hid (decide ((i:Int)<(n:Int))=true):=Z9 dT;clear hc hyes hg;go_upto_region 2 with fail;refine wl<|ZB (Z8 i) (.string s)<|YI (Z8 n) (by rw[<- hn]; kernel_rfl)<|Yn ZW (Zr rfl i n HD.out)<|wn ?_;simp only[pu];go_upto_region 4 with fail;refine wl<|ZB (.string s) (Z8 i)<|YI (.int .u8 c) (hix _ _ _ _ rfl (by kernel_rfl) (by kernel_rfl) _)<|ZV (.int .u8 c)<|wn ?_;simp only[pu];go_upto_region 5 with fail;have hcl:(97<=c/\c<=122)∨(48<=c/\c<=57)∨(c=45)∨(122<c)∨(57<c/\c<97)∨(c<48/\c≠45):=(by omega);rcases hcl with hc | hc | hc | hc | hc | hc
   ·apply wp_region_lit;refine ZV (.int .u8 c)<|ZM (YQ rfl c 97 dT)<|ZB ZW (.int .u8 c)<|ZM (WV rfl c 122 dT) <|
     Y0 ZW ZW undef undef undef undef<|Y0 undef undef ZW ZW undef undef<|ZB ZW ZY<|wn ?_
    simp only[pu];have HY2:=Z9 (Gm.out (by simp only[Px,Bool.or_eq_true,Bool.and_eq_true,decide_eq_true_eq]; omega));clear hno Gm hix ER;go_upto_region 3 with fail;refine wl<|ZV (Z8 i)<|Yn (Z8 (i+1:Nat)) (Zz rfl i 1 (by omega))<|ZV (Z8 (i+1:Nat))<|wn ?_;simp only[pu];go_wp2_with fail;go_roundg (gk-1)
    case measure=>have:=HG.out; omega
    case rel=>exact⟨i+1,rfl,HG.out.2.2,HY2.out,rfl,HG.out.1⟩
   ·apply wp_region_lit;refine ZV (.int .u8 c)<|ZM (YQ rfl c 97 dF)<|Y0 ZY undef undef ZY ZY (.int .u8 c) <|
     ZM (YQ rfl c 48 dT)<|ZB ZW (.int .u8 c)<|ZM (WV rfl c 57 dT) <|
     Y0 ZW ZW ZW undef undef ZW<|ZV ZY<|wn ?_
    simp only[pu];have HY2:=Z9 (Gm.out (by simp only[Px,Bool.or_eq_true,Bool.and_eq_true,decide_eq_true_eq]; omega));clear hno Gm hix ER;go_upto_region 3 with fail;refine wl<|ZV (Z8 i)<|Yn (Z8 (i+1:Nat)) (Zz rfl i 1 (by omega))<|ZV (Z8 (i+1:Nat))<|wn ?_;simp only[pu];go_wp2_with fail;go_roundg (gk-1)
    case measure=>have:=HG.out; omega
    case rel=>exact⟨i+1,rfl,HG.out.2.2,HY2.out,rfl,HG.out.1⟩
   ·apply wp_region_lit;refine ZV (.int .u8 c)<|ZM (YQ rfl c 97 dF)<|Y0 ZY undef undef ZY ZY (.int .u8 c) <|
     ZM (YQ rfl c 48 dF)<|Y0 ZY undef undef ZY ZY ZY<|ZV (.int .u8 c) <|
     ZM (XH rfl c 45 dT)<|ZB ZW ZY<|wn ?_
    simp only[pu];have HY2:=Z9 (Gm.out (by simp only[Px,Bool.or_eq_true,Bool.and_eq_true,decide_eq_true_eq]; omega));clear hno Gm hix ER;go_upto_region 3 with fail;refine wl<|ZV (Z8 i)<|Yn (Z8 (i+1:Nat)) (Zz rfl i 1 (by omega))<|ZV (Z8 (i+1:Nat))<|wn ?_;simp only[pu];go_wp2_with fail;go_roundg (gk-1)
    case measure=>have:=HG.out; omega
    case rel=>exact⟨i+1,rfl,HG.out.2.2,HY2.out,rfl,HG.out.1⟩
   ·apply wp_region_lit;refine ZV (.int .u8 c)<|ZM (YQ rfl c 97 dT)<|ZB ZW (.int .u8 c)<|ZM (WV rfl c 122 dF) <|
     Yr ZY ZY (.int .u8 c)<|ZM (YQ rfl c 48 dT)<|ZB ZW (.int .u8 c)<|ZM (WV rfl c 57 dF) <|
     U8 ZY ZY ZY (.int .u8 c)<|ZM (XH rfl c 45 dF)<|ZB ZY ZW<|wn ?_
    simp only[pu];have HE:=Z9 (hno (by rw[Bool.eq_false_iff]; simp only[ne_eq,Px,Bool.or_eq_true,Bool.and_eq_true,decide_eq_true_eq]; omega));clear hno Gm hix ER;go_upto_region 6 with fail;refine wl<|ZV ZY<|wn ?_;simp only[pu];go_wp2_with fail;go_ret;rw[HE.out];exact⟨rfl,rfl⟩
   ·apply wp_region_lit;refine ZV (.int .u8 c)<|ZM (YQ rfl c 97 dF)<|Y0 ZY undef undef ZY ZY (.int .u8 c) <|
     ZM (YQ rfl c 48 dT)<|ZB ZW (.int .u8 c)<|ZM (WV rfl c 57 dF) <|
     U8 ZY ZY ZY (.int .u8 c)<|ZM (XH rfl c 45 dF)<|ZB ZY ZW<|wn ?_
    simp only[pu];have HE:=Z9 (hno (by rw[Bool.eq_false_iff]; simp only[ne_eq,Px,Bool.or_eq_true,Bool.and_eq_true,decide_eq_true_eq]; omega));clear hno Gm hix ER;go_upto_region 6 with fail;refine wl<|ZV ZY<|wn ?_;simp only[pu];go_wp2_with fail;go_ret;rw[HE.out];exact⟨rfl,rfl⟩
   ·apply wp_region_lit;refine ZV (.int .u8 c)<|ZM (YQ rfl c 97 dF)<|Y0 ZY undef undef ZY ZY (.int .u8 c) <|
     ZM (YQ rfl c 48 dF)<|Y0 ZY undef undef ZY ZY ZY<|ZV (.int .u8 c) <|
     ZM (XH rfl c 45 dF)<|ZB ZY ZW<|wn ?_
    simp only[pu];have HE:=Z9 (hno (by rw[Bool.eq_false_iff]; simp only[ne_eq,Px,Bool.or_eq_true,Bool.and_eq_true,decide_eq_true_eq]; omega));clear hno Gm hix ER;go_upto_region 6 with fail;refine wl<|ZV ZY<|wn ?_;simp only[pu];go_wp2_with fail;go_ret;rw[HE.out];exact⟨rfl,rfl⟩
  ·have HD:Hid (decide ((i:Int)<(n:Int))=false):=Z9 dF;have hall:=mY.out (fun j hj=>hyes j (by rw[HL.out] at hj; omega));have HV:Hid (isName L=(decide (1<=n) && decide (n<=20))):=Z9 (by unfold isName; rw[hall,HL.out,hn]; rfl);clear hyes hall hg ER zQ mY;go_upto_region 2 with fail;refine wl<|ZB (Z8 i) (.string s)<|YI (Z8 n) (by rw[<- hn]; kernel_rfl)<|Yn ZY (Zr rfl i n HD.out)<|wn ?_;simp only[pu];go_upto_region 7 with fail;by_cases h1:1<=n
   ·have H1:Hid (decide ((1:Int)<=(n:Int))=true):=Z9 dT;obtain⟨t,ht⟩:=ZQ (decide (n<=20));have H2:Hid (decide ((n:Int)<=(20:Int))=t):=Z9 (by rw[<- ht]; exact decide_eq_decide.2 (by omega));have HE:Hid (isName L=t):=Z9 (by rw[HV.out,decide_eq_true h1,ht]; rfl);clear ht HV;refine wl<|ZV (.string s)<|YI (Z8 n) (by rw[<- hn]; kernel_rfl)<|Yn ZW (Vg rfl n 1 H1.out)<|ZB ZW (.string s)<|YI (Z8 n) (by rw[<- hn]; kernel_rfl) <|
     Yn (.bool t) (ad3 rfl n 20 H2.out)<|ZB (.bool t) (.bool t)<|wn ?_
    simp only[pu];go_wp2_with fail;go_ret;rw[HE.out];exact⟨rfl,rfl⟩
   ·have H1:Hid (decide ((1:Int)<=(n:Int))=false):=Z9 dF;have HE:Hid (isName L=false):=Z9 (by rw[HV.out,decide_eq_false h1]; rfl);clear HV;refine wl<|ZV (.string s)<|YI (Z8 n) (by rw[<- hn]; kernel_rfl)<|Yn ZY (Vg rfl n 1 H1.out)<|Y0 ZY undef undef undef ZY ZY<|wn ?_;simp only[pu];go_wp2_with fail;go_ret;rw[HE.out];exact⟨rfl,rfl⟩
end Go.Proofs.YtfpnnmeblefkkaaGreatDoor
namespace Go.Proofs.YtfpnnmeblefkkaaGreatDoor
open Go.RowKit
abbrev Tf:=ByteArray×Int
def rG (x:Tf):List Value:=[.string x.1,Z7 x.2]
abbrev Yy (x:Tf):Array Value:=#[.string x.1,Z7 x.2]
def QZ (A:List Tf):List Value:=A.flatMap rG
def tfa (A:List Tf)(j:Nat):Tf:=A.getD j (ByteArray.empty,0)
theorem VF {A:List Tf}{j:Nat}(h:j<A.length):tfa A j=A[j]:=getD_lt A j _ h
theorem Dy (x:Tf)(r:List Tf):QZ (x::r)=.string x.1::Z7 x.2::QZ r:=rfl
theorem fG (A B:List Tf):QZ (A++B)=QZ A++QZ B:=by simp[QZ]
theorem dw (x:Tf):(Yy x).all (·.oneCell')=true:=by simp[Value.oneCell']
theorem lF:∀ (A:List Tf) (k:Nat),k<A.length->(QZ A)[k*2]?=some (.string (tfa A k).1)/\(QZ A)[k*2+1]?=some (Z7 (tfa A k).2)
 | [],k,h=>absurd h (by simp)
 | x::r,0,h=>by rw[Dy]; exact⟨rfl,rfl⟩
 | x::r,k+1,h=>by
  have:=lF r k (by simpa using h);rw[Dy,show(k+1)*2=k*2+1+1 by omega,show k*2+1+1+1=(k*2+1)+1+1 by omega];simpa [tfa,List.getD] using this
theorem ac7:(Tryz.prog.info? 60).map (fun i=>(i.zero,i.size,i.bytes))=some (some (.agg #[.string ByteArray.empty,Z7 0]),2,24):=by kernel_rfl
theorem Ux {w:World}{a:Option Addr}{A:List Tf}(h:Cs w a (QZ A)){k:Nat}(hk:k<A.length):∃ b off,a=some ⟨b,off,none⟩/\b<w.heap.size/\w.rangeAt b (off+k*2) (rG (tfa A k)):=by
 obtain⟨h0,h1⟩:=lF A k hk;obtain⟨b,off,rfl,hb,c0⟩:=h _ _ h0;obtain⟨b1,off1,e1,-,c1⟩:=h _ _ h1;simp only[Option.some.injEq,Addr.mk.injEq,and_true] at e1;obtain⟨rfl,rfl⟩:=e1;refine⟨b,off,rfl,hb,fun j v hj=>?_⟩;have hj2:j<2:=by
  have:=(List.getElem?_eq_some_iff.1 hj).1;simpa [rG] using this
 rcases (show j=0∨j=1 by omega) with rfl | rfl
 ·simp[rG] at hj; rw[<- hj]; exact c0
 ·simp[rG] at hj; rw[<- hj,Nat.add_assoc]; exact c1
theorem Ub {w:World}{b o:Nat}{x:Tf}(h:w.rangeAt b o (rG x)):(Instr.loadAt 60 (Z5 b o)).run Tryz.prog w=.ok (.agg (Yy x)) w:=
 run_loadAt_mid w b o 60 (rG x) _ h Tryz.underlying60 rfl (by kernel_rfl)
theorem O7 (b off n c k:Nat)(hk:k<n)(V:World)(ρ:Operand->Value)(o:Oper){x y:Operand}(ho:o.op=.indexAddr 61 x y)(hx:ρ x=.slice (some ⟨b,off,none⟩) n c)(hy:ρ y=Z8 k):(execOp ρ o).run Tryz.prog V=.ok (.value (Z5 b (off+k*2))) V:=by
 have hs:(sizeOf (Tryz.prog.elem 61)).run Tryz.prog V=.ok 2 V:=by kernel_rfl
 have hlm:(k:Int)<(n:Int):=by omega
 unfold execOp;simp only[ho,hx,hy];go_simp
def Un:Tf:=(ByteArray.empty,0)
theorem Wp {w:World}{g:Nat}{x y:Tf}(h:Bx w g (Yy x) 60):(Instr.storeAt 60 (Z5 g 0) (.agg (Yy y))).run Tryz.prog w=.ok () (w.setRow g (Yy y))/\Bx (w.setRow g (Yy y)) g (Yy y) 60:=
 ⟨Yj h rfl (dw y) (by kernel_rfl),h.set⟩
theorem Tt (V:World)(x:Tf):∃ V2,(Instr.storeAt 60 (Z5 V.heap.size 0) (.agg (Yy x))).run Tryz.prog (V.alloc (.cells (Yy Un) 60))=.ok () V2/\Below V.heap.size V V2/\Bx V2 V.heap.size (Yy x) 60:=
 have hb:Bx (V.alloc (.cells (Yy Un) 60)) V.heap.size (Yy Un) 60:=heap_alloc_last V _
 ⟨_,(Wp hb).1,ZU ((Below.refl _ V).alloc (Nat.le_refl _) _) (Nat.le_refl _) _,(Wp hb).2⟩
structure YV where
 snd:ByteArray
 sq:Int
 Zx:Int
 Y8:Int
 memo:ByteArray
 tr:List Tf
abbrev ZA (x:YV)(a:Option Addr)(c:Nat):Array Value:=#[.string x.snd,Z7 x.sq,Z7 x.Zx,Z7 x.Y8,.string x.memo,.slice a x.tr.length c]
def RQ:List Tf->Int
 | []=>0
 | x::r=>if isName (nums x.1)=false then 10 else if x.2=0 then 12 else RQ r
def Xv (x:YV):Int:=if isName (nums x.snd)=false then 10 else if x.Zx=0 then 15 else if X7 (nums x.memo)=false then 11 else if x.tr.length=0∨16<x.tr.length then 3 else RQ x.tr
def AY (A:List Tf)(j:Nat):Prop:=RQ A=RQ (A.drop j)
theorem AY.zero (A:List Tf):AY A 0:=rfl
theorem FQ {A:List Tf}{j:Nat}(h:j<A.length):A.drop j=tfa A j::A.drop (j+1):=by rw[VF h,List.getElem_cons_drop]
theorem AY.name {A:List Tf}{j:Nat}(h:AY A j)(hj:j<A.length)(hn:isName (nums (tfa A j).1)=false):RQ A=10:=by
 rw[h,FQ hj];simp[RQ,hn]
theorem AY.zam {A:List Tf}{j:Nat}(h:AY A j)(hj:j<A.length)(hn:isName (nums (tfa A j).1)=true)(h0:(tfa A j).2=0):RQ A=12:=by
 rw[h,FQ hj];simp[RQ,hn,h0]
theorem AY.step {A:List Tf}{j:Nat}(h:AY A j)(hj:j<A.length)(hn:isName (nums (tfa A j).1)=true)(h0:(tfa A j).2≠0):AY A (j+1):=by
 unfold AY at h ⊢;rw[h,FQ hj];simp[RQ,hn,h0]
theorem AY.done {A:List Tf}{j:Nat}(h:AY A j)(hj:A.length<=j):RQ A=0:=by
 rw[h,List.drop_eq_nil_of_le hj];rfl
end Go.Proofs.YtfpnnmeblefkkaaGreatDoor
namespace Go.Proofs.YtfpnnmeblefkkaaGreatDoor
attribute [local irreducible] wpList wpQuiet
open Go.RowKit
theorem Tn {ρ:Operand->Value}{o:Oper}{x y:Operand}(ho:o.op=.binOp .eql 24 x y 24)(a:Int){t:Bool}(ht:decide (a=0)=t)(hx:ρ x=Z7 a)(hy:ρ y=Z7 0)(w:World):(execOp ρ o).run Tryz.prog w=.ok (.value (.bool t)) w:=by
 have e:(a == 0)=t:=ht;unfold execOp;simp only[ho,hx,hy];go_simp
theorem Zn {ρ:Operand->Value}{o:Oper}{x y:Operand}(ho:o.op=.binOp .gtr 3 x y 3)(a b:Int){t:Bool}(ht:decide (b<a)=t)(hx:ρ x=Z8 a)(hy:ρ y=Z8 b)(w:World):(execOp ρ o).run Tryz.prog w=.ok (.value (.bool t)) w:=by
 rw[<- ht];unfold execOp;simp only[ho,hx,hy];go_simp
theorem U6 (x:YV)(a:Option Addr)(c:Nat)(w:World)(hR:Cs w a (QZ x.tr))(h1:x.snd.size<=140737488355328)(h2:x.memo.size<=140737488355328)(h3:∀ y,y∈x.tr->y.1.size<=140737488355328) :
  Calls Tryz.prog 31 #[.agg (ZA x a c)] w fun e w'=>e=.returned (Z8 (Xv x))/\Below w.heap.size w w':=by
 have hb0:Below w.heap.size w (w.alloc (.cells (ZA x a c) 63)):=(Below.refl _ w).alloc (Nat.le_refl _) _;have hX0:Bx (w.alloc (.cells (ZA x a c) 63)) w.heap.size (ZA x a c) 63:=heap_alloc_last w _;have HA:=Z9 (hR.below hb0);have CN:=Z9 (fun V=>RI x.snd V h1);have CM:=Z9 (fun V=>zA x.memo V h2);have HV:Hid (Xv x=if isName (nums x.snd)=false then 10 else if x.Zx=0 then 15 else if X7 (nums x.memo)=false then 11 else if x.tr.length=0∨16<x.tr.length then 3 else RQ x.tr):=Z9 rfl;have HT:=Z9 (fun j (hj:j<x.tr.length) V=>RI (tfa x.tr j).1 V (h3 _ (by rw[VF hj]; exact List.getElem_mem hj)));obtain⟨snd,sq,Zx,Y8,memo,M⟩:=x;simp only[ZA] at hb0 hX0 HA ⊢;dsimp only at *
 have HO:=Z9 (AY.zero M);generalize Xv _=r at *
 generalize isName (nums snd)=t1 at *
 generalize X7 (nums memo)=t2 at *
 obtain⟨n,hn⟩:=ZQ M.length;have HN:=Z9 hn;rw[hn] at hb0 hX0 HA HV ⊢;clear hR h1 h2 h3;go_enter Tryz.func31,Tryz.ntmps31;go_upto_region 1 with fail;change Code.wp _ _ _ _ (w.alloc (.cells #[.string snd,Z7 sq,Z7 Zx,Z7 Y8,.string memo,.slice a n c] 63));generalize w.alloc (.cells #[.string snd,Z7 sq,Z7 Zx,Z7 Y8,.string memo,.slice a n c] 63)=W at *
 obtain⟨g0,hg0⟩:=ZQ w.heap.size;have HB0:=Z9 hb0;have KN:=Z9 hg0;rw[hg0] at hX0;simp only[hg0];clear hb0 hg0 hn;have CNW:=CN.out W;have CMW:=CM.out W;clear CN CM;cases t1
 ·refine wl<|ZV (Z5 g0 0)<|ZL rfl ⟨g0,0,none⟩ (.string snd) (hX0.ZR 0)<|YM ZY (fun w'=>W=w') (CNW) (fun V hV=>?_);subst hV;refine ZB ZW ZW<|wn ?_;simp only[pu];have HE:Hid (r=10):=Z9 (by rw[HV.out]; rfl);clear HV;go_upto_region 2 with fail;refine wl<|ZV (Z8 10)<|wn ?_;simp only[pu];go_wp2_with fail;go_ret;rw[HE.out];exact⟨rfl,HB0.out⟩
 ·refine wl<|ZV (Z5 g0 0)<|ZL rfl ⟨g0,0,none⟩ (.string snd) (hX0.ZR 0)<|YM ZW (fun w'=>W=w') (CNW) (fun V hV=>?_);subst hV;refine ZB ZY ZY<|wn ?_;simp only[pu];clear CNW;go_upto_region 3 with fail;by_cases Q5:Zx=0
  ·refine wl<|ZV (Z5 g0 2)<|ZL rfl ⟨g0,2,none⟩ (Z7 Zx) (hX0.ZR 2)<|ZM (Tn rfl Zx (decide_eq_true Q5))<|ZV ZW<|wn ?_;simp only[pu];have HE:Hid (r=15):=Z9 (by rw[HV.out]; rw[if_neg (by decide),if_pos Q5]);clear HV;go_upto_region 4 with fail;refine wl<|ZV (Z8 15)<|wn ?_;simp only[pu];go_wp2_with fail;go_ret;rw[HE.out];exact⟨rfl,HB0.out⟩
  ·refine wl<|ZV (Z5 g0 2)<|ZL rfl ⟨g0,2,none⟩ (Z7 Zx) (hX0.ZR 2)<|ZM (Tn rfl Zx (decide_eq_false Q5))<|ZV ZY<|wn ?_;simp only[pu];go_upto_region 5 with fail;cases t2
   ·refine wl<|ZV (Z5 g0 4)<|ZL rfl ⟨g0,4,none⟩ (.string memo) (hX0.ZR 4)<|YM ZY (fun w'=>W=w') (CMW) (fun V hV=>?_);subst hV;refine ZB ZW ZW<|wn ?_;simp only[pu];have HE:Hid (r=11):=Z9 (by rw[HV.out]; rw[if_neg (by decide),if_neg Q5,if_pos rfl]);clear HV;go_upto_region 6 with fail;refine wl<|ZV (Z8 11)<|wn ?_;simp only[pu];go_wp2_with fail;go_ret;rw[HE.out];exact⟨rfl,HB0.out⟩
   ·refine wl<|ZV (Z5 g0 4)<|ZL rfl ⟨g0,4,none⟩ (.string memo) (hX0.ZR 4)<|YM ZW (fun w'=>W=w') (CMW) (fun V hV=>?_);subst hV;refine ZB ZY ZY<|wn ?_;simp only[pu];clear CMW;go_upto_region 7 with fail;rcases (show n=0∨16<n∨(0<n/\n<=16) by omega) with hc | hc | hc
    ·subst hc;refine wl<|ZV (Z5 g0 5)<|ZL rfl ⟨g0,5,none⟩ (.slice a 0 c) (hX0.ZR 5)<|Y0 (Z8 0) ZW ZW undef undef undef<|Yr undef ZW ZW<|wn ?_;simp only[pu];have HE:Hid (r=3):=Z9 (by rw[HV.out]; rw[if_neg (by decide),if_neg Q5,if_neg (by decide),if_pos (.inl rfl)]);clear HV;go_upto_region 8 with fail;refine wl<|ZV (Z8 3)<|wn ?_;simp only[pu];go_wp2_with fail;go_ret;rw[HE.out];exact⟨rfl,HB0.out⟩
    ·refine wl<|ZV (Z5 g0 5)<|ZL rfl ⟨g0,5,none⟩ (.slice a n c) (hX0.ZR 5)<|ZV (Z8 n)<|ZM (Np rfl n dF) <|
      ZB ZY (Z5 g0 5)<|ZL rfl ⟨g0,5,none⟩ (.slice a n c) (hX0.ZR 5)<|ZV (Z8 n)<|ZM (Zn rfl n 16 dT)<|ZB ZW ZW <|
      wpList_nil ?_
     simp only[pu];have HE:Hid (r=3):=Z9 (by rw[HV.out]; rw[if_neg (by decide),if_neg Q5,if_neg (by decide),if_pos (.inr hc)]);clear HV;go_upto_region 8 with fail;refine wl<|ZV (Z8 3)<|wn ?_;simp only[pu];go_wp2_with fail;go_ret;rw[HE.out];exact⟨rfl,HB0.out⟩
    ·refine wl<|ZV (Z5 g0 5)<|ZL rfl ⟨g0,5,none⟩ (.slice a n c) (hX0.ZR 5)<|ZV (Z8 n)<|ZM (Np rfl n dF) <|
      ZB ZY (Z5 g0 5)<|ZL rfl ⟨g0,5,none⟩ (.slice a n c) (hX0.ZR 5)<|ZV (Z8 n)<|ZM (Zn rfl n 16 dF)<|ZB ZY ZY <|
      wpList_nil ?_
     simp only[pu];have HE:Hid (r=RQ M):=Z9 (by rw[HV.out,if_neg (by decide),if_neg Q5,if_neg (by decide),if_neg (by omega)]);clear HV;go_upto_region 9 with fail;refine wl<|ZV (Z5 g0 5)<|ZL rfl ⟨g0,5,none⟩ (.slice a n c) (hX0.ZR 5)<|ZB (Z8 n) (Z8 0)<|wn ?_;simp only[pu];have IV:=Z9 hX0;clear hX0;go_wp2_with fail;go_loopg [33] n (fun gg s33 wx=>∃ j:Nat,s33=Z8 j/\j<=n/\Hid (AY M j)/\Hid (Below W.heap.size W wx)/\n-j=gg)
     case atStart=>exact⟨0,rfl,by omega,HO,Z9 (Below.refl _ _),by omega⟩
     case round=>
      obtain⟨j,rfl,hj,HK,HB,hg⟩:=hrel;clear HO;by_cases hlt:j<n
      ·have HD:Hid (decide ((j:Int)<(n:Int))=true):=Z9 dT;have HG:Hid (n-(j+1)=gk-1/\0<gk/\j+1<=n):=Z9 ⟨by omega,by omega,by omega⟩;have hjm:j<M.length:=(by rw[HN.out]; exact hlt);obtain⟨b,off,rfl,-,hrx⟩:=Ux (HA.out.below HB.out) (k:=j) hjm;have YD:=Z9 (Ub hrx);have CT:=Z9 (fun V=>HT.out j hjm V);have eU:=Z9 (HK.out.name hjm);have Ag:=Z9 (HK.out.zam hjm);have eP:=Z9 (HK.out.step hjm);generalize tfa M j=y at *
       obtain⟨V2,hst,hb2,hbx⟩:=Tt wr y;have HB2:=Z9 (HB.out.trans (hb2.mono HB.out.size));clear hrx hb2 HK HB hjm hg;go_upto_region 10 with fail;refine wl<|Yn ZW (Zr rfl j n HD.out)<|wn ?_;simp only[pu];go_upto_region 11 with fail;refine wl<|YI (Z5 b (off+j*2)) (O7 b off n c j hlt _ _ _ rfl (by kernel_rfl) (by kernel_rfl))<|ZL rfl ⟨b,off+j*2,none⟩ (.agg (Yy y)) YD.out ?_;refine Zy rfl (some 4) rfl (Z5 wr.heap.size 0) (wr.alloc (.cells (Yy Un) 60)) (by kernel_rfl) ?_;refine Zk rfl hst<|wn ?_;obtain⟨g4,hg4⟩:=ZQ wr.heap.size;rw[hg4] at hbx ⊢;clear hst hg4 YD;have CTV:=CT.out V2;clear CT;generalize isName (nums y.1)=ty at *
       go_upto_region 12 with fail;cases ty
       ·refine wl<|ZV (Z5 g4 0)<|ZL rfl ⟨g4,0,none⟩ (.string y.1) (hbx.ZR 0)<|YM ZY (fun w'=>V2=w') CTV (fun V hV=>?_);subst hV;refine ZV ZW<|wn ?_;simp only[pu];have HE2:Hid (r=10):=Z9 (by rw[HE.out]; exact eU.out rfl);have Zg:=Z9 (HB0.out.trans (HB2.out.mono HB0.out.size));clear HE HB2 eU Ag eP HB0;go_upto_region 13 with fail;refine wl<|ZV (Z8 10)<|wn ?_;simp only[pu];go_wp2_with fail;go_ret;rw[HE2.out];exact⟨rfl,Zg.out⟩
       ·refine wl<|ZV (Z5 g4 0)<|ZL rfl ⟨g4,0,none⟩ (.string y.1) (hbx.ZR 0)<|YM ZW (fun w'=>V2=w') CTV (fun V hV=>?_);subst hV;refine ZV ZY<|wn ?_;simp only[pu];clear CTV;go_upto_region 14 with fail;by_cases h0:y.2=0
        ·refine wl<|ZV (Z5 g4 1)<|ZL rfl ⟨g4,1,none⟩ (Z7 y.2) (hbx.ZR 1)<|ZM (Tn rfl y.2 (decide_eq_true h0))<|wn ?_;simp only[pu];have HE2:Hid (r=12):=Z9 (by rw[HE.out]; exact Ag.out rfl h0);have Zg:=Z9 (HB0.out.trans (HB2.out.mono HB0.out.size));clear HE HB2 eU Ag eP HB0;go_upto_region 15 with fail;refine wl<|ZV (Z8 12)<|wn ?_;simp only[pu];go_wp2_with fail;go_ret;rw[HE2.out];exact⟨rfl,Zg.out⟩
        ·refine wl<|ZV (Z5 g4 1)<|ZL rfl ⟨g4,1,none⟩ (Z7 y.2) (hbx.ZR 1)<|ZM (Tn rfl y.2 (decide_eq_false h0))<|wn ?_;simp only[pu];have HK9:=Z9 (eP.out rfl h0);clear eU Ag eP hbx;go_upto_region 16 with fail;refine wl<|YI (Z8 (j+1:Nat)) (add_one rfl j (by omega) (by kernel_rfl) _)<|ZV (Z8 (j+1:Nat))<|wn ?_;simp only[pu];go_wp2_with fail;go_roundg (gk-1)
         case measure=>have:=HG.out; omega
         case rel=>exact⟨j+1,rfl,HG.out.2.2,HK9,HB2,HG.out.1⟩
      ·have HD:Hid (decide ((j:Int)<(n:Int))=false):=Z9 dF;have HE2:Hid (r=0):=Z9 (by rw[HE.out]; exact HK.out.done (by rw[HN.out]; omega));have Zg:=Z9 (HB0.out.trans (HB.out.mono HB0.out.size));clear HE HB HK HB0 hg;go_upto_region 10 with fail;refine wl<|Yn ZY (Zr rfl j n HD.out)<|wn ?_;simp only[pu];go_upto_region 17 with fail;refine wl<|ZV (Z8 0)<|wn ?_;simp only[pu];go_wp2_with fail;go_ret;rw[HE2.out];exact⟨rfl,Zg.out⟩
theorem J9 (x:Zj)(b:Option Addr)(d:Nat)(V:World):(Instr.buildSlice 78 1 #[(0,.agg (XR x b d))]).run Tryz.prog V=.ok (.slice (some ⟨V.heap.size,0,none⟩) 1 1) (V.alloc (.cells (XR x b d) 77)):=by
 obtain⟨i0,hi,hz0,hz1,hz2⟩:=info_parts info25;refine run_buildSlice V 78 77 1 _ (XR x b d) i0 _ Tryz.underlying78 hi hz0 (by rw[hz1]; omega) (by rw[hz1]; omega) ?_;rw[hz1];kernel_rfl
end Go.Proofs.YtfpnnmeblefkkaaGreatDoor
namespace Go.Proofs.YtfpnnmeblefkkaaGreatDoor
open Go.RowKit
theorem U5.fs {w:World}{B:Nat}{v:Value}{ps:List (Zj×Value)}(h:U5 w B v ps):∃ a c,v=.slice a ps.length c/\ps.length<=c/\Fs w a ps:=by
  obtain⟨a,c,rfl,hc⟩:=h.form;refine⟨a,c,rfl,hc,fun i p hi=>?_⟩;have hlt:i<ps.length:=(List.getElem?_eq_some_iff.1 hi).1;obtain⟨g,rfl,hg,hgl⟩:=Tv h.1 (by omega);obtain⟨ba,bc,hb,hs,-⟩:=(h.2 p (List.mem_of_getElem? hi)).sl;refine⟨g,0,ba,bc,rfl,hb,hs,?_,?_,?_,?_⟩
  · rw[h.1.cellAt _ (by omega),show 0+i*4=i*4+0 by omega,Vq ps i 0 p hi (by omega)];rfl
  · rw[h.1.cellAt _ (by omega),show 0+i*4+1=i*4+1 by omega,Vq ps i 1 p hi (by omega)];rfl
  · rw[h.1.cellAt _ (by omega),show 0+i*4+2=i*4+2 by omega,Vq ps i 2 p hi (by omega)];rfl
  · rw[h.1.cellAt _ (by omega),show 0+i*4+3=i*4+3 by omega,Vq ps i 3 p hi (by omega)];simp only[cellsOf,List.getElem?_cons_succ,List.getElem?_cons_zero,hb]
theorem Fs.below {w w':World}{a:Option Addr}{ps:List (Zj×Value)}(h:Fs w a ps)(hb:Below w.heap.size w w'):Fs w' a ps:=by
  intro i p hi;obtain⟨b,off,ba,bc,h1,h2,h3,h4⟩:=h i p hi;exact⟨b,off,ba,bc,h1,h2,ZP h3 hb,h4.below hb⟩
def f1:Zj:=⟨1,0,300,[]⟩
def f2:Zj:=⟨2,2,0,[97,98]⟩
theorem vf1:Vf f1:=⟨⟨by decide,by decide,.inl ⟨rfl,rfl⟩⟩,⟨by decide,by decide⟩,by simp[f1],by simp[f1]⟩
theorem vf2:Vf f2:=⟨⟨by decide,by decide,.inr ⟨rfl,rfl⟩⟩,⟨by decide,by decide⟩,by simp[f2],by simp[f2]⟩
theorem e1:encI 1 0 300 []=[8,172,2]:=by decide +kernel
theorem e2:[8,172,2]++encI 2 2 0 [97,98]=[8,172,2,18,2,97,98]:=by decide +kernel
theorem r1:YO [8,172,2,18,2,97,98]=([f1,f2],0,0):=by
  have h:=DY [f1,f2] 8 [] 0 (by intro x hx; simp at hx; rcases hx with rfl | rfl; exact vf1; exact vf2) (by simp) (by decide +kernel);have he:[f1,f2].flatMap Yq=[8,172,2,18,2,97,98]:=by decide +kernel
  rw[he] at h;exact h
def f3:Zj:=⟨1,0,1,[]⟩
theorem vf3:Vf f3:=⟨⟨by decide,by decide,.inl ⟨rfl,rfl⟩⟩,⟨by decide,by decide⟩,by simp[f3],by simp[f3]⟩
theorem r2:YO [8,1,18,2,97]=([],2,5):=by
  have he:Yq f3=[8,1]:=by decide +kernel
  have h1:=Lj f3 vf3 [18,2,97];rw[he] at h1;have h2:Vp [18,2,97]=(VT,0,5):=Qe (t:=18) (n:=2) (h:=1) (k:=1) (by decide +kernel) (by unfold WU; omega) (by decide +kernel) (by omega) (by decide);have h3:YO [8,1,18,2,97]=Xl 5 ([]++[f3]) (0+2) ([8,1,18,2,97].drop 2):=SE (by decide) (by decide) h1;rw[h3];exact Oa (by decide) (by decide) h2 (by omega)
theorem z2:szB 2=4:=by decide +kernel
end Go.Proofs.YtfpnnmeblefkkaaGreatDoor
