/-
  Texts joined.
-/
import Derived.Test.YtnhlpahoomcgnaaGreatJ4
import Derived.Lib.SlBytesConst
import Derived.Lib.ConvBytes
set_option maxRecDepth 100000
set_option maxHeartbeats 8000000
set_option linter.unusedSimpArgs false
set_option linter.unusedVariables false
namespace Go.Proofs.YtnhlpahoomcgnaaGreat
attribute [local irreducible] wpList wpQuiet
open Go.RowKit
theorem OZ {L:List Int}{i:Nat}(h:¬ i<L.length):runs L i=some 0:=by rw[runs,dif_neg h]
theorem Es {L:List Int}{i:Nat}(h:i<L.length)(hk:runK L i=0):runs L i=none:=by rw[runs,dif_pos h,if_pos hk]
theorem Tc {L:List Int}{i:Nat}(h:i<L.length)(hk:runK L i≠0):runs L i=(runs L (i+runK L i)).map (· + 1):=by rw[runs,dif_pos h,if_neg hk]
def Ran (L:List Int)(i n:Nat):Prop:=runs L 0=(runs L i).map (· + n)
theorem Ran.zero (L:List Int):Ran L 0 0:=by
 unfold Ran;cases runs L 0 <;> rfl
theorem Ran.step {L:List Int}{i n:Nat}(h:Ran L i n)(hi:i<L.length)(hk:runK L i≠0):Ran L (i+runK L i) (n+1):=by
 unfold Ran at h ⊢;rw[h,Tc hi hk];cases runs L (i+runK L i) with
 | none=>rfl
 | some m=>simp; omega
theorem Ran.bad {L:List Int}{i n:Nat}(h:Ran L i n)(hi:i<L.length)(hk:runK L i=0):runs L 0=none:=by
 unfold Ran at h;rw[h,Es hi hk];rfl
theorem Ran.done {L:List Int}{i n:Nat}(h:Ran L i n)(hi:¬ i<L.length):runs L 0=some n:=by
 unfold Ran at h;rw[h,OZ hi];simp
def az6:Option Nat->Value
 | none=>.tuple #[Z8 0,ZY]
 | some n=>.tuple #[Z8 n,ZW]
theorem NZ {ρ:Operand->Value}{o:Oper}{x y:Operand}(ho:o.op=.binOp .eql 3 x y 3)(a:Int){t:Bool}(ht:decide (a=0)=t)(hx:ρ x=Z8 a)(hy:ρ y=Z8 0)(w:World):(execOp ρ o).run Tryz.prog w=.ok (.value (.bool t)) w:=by
 have e:(a == 0)=t:=ht;unfold execOp;simp only[ho,hx,hy];go_simp
theorem vS (s:ByteArray)(w:World)(hl:s.size<=140737488355328):Calls Tryz.prog 93 #[.string s] w fun e w'=>e=.returned (az6 (runs (nums s) 0))/\w=w':=by
 have HR:=Z9 (fun(i:Nat) (V:World) (hi:i<s.size)=>nT s i V hi hl);have HL:=Z9 (Zd s);obtain⟨L,hL⟩:=ZR (nums s);rw[hL] at HR HL ⊢;have HR0:=Z9 (Ran.zero L);obtain⟨r,hr⟩:=ZR (runs L 0);have uD:=Z9 hr;rw[hr];clear hL hr;obtain⟨n,hn⟩:=ZR s.size;rw[hn] at hl;go_enter Tryz.func93,Tryz.ntmps93;go_upto_region 1 with fail;refine wl<|ZV (Z8 0)<|wn ?_;simp only[pu];go_upto_region 2 with fail;refine wl<|ZV (Z8 0)<|wn ?_;simp only[pu];go_wp2_with fail;go_loopg [4,5] n (fun gg s4 s5 wx=>∃ i m:Nat,s4=Z8 m/\s5=Z8 i/\i<=n/\m<=i/\Hid (Ran L i m)/\wx=w/\n-i<=gg)
 case atStart=>exact⟨0,0,rfl,rfl,by omega,by omega,HR0,rfl,by omega⟩
 case round=>
  obtain⟨i,m,rfl,rfl,hi,hmi,HM,rfl,hg⟩:=hrel;clear HR0;by_cases hlt:i<n
  ·have HD:Hid (decide ((i:Int)<(n:Int))=true):=Z9 dT;have CR:=HR.out i wr (by omega);have hk4:=GX L i;have hkl:=G5 (L:=L) (i:=i) (by rw[HL.out]; omega);have HST:=Z9 (HM.out.step (by rw[HL.out]; omega));have BM:=Z9 (HM.out.bad (by rw[HL.out]; omega));rw[HL.out] at hkl;clear HM;generalize runK L i=k at *
   go_upto_region 3 with fail;refine wl<|ZA (Z8 i) (.string s)<|YG (Z8 n) (by rw[<- hn]; kernel_rfl)<|Yy ZW (Zv rfl i n HD.out)<|wn ?_;simp only[pu];go_upto_region 4 with fail;refine wl<|ZA (.string s) (Z8 i)<|YS (Z8 k) (fun w'=>wr=w') CR (fun W hW=>?_);subst hW;refine ZV (Z8 k)<|wn ?_;simp only[pu];go_upto_region 5 with fail;by_cases h0:k=0
   ·have HE:Hid (r=none):=Z9 (by rw[<- uD.out]; exact BM.out h0);subst h0;clear HST BM uD CR HR;refine wl<|ZV (Z8 (0:Nat))<|Yy ZW (NZ rfl 0 rfl)<|wn ?_;simp only[pu];go_upto_region 6 with fail;refine wl<|ZA (Z8 0) ZY<|wn ?_;simp only[pu];go_wp2_with fail;go_ret2;rw[HE.out];exact⟨rfl,rfl⟩
   ·have HS2:=Z9 (HST.out h0);have HG:Hid (i<n/\0<k/\i+k<=n/\n-i<=gk):=Z9 ⟨hlt,by omega,by rw[<- hn]; exact hkl,hg⟩;clear HST BM CR hg;refine wl<|ZV (Z8 k)<|ZJ (NZ rfl k dF)<|wn ?_;simp only[pu];go_upto_region 7 with fail;refine wl<|ZA (Z8 i) (Z8 k)<|Yy (Z8 (i+k:Nat)) (ZF rfl i k (by omega))<|ZV (Z8 (i+k:Nat))<|wn ?_;simp only[pu];go_upto_region 8 with fail;refine wl<|ZV (Z8 m)<|Yy (Z8 (m+1:Nat)) (ZF rfl m 1 (by omega))<|ZV (Z8 (m+1:Nat))<|wn ?_;simp only[pu];go_wp2_with fail;go_roundg (n-(i+k))
    case measure=>have:=HG.out; omega
    case rel=>exact⟨i+k,m+1,rfl,rfl,HG.out.2.2.1,by have:=HG.out; omega,HS2,rfl,Nat.le_refl _⟩
  ·have HD:Hid (decide ((i:Int)<(n:Int))=false):=Z9 dF;have HE:Hid (r=some m):=Z9 (by rw[<- uD.out]; exact HM.out.done (by rw[HL.out]; omega));clear HM uD HR hg;go_upto_region 3 with fail;refine wl<|ZA (Z8 i) (.string s)<|YG (Z8 n) (by rw[<- hn]; kernel_rfl)<|Yy ZY (Zv rfl i n HD.out)<|wn ?_;simp only[pu];go_upto_region 9 with fail;refine wl<|Yr (Z8 m) (Z8 m) ZW<|wn ?_;simp only[pu];go_wp2_with fail;go_ret2;rw[HE.out];exact⟨rfl,rfl⟩
theorem AO (s:ByteArray)(w:World)(hl:s.size<=140737488355328):Calls Tryz.prog 65 #[.string s] w fun e w'=>e=.returned (.bool (XZ (nums s)))/\w=w':=by
 have CS:=vS s w hl;unfold XZ;generalize runs (nums s) 0=r at *
 cases r with
 | none=>
  have CS:Calls Tryz.prog 93 #[.string s] w fun e w2=>e=.returned (.tuple #[Z8 0,ZY])/\w=w2:=CS;have HE:Hid (False->False):=Z9 id;go_enter Tryz.func65,Tryz.ntmps65;go_upto_region 1 with fail;refine wl<|ZV (.string s)<|YS (.tuple #[Z8 0,ZY]) (fun w'=>w=w') CS (fun W hW=>?_);subst hW;refine SG (.tuple #[Z8 0,ZY]) (Z8 0) ZY (Z8 0) ZY<|wn ?_;simp only[pu];clear CS;go_upto_region 2 with fail;refine wl<|YW ZY ZY undef undef ZY ZY<|wn ?_;simp only[pu];go_wp2_with fail;go_ret;exact⟨rfl,rfl⟩
 | some n=>
  have CS:Calls Tryz.prog 93 #[.string s] w fun e w2=>e=.returned (.tuple #[Z8 n,ZW])/\w=w2:=CS;obtain⟨t,ht⟩:=ZR (decide (n<=64));have H2:Hid (decide ((n:Int)<=(64:Int))=t):=Z9 (by rw[<- ht]; exact decide_eq_decide.2 (by omega));show Calls _ _ _ _ fun e w2=>e=.returned (.bool (decide (n<=64)))/\w=w2;rw[ht];clear ht;go_enter Tryz.func65,Tryz.ntmps65;go_upto_region 1 with fail;refine wl<|ZV (.string s)<|YS (.tuple #[Z8 n,ZW]) (fun w'=>w=w') CS (fun W hW=>?_);subst hW;refine SG (.tuple #[Z8 n,ZW]) (Z8 n) ZW (Z8 n) ZW<|wn ?_;simp only[pu];clear CS;go_upto_region 2 with fail;refine wl<|Yr ZW ZW (Z8 n)<|Yy (.bool t) (aa1 rfl n 64 H2.out)<|ZA (.bool t) (.bool t)<|wn ?_;simp only[pu];go_wp2_with fail;go_ret;exact⟨rfl,rfl⟩
theorem Sj (s:ByteArray)(w:World)(hl:s.size<=140737488355328):Calls Tryz.prog 64 #[.string s] w fun e w'=>e=.returned (.bool (isName (nums s)))/\w=w':=by
 have Jq:=Z9 (fun(i:Nat) (h:i<s.size)=>Gv s i h);have HL:=Z9 (Zd s);obtain⟨L,hL⟩:=ZR (nums s);rw[hL] at Jq HL ⊢;have Na:=Z9 (fun i (h:i<L.length)=>pq h);have oZ:=Z9 (@yJ L);clear hL;obtain⟨n,hn⟩:=ZR s.size;go_enter Tryz.func64,Tryz.ntmps64;go_upto_region 1 with fail;refine wl<|ZV (Z8 0)<|wn ?_;simp only[pu];go_wp2_with fail;go_loopg [3] n (fun gg s3 wx=>∃ i:Nat,s3=Z8 i/\i<=n/\(∀ j,j<i->Qg (L.getD j 0)=true)/\wx=w/\n-i=gg)
 case atStart=>exact⟨0,rfl,by omega,fun j hj=>by omega,rfl,by omega⟩
 case round=>
  obtain⟨i,rfl,hi,hyes,rfl,hg⟩:=hrel;by_cases hlt:i<n
  ·have HG:Hid (n-(i+1)=gk-1/\0<gk/\i+1<=n):=Z9 ⟨by omega,by omega,by omega⟩;have hix:=Jq.out i (by omega);have hno:=Na.out i (by rw[HL.out]; omega);obtain⟨c,hc⟩:=ZR (L.getD i 0);rw[hc] at hix hno;have GY:Hid (Qg c=true->∀ j,j<i+1->Qg (L.getD j 0)=true):=Z9 fun hb j hj=>by
    by_cases e:j=i
    ·rw[e,hc]; exact hb
    ·exact hyes j (by omega)
   have HD:Hid (decide ((i:Int)<(n:Int))=true):=Z9 dT;clear hc hyes hg;go_upto_region 2 with fail;refine wl<|ZA (Z8 i) (.string s)<|YG (Z8 n) (by rw[<- hn]; kernel_rfl)<|Yy ZW (Zv rfl i n HD.out)<|wn ?_;simp only[pu];go_upto_region 4 with fail;refine wl<|ZA (.string s) (Z8 i)<|YG (.int .u8 c) (hix _ _ _ _ rfl (by kernel_rfl) (by kernel_rfl) _)<|ZV (.int .u8 c)<|wn ?_;simp only[pu];go_upto_region 5 with fail;have hcl:(97<=c/\c<=122)∨(48<=c/\c<=57)∨(c=45)∨(122<c)∨(57<c/\c<97)∨(c<48/\c≠45):=(by omega);rcases hcl with hc | hc | hc | hc | hc | hc
   ·apply wp_region_lit;refine ZV (.int .u8 c)<|ZJ (YQ rfl c 97 dT)<|ZA ZW (.int .u8 c)<|ZJ (WT rfl c 122 dT) <|
     YW ZW ZW undef undef undef undef<|YW undef undef ZW ZW undef undef<|ZA ZW ZY<|wn ?_
    simp only[pu];have HY2:=Z9 (GY.out (by simp only[Qg,Bool.or_eq_true,Bool.and_eq_true,decide_eq_true_eq]; omega));clear hno GY hix Jq;go_upto_region 3 with fail;refine wl<|ZV (Z8 i)<|Yy (Z8 (i+1:Nat)) (ZF rfl i 1 (by omega))<|ZV (Z8 (i+1:Nat))<|wn ?_;simp only[pu];go_wp2_with fail;go_roundg (gk-1)
    case measure=>have:=HG.out; omega
    case rel=>exact⟨i+1,rfl,HG.out.2.2,HY2.out,rfl,HG.out.1⟩
   ·apply wp_region_lit;refine ZV (.int .u8 c)<|ZJ (YQ rfl c 97 dF)<|YW ZY undef undef ZY ZY (.int .u8 c) <|
     ZJ (YQ rfl c 48 dT)<|ZA ZW (.int .u8 c)<|ZJ (WT rfl c 57 dT) <|
     YW ZW ZW ZW undef undef ZW<|ZV ZY<|wn ?_
    simp only[pu];have HY2:=Z9 (GY.out (by simp only[Qg,Bool.or_eq_true,Bool.and_eq_true,decide_eq_true_eq]; omega));clear hno GY hix Jq;go_upto_region 3 with fail;refine wl<|ZV (Z8 i)<|Yy (Z8 (i+1:Nat)) (ZF rfl i 1 (by omega))<|ZV (Z8 (i+1:Nat))<|wn ?_;simp only[pu];go_wp2_with fail;go_roundg (gk-1)
    case measure=>have:=HG.out; omega
    case rel=>exact⟨i+1,rfl,HG.out.2.2,HY2.out,rfl,HG.out.1⟩
   ·apply wp_region_lit;refine ZV (.int .u8 c)<|ZJ (YQ rfl c 97 dF)<|YW ZY undef undef ZY ZY (.int .u8 c) <|
     ZJ (YQ rfl c 48 dF)<|YW ZY undef undef ZY ZY ZY<|ZV (.int .u8 c) <|
     ZJ (XC rfl c 45 dT)<|ZA ZW ZY<|wn ?_
    simp only[pu];have HY2:=Z9 (GY.out (by simp only[Qg,Bool.or_eq_true,Bool.and_eq_true,decide_eq_true_eq]; omega));clear hno GY hix Jq;go_upto_region 3 with fail;refine wl<|ZV (Z8 i)<|Yy (Z8 (i+1:Nat)) (ZF rfl i 1 (by omega))<|ZV (Z8 (i+1:Nat))<|wn ?_;simp only[pu];go_wp2_with fail;go_roundg (gk-1)
    case measure=>have:=HG.out; omega
    case rel=>exact⟨i+1,rfl,HG.out.2.2,HY2.out,rfl,HG.out.1⟩
   ·apply wp_region_lit;refine ZV (.int .u8 c)<|ZJ (YQ rfl c 97 dT)<|ZA ZW (.int .u8 c)<|ZJ (WT rfl c 122 dF) <|
     Yr ZY ZY (.int .u8 c)<|ZJ (YQ rfl c 48 dT)<|ZA ZW (.int .u8 c)<|ZJ (WT rfl c 57 dF) <|
     WL ZY ZY ZY (.int .u8 c)<|ZJ (XC rfl c 45 dF)<|ZA ZY ZW<|wn ?_
    simp only[pu];have HE:=Z9 (hno (by rw[Bool.eq_false_iff]; simp only[ne_eq,Qg,Bool.or_eq_true,Bool.and_eq_true,decide_eq_true_eq]; omega));clear hno GY hix Jq;go_upto_region 6 with fail;refine wl<|ZV ZY<|wn ?_;simp only[pu];go_wp2_with fail;go_ret;rw[HE.out];exact⟨rfl,rfl⟩
   ·apply wp_region_lit;refine ZV (.int .u8 c)<|ZJ (YQ rfl c 97 dF)<|YW ZY undef undef ZY ZY (.int .u8 c) <|
     ZJ (YQ rfl c 48 dT)<|ZA ZW (.int .u8 c)<|ZJ (WT rfl c 57 dF) <|
     WL ZY ZY ZY (.int .u8 c)<|ZJ (XC rfl c 45 dF)<|ZA ZY ZW<|wn ?_
    simp only[pu];have HE:=Z9 (hno (by rw[Bool.eq_false_iff]; simp only[ne_eq,Qg,Bool.or_eq_true,Bool.and_eq_true,decide_eq_true_eq]; omega));clear hno GY hix Jq;go_upto_region 6 with fail;refine wl<|ZV ZY<|wn ?_;simp only[pu];go_wp2_with fail;go_ret;rw[HE.out];exact⟨rfl,rfl⟩
   ·apply wp_region_lit;refine ZV (.int .u8 c)<|ZJ (YQ rfl c 97 dF)<|YW ZY undef undef ZY ZY (.int .u8 c) <|
     ZJ (YQ rfl c 48 dF)<|YW ZY undef undef ZY ZY ZY<|ZV (.int .u8 c) <|
     ZJ (XC rfl c 45 dF)<|ZA ZY ZW<|wn ?_
    simp only[pu];have HE:=Z9 (hno (by rw[Bool.eq_false_iff]; simp only[ne_eq,Qg,Bool.or_eq_true,Bool.and_eq_true,decide_eq_true_eq]; omega));clear hno GY hix Jq;go_upto_region 6 with fail;refine wl<|ZV ZY<|wn ?_;simp only[pu];go_wp2_with fail;go_ret;rw[HE.out];exact⟨rfl,rfl⟩
  ·have HD:Hid (decide ((i:Int)<(n:Int))=false):=Z9 dF;have hall:=oZ.out (fun j hj=>hyes j (by rw[HL.out] at hj; omega));have HV:Hid (isName L=(decide (1<=n) && decide (n<=20))):=Z9 (by unfold isName; rw[hall,HL.out,hn]; rfl);clear hyes hall hg Jq Na oZ;go_upto_region 2 with fail;refine wl<|ZA (Z8 i) (.string s)<|YG (Z8 n) (by rw[<- hn]; kernel_rfl)<|Yy ZY (Zv rfl i n HD.out)<|wn ?_;simp only[pu];go_upto_region 7 with fail;by_cases h1:1<=n
   ·have H1:Hid (decide ((1:Int)<=(n:Int))=true):=Z9 dT;obtain⟨t,ht⟩:=ZR (decide (n<=20));have H2:Hid (decide ((n:Int)<=(20:Int))=t):=Z9 (by rw[<- ht]; exact decide_eq_decide.2 (by omega));have HE:Hid (isName L=t):=Z9 (by rw[HV.out,decide_eq_true h1,ht]; rfl);clear ht HV;refine wl<|ZV (.string s)<|YG (Z8 n) (by rw[<- hn]; kernel_rfl)<|Yy ZW (UQ rfl n 1 H1.out)<|ZA ZW (.string s)<|YG (Z8 n) (by rw[<- hn]; kernel_rfl) <|
     Yy (.bool t) (aa1 rfl n 20 H2.out)<|ZA (.bool t) (.bool t)<|wn ?_
    simp only[pu];go_wp2_with fail;go_ret;rw[HE.out];exact⟨rfl,rfl⟩
   ·have H1:Hid (decide ((1:Int)<=(n:Int))=false):=Z9 dF;have HE:Hid (isName L=false):=Z9 (by rw[HV.out,decide_eq_false h1]; rfl);clear HV;refine wl<|ZV (.string s)<|YG (Z8 n) (by rw[<- hn]; kernel_rfl)<|Yy ZY (UQ rfl n 1 H1.out)<|YW ZY undef undef undef ZY ZY<|wn ?_;simp only[pu];go_wp2_with fail;go_ret;rw[HE.out];exact⟨rfl,rfl⟩
end Go.Proofs.YtnhlpahoomcgnaaGreat
namespace Go.Proofs.YtnhlpahoomcgnaaGreat
open Go.RowKit
abbrev Tf:=ByteArray×Int
def uH (x:Tf):List Value:=[.string x.1,Z4 x.2]
abbrev Yx (x:Tf):Array Value:=#[.string x.1,Z4 x.2]
def Rq (A:List Tf):List Value:=A.flatMap uH
def tfa (A:List Tf)(j:Nat):Tf:=A.getD j (ByteArray.empty,0)
theorem Vr {A:List Tf}{j:Nat}(h:j<A.length):tfa A j=A[j]:=getD_lt A j _ h
theorem Eh (x:Tf)(r:List Tf):Rq (x::r)=.string x.1::Z4 x.2::Rq r:=rfl
theorem jg (A B:List Tf):Rq (A++B)=Rq A++Rq B:=by simp[Rq]
theorem gU (x:Tf):(Yx x).all (·.oneCell')=true:=by simp[Value.oneCell']
theorem nU:∀ (A:List Tf) (k:Nat),k<A.length->(Rq A)[k*2]?=some (.string (tfa A k).1)/\(Rq A)[k*2+1]?=some (Z4 (tfa A k).2)
 | [],k,h=>absurd h (by simp)
 | x::r,0,h=>by rw[Eh]; exact⟨rfl,rfl⟩
 | x::r,k+1,h=>by
  have:=nU r k (by simpa using h);rw[Eh,show(k+1)*2=k*2+1+1 by omega,show k*2+1+1+1=(k*2+1)+1+1 by omega];simpa [tfa,List.getD] using this
theorem aA:(Tryz.prog.info? 64).map (fun i=>(i.zero,i.size,i.bytes))=some (some (.agg #[.string ByteArray.empty,Z4 0]),2,24):=by kernel_rfl
theorem Um {w:World}{a:Option Addr}{A:List Tf}(h:Cs w a (Rq A)){k:Nat}(hk:k<A.length):∃ b off,a=some ⟨b,off,none⟩/\b<w.heap.size/\w.rangeAt b (off+k*2) (uH (tfa A k)):=by
 obtain⟨h0,h1⟩:=nU A k hk;obtain⟨b,off,rfl,hb,c0⟩:=h _ _ h0;obtain⟨b1,off1,e1,-,c1⟩:=h _ _ h1;simp only[Option.some.injEq,Addr.mk.injEq,and_true] at e1;obtain⟨rfl,rfl⟩:=e1;refine⟨b,off,rfl,hb,fun j v hj=>?_⟩;have hj2:j<2:=by
  have:=(List.getElem?_eq_some_iff.1 hj).1;simpa [uH] using this
 rcases (show j=0∨j=1 by omega) with rfl | rfl
 ·simp[uH] at hj; rw[<- hj]; exact c0
 ·simp[uH] at hj; rw[<- hj,Nat.add_assoc]; exact c1
theorem TQ {w:World}{b o:Nat}{x:Tf}(h:w.rangeAt b o (uH x)):(Instr.loadAt 64 (Z5 b o)).run Tryz.prog w=.ok (.agg (Yx x)) w:=
 run_loadAt_mid w b o 64 (uH x) _ h Tryz.underlying64 rfl (by kernel_rfl)
theorem PW (b off n c k:Nat)(hk:k<n)(V:World)(ρ:Operand->Value)(o:Oper){x y:Operand}(ho:o.op=.indexAddr 65 x y)(hx:ρ x=.slice (some ⟨b,off,none⟩) n c)(hy:ρ y=Z8 k):(execOp ρ o).run Tryz.prog V=.ok (.value (Z5 b (off+k*2))) V:=by
 have hs:(sizeOf (Tryz.prog.elem 65)).run Tryz.prog V=.ok 2 V:=by kernel_rfl
 have hlm:(k:Int)<(n:Int):=by omega
 unfold execOp;simp only[ho,hx,hy];go_simp
def Uc:Tf:=(ByteArray.empty,0)
theorem VT {w:World}{g:Nat}{x y:Tf}(h:Bx w g (Yx x) 64):(Instr.storeAt 64 (Z5 g 0) (.agg (Yx y))).run Tryz.prog w=.ok () (w.setRow g (Yx y))/\Bx (w.setRow g (Yx y)) g (Yx y) 64:=
 ⟨Ya h rfl (gU y) (by kernel_rfl),h.set⟩
theorem TF (V:World)(x:Tf):∃ V2,(Instr.storeAt 64 (Z5 V.heap.size 0) (.agg (Yx x))).run Tryz.prog (V.alloc (.cells (Yx Uc) 64))=.ok () V2/\Below V.heap.size V V2/\Bx V2 V.heap.size (Yx x) 64:=
 have hb:Bx (V.alloc (.cells (Yx Uc) 64)) V.heap.size (Yx Uc) 64:=heap_alloc_last V _
 ⟨_,(VT hb).1,ZQ ((Below.refl _ V).alloc (Nat.le_refl _) _) (Nat.le_refl _) _,(VT hb).2⟩
structure Y8 where
 snd:ByteArray
 sq:Int
 Zp:Int
 YZ:Int
 memo:ByteArray
 tr:List Tf
abbrev Zx (x:Y8)(a:Option Addr)(c:Nat):Array Value:=#[.string x.snd,Z4 x.sq,Z4 x.Zp,Z4 x.YZ,.string x.memo,.slice a x.tr.length c]
def SC:List Tf->Int
 | []=>0
 | x::r=>if isName (nums x.1)=false then 10 else if x.2=0 then 12 else SC r
def Xu (x:Y8):Int:=if isName (nums x.snd)=false then 10 else if x.Zp=0 then 15 else if XZ (nums x.memo)=false then 11 else if x.tr.length=0∨16<x.tr.length then 3 else SC x.tr
def CY (A:List Tf)(j:Nat):Prop:=SC A=SC (A.drop j)
theorem CY.zero (A:List Tf):CY A 0:=rfl
theorem Gu {A:List Tf}{j:Nat}(h:j<A.length):A.drop j=tfa A j::A.drop (j+1):=by rw[Vr h,List.getElem_cons_drop]
theorem CY.name {A:List Tf}{j:Nat}(h:CY A j)(hj:j<A.length)(hn:isName (nums (tfa A j).1)=false):SC A=10:=by
 rw[h,Gu hj];simp[SC,hn]
theorem CY.zam {A:List Tf}{j:Nat}(h:CY A j)(hj:j<A.length)(hn:isName (nums (tfa A j).1)=true)(h0:(tfa A j).2=0):SC A=12:=by
 rw[h,Gu hj];simp[SC,hn,h0]
theorem CY.step {A:List Tf}{j:Nat}(h:CY A j)(hj:j<A.length)(hn:isName (nums (tfa A j).1)=true)(h0:(tfa A j).2≠0):CY A (j+1):=by
 unfold CY at h ⊢;rw[h,Gu hj];simp[SC,hn,h0]
theorem CY.done {A:List Tf}{j:Nat}(h:CY A j)(hj:A.length<=j):SC A=0:=by
 rw[h,List.drop_eq_nil_of_le hj];rfl
end Go.Proofs.YtnhlpahoomcgnaaGreat
namespace Go.Proofs.YtnhlpahoomcgnaaGreat
attribute [local irreducible] wpList wpQuiet
open Go.RowKit
theorem TB {ρ:Operand->Value}{o:Oper}{x y:Operand}(ho:o.op=.binOp .eql 27 x y 27)(a:Int){t:Bool}(ht:decide (a=0)=t)(hx:ρ x=Z4 a)(hy:ρ y=Z4 0)(w:World):(execOp ρ o).run Tryz.prog w=.ok (.value (.bool t)) w:=by
 have e:(a == 0)=t:=ht;unfold execOp;simp only[ho,hx,hy];go_simp
theorem Zo {ρ:Operand->Value}{o:Oper}{x y:Operand}(ho:o.op=.binOp .gtr 3 x y 3)(a b:Int){t:Bool}(ht:decide (b<a)=t)(hx:ρ x=Z8 a)(hy:ρ y=Z8 b)(w:World):(execOp ρ o).run Tryz.prog w=.ok (.value (.bool t)) w:=by
 rw[<- ht];unfold execOp;simp only[ho,hx,hy];go_simp
theorem UJ (x:Y8)(a:Option Addr)(c:Nat)(w:World)(hR:Cs w a (Rq x.tr))(h1:x.snd.size<=140737488355328)(h2:x.memo.size<=140737488355328)(h3:∀ y,y∈x.tr->y.1.size<=140737488355328) :
  Calls Tryz.prog 42 #[.agg (Zx x a c)] w fun e w'=>e=.returned (Z8 (Xu x))/\Below w.heap.size w w':=by
 have hb0:Below w.heap.size w (w.alloc (.cells (Zx x a c) 67)):=(Below.refl _ w).alloc (Nat.le_refl _) _;have hX0:Bx (w.alloc (.cells (Zx x a c) 67)) w.heap.size (Zx x a c) 67:=heap_alloc_last w _;have HA:=Z9 (hR.below hb0);have CN:=Z9 (fun V=>Sj x.snd V h1);have CM:=Z9 (fun V=>AO x.memo V h2);have HV:Hid (Xu x=if isName (nums x.snd)=false then 10 else if x.Zp=0 then 15 else if XZ (nums x.memo)=false then 11 else if x.tr.length=0∨16<x.tr.length then 3 else SC x.tr):=Z9 rfl;have HT:=Z9 (fun j (hj:j<x.tr.length) V=>Sj (tfa x.tr j).1 V (h3 _ (by rw[Vr hj]; exact List.getElem_mem hj)));obtain⟨snd,sq,Zp,YZ,memo,M⟩:=x;simp only[Zx] at hb0 hX0 HA ⊢;dsimp only at *
 have HO:=Z9 (CY.zero M);generalize Xu _=r at *
 generalize isName (nums snd)=t1 at *
 generalize XZ (nums memo)=t2 at *
 obtain⟨n,hn⟩:=ZR M.length;have HN:=Z9 hn;rw[hn] at hb0 hX0 HA HV ⊢;clear hR h1 h2 h3;go_enter Tryz.func42,Tryz.ntmps42;go_upto_region 1 with fail;change Code.wp _ _ _ _ (w.alloc (.cells #[.string snd,Z4 sq,Z4 Zp,Z4 YZ,.string memo,.slice a n c] 67));generalize w.alloc (.cells #[.string snd,Z4 sq,Z4 Zp,Z4 YZ,.string memo,.slice a n c] 67)=W at *
 obtain⟨g0,hg0⟩:=ZR w.heap.size;have HB0:=Z9 hb0;have Ox:=Z9 hg0;rw[hg0] at hX0;simp only[hg0];clear hb0 hg0 hn;have aj:=CN.out W;have CMW:=CM.out W;clear CN CM;cases t1
 ·refine wl<|ZV (Z5 g0 0)<|ZL rfl ⟨g0,0,none⟩ (.string snd) (hX0.ZP 0)<|YS ZY (fun w'=>W=w') (aj) (fun V hV=>?_);subst hV;refine ZA ZW ZW<|wn ?_;simp only[pu];have HE:Hid (r=10):=Z9 (by rw[HV.out]; rfl);clear HV;go_upto_region 2 with fail;refine wl<|ZV (Z8 10)<|wn ?_;simp only[pu];go_wp2_with fail;go_ret;rw[HE.out];exact⟨rfl,HB0.out⟩
 ·refine wl<|ZV (Z5 g0 0)<|ZL rfl ⟨g0,0,none⟩ (.string snd) (hX0.ZP 0)<|YS ZW (fun w'=>W=w') (aj) (fun V hV=>?_);subst hV;refine ZA ZY ZY<|wn ?_;simp only[pu];clear aj;go_upto_region 3 with fail;by_cases RD:Zp=0
  ·refine wl<|ZV (Z5 g0 2)<|ZL rfl ⟨g0,2,none⟩ (Z4 Zp) (hX0.ZP 2)<|ZJ (TB rfl Zp (decide_eq_true RD))<|ZV ZW<|wn ?_;simp only[pu];have HE:Hid (r=15):=Z9 (by rw[HV.out]; rw[if_neg (by decide),if_pos RD]);clear HV;go_upto_region 4 with fail;refine wl<|ZV (Z8 15)<|wn ?_;simp only[pu];go_wp2_with fail;go_ret;rw[HE.out];exact⟨rfl,HB0.out⟩
  ·refine wl<|ZV (Z5 g0 2)<|ZL rfl ⟨g0,2,none⟩ (Z4 Zp) (hX0.ZP 2)<|ZJ (TB rfl Zp (decide_eq_false RD))<|ZV ZY<|wn ?_;simp only[pu];go_upto_region 5 with fail;cases t2
   ·refine wl<|ZV (Z5 g0 4)<|ZL rfl ⟨g0,4,none⟩ (.string memo) (hX0.ZP 4)<|YS ZY (fun w'=>W=w') (CMW) (fun V hV=>?_);subst hV;refine ZA ZW ZW<|wn ?_;simp only[pu];have HE:Hid (r=11):=Z9 (by rw[HV.out]; rw[if_neg (by decide),if_neg RD,if_pos rfl]);clear HV;go_upto_region 6 with fail;refine wl<|ZV (Z8 11)<|wn ?_;simp only[pu];go_wp2_with fail;go_ret;rw[HE.out];exact⟨rfl,HB0.out⟩
   ·refine wl<|ZV (Z5 g0 4)<|ZL rfl ⟨g0,4,none⟩ (.string memo) (hX0.ZP 4)<|YS ZW (fun w'=>W=w') (CMW) (fun V hV=>?_);subst hV;refine ZA ZY ZY<|wn ?_;simp only[pu];clear CMW;go_upto_region 7 with fail;rcases (show n=0∨16<n∨(0<n/\n<=16) by omega) with hc | hc | hc
    ·subst hc;refine wl<|ZV (Z5 g0 5)<|ZL rfl ⟨g0,5,none⟩ (.slice a 0 c) (hX0.ZP 5)<|YW (Z8 0) ZW ZW undef undef undef<|Yr undef ZW ZW<|wn ?_;simp only[pu];have HE:Hid (r=3):=Z9 (by rw[HV.out]; rw[if_neg (by decide),if_neg RD,if_neg (by decide),if_pos (.inl rfl)]);clear HV;go_upto_region 8 with fail;refine wl<|ZV (Z8 3)<|wn ?_;simp only[pu];go_wp2_with fail;go_ret;rw[HE.out];exact⟨rfl,HB0.out⟩
    ·refine wl<|ZV (Z5 g0 5)<|ZL rfl ⟨g0,5,none⟩ (.slice a n c) (hX0.ZP 5)<|ZV (Z8 n)<|ZJ (NZ rfl n dF) <|
      ZA ZY (Z5 g0 5)<|ZL rfl ⟨g0,5,none⟩ (.slice a n c) (hX0.ZP 5)<|ZV (Z8 n)<|ZJ (Zo rfl n 16 dT)<|ZA ZW ZW <|
      wpList_nil ?_
     simp only[pu];have HE:Hid (r=3):=Z9 (by rw[HV.out]; rw[if_neg (by decide),if_neg RD,if_neg (by decide),if_pos (.inr hc)]);clear HV;go_upto_region 8 with fail;refine wl<|ZV (Z8 3)<|wn ?_;simp only[pu];go_wp2_with fail;go_ret;rw[HE.out];exact⟨rfl,HB0.out⟩
    ·refine wl<|ZV (Z5 g0 5)<|ZL rfl ⟨g0,5,none⟩ (.slice a n c) (hX0.ZP 5)<|ZV (Z8 n)<|ZJ (NZ rfl n dF) <|
      ZA ZY (Z5 g0 5)<|ZL rfl ⟨g0,5,none⟩ (.slice a n c) (hX0.ZP 5)<|ZV (Z8 n)<|ZJ (Zo rfl n 16 dF)<|ZA ZY ZY <|
      wpList_nil ?_
     simp only[pu];have HE:Hid (r=SC M):=Z9 (by rw[HV.out,if_neg (by decide),if_neg RD,if_neg (by decide),if_neg (by omega)]);clear HV;go_upto_region 9 with fail;refine wl<|ZV (Z5 g0 5)<|ZL rfl ⟨g0,5,none⟩ (.slice a n c) (hX0.ZP 5)<|ZA (Z8 n) (Z8 0)<|wn ?_;simp only[pu];have Ig:=Z9 hX0;clear hX0;go_wp2_with fail;go_loopg [33] n (fun gg s33 wx=>∃ j:Nat,s33=Z8 j/\j<=n/\Hid (CY M j)/\Hid (Below W.heap.size W wx)/\n-j=gg)
     case atStart=>exact⟨0,rfl,by omega,HO,Z9 (Below.refl _ _),by omega⟩
     case round=>
      obtain⟨j,rfl,hj,HK,HB,hg⟩:=hrel;clear HO;by_cases hlt:j<n
      ·have HD:Hid (decide ((j:Int)<(n:Int))=true):=Z9 dT;have HG:Hid (n-(j+1)=gk-1/\0<gk/\j+1<=n):=Z9 ⟨by omega,by omega,by omega⟩;have hjm:j<M.length:=(by rw[HN.out]; exact hlt);obtain⟨b,off,rfl,-,hrx⟩:=Um (HA.out.below HB.out) (k:=j) hjm;have YO:=Z9 (TQ hrx);have CT:=Z9 (fun V=>HT.out j hjm V);have iW:=Z9 (HK.out.name hjm);have Ju:=Z9 (HK.out.zam hjm);have iV:=Z9 (HK.out.step hjm);generalize tfa M j=y at *
       obtain⟨V2,hst,hb2,hbx⟩:=TF wr y;have HB2:=Z9 (HB.out.trans (hb2.mono HB.out.size));clear hrx hb2 HK HB hjm hg;go_upto_region 10 with fail;refine wl<|Yy ZW (Zv rfl j n HD.out)<|wn ?_;simp only[pu];go_upto_region 11 with fail;refine wl<|YG (Z5 b (off+j*2)) (PW b off n c j hlt _ _ _ rfl (by kernel_rfl) (by kernel_rfl))<|ZL rfl ⟨b,off+j*2,none⟩ (.agg (Yx y)) YO.out ?_;refine Zy rfl (some 4) rfl (Z5 wr.heap.size 0) (wr.alloc (.cells (Yx Uc) 64)) (by kernel_rfl) ?_;refine Zu rfl hst<|wn ?_;obtain⟨g4,hg4⟩:=ZR wr.heap.size;rw[hg4] at hbx ⊢;clear hst hg4 YO;have ah:=CT.out V2;clear CT;generalize isName (nums y.1)=ty at *
       go_upto_region 12 with fail;cases ty
       ·refine wl<|ZV (Z5 g4 0)<|ZL rfl ⟨g4,0,none⟩ (.string y.1) (hbx.ZP 0)<|YS ZY (fun w'=>V2=w') ah (fun V hV=>?_);subst hV;refine ZV ZW<|wn ?_;simp only[pu];have HE2:Hid (r=10):=Z9 (by rw[HE.out]; exact iW.out rfl);have Zl:=Z9 (HB0.out.trans (HB2.out.mono HB0.out.size));clear HE HB2 iW Ju iV HB0;go_upto_region 13 with fail;refine wl<|ZV (Z8 10)<|wn ?_;simp only[pu];go_wp2_with fail;go_ret;rw[HE2.out];exact⟨rfl,Zl.out⟩
       ·refine wl<|ZV (Z5 g4 0)<|ZL rfl ⟨g4,0,none⟩ (.string y.1) (hbx.ZP 0)<|YS ZW (fun w'=>V2=w') ah (fun V hV=>?_);subst hV;refine ZV ZY<|wn ?_;simp only[pu];clear ah;go_upto_region 14 with fail;by_cases h0:y.2=0
        ·refine wl<|ZV (Z5 g4 1)<|ZL rfl ⟨g4,1,none⟩ (Z4 y.2) (hbx.ZP 1)<|ZJ (TB rfl y.2 (decide_eq_true h0))<|wn ?_;simp only[pu];have HE2:Hid (r=12):=Z9 (by rw[HE.out]; exact Ju.out rfl h0);have Zl:=Z9 (HB0.out.trans (HB2.out.mono HB0.out.size));clear HE HB2 iW Ju iV HB0;go_upto_region 15 with fail;refine wl<|ZV (Z8 12)<|wn ?_;simp only[pu];go_wp2_with fail;go_ret;rw[HE2.out];exact⟨rfl,Zl.out⟩
        ·refine wl<|ZV (Z5 g4 1)<|ZL rfl ⟨g4,1,none⟩ (Z4 y.2) (hbx.ZP 1)<|ZJ (TB rfl y.2 (decide_eq_false h0))<|wn ?_;simp only[pu];have uh:=Z9 (iV.out rfl h0);clear iW Ju iV hbx;go_upto_region 16 with fail;refine wl<|YG (Z8 (j+1:Nat)) (add_one rfl j (by omega) (by kernel_rfl) _)<|ZV (Z8 (j+1:Nat))<|wn ?_;simp only[pu];go_wp2_with fail;go_roundg (gk-1)
         case measure=>have:=HG.out; omega
         case rel=>exact⟨j+1,rfl,HG.out.2.2,uh,HB2,HG.out.1⟩
      ·have HD:Hid (decide ((j:Int)<(n:Int))=false):=Z9 dF;have HE2:Hid (r=0):=Z9 (by rw[HE.out]; exact HK.out.done (by rw[HN.out]; omega));have Zl:=Z9 (HB0.out.trans (HB.out.mono HB0.out.size));clear HE HB HK HB0 hg;go_upto_region 10 with fail;refine wl<|Yy ZY (Zv rfl j n HD.out)<|wn ?_;simp only[pu];go_upto_region 17 with fail;refine wl<|ZV (Z8 0)<|wn ?_;simp only[pu];go_wp2_with fail;go_ret;rw[HE2.out];exact⟨rfl,Zl.out⟩
theorem KL (x:Ze)(b:Option Addr)(d:Nat)(V:World):(Instr.buildSlice 106 1 #[(0,.agg (Xd x b d))]).run Tryz.prog V=.ok (.slice (some ⟨V.heap.size,0,none⟩) 1 1) (V.alloc (.cells (Xd x b d) 111)):=by
 obtain⟨i0,hi,hz0,hz1,hz2⟩:=info_parts info25;refine run_buildSlice V 106 111 1 _ (Xd x b d) i0 _ Tryz.underlying106 hi hz0 (by rw[hz1]; omega) (by rw[hz1]; omega) ?_;rw[hz1];kernel_rfl
end Go.Proofs.YtnhlpahoomcgnaaGreat
namespace Go.Proofs.YtnhlpahoomcgnaaGreat
open Go.RowKit
theorem UH.fs {w:World}{B:Nat}{v:Value}{ps:List (Ze×Value)}(h:UH w B v ps):∃ a c,v=.slice a ps.length c/\ps.length<=c/\Fs w a ps:=by
  obtain⟨a,c,rfl,hc⟩:=h.form;refine⟨a,c,rfl,hc,fun i p hi=>?_⟩;have hlt:i<ps.length:=(List.getElem?_eq_some_iff.1 hi).1;obtain⟨g,rfl,hg,hgl⟩:=Sr h.1 (by omega);obtain⟨ba,bc,hb,hs,-⟩:=(h.2 p (List.mem_of_getElem? hi)).sl;refine⟨g,0,ba,bc,rfl,hb,hs,?_,?_,?_,?_⟩
  · rw[h.1.cellAt _ (by omega),show 0+i*4=i*4+0 by omega,U9 ps i 0 p hi (by omega)];rfl
  · rw[h.1.cellAt _ (by omega),show 0+i*4+1=i*4+1 by omega,U9 ps i 1 p hi (by omega)];rfl
  · rw[h.1.cellAt _ (by omega),show 0+i*4+2=i*4+2 by omega,U9 ps i 2 p hi (by omega)];rfl
  · rw[h.1.cellAt _ (by omega),show 0+i*4+3=i*4+3 by omega,U9 ps i 3 p hi (by omega)];simp only[cellsOf,List.getElem?_cons_succ,List.getElem?_cons_zero,hb]
theorem Fs.below {w w':World}{a:Option Addr}{ps:List (Ze×Value)}(h:Fs w a ps)(hb:Below w.heap.size w w'):Fs w' a ps:=by
  intro i p hi;obtain⟨b,off,ba,bc,h1,h2,h3,h4⟩:=h i p hi;exact⟨b,off,ba,bc,h1,h2,ZK h3 hb,h4.below hb⟩
def f1:Ze:=⟨1,0,300,[]⟩
def f2:Ze:=⟨2,2,0,[97,98]⟩
theorem vf1:Vf f1:=⟨⟨by decide,by decide,.inl ⟨rfl,rfl⟩⟩,⟨by decide,by decide⟩,by simp[f1],by simp[f1]⟩
theorem vf2:Vf f2:=⟨⟨by decide,by decide,.inr ⟨rfl,rfl⟩⟩,⟨by decide,by decide⟩,by simp[f2],by simp[f2]⟩
theorem e1:encI 1 0 300 []=[8,172,2]:=by decide +kernel
theorem e2:[8,172,2]++encI 2 2 0 [97,98]=[8,172,2,18,2,97,98]:=by decide +kernel
theorem r1:YN [8,172,2,18,2,97,98]=([f1,f2],0,0):=by
  have h:=Ey [f1,f2] 8 [] 0 (by intro x hx; simp at hx; rcases hx with rfl | rfl; exact vf1; exact vf2) (by simp) (by decide +kernel);have he:[f1,f2].flatMap Ye=[8,172,2,18,2,97,98]:=by decide +kernel
  rw[he] at h;exact h
def f3:Ze:=⟨1,0,1,[]⟩
theorem vf3:Vf f3:=⟨⟨by decide,by decide,.inl ⟨rfl,rfl⟩⟩,⟨by decide,by decide⟩,by simp[f3],by simp[f3]⟩
theorem r2:YN [8,1,18,2,97]=([],2,5):=by
  have he:Ye f3=[8,1]:=by decide +kernel
  have h1:=MB f3 vf3 [18,2,97];rw[he] at h1;have h2:U8 [18,2,97]=(VJ,0,5):=Qz (t:=18) (n:=2) (h:=1) (k:=1) (by decide +kernel) (by unfold WS; omega) (by decide +kernel) (by omega) (by decide);have h3:YN [8,1,18,2,97]=Xg 5 ([]++[f3]) (0+2) ([8,1,18,2,97].drop 2):=SQ (by decide) (by decide) h1;rw[h3];exact OH (by decide) (by decide) h2 (by omega)
theorem z2:szB 2=4:=by decide +kernel
end Go.Proofs.YtnhlpahoomcgnaaGreat
namespace Go.Proofs.YtnhlpahoomcgnaaGreat
attribute [local irreducible] wpList wpQuiet
open Go.RowKit
def AZ (w:World)(B:Nat)(v:Value)(p:Ze×Value):Prop:=∃ a c,p.2=.slice a p.1.bytes.length c/\Sl w a c p.1.bytes/\∀ x,a=some x->B<=x.block/\x.block<w.heap.size/\v.ownBlock≠some x.block
def X7 (w:World)(B:Nat)(v:Value)(ps:List (Ze×Value)):Prop:=w.ownsRow B 111 4 v ps.length (row4 ps)/\∀ p,p∈ps->AZ w B v p
theorem X7.nil (w:World)(B:Nat):X7 w B (.slice none 0 0) []:=⟨World.ownsRow_nil _ _ _ _,fun p h=>by simp at h⟩
theorem AZ.below {w w':World}{B:Nat}{v:Value}{p:Ze×Value}(h:AZ w B v p)(hb:Below w.heap.size w w'):AZ w' B v p:=by
 obtain⟨a,c,h1,h2,h3⟩:=h;exact⟨a,c,h1,ZK h2 hb,fun x hx=>⟨(h3 x hx).1,Nat.lt_of_lt_of_le (h3 x hx).2.1 hb.size,(h3 x hx).2.2⟩⟩
theorem X7.below {w w':World}{B:Nat}{v:Value}{ps:List (Ze×Value)}(h:X7 w B v ps)(hb:Below w.heap.size w w'):X7 w' B v ps:=⟨own_below h.1 hb,fun p hp=>(h.2 p hp).below hb⟩
theorem X7.form {w:World}{B:Nat}{v:Value}{ps:List (Ze×Value)}(h:X7 w B v ps):∃ a c,v=.slice a ps.length c/\ps.length<=c:=by
 rcases h.1.2 with⟨rfl,h0⟩ | ⟨g,cap,cur,rfl,_,_,hcap,_⟩
 ·exact⟨none,0,by rw[h0],by omega⟩
 ·exact⟨_,cap,rfl,hcap⟩
theorem X7.fs {w:World}{B:Nat}{v:Value}{ps:List (Ze×Value)}(h:X7 w B v ps):∃ a c,v=.slice a ps.length c/\ps.length<=c/\Fs w a ps:=by
 obtain⟨a,c,rfl,hc⟩:=h.form;refine⟨a,c,rfl,hc,fun i p hi=>?_⟩;have hlt:i<ps.length:=(List.getElem?_eq_some_iff.1 hi).1;obtain⟨g,rfl,hg,hgl⟩:=Sr h.1 (by omega);obtain⟨ba,bc,hb,hs,-⟩:=h.2 p (List.mem_of_getElem? hi);refine⟨g,0,ba,bc,rfl,hb,hs,?_,?_,?_,?_⟩
 ·rw[h.1.cellAt _ (by omega),show 0+i*4=i*4+0 by omega,U9 ps i 0 p hi (by omega)];rfl
 ·rw[h.1.cellAt _ (by omega),show 0+i*4+1=i*4+1 by omega,U9 ps i 1 p hi (by omega)];rfl
 ·rw[h.1.cellAt _ (by omega),show 0+i*4+2=i*4+2 by omega,U9 ps i 2 p hi (by omega)];rfl
 ·rw[h.1.cellAt _ (by omega),show 0+i*4+3=i*4+3 by omega,U9 ps i 3 p hi (by omega)];simp only[cellsOf,List.getElem?_cons_succ,List.getElem?_cons_zero,hb]
theorem AZ.but {w w':World}{B g:Nat}{v:Value}{p:Ze×Value}(h:AZ w B v p)(hb:But g w w')(hg:g<B):AZ w' B v p:=by
 obtain⟨a,c,h1,h2,h3⟩:=h;refine⟨a,c,h1,?_,fun x hx=>⟨(h3 x hx).1,Nat.lt_of_lt_of_le (h3 x hx).2.1 hb.1.size,(h3 x hx).2.2⟩⟩;rcases h2 with h2 | ⟨x,rfl,hx⟩
 ·exact .inl h2
 ·refine .inr ⟨x,rfl,fun k hk=>?_⟩;obtain⟨b,off,rfl,hc⟩:=hx k hk;have q:=(h3 _ rfl).1;exact⟨b,off,rfl,(World.cell?_of_block (a:=⟨b,off+k,none⟩) (hb.2 b (World.block_lt_of_cell? w _ hc) (by have:B<=b:=q; omega))).trans hc⟩
theorem X7.but {w w':World}{B g:Nat}{v:Value}{ps:List (Ze×Value)}(h:X7 w B v ps)(hb:But g w w')(hg:g<B):X7 w' B v ps:=⟨Zt h.1 hb hg,fun p hp=>(h.2 p hp).but hb hg⟩
theorem AZ.grown {w w':World}{B:Nat}{v v':Value}{p:Ze×Value}(h:AZ w B v p)(hg:w.grownBy w' v.ownBlock)(hat:v'.ownBlock=v.ownBlock∨v'.ownBlock=some w.heap.size):AZ w' B v' p:=by
 obtain⟨a,c,h1,h2,h3⟩:=h;refine⟨a,c,h1,?_,fun x hx=>⟨(h3 x hx).1,Nat.lt_of_lt_of_le (h3 x hx).2.1 hg.size,fun e=>?_⟩⟩
 ·rcases h2 with h2 | ⟨x,rfl,hx⟩
  ·exact .inl h2
  ·refine .inr ⟨x,rfl,fun k hk=>?_⟩;obtain⟨b,off,rfl,hc⟩:=hx k hk;exact⟨b,off,rfl,hg.cell hc fun e=>(h3 _ rfl).2.2 e.symm⟩
 ·rcases hat with h4 | h4
  ·exact(h3 x hx).2.2 (h4.symm.trans e)
  ·have h5:=h4.symm.trans e;have:=(h3 x hx).2.1;simp only[Option.some.injEq] at h5;omega
theorem Bj {w:World}{B:Nat}{v:Value}{ps:List (Ze×Value)}(h:X7 w B v ps)(hB:B<=w.heap.size)(x:Ze)(b:Option Addr)(d:Nat)(hx:AZ w B v (x,.slice b x.bytes.length d))(hl:ps.length<=100000) :
  ∃ v2 V2,(Builtin.append_ #[106,106] 106 #[v,.slice (some ⟨w.heap.size,0,none⟩) 1 1]).run Tryz.prog (w.alloc (.cells (Xd x b d) 111))=.ok v2 V2/\X7 V2 B v2 (ps++[(x,.slice b x.bytes.length d)])/\Below B w V2:=by
 have hba:Below w.heap.size w (w.alloc (.cells (Xd x b d) 111)):=(Below.refl _ w).alloc (Nat.le_refl _) _;have hO:=own_below h.1 hba;have hsz:(w.alloc (.cells (Xd x b d) 111)).heap.size=w.heap.size+1:=by simp
 obtain⟨i0,hi,hz0,hz1,hz2⟩:=info_parts info25;obtain⟨v2,V2,hr,hO2,hg,-,hat⟩:=run_append_own_at (P:=Tryz.prog) (w.alloc (.cells (Xd x b d) 111)) B 106 106 111 i0 _ 4 48 (by kernel_rfl) hi hz0 hz1 hz2 (by kernel_rfl) (by omega) v ps.length (row4 ps) hO ⟨w.heap.size,0,none⟩ 1 1 (cellsOf (x,.slice b x.bytes.length d)) rfl (fun j u hu=>by
  rw[Go.WideShapes.add_plain,cell_of_row _ w.heap.size (0+j) _ 111 (0,0) (heap_alloc_last w _),Nat.zero_add];simpa [cellsOf] using hu) (fun u hu=>by
  simp only[cellsOf,List.mem_cons,List.not_mem_nil,or_false] at hu;rcases hu with rfl | rfl | rfl | rfl <;> rfl) (by unfold maxLen; omega) (by omega) (by omega)
 refine⟨v2,V2,hr,⟨by rw[IY,List.length_append]; exact hO2,fun p hp=>?_⟩,(hba.mono hB).trans ((Below.refl _ _).grown hg (by omega) fun j hj=>(hO.lt j hj).1)⟩;rcases List.mem_append.1 hp with hp | hp
 ·exact((h.2 p hp).below hba).grown hg hat
 ·obtain rfl:p=(x,.slice b x.bytes.length d):=by simpa using hp
  exact(hx.below hba).grown hg hat
def Nj (w:World)(B:Nat)(ps:List (Ze×Value))(X:List Ze)(e:Ending)(w':World):Prop:=∃ v qs,e=.returned v/\qs.map Prod.fst=ps.map Prod.fst++X/\X7 w' B v qs/\Below B w w'
theorem AZ.non (w:World)(B:Nat)(v:Value)(x:Ze)(h:x.bytes=[]):AZ w B v (x,.slice none x.bytes.length 0):=⟨none,0,rfl,.inl ⟨rfl,rfl,h⟩,fun y hy=>by cases hy⟩
theorem NG (v:Value)(ps:List (Ze×Value))(B:Nat)(k val:Int)(w:World)(h:X7 w B v ps)(hB:B<=w.heap.size)(hl:ps.length<=100000) :
  Calls Tryz.prog 67 #[v,Z8 k,Z4 val] w (Nj w B ps (if val=0 then [] else [⟨k,0,val,[]⟩])):=by
 by_cases h0:val=0
 ·rw[if_pos h0];have HE:=Z9 (⟨v,ps,rfl,by simp,h,Below.refl _ _⟩:Nj w B ps [] (.returned v) w);clear h;go_enter Tryz.func67,Tryz.ntmps67;go_upto_region 1 with fail;refine wl<|ZV (Z4 val)<|ZJ (TB rfl val (decide_eq_true h0))<|wn ?_;simp only[pu];go_upto_region 2 with fail;refine wl<|ZA (v) (v)<|wn ?_;simp only[pu];go_wp2_with fail;go_ret;exact HE.out
 ·rw[if_neg h0];obtain⟨v2,V2,hap,hr2,hb2⟩:=Bj h hB ⟨k,0,val,[]⟩ none 0 (AZ.non w B v _ rfl) hl;have HE:=Z9 (⟨v2,_,rfl,by simp,hr2,hb2⟩:Nj w B ps [⟨k,0,val,[]⟩] (.returned v2) V2);clear h hr2 hb2;go_enter Tryz.func67,Tryz.ntmps67;go_upto_region 1 with fail;refine wl<|ZV (Z4 val)<|ZJ (TB rfl val (decide_eq_false h0))<|wn ?_;simp only[pu];go_upto_region 3 with fail;refine wl<|WL (v) (Z8 k) (Z4 val) (.agg (Xd (⟨k,0,val,[]⟩:Ze) none 0)) ?_;refine Zr (by kernel_rfl) (some 14) rfl 106 1 #[(0,.tmp 13)] rfl #[(0,.agg (Xd (⟨k,0,val,[]⟩:Ze) none 0))] (by kernel_rfl) (.slice (some ⟨w.heap.size,0,none⟩) 1 1) _ (KL (⟨k,0,val,[]⟩:Ze) none 0 w) ?_;refine Zh rfl (some 15) rfl 106 rfl (.tmp 10) (.tmp 14) 106 rfl (v) (.slice (some ⟨w.heap.size,0,none⟩) 1 1) (v2) V2 (by kernel_rfl) (by kernel_rfl) hap ?_;refine ZV (v2)<|wn ?_;simp only[pu];clear hap;go_wp2_with fail;go_ret;exact HE.out
theorem TW {ρ:Operand->Value}{o:Oper}{x y:Operand}(ho:o.op=.binOp .eql 9 x y 9)(a b:ByteArray){t:Bool}(ht:(a == b)=t)(hx:ρ x=.string a)(hy:ρ y=.string b)(w:World):(execOp ρ o).run Tryz.prog w=.ok (.value (.bool t)) w:=by
 have e:(a.toList == b.toList)=t:=by rw[<- beq_toListBytes]; exact ht
 unfold execOp;simp only[ho,hx,hy];go_simp
theorem iI {s:ByteArray}(h:s.size=0):(s == (⟨#[]⟩:ByteArray))=true:=by
 have e:s=⟨#[]⟩:=ByteArray.ext (Array.eq_empty_of_size_eq_zero h);subst e;rfl
theorem oN {s:ByteArray}(h:s.size≠0):(s == (⟨#[]⟩:ByteArray))=false:=by
 rw[Bool.eq_false_iff];intro e;rw[beq_toListBytes] at e;have e2:=eq_of_beq e;rw[ByteArray.toList_eq,ByteArray.toList_eq] at e2;have e3:=congrArg List.length e2;exact h (by simpa using e3)
theorem pz {ρ:Operand->Value}{o:Oper}{x:Operand}(ho:o.op=.convert 9 23 x)(s:ByteArray)(hx:ρ x=.string s)(w:World):(execOp ρ o).run Tryz.prog w=.ok (.value (.slice (some ⟨w.heap.size,0,none⟩) s.size (grownCap w s.size 0 5))) (Lib.bytesWorld w 5 s):=by
 have h:=Lib.run_convert_string_bytes (P:=Tryz.prog) w 9 23 5 s Tryz.underlying9 Tryz.underlying23 Tryz.underlying5;unfold execOp;simp only[ho,hx,Sem.run_bind,h];rfl
theorem KJ (w:World)(s:ByteArray)(c:Nat):Below w.heap.size w (Lib.bytesWorld w 5 s)/\Sl (Lib.bytesWorld w 5 s) (some ⟨w.heap.size,0,none⟩) c (nums s)/\(Lib.bytesWorld w 5 s).heap.size=w.heap.size+1:=by
 refine⟨⟨rfl,rfl,rfl,by rw[Lib.bytesWorld_size]; omega,fun k hk=>Lib.bytesWorld_at_old w _ s k hk⟩,.inr ⟨_,rfl,fun k hk=>⟨w.heap.size,0,rfl,?_⟩⟩,Lib.bytesWorld_size w _ s⟩;rw[Zd] at hk;rw[Nat.zero_add,Lib.bytesWorld_cell w _ s k hk];unfold nums;simp[List.getD_eq_getElem?_getD,List.getElem?_map];cases h:s.data[k]? with
 | none=>
  rw[Array.getElem?_eq_none_iff] at h;exact absurd hk (by show ¬ k<s.data.size; omega)
 | some u=>simp
theorem EF (v:Value)(ps:List (Ze×Value))(B:Nat)(k:Int)(s:ByteArray)(w:World)(h:X7 w B v ps)(hB:B<=w.heap.size)(hl:ps.length<=100000) :
  Calls Tryz.prog 66 #[v,Z8 k,.string s] w (Nj w B ps (if s.size=0 then [] else [⟨k,2,0,nums s⟩])):=by
 by_cases h0:s.size=0
 ·rw[if_pos h0];have HE:=Z9 (⟨v,ps,rfl,by simp,h,Below.refl _ _⟩:Nj w B ps [] (.returned v) w);have HQ:=iI h0;clear h;go_enter Tryz.func66,Tryz.ntmps66;go_upto_region 1 with fail;refine wl<|ZV (.string s)<|Yy ZW (TW rfl s ⟨#[]⟩ HQ)<|wn ?_;simp only[pu];go_upto_region 2 with fail;refine wl<|ZA (v) (v)<|wn ?_;simp only[pu];go_wp2_with fail;go_ret;exact HE.out
 ·rw[if_neg h0];obtain⟨hbw,hsl,hsz⟩:=KJ w s (grownCap w s.size 0 5);have HQ:=oN h0;have CV:=fun(ρ:Operand->Value) (o:Oper) (x:Operand) ho hx=>pz (ρ:=ρ) (o:=o) (x:=x) ho s hx w;generalize grownCap w s.size 0 5=d at *
  generalize Lib.bytesWorld w 5 s=W at *
  obtain⟨q,hq⟩:=ZR w.heap.size;have ay9:AZ W B v ((⟨k,2,0,nums s⟩:Ze),.slice (some ⟨q,0,none⟩) (nums s).length d):=⟨_,_,rfl,by rw[<- hq]; exact hsl,fun x hx=>by
   cases hx;refine⟨by show B<=q; omega,by show q<_; omega,fun e=>?_⟩;have h4:q<w.heap.size:=(h.1.lt _ e).2;omega⟩
  obtain⟨v2,V2,hap,hr2,hb2⟩:=Bj (h.below hbw) (by omega) ⟨k,2,0,nums s⟩ (some ⟨q,0,none⟩) d ay9 hl;have HE:=Z9 (⟨v2,_,rfl,by simp,hr2,(hbw.mono hB).trans hb2⟩:Nj w B ps [⟨k,2,0,nums s⟩] (.returned v2) V2);rw[hq] at CV;rw[<- Zd s] at CV;clear h hr2 hb2 ay9 hsl hbw hsz hq;generalize nums s=L at *
  go_enter Tryz.func66,Tryz.ntmps66;go_upto_region 1 with fail;refine wl<|ZV (.string s)<|Yy ZY (TW rfl s ⟨#[]⟩ HQ)<|wn ?_;simp only[pu];go_upto_region 3 with fail;refine wl<|Yr (v) (Z8 k) (.string s) ?_;refine PV (by kernel_rfl) (some 13) rfl (.slice (some ⟨q,0,none⟩) L.length d) W (CV _ _ _ rfl (by kernel_rfl)) ?_;refine ZV (.agg (Xd (⟨k,2,0,L⟩:Ze) (some ⟨q,0,none⟩) d)) ?_;refine Zr (by kernel_rfl) (some 15) rfl 106 1 #[(0,.tmp 14)] rfl #[(0,.agg (Xd (⟨k,2,0,L⟩:Ze) (some ⟨q,0,none⟩) d))] (by kernel_rfl) (.slice (some ⟨W.heap.size,0,none⟩) 1 1) _ (KL (⟨k,2,0,L⟩:Ze) (some ⟨q,0,none⟩) d W) ?_;refine Zh rfl (some 16) rfl 106 rfl (.tmp 10) (.tmp 15) 106 rfl (v) (.slice (some ⟨W.heap.size,0,none⟩) 1 1) (v2) V2 (by kernel_rfl) (by kernel_rfl) hap ?_;refine ZV (v2)<|wn ?_;simp only[pu];clear hap CV;go_wp2_with fail;go_ret;exact HE.out
end Go.Proofs.YtnhlpahoomcgnaaGreat
