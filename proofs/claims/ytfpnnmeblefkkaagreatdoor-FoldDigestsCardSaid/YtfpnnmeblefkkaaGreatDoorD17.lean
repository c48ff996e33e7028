/-
  Texts joined.
-/
import Derived.Test.YtfpnnmeblefkkaaGreatDoorD16
import Derived.Outline
import Derived.Deep.CutBlock
set_option maxRecDepth 100000
set_option maxHeartbeats 8000000
set_option linter.unusedSimpArgs false
set_option linter.unusedVariables false
namespace Go.Proofs.YtfpnnmeblefkkaaGreatDoor.Mo
open Go.RowKit
theorem Ar.Dv (q:Nat)(h:1<=q):Value.int IntKind.u64 ((q:Int)-1)=Value.int IntKind.u64 ((q-1:Nat):Int):=by
 rw[show((q-1:Nat):Int)=(q:Int)-1 by omega]
theorem Ar.bZ (q p:Nat)(h:1<=q)(e:q-1=p):Value.int IntKind.u64 ((q:Int)-1)=Value.int IntKind.u64 (p:Int):=by
 subst e;exact Ar.Dv q h
theorem kV (hi lo y V y1 y0 u l l1 l0 qa ra q1 u2 qb rb q0 R1 R:Nat)(w:World)(h:0<hi)(hlt:hi<y)(_h1:lo<18446744073709551616)(h2:y<18446744073709551616)
  (z1:lz y<=63) (b1:2147483648<=y1) (b1':y1<4294967296) (b0:y0<4294967296) (aN5:l1<4294967296) (aN6:l0<4294967296) (aS1:u<18446744073709551616) (aR4:u2<18446744073709551616)
  (bu:Hid (u<y1*4294967296+y0)) (bu2:Hid (u2<y1*4294967296+y0)) (bq1:q1<4294967296) (bq0:q0<4294967296)
  (eq1:Hid (q1=(u*4294967296+l1) / (y1*4294967296+y0))) (eq0:Hid (q0=(u2*4294967296+l0) / (y1*4294967296+y0)))
  (eqa:Hid (Ar.bY u l1 y1 y0 qa ra)) (eqb:Hid (Ar.bY u2 l0 y1 y0 qb rb))
  (rV:IntKind.u64.wrap ((y:Int)*2 ^ lz y)=(V:Int)) (r9:(V:Int) / 4294967296=(y1:Int)) (r10:bits .and .u64 (V:Int) 4294967295=(y0:Int))
  (r11:bits .or .u64 (IntKind.u64.wrap ((hi:Int)*2 ^ lz y)) ((lo:Int) / 2 ^ (64-lz y))=(u:Int))
  (r12:IntKind.u64.wrap ((lo:Int)*2 ^ lz y)=(l:Int)) (r13:(l:Int) / 4294967296=(l1:Int)) (r14:bits .and .u64 (l:Int) 4294967295=(l0:Int))
  (ra1:IntKind.u64.wrap ((u:Int) / (y1:Int))=(qa:Int)) (ra2:IntKind.u64.wrap ((u:Int)-IntKind.u64.wrap ((qa:Int)*(y1:Int)))=(ra:Int))
  (ru2:Hid (IntKind.u64.wrap (IntKind.u64.wrap (IntKind.u64.wrap ((u:Int)*4294967296)+(l1:Int))-IntKind.u64.wrap ((q1:Int)*(V:Int)))=(u2:Int)))
  (rb1:Hid (IntKind.u64.wrap ((u2:Int) / (y1:Int))=(qb:Int))) (rb2:Hid (IntKind.u64.wrap ((u2:Int)-IntKind.u64.wrap ((qb:Int)*(y1:Int)))=(rb:Int)))
  (rR:Hid (IntKind.u64.wrap (IntKind.u64.wrap (IntKind.u64.wrap ((u2:Int)*4294967296)+(l0:Int))-IntKind.u64.wrap ((q0:Int)*(V:Int)))=(R1:Int))) (rR1:Hid ((R1:Int) / 2 ^ lz y=(R:Int))) :
  Calls Tryz.prog 105 #[Z7 hi,Z7 lo,Z7 y] w fun e w'=>e=.returned (.tuple #[Z7 ((q1*4294967296+q0:Nat):Int),Z7 (R:Int)])/\w=w':=by
 have hy:((y:Int) == 0)=false:=by simp; omega
 have hh:((hi:Int) == 0)=false:=by simp; omega
 have hy1:((y1:Int) == 0)=false:=by simp; omega
 go_enter Tryz.func105,Tryz.ntmps105;go_upto_block 0 with (go_at_call 134; refine(aN7 y _ (by omega) h2).mono ?_; rintro e w' ⟨rfl,rfl⟩)
 clear rV r9 r10 r11 r12 r13 r14 ra1 ra2;go_cut [15] (fun s15 wx=>w=wx/\s15=Z7 q1)
 case first=>
  go_wp2_with fail;go_loopg [15,16] qa (fun g s15 s16 wx=>w=wx/\∃ q r:Nat,s15=Z7 q/\s16=Z7 r/\q=g/\Hid (Ar.bY u l1 y1 y0 q r))
  case atStart=>exact⟨rfl,qa,ra,rfl,rfl,rfl,eqa⟩
  case round=>
   obtain⟨rfl,q,r,rfl,rfl,rfl,he⟩:=hrel;have ha:(q:Int)<=4294967297:=(by have:=he.out.2.2.1; omega);have hb:(r:Int)<4294967296:=(by have:=he.out.2.2.2; omega);have hm:(q:Int)<4294967296->(q:Int)*(y0:Int)<=18446744065119617025:=fun hq=>(Ar.kT q y0 (by omega) (by omega)).1;have hm0:(0:Int)<=(q:Int)*(y0:Int):=Int.mul_nonneg (by omega) (by omega);by_cases ht:4294967296<=q∨4294967296*r+l1<q*y0
   ·obtain⟨s1,s2,s3,s4⟩:=Ar.Du u l1 y1 y0 q r b1 bu.out aN5 he.out ht;by_cases hB:4294967296<=r+y1
    ·have hf:=Z9 (Ar.Ii u l1 y1 y0 (q-1) (r+y1) b1 b0 s2 s3 s4 hB);have hB':(4294967296:Int)<=(r:Int)+(y1:Int):=(by omega);have hbB:decide ((4294967296:Int)<=(r:Int)+(y1:Int))=true:=decide_eq_true hB';clear s2 s3 s4 hB;by_cases hq:4294967296<=q
     ·have hq':(4294967296:Int)<=(q:Int):=(by omega);clear hm ht hq;go_wp2;go_meet;exact⟨rfl,Ar.bZ q q1 s1 (by rw[eq1.out,hf.out])⟩
     ·have hm':=hm (by omega);have hq':(q:Int)<(4294967296:Int):=(by omega);have ht':4294967296*(r:Int)+(l1:Int)<(q:Int)*(y0:Int):=Ar.Lc r l1 q y0 (ht.resolve_left hq);obtain⟨P,hP⟩:∃ P:Int,(q:Int)*(y0:Int)=P:=⟨_,rfl⟩;rw[hP] at ht' hm' hm0;obtain⟨M,hM⟩:∃ M:Int,4294967296*(r:Int)=M:=⟨_,rfl⟩;have hM0:0<=M/\M<=18446744069414584320:=(by omega);rw[hM] at ht';have hbq:decide ((4294967296:Int)<=(q:Int))=false:=decide_eq_false (by omega);have hbP:decide (M+(l1:Int)<P)=true:=decide_eq_true (by omega);clear hm ht hq;go_wp2;go_meet;exact⟨rfl,Ar.bZ q q1 s1 (by rw[eq1.out,hf.out])⟩
    ·have hn:Hid (Ar.bY u l1 y1 y0 (q-1) (r+y1)):=Z9 ⟨s2,s3,by omega,by omega⟩;have hB':(r:Int)+(y1:Int)<(4294967296:Int):=(by omega);have hbB:decide ((4294967296:Int)<=(r:Int)+(y1:Int))=false:=decide_eq_false (by omega);clear s2 s3 s4 hB;by_cases hq:4294967296<=q
     ·have hq':(4294967296:Int)<=(q:Int):=(by omega);clear hm ht hq;go_wp2;go_roundg (q-1)
      case measure=>omega
      case rel=>exact⟨rfl,q-1,r+y1,Ar.Dv q s1,by first | rfl | go_num,rfl,hn⟩
     ·have hm':=hm (by omega);have hq':(q:Int)<(4294967296:Int):=(by omega);have ht':4294967296*(r:Int)+(l1:Int)<(q:Int)*(y0:Int):=Ar.Lc r l1 q y0 (ht.resolve_left hq);obtain⟨P,hP⟩:∃ P:Int,(q:Int)*(y0:Int)=P:=⟨_,rfl⟩;rw[hP] at ht' hm' hm0;obtain⟨M,hM⟩:∃ M:Int,4294967296*(r:Int)=M:=⟨_,rfl⟩;have hM0:0<=M/\M<=18446744069414584320:=(by omega);rw[hM] at ht';have hbq:decide ((4294967296:Int)<=(q:Int))=false:=decide_eq_false (by omega);have hbP:decide (M+(l1:Int)<P)=true:=decide_eq_true (by omega);clear hm ht hq;go_wp2;go_roundg (q-1)
      case measure=>omega
      case rel=>exact⟨rfl,q-1,r+y1,Ar.Dv q s1,by first | rfl | go_num,rfl,hn⟩
   ·have hq:q<4294967296:=(by omega);have hm':=hm (by omega);have hq':(q:Int)<(4294967296:Int):=(by omega);have ht':(q:Int)*(y0:Int)<=4294967296*(r:Int)+(l1:Int):=Ar.wQ r l1 q y0 (by omega);have hf:=Z9 (Ar.Ih u l1 y1 y0 q r b1 he.out (by omega));obtain⟨P,hP⟩:∃ P:Int,(q:Int)*(y0:Int)=P:=⟨_,rfl⟩;rw[hP] at ht' hm' hm0;obtain⟨M,hM⟩:∃ M:Int,4294967296*(r:Int)=M:=⟨_,rfl⟩;have hM0:0<=M/\M<=18446744069414584320:=(by omega);rw[hM] at ht';have hbq:decide ((4294967296:Int)<=(q:Int))=false:=decide_eq_false (by omega);have hbP:decide (M+(l1:Int)<P)=false:=decide_eq_false (by omega);clear hm ht hq;go_wp2;go_meet;exact⟨rfl,by rw[eq1.out,hf.out]⟩
 case rest=>
  obtain⟨rfl,rfl⟩:=hcut;have r1:=ru2.out;have r2:=rb1.out;have r3:=rb2.out;go_upto_block 2 with fail;clear r1 r2 r3;go_cut [18] (fun s18 wx=>w=wx/\s18=Z7 q0)
  case first=>
   go_wp2_with fail;go_loopg [18,16] qb (fun g s18 s16 wx=>w=wx/\∃ q r:Nat,s18=Z7 q/\s16=Z7 r/\q=g/\Hid (Ar.bY u2 l0 y1 y0 q r))
   case atStart=>exact⟨rfl,qb,rb,rfl,rfl,rfl,eqb⟩
   case round=>
    obtain⟨rfl,q,r,rfl,rfl,rfl,he⟩:=hrel;have ha:(q:Int)<=4294967297:=(by have:=he.out.2.2.1; omega);have hb:(r:Int)<4294967296:=(by have:=he.out.2.2.2; omega);have hm:(q:Int)<4294967296->(q:Int)*(y0:Int)<=18446744065119617025:=fun hq=>(Ar.kT q y0 (by omega) (by omega)).1;have hm0:(0:Int)<=(q:Int)*(y0:Int):=Int.mul_nonneg (by omega) (by omega);by_cases ht:4294967296<=q∨4294967296*r+l0<q*y0
    ·obtain⟨s1,s2,s3,s4⟩:=Ar.Du u2 l0 y1 y0 q r b1 bu2.out aN6 he.out ht;by_cases hB:4294967296<=r+y1
     ·have hf:=Z9 (Ar.Ii u2 l0 y1 y0 (q-1) (r+y1) b1 b0 s2 s3 s4 hB);have hB':(4294967296:Int)<=(r:Int)+(y1:Int):=(by omega);have hbB:decide ((4294967296:Int)<=(r:Int)+(y1:Int))=true:=decide_eq_true hB';clear s2 s3 s4 hB;by_cases hq:4294967296<=q
      ·have hq':(4294967296:Int)<=(q:Int):=(by omega);clear hm ht hq;go_wp2;go_meet;exact⟨rfl,Ar.bZ q q0 s1 (by rw[eq0.out,hf.out])⟩
      ·have hm':=hm (by omega);have hq':(q:Int)<(4294967296:Int):=(by omega);have ht':4294967296*(r:Int)+(l0:Int)<(q:Int)*(y0:Int):=Ar.Lc r l0 q y0 (ht.resolve_left hq);obtain⟨P,hP⟩:∃ P:Int,(q:Int)*(y0:Int)=P:=⟨_,rfl⟩;rw[hP] at ht' hm' hm0;obtain⟨M,hM⟩:∃ M:Int,4294967296*(r:Int)=M:=⟨_,rfl⟩;have hM0:0<=M/\M<=18446744069414584320:=(by omega);rw[hM] at ht';have hbq:decide ((4294967296:Int)<=(q:Int))=false:=decide_eq_false (by omega);have hbP:decide (M+(l0:Int)<P)=true:=decide_eq_true (by omega);clear hm ht hq;go_wp2;go_meet;exact⟨rfl,Ar.bZ q q0 s1 (by rw[eq0.out,hf.out])⟩
     ·have hn:Hid (Ar.bY u2 l0 y1 y0 (q-1) (r+y1)):=Z9 ⟨s2,s3,by omega,by omega⟩;have hB':(r:Int)+(y1:Int)<(4294967296:Int):=(by omega);have hbB:decide ((4294967296:Int)<=(r:Int)+(y1:Int))=false:=decide_eq_false (by omega);clear s2 s3 s4 hB;by_cases hq:4294967296<=q
      ·have hq':(4294967296:Int)<=(q:Int):=(by omega);clear hm ht hq;go_wp2;go_roundg (q-1)
       case measure=>omega
       case rel=>exact⟨rfl,q-1,r+y1,Ar.Dv q s1,by first | rfl | go_num,rfl,hn⟩
      ·have hm':=hm (by omega);have hq':(q:Int)<(4294967296:Int):=(by omega);have ht':4294967296*(r:Int)+(l0:Int)<(q:Int)*(y0:Int):=Ar.Lc r l0 q y0 (ht.resolve_left hq);obtain⟨P,hP⟩:∃ P:Int,(q:Int)*(y0:Int)=P:=⟨_,rfl⟩;rw[hP] at ht' hm' hm0;obtain⟨M,hM⟩:∃ M:Int,4294967296*(r:Int)=M:=⟨_,rfl⟩;have hM0:0<=M/\M<=18446744069414584320:=(by omega);rw[hM] at ht';have hbq:decide ((4294967296:Int)<=(q:Int))=false:=decide_eq_false (by omega);have hbP:decide (M+(l0:Int)<P)=true:=decide_eq_true (by omega);clear hm ht hq;go_wp2;go_roundg (q-1)
       case measure=>omega
       case rel=>exact⟨rfl,q-1,r+y1,Ar.Dv q s1,by first | rfl | go_num,rfl,hn⟩
    ·have hq:q<4294967296:=(by omega);have hm':=hm (by omega);have hq':(q:Int)<(4294967296:Int):=(by omega);have ht':(q:Int)*(y0:Int)<=4294967296*(r:Int)+(l0:Int):=Ar.wQ r l0 q y0 (by omega);have hf:=Z9 (Ar.Ih u2 l0 y1 y0 q r b1 he.out (by omega));obtain⟨P,hP⟩:∃ P:Int,(q:Int)*(y0:Int)=P:=⟨_,rfl⟩;rw[hP] at ht' hm' hm0;obtain⟨M,hM⟩:∃ M:Int,4294967296*(r:Int)=M:=⟨_,rfl⟩;have hM0:0<=M/\M<=18446744069414584320:=(by omega);rw[hM] at ht';have hbq:decide ((4294967296:Int)<=(q:Int))=false:=decide_eq_false (by omega);have hbP:decide (M+(l0:Int)<P)=false:=decide_eq_false (by omega);clear hm ht hq;go_wp2;go_meet;exact⟨rfl,by rw[eq0.out,hf.out]⟩
  case rest=>
   obtain⟨rfl,rfl⟩:=hcut;have r4:=rR.out;have r5:=rR1.out;go_wp2;go_ret2;exact⟨by simp,rfl⟩
def JR (hi lo y:Nat):Nat:=(hi*18446744073709551616+lo) / y
def ug (hi lo y:Nat):Nat:=(hi*18446744073709551616+lo) % y
theorem bW (lo y:Nat)(w:World)(h1:lo<18446744073709551616)(h2:y<18446744073709551616)(h0:0<y) :
  Calls Tryz.prog 105 #[Z7 0,Z7 lo,Z7 y] w fun e w'=>e=.returned (.tuple #[Z7 (JR 0 lo y),Z7 (ug 0 lo y)])/\∃ n,w'=w.drewN n:=by
 have hy:((y:Int) == 0)=false:=by simp; omega
 have rq:IntKind.u64.wrap ((lo:Int) / (y:Int))=((lo / y:Nat):Int):=by rw[<- Int.natCast_ediv]; exact YA _ (Nat.lt_of_le_of_lt (Nat.div_le_self lo y) h1)
 have eQ:JR 0 lo y=lo / y:=by simp[JR]
 have eR:ug 0 lo y=lo % y:=by simp[ug]
 rw[eQ,eR];clear eQ eR;go_enter Tryz.func105,Tryz.ntmps105;go_wp2
 go_quiet (fail)
 go_wp2;go_ret2;exact⟨by simp,_,rfl⟩
theorem aC3 (u y1:Nat)(hu:u<18446744073709551616):IntKind.u64.wrap ((u:Int) / (y1:Int))=((u / y1:Nat):Int):=by
 rw[<- Int.natCast_ediv]; exact YA _ (Nat.lt_of_le_of_lt (Nat.div_le_self u y1) hu)
theorem aC4 (u y1:Nat)(hu:u<18446744073709551616):IntKind.u64.wrap ((u:Int)-IntKind.u64.wrap (((u / y1:Nat):Int)*(y1:Int)))=((u % y1:Nat):Int):=by
 have h:=Nat.div_add_mod' u y1;rw[Ld,YA _ (by omega),IntKind.wrap_u64];omega
theorem ae0 (u d V q b:Nat)(h:(((u*4294967296 % 18446744073709551616+d) % 18446744073709551616:Nat)-((q*V % 18446744073709551616:Nat):Int)) % 18446744073709551616=(b:Int)) :
  IntKind.u64.wrap (IntKind.u64.wrap (IntKind.u64.wrap ((u:Int)*4294967296)+(d:Int))-IntKind.u64.wrap ((q:Int)*(V:Int)))=(b:Int):=by
 rw[show(u:Int)*4294967296=((u*4294967296:Nat):Int) by omega,TQ,castAdd,TQ,Ld,TQ,IntKind.wrap_u64];exact h
theorem zx (a b s:Nat)(hb:b<2 ^ s):a*2 ^ s ||| b=a*2 ^ s+b:=by
 rw[Nat.mul_comm,Nat.two_pow_add_eq_or_of_lt hb]
theorem bV (hi lo y:Nat)(w:World)(h:0<hi)(hlt:hi<y)(h1:lo<18446744073709551616)(h2:y<18446744073709551616) :
  Calls Tryz.prog 105 #[Z7 hi,Z7 lo,Z7 y] w fun e w'=>e=.returned (.tuple #[Z7 (JR hi lo y),Z7 (ug hi lo y)])/\w=w':=by
 obtain⟨z1,_,z3,z4⟩:=Ig y (by omega) h2;have c1:=Ar.shifted hi lo (lz y) z1 h1;have c2:=Ar.zq hi lo y (lz y) z1 h1 hlt;have c3:=Nat.two_pow_pos (lz y);have e0:(18446744073709551616:Nat)=2 ^ lz y*2 ^ (64-lz y):=by
  rw[<- Nat.pow_add,show lz y+(64-lz y)=64 by omega]
 have c4:lo / 2 ^ (64-lz y)<2 ^ lz y:=by
  rw[Nat.div_lt_iff_lt_mul (Nat.two_pow_pos _),<- e0];exact h1
 clear e0;have dl:=Nat.mod_lt (lo*2 ^ lz y) (show 0<18446744073709551616 by omega);have c5:hi*2 ^ lz y+lo / 2 ^ (64-lz y)<18446744073709551616:=Nat.lt_trans c2 z4;have r11:bits .or .u64 (IntKind.u64.wrap ((hi:Int)*2 ^ lz y)) ((lo:Int) / 2 ^ (64-lz y))=((hi*2 ^ lz y+lo / 2 ^ (64-lz y):Nat):Int):=by
  have a1:IntKind.u64.wrap ((hi:Int)*2 ^ lz y)=((hi*2 ^ lz y:Nat):Int):=by
   rw[<- YA (hi*2 ^ lz y) (Nat.lt_of_le_of_lt (Nat.le_add_right _ _) c5)]; simp
  have a2:((lo:Int) / 2 ^ (64-lz y))=((lo / 2 ^ (64-lz y):Nat):Int):=by simp
  rw[a1,a2,bits_or_u64_nat _ _ (Nat.lt_of_le_of_lt (Nat.le_add_right _ _) c5) (Nat.lt_of_le_of_lt (Nat.le_add_left _ _) c5),zx _ _ _ c4]
 have rV:IntKind.u64.wrap ((y:Int)*2 ^ lz y)=((y*2 ^ lz y:Nat):Int):=by
  rw[<- YA (y*2 ^ lz y) z4]; simp
 have r12:IntKind.u64.wrap ((lo:Int)*2 ^ lz y)=((lo*2 ^ lz y % 18446744073709551616:Nat):Int):=by
  rw[<- TQ (lo*2 ^ lz y)]; simp
 have rR1:∀ n:Nat,((n:Int) / 2 ^ lz y)=((n / 2 ^ lz y:Nat):Int):=fun n=>by simp
 have T:=Ar.zo (hi*18446744073709551616+lo) (2 ^ lz y) y (hi*2 ^ lz y+lo / 2 ^ (64-lz y)) (lo*2 ^ lz y % 18446744073709551616 / 4294967296) (lo*2 ^ lz y % 18446744073709551616 % 4294967296) c3 (by omega)
  (by rw[c1,Nat.div_add_mod'])
 change _=JR hi lo y/\_=ug hi lo y at T;rw[<- T.1,<- T.2];clear T c1;generalize hi*2 ^ lz y+lo / 2 ^ (64-lz y)=u at *
 generalize lo*2 ^ lz y % 18446744073709551616=l at *
 generalize y*2 ^ lz y=V at *
 have eV:V / 4294967296*4294967296+V % 4294967296=V:=Nat.div_add_mod' V 4294967296;have f1:2147483648<=V / 4294967296:=by omega
 have f2:V / 4294967296<4294967296:=by omega
 have f3:V % 4294967296<4294967296:=by omega
 have g1:l / 4294967296<4294967296:=by omega
 have g0:l % 4294967296<4294967296:=by omega
 have hV0:0<V:=by omega
 have k2:=Nat.mod_lt (u*4294967296+l / 4294967296) hV0;have k1:=Ar.JQ u (l / 4294967296) V c2 g1;have k0:=Ar.JQ ((u*4294967296+l / 4294967296) % V) (l % 4294967296) V k2 g0;have m1:=Ar.Ie u (l / 4294967296) V hV0 z4;have m0:=Ar.Ie ((u*4294967296+l / 4294967296) % V) (l % 4294967296) V hV0 z4;refine kV hi lo y V (V / 4294967296) (V % 4294967296) u l (l / 4294967296) (l % 4294967296) (u / (V / 4294967296)) (u % (V / 4294967296)) ((u*4294967296+l / 4294967296) / V) ((u*4294967296+l / 4294967296) % V)
  ((u*4294967296+l / 4294967296) % V / (V / 4294967296)) ((u*4294967296+l / 4294967296) % V % (V / 4294967296)) (((u*4294967296+l / 4294967296) % V*4294967296+l % 4294967296) / V)
  (((u*4294967296+l / 4294967296) % V*4294967296+l % 4294967296) % V) (((u*4294967296+l / 4294967296) % V*4294967296+l % 4294967296) % V / 2 ^ lz y) w h hlt h1 h2 z1 f1 f2 f3 g1 g0 c5 (Nat.lt_trans k2 z4)
  (by rw[eV]; exact Z9 c2) (by rw[eV]; exact Z9 k2) k1 k0 (by rw[eV]; exact Z9 rfl) (by rw[eV]; exact Z9 rfl)
  (Z9 (Ar.Ic _ _ _ _ f1 f2 f3 g1 (by rw[eV]; exact c2))) (Z9 (Ar.Ic _ _ _ _ f1 f2 f3 g0 (by rw[eV]; exact k2)))
  rV (by omega) (Vx V z4) r11 r12 (by omega) (Vx l dl) ?_ ?_ ?_ ?_ ?_ ?_ ?_
 ·exact aC3 u _ (Nat.lt_trans c2 z4)
 ·exact aC4 u _ (Nat.lt_trans c2 z4)
 ·exact Z9 (ae0 u _ V _ _ m1)
 ·exact Z9 (aC3 _ _ (Nat.lt_trans k2 z4))
 ·exact Z9 (aC4 _ _ (Nat.lt_trans k2 z4))
 ·exact Z9 (ae0 _ _ V _ _ m0)
 ·exact Z9 (rR1 _)
theorem ad8 (hi lo y:Nat)(w:World)(hlt:hi<y)(h1:lo<18446744073709551616)(h2:y<18446744073709551616) :
  Calls Tryz.prog 105 #[Z7 hi,Z7 lo,Z7 y] w fun e w'=>e=.returned (.tuple #[Z7 (JR hi lo y),Z7 (ug hi lo y)])/\∃ n,w'=w.drewN n:=by
 by_cases h:hi=0
 ·subst h;exact bW lo y w h1 h2 hlt
 ·exact(bV hi lo y w (by omega) hlt h1 h2).mono fun e w' ⟨he,hw⟩=>⟨he,0,hw ▸ rfl⟩
#print axioms ad8
def Yl (a b:Int):Bool:=decide (a*b<18446744073709551616)
def Yw (a b:Int):Int:=if a*b<18446744073709551616 then a*b else 0
def qZ (a b c:Int):Bool:=decide (a*b<c*18446744073709551616)
def qY (a b c:Int):Int:=if a*b<c*18446744073709551616 then a*b / c else 0
theorem uj (a b:Int)(w:World)(ha:W64 a)(hb:W64 b) :
  Calls Tryz.prog 136 #[Z7 a,Z7 b] w fun e w'=>e=.returned (.tuple #[Z7 (Yw a b),.bool (Yl a b)])/\w=w':=by
 obtain⟨a0,a1⟩:=ha; obtain⟨b0,b1⟩:=hb;obtain⟨x,rfl⟩:=Int.eq_ofNat_of_zero_le a0;obtain⟨y,rfl⟩:=Int.eq_ofNat_of_zero_le b0;have hM:=fun w=>ad7 x y (by omega) (by omega) w;by_cases h:x*y<18446744073709551616
 ·have h':(x:Int)*(y:Int)<18446744073709551616:=by rw[<- Int.natCast_mul]; omega
  have e1:Yw x y=((x*y:Nat):Int):=by rw[Int.natCast_mul]; exact if_pos h'
  have e2:Yl x y=true:=decide_eq_true h';have q1:x*y % 18446744073709551616=x*y:=Nat.mod_eq_of_lt h;have q2:x*y / 18446744073709551616=0:=Nat.div_eq_of_lt h;rw[e1,e2];simp only[q1,q2] at hM;generalize x*y=p at *
  clear e1 e2 q1 q2 h h';go_enter Tryz.func136,Tryz.ntmps136;go_wp2_with (go_at_call 104; refine(hM _).mono ?_; rintro e w' ⟨rfl,rfl⟩)
  go_ret2;exact⟨rfl,rfl⟩
 ·have h':¬ (x:Int)*(y:Int)<18446744073709551616:=by rw[<- Int.natCast_mul]; omega
  have e1:Yw x y=0:=if_neg h';have e2:Yl x y=false:=decide_eq_false h';have q2:1<=x*y / 18446744073709551616:=by omega
  rw[e1,e2];generalize x*y / 18446744073709551616=p at *
  generalize x*y % 18446744073709551616=r at *
  clear e1 e2 h h';have hp:((p:Int) != 0)=true:=by simp; omega
  go_enter Tryz.func136,Tryz.ntmps136;go_wp2_with (go_at_call 104; refine(hM _).mono ?_; rintro e w' ⟨rfl,rfl⟩)
  go_ret2;exact⟨rfl,rfl⟩
theorem cZ (a b:Int)(w:World)(ha:W64 a)(hb:W64 b) :
  Calls Tryz.prog 116 #[Z7 a,Z7 b] w fun e w'=>e=.returned (.tuple #[Z7 (Yw a b),.bool (Yl a b)])/\w=w':=by
 obtain⟨a0,a1⟩:=ha; obtain⟨b0,b1⟩:=hb;by_cases hz:a=0
 ·subst hz;have e1:Yw 0 b=0:=by simp[Yw]
  have e2:Yl 0 b=true:=by simp[Yl]
  rw[e1,e2];clear e1 e2;go_enter Tryz.func116,Tryz.ntmps116;go_wp2;go_ret2;exact⟨rfl,rfl⟩
 ·have hq:(18446744073709551615 / a<b)↔¬ (a*b<18446744073709551616):=by
   rw[Int.ediv_lt_iff_lt_mul (by omega),Int.mul_comm b a];omega
  have q0:0<=18446744073709551615 / a:=Int.ediv_nonneg (by omega) a0;have q1:18446744073709551615 / a<=18446744073709551615:=Int.ediv_le_self _ (by omega);have p0:0<=a*b:=Int.mul_nonneg a0 b0;have hn:(a != 0)=true:=by simpa using hz
  have rq:IntKind.u64.wrap (18446744073709551615 / a)=18446744073709551615 / a:=by rw[IntKind.wrap_u64]; omega
  by_cases h:a*b<18446744073709551616
  ·have e1:Yw a b=a*b:=if_pos h;have e2:Yl a b=true:=decide_eq_true h;have h':¬ 18446744073709551615 / a<b:=fun hc=>hq.1 hc h;have hb':decide (18446744073709551615 / a<b)=false:=decide_eq_false h';rw[e1,e2];clear e1 e2 hq;go_enter Tryz.func116,Tryz.ntmps116;go_wp2;go_ret2;exact⟨rfl,rfl⟩
  ·have e1:Yw a b=0:=if_neg h;have e2:Yl a b=false:=decide_eq_false h;have h':18446744073709551615 / a<b:=hq.2 h;have hb':decide (18446744073709551615 / a<b)=true:=decide_eq_true h';rw[e1,e2];clear e1 e2 hq;go_enter Tryz.func116,Tryz.ntmps116;go_wp2;go_ret2;exact⟨rfl,rfl⟩
theorem ad5 (x y z:Nat)(hz:x*y / 18446744073709551616<z):qZ x y z=true/\qY x y z=((JR (x*y / 18446744073709551616) (x*y % 18446744073709551616) z:Nat):Int):=by
 have h:x*y<z*18446744073709551616:=(Nat.div_lt_iff_lt_mul (by omega)).1 hz;have h':(x:Int)*(y:Int)<(z:Int)*18446744073709551616:=by rw[<- Int.natCast_mul]; omega
 refine⟨decide_eq_true h',?_⟩;unfold JR;rw[Nat.div_add_mod',Int.natCast_ediv,Int.natCast_mul];exact if_pos h'
theorem ad6 (x y z:Nat)(hz:z<=x*y / 18446744073709551616):qZ x y z=false/\qY x y z=0:=by
 have h:z*18446744073709551616<=x*y:=(Nat.le_div_iff_mul_le (by omega)).1 hz;have h':¬ (x:Int)*(y:Int)<(z:Int)*18446744073709551616:=by rw[<- Int.natCast_mul]; omega
 exact⟨decide_eq_false h',if_neg h'⟩
theorem FP (a b c:Int)(w:World)(ha:W64 a)(hb:W64 b)(hc:W64 c) :
  Calls Tryz.prog 68 #[Z7 a,Z7 b,Z7 c] w fun e w'=>e=.returned (.tuple #[Z7 (qY a b c),.bool (qZ a b c)])/\∃ n,w'=w.drewN n:=by
 obtain⟨a0,a1⟩:=ha; obtain⟨b0,b1⟩:=hb; obtain⟨c0,c1⟩:=hc;obtain⟨x,rfl⟩:=Int.eq_ofNat_of_zero_le a0;obtain⟨y,rfl⟩:=Int.eq_ofNat_of_zero_le b0;obtain⟨z,rfl⟩:=Int.eq_ofNat_of_zero_le c0;have hM:=fun w=>ad7 x y (by omega) (by omega) w;have hr:=Nat.mod_lt (x*y) (show 0<18446744073709551616 by omega);by_cases h:x*y / 18446744073709551616<z
 ·obtain⟨e2,e1⟩:=ad5 x y z h;have hD:=fun w=>ad8 (x*y / 18446744073709551616) (x*y % 18446744073709551616) z w h hr (by omega);rw[e1,e2];clear e1 e2;generalize x*y / 18446744073709551616=p at *
  generalize x*y % 18446744073709551616=r at *
  go_enter Tryz.func68,Tryz.ntmps68;go_wp2_with (first | (go_at_call 104; refine(hM _).mono ?_; rintro e w' ⟨rfl,rfl⟩) | (go_at_call 105; refine(hD _).mono ?_; rintro e w' ⟨rfl,n,rfl⟩))
  go_ret2;exact⟨rfl,_,rfl⟩
 ·obtain⟨e2,e1⟩:=ad6 x y z (by omega);rw[e1,e2];clear e1 e2;generalize x*y / 18446744073709551616=p at *
  generalize x*y % 18446744073709551616=r at *
  go_enter Tryz.func68,Tryz.ntmps68;go_wp2_with (go_at_call 104; refine(hM _).mono ?_; rintro e w' ⟨rfl,rfl⟩)
  go_ret2;exact⟨rfl,0,rfl⟩
theorem Jb (a b:Nat)(ha:a<18446744073709551616)(hb:b<18446744073709551616) :
  (a % 4294967296)*(b % 4294967296)<18446744073709551616/\(a / 4294967296)*(b % 4294967296)<18446744073709551616/\(a % 4294967296)*(b / 4294967296)<18446744073709551616 /\
  (a / 4294967296)*(b / 4294967296)<18446744073709551616 /\
  (a % 4294967296)*(b % 4294967296) / 4294967296+(a / 4294967296)*(b % 4294967296) % 4294967296+(a % 4294967296)*(b / 4294967296) % 4294967296<18446744073709551616 /\
  (a / 4294967296)*(b / 4294967296)+(a / 4294967296)*(b % 4294967296) / 4294967296<18446744073709551616 /\
  (a / 4294967296)*(b / 4294967296)+(a / 4294967296)*(b % 4294967296) / 4294967296+(a % 4294967296)*(b / 4294967296) / 4294967296<18446744073709551616 /\
  (a / 4294967296)*(b / 4294967296)+(a / 4294967296)*(b % 4294967296) / 4294967296+(a % 4294967296)*(b / 4294967296) / 4294967296 +
   ((a % 4294967296)*(b % 4294967296) / 4294967296+(a / 4294967296)*(b % 4294967296) % 4294967296+(a % 4294967296)*(b / 4294967296) % 4294967296) / 4294967296=a*b / 18446744073709551616 /\
  ((a % 4294967296)*(b % 4294967296) / 4294967296+(a / 4294967296)*(b % 4294967296) % 4294967296+(a % 4294967296)*(b / 4294967296) % 4294967296)*4294967296 % 18446744073709551616+(a % 4294967296)*(b % 4294967296) % 4294967296=a*b % 18446744073709551616 /\
  a*b / 18446744073709551616<18446744073709551616:=by
 have e:a*b=(a / 4294967296)*(b / 4294967296)*(4294967296*4294967296)+((a / 4294967296)*(b % 4294967296)+(a % 4294967296)*(b / 4294967296))*4294967296+(a % 4294967296)*(b % 4294967296):=by
  rw[<- Lib.split_mul,Nat.div_add_mod' a 4294967296,Nat.div_add_mod' b 4294967296]
 have h1:=Lib.half_mul_le (a:=a / 4294967296) (b:=b / 4294967296) (by omega) (by omega);have h2:=Lib.half_mul_le (a:=a / 4294967296) (b:=b % 4294967296) (by omega) (by omega);have h3:=Lib.half_mul_le (a:=a % 4294967296) (b:=b / 4294967296) (by omega) (by omega);have h4:=Lib.half_mul_le (a:=a % 4294967296) (b:=b % 4294967296) (by omega) (by omega);have h5:a*b / 18446744073709551616<18446744073709551616:=by
  rw[Nat.div_lt_iff_lt_mul (by omega)];exact Nat.lt_of_le_of_lt (Nat.mul_le_mul_right b (Nat.le_of_lt ha)) (Nat.mul_lt_mul_of_pos_left hb (by omega))
 generalize a*b=t at *
 generalize (a / 4294967296)*(b / 4294967296)=p at *
 generalize (a / 4294967296)*(b % 4294967296)=q at *
 generalize (a % 4294967296)*(b / 4294967296)=r at *
 generalize (a % 4294967296)*(b % 4294967296)=s at *
 refine⟨by omega,by omega,by omega,by omega,by omega,by omega,by omega,by omega,by omega,h5⟩
theorem aC1 (a b:Nat)(hb:b<4294967296):bits .or .u64 (((a*4294967296 % 18446744073709551616:Nat):Int)) (b:Int)=((a*4294967296 % 18446744073709551616+b:Nat):Int):=by
 rw[bits_or_u64_nat _ _ (by omega) (by omega)];have e:a*4294967296 % 18446744073709551616=a % 4294967296*2 ^ 32:=by omega
 rw[e,zx _ _ 32 (by omega)]
theorem aN3 (a:Nat):(a:Int)*4294967296=((a*4294967296:Nat):Int):=by omega
theorem product (a b:Nat)(w:World)(ha:a<18446744073709551616)(hb:b<18446744073709551616) :
  Calls Tryz.prog 117 #[Z7 a,Z7 b] w fun e w'=>e=.returned (.tuple #[Z7 ((a*b / 18446744073709551616:Nat):Int),Z7 ((a*b % 18446744073709551616:Nat):Int)])/\w=w':=by
 obtain⟨c1,c2,c3,c4,c5,c6,c7,c8,c9,c10⟩:=Jb a b ha hb;have d5:=Nat.lt_of_le_of_lt (Nat.le_add_right _ _) c5;have d8:=c8 ▸ c10;have C8:=Z9 c8;have C9:=Z9 c9;clear c8 c9 c10;go_enter Tryz.func117,Tryz.ntmps117;go_wp2;simp only[Vx a ha,Vx b hb,Dx,Ld,aN3,castAdd,YA _ c1,YA _ c2,YA _ c3,YA _ c4,Vx _ c1,Vx _ c2,Vx _ c3,YA _ c5,YA _ c6,YA _ c7,YA _ d5,YA _ d8];rw[TQ,aC1 _ _ (Nat.mod_lt _ (by omega)),C8.out,C9.out];go_ret2;exact⟨rfl,rfl⟩
def Inv (H low c j r o:Nat):Prop:=H*2 ^ (64-j)+low / 2 ^ j=o*c+r/\r<c/\o<2 ^ (64-j)
theorem inv_start (H low c:Nat)(h:H<c)(hl:low<18446744073709551616):Inv H low c 64 H 0:=by
 refine⟨?_,h,by simp⟩;rw[show(2:Nat) ^ 64=18446744073709551616 from rfl,Nat.div_eq_of_lt hl];simp
theorem cO (H low c r o:Nat)(h:Inv H low c 0 r o):o=JR H low c:=by
 obtain⟨h1,h2,_⟩:=h;unfold JR;rw[Nat.sub_zero,Nat.pow_zero,Nat.div_one,show(2:Nat) ^ 64=18446744073709551616 from rfl] at h1;rw[h1,Nat.mul_comm o c,Nat.mul_add_div (by omega),Nat.div_eq_of_lt h2,Nat.add_zero]
theorem zu (H low c m r o:Nat)(hm:m<=63)(h:Inv H low c (m+1) r o):o<=9223372036854775807:=by
 have h1:(2:Nat) ^ (64-(m+1))<=2 ^ 63:=Nat.pow_le_pow_right (by omega) (by omega);have h2:=h.2.2;omega
theorem Dw (H low c m r o:Nat)(hm:m<=63)(h:Inv H low c (m+1) r o) :
  H*2 ^ (64-m)+low / 2 ^ m=(2*o)*c+(2*r+low / 2 ^ m % 2)/\2*o+1<2 ^ (64-m):=by
 obtain⟨h1,_,h3⟩:=h;have e:(2:Nat) ^ (64-m)=2 ^ (64-(m+1))*2:=by rw[<- Nat.pow_succ,show(64-(m+1)).succ=64-m by omega]
 have e2:low / 2 ^ (m+1)=low / 2 ^ m / 2:=by rw[Nat.pow_succ,Nat.div_div_eq_div_mul]
 rw[e2] at h1;rw[e,<- Nat.mul_assoc,Nat.mul_assoc 2 o c];omega
theorem cu (H low c m r o:Nat)(hm:m<=63)(h:Inv H low c (m+1) r o)(hc:c<=2*r+low / 2 ^ m % 2):Inv H low c m (2*r+low / 2 ^ m % 2-c) (o*2+1):=by
 obtain⟨h1,h2⟩:=Dw H low c m r o hm h;have h3:=h.2.1;refine⟨?_,by omega,by omega⟩;rw[h1,Nat.mul_comm o 2,Nat.add_mul];omega
theorem am3 (H low c m r o:Nat)(hm:m<=63)(h:Inv H low c (m+1) r o)(hc:2*r+low / 2 ^ m % 2<c):Inv H low c m (2*r+low / 2 ^ m % 2) (o*2):=by
 obtain⟨h1,h2⟩:=Dw H low c m r o hm h;refine⟨?_,hc,by omega⟩;rw[h1,Nat.mul_comm o 2]
theorem aN4 (n:Nat)(h:n<18446744073709551616):bits .and .u64 (n:Int) 1=((n % 2:Nat):Int):=by
 have e:=bits_and_u64_nat n 1 h (by omega);rw[Nat.and_one_is_mod] at e;exact e
theorem aC2 (a b:Nat)(hb:b<2):bits .or .u64 (((a*2 % 18446744073709551616:Nat):Int)) (b:Int)=((a*2 % 18446744073709551616+b:Nat):Int):=by
 rw[bits_or_u64_nat _ _ (by omega) (by omega)];have e:a*2 % 18446744073709551616=a % 9223372036854775808*2 ^ 1:=by omega
 rw[e,zx _ _ 1 (by omega)]
theorem uh (x y c H low:Nat)(w:World)(hx:x<18446744073709551616)(hy:y<18446744073709551616)(hc:c<18446744073709551616)(hH:H<c)(hl:low<18446744073709551616)
  (eH:Hid (x*y / 18446744073709551616=H)) (el:Hid (x*y % 18446744073709551616=low)) :
  Calls Tryz.prog 80 #[Z7 x,Z7 y,Z7 c] w fun e w'=>e=.returned (.tuple #[Z7 (JR H low c),ZW])/\w=w':=by
 have hP:=fun w=>product x y w hx hy;rw[eH.out,el.out] at hP;clear eH el;have hc0:((c:Int) == 0)=false:=by simp; omega
 have I0:=Z9 (inv_start H low c hH hl);go_enter Tryz.func80,Tryz.ntmps80;go_wp2_with (go_at_call 117; refine(hP _).mono ?_; rintro e w' ⟨rfl,rfl⟩)
 clear hP;go_loopg [8,10,11] 64 (fun g s8 s10 s11 wx=>w=wx/\∃ j r o:Nat,j<=64/\s8=Z7 r/\s10=Z7 o/\s11=Z8 ((j:Int)-1)/\j=g/\Hid (Inv H low c j r o))
 case atStart=>exact⟨rfl,64,H,0,by omega,rfl,rfl,rfl,rfl,I0⟩
 case round=>
  obtain⟨rfl,j,r,o,hj,rfl,rfl,rfl,rfl,hI⟩:=hrel;clear I0;by_cases hz:j=0
  ·subst hz;have hE:=Z9 (cO H low c r o hI.out);rw[show(((0:Nat):Int)-1)=-1 from rfl];go_wp2;go_ret2;exact⟨by rw[hE.out]; rfl,rfl⟩
  ·obtain⟨m,rfl⟩:∃ m,j=m+1:=⟨j-1,by omega⟩;rw[show(((m+1:Nat):Int)-1)=(m:Int) by omega];have hm:m<=63:=(by omega);have hr:=hI.out.2.1;have ho:=zu H low c m r o hm hI.out;have hb:low / 2 ^ m<18446744073709551616:=Nat.lt_of_le_of_lt (Nat.div_le_self _ _) hl;obtain⟨bit,eb⟩:=ZQ (low / 2 ^ m % 2);have hb2:bit<2:=(by omega);obtain⟨cy,ec⟩:=ZQ (r / 9223372036854775808);have rA:(r:Int) / 9223372036854775808=(cy:Int):=(by omega);have rB:bits .and .u64 ((low:Int) / 2 ^ m) 1=(bit:Int):=by
    rw[<- eb,<- aN4 _ hb]; simp
   have rC:bits .or .u64 (IntKind.u64.wrap ((r:Int)*2)) (bit:Int)=((r*2 % 18446744073709551616+bit:Nat):Int):=by
    rw[<- aC2 _ _ hb2,<- TQ]; simp
   obtain⟨rr,er⟩:=ZQ (r*2 % 18446744073709551616+bit);rw[er] at rC;have rC0:r<9223372036854775808->bits .or .u64 ((r:Int)*2) (bit:Int)=(rr:Int):=fun h=>by
    rw[<- rC,show(r:Int)*2=((r*2:Nat):Int) by omega,YA _ (by omega)]
   have rE:bits .or .u64 ((o:Int)*2) 1=(o:Int)*2+1:=by
    have:=aC2 o 1 (by omega);rw[show o*2 % 18446744073709551616=o*2 by omega] at this;simpa using this
   by_cases hs:c<=2*r+bit
   ·have hn:=Z9 (cu H low c m r o hm hI.out (by rw[eb]; exact hs));rw[eb] at hn;have rF:IntKind.u64.wrap ((rr:Int)-(c:Int))=((2*r+bit-c:Nat):Int):=(by rw[IntKind.wrap_u64]; omega);have hcy:cy=0∨cy=1:=(by omega);rcases hcy with hcy | hcy
    ·subst hcy;have rC1:=rC0 (by omega);have h1:c<=rr:=(by omega);have rF':(rr:Int)-(c:Int)=((2*r+bit-c:Nat):Int):=(by omega);clear hs ec er eb hr hb rC rC0 rF;go_wp2;go_roundg m
     case measure=>omega
     case rel=>exact⟨rfl,m,2*r+bit-c,o*2+1,by omega,by first | rfl | go_num,by first | rfl | go_num,by first | rfl | go_num,rfl,hn⟩
    ·subst hcy;clear rC0;clear hs ec er eb hr hb;go_wp2;go_roundg m
     case measure=>omega
     case rel=>exact⟨rfl,m,2*r+bit-c,o*2+1,by omega,by first | rfl | go_num,by first | rfl | go_num,by first | rfl | go_num,rfl,hn⟩
   ·have hn:=Z9 (am3 H low c m r o hm hI.out (by rw[eb]; omega));rw[eb] at hn;obtain rfl:cy=0:=(by omega);have rC1:=rC0 (by omega);clear rC rC0;have e2:2*r+bit=rr:=(by omega);rw[e2] at hn hs;have h1:rr<c:=(by omega);clear e2;clear hs ec er eb hr hb;go_wp2;go_roundg m
    case measure=>omega
    case rel=>exact⟨rfl,m,rr,o*2,by omega,by first | rfl | go_num,by first | rfl | go_num,by first | rfl | go_num,rfl,hn⟩
theorem zy (a b c:Int)(w:World)(ha:W64 a)(hb:W64 b)(hc:W64 c) :
  Calls Tryz.prog 80 #[Z7 a,Z7 b,Z7 c] w fun e w'=>e=.returned (.tuple #[Z7 (qY a b c),.bool (qZ a b c)])/\w=w':=by
 obtain⟨a0,a1⟩:=ha; obtain⟨b0,b1⟩:=hb; obtain⟨c0,c1⟩:=hc;obtain⟨x,rfl⟩:=Int.eq_ofNat_of_zero_le a0;obtain⟨y,rfl⟩:=Int.eq_ofNat_of_zero_le b0;obtain⟨z,rfl⟩:=Int.eq_ofNat_of_zero_le c0;have hr:=Nat.mod_lt (x*y) (show 0<18446744073709551616 by omega);by_cases h:x*y / 18446744073709551616<z
 ·obtain⟨e2,e1⟩:=ad5 x y z h;rw[e1,e2];exact uh x y z _ _ w (by omega) (by omega) (by omega) h hr (Z9 rfl) (Z9 rfl)
 ·obtain⟨e2,e1⟩:=ad6 x y z (by omega);rw[e1,e2];clear e1 e2;have hP:=fun w=>product x y w (by omega) (by omega);generalize x*y / 18446744073709551616=p at *
  generalize x*y % 18446744073709551616=r at *
  have h':(z:Int)<=(p:Int):=by omega
  have hb':decide ((z:Int)<=(p:Int))=true:=decide_eq_true h';by_cases hz:z=0
  ·subst hz;go_enter Tryz.func80,Tryz.ntmps80;go_wp2_with (go_at_call 117; refine(hP _).mono ?_; rintro e w' ⟨rfl,rfl⟩)
   go_ret2;exact⟨rfl,rfl⟩
  ·have hc0:((z:Int) == 0)=false:=(by simp; omega);go_enter Tryz.func80,Tryz.ntmps80;go_wp2_with (go_at_call 117; refine(hP _).mono ?_; rintro e w' ⟨rfl,rfl⟩)
   go_ret2;exact⟨rfl,rfl⟩
theorem wV {ρ:Operand->Value}{o:Oper}{x y:Operand}(ho:o.op=.call { callee:=.builtin .max,args:=#[x,y],argTypes:=#[3,3] })(a b:Int)(hx:ρ x=Z8 a)(hy:ρ y=Z8 b)(w:World):(execOp ρ o).run Tryz.prog w=.ok (.value (Z8 (max a b))) w:=by
 unfold execOp;simp only[ho,hx,hy,resolve,invoke,builtin,Sem.run_bind,Sem.run_pure,Result.andThen_ok,List.map_toArray,List.map_cons,List.map_nil];simp[go_sem];by_cases hab:a<b
 ·rw[if_pos hab,Int.max_eq_right (by omega)]
 ·rw[if_neg hab,Int.max_eq_left (by omega)]
theorem wU {ρ:Operand->Value}{o:Oper}{x y:Operand}(ho:o.op=.call { callee:=.builtin .min,args:=#[x,y],argTypes:=#[3,3] })(a b:Int)(hx:ρ x=Z8 a)(hy:ρ y=Z8 b)(w:World):(execOp ρ o).run Tryz.prog w=.ok (.value (Z8 (min a b))) w:=by
 unfold execOp;simp only[ho,hx,hy,resolve,invoke,builtin,Sem.run_bind,Sem.run_pure,Result.andThen_ok,List.map_toArray,List.map_cons,List.map_nil];simp[go_sem];by_cases hab:b<a
 ·rw[if_pos hab,Int.min_eq_right (by omega)]
 ·rw[if_neg hab,Int.min_eq_left (by omega)]
theorem Vz {ρ:Operand->Value}{o:Oper}{x:Operand}(ho:o.op=.convert 3 24 x)(a:Int)(h0:0<=a)(h1:a<=9223372036854775807)(hx:ρ x=Z8 a)(w:World):(execOp ρ o).run Tryz.prog w=.ok (.value (Z7 a)) w:=by
 have hw:IntKind.u64.wrap a=a:=by rw[IntKind.wrap_u64]; omega
 unfold execOp;simp only[ho,hx];go_simp
def lim (n:Int):Int:=max 0 (min n 1073741824)
def YK (s t:Int):Int:=50+lim s+20*lim t
def YR (f g:Int):Int:=if g=0 then 0 else if qZ 1000 f g=true then qY 1000 f g else 18446744073709551615
theorem UG (n:Int):0<=lim n/\lim n<=1073741824:=by unfold lim; omega
theorem wS (a b c:Int):qY b a c=qY a b c/\qZ b a c=qZ a b c:=by
 unfold qY qZ;rw[Int.mul_comm b a];exact⟨rfl,rfl⟩
theorem Ij (n:Int)(w:World):Calls Tryz.prog 135 #[Z8 n] w fun e w'=>e=.returned (Z7 (lim n))/\w=w':=by
 have hr:=UG n;have e1:min (max n 0) 1073741824=lim n:=by unfold lim; omega
 generalize lim n=L at *
 go_enter Tryz.func135,Tryz.ntmps135;go_upto_region 1 with fail;refine wl<|YI (Z8 n) rfl<|Yn (Z8 (max n 0)) (wV rfl n 0)<|YI (Z8 L) ((wU rfl (max n 0) 1073741824 (by kernel_rfl) (by kernel_rfl) _).trans (by rw[e1])) <|
  YI (Z7 L) (Vz rfl L (by omega) (by omega) (by kernel_rfl) _)<|ZV (Z7 L)<|wn ?_
 simp only[pu];go_wp2_with fail;go_ret;exact⟨rfl,rfl⟩
theorem MH (n:Int)(w:World):Calls Tryz.prog 115 #[Z8 n] w fun e w'=>e=.returned (Z7 (lim n))/\w=w':=by
 have hr:=UG n;have e1:max 0 (min n 1073741824)=lim n:=by unfold lim; omega
 generalize lim n=L at *
 go_enter Tryz.func115,Tryz.ntmps115;go_upto_region 1 with fail;refine wl<|YI (Z8 n) rfl<|Yn (Z8 (min n 1073741824)) (wU rfl n 1073741824)<|YI (Z8 L) ((wV rfl 0 (min n 1073741824) (by kernel_rfl) (by kernel_rfl) _).trans (by rw[e1])) <|
  YI (Z7 L) (Vz rfl L (by omega) (by omega) (by kernel_rfl) _)<|ZV (Z7 L)<|wn ?_
 simp only[pu];go_wp2_with fail;go_ret;exact⟨rfl,rfl⟩
theorem lC (s t:Int)(w:World):Calls Tryz.prog 107 #[Z8 s,Z8 t] w fun e w'=>e=.returned (Z7 (YK s t))/\w=w':=by
 have h1:=UG s;have h2:=UG t;have c1:=fun w=>Ij s w;have c2:=fun w=>Ij t w;unfold YK;generalize lim s=a at *
 generalize lim t=b at *
 go_enter Tryz.func107,Tryz.ntmps107;go_wp2_with fail;refine(c1 _).mono ?_;rintro e w' ⟨rfl,rfl⟩;go_wp2_with fail;refine(c2 _).mono ?_;rintro e w' ⟨rfl,rfl⟩;go_wp2;go_ret;exact⟨rfl,rfl⟩
theorem lu (s t:Int)(w:World):Calls Tryz.prog 78 #[Z8 s,Z8 t] w fun e w'=>e=.returned (Z7 (YK s t))/\w=w':=by
 have h1:=UG s;have h2:=UG t;have c1:=fun w=>MH s w;have c2:=fun w=>MH t w;unfold YK;generalize lim s=a at *
 generalize lim t=b at *
 go_enter Tryz.func78,Tryz.ntmps78;go_wp2_with fail;refine(c1 _).mono ?_;rintro e w' ⟨rfl,rfl⟩;go_wp2_with fail;refine(c2 _).mono ?_;rintro e w' ⟨rfl,rfl⟩;go_wp2;go_ret;exact⟨rfl,rfl⟩
theorem lq (a b:Int)(w:World)(ha:W64 a)(hb:W64 b) :
  Calls Tryz.prog 108 #[Z7 a,Z7 b] w fun e w'=>e=.returned (.tuple #[Z7 (Yw a b),.bool (Yl a b)])/\w=w':=by
 have c:=fun w=>uj a b w ha hb;generalize Yw a b=v at *
 generalize Yl a b=t at *
 go_enter Tryz.func108,Tryz.ntmps108;go_wp2_with fail;refine(c _).mono ?_;rintro e w' ⟨rfl,rfl⟩;go_wp2;go_ret2;exact⟨rfl,rfl⟩
theorem kY (a b:Int)(w:World)(ha:W64 a)(hb:W64 b) :
  Calls Tryz.prog 79 #[Z7 a,Z7 b] w fun e w'=>e=.returned (.tuple #[Z7 (Yw a b),.bool (Yl a b)])/\w=w':=by
 have c:=fun w=>cZ a b w ha hb;generalize Yw a b=v at *
 generalize Yl a b=t at *
 go_enter Tryz.func79,Tryz.ntmps79;go_wp2_with fail;refine(c _).mono ?_;rintro e w' ⟨rfl,rfl⟩;go_wp2;go_ret2;exact⟨rfl,rfl⟩
theorem kX (f g:Int)(w:World)(hf:W64 f)(hg:W64 g) :
  Calls Tryz.prog 42 #[Z7 f,Z7 g] w fun e w'=>e=.returned (Z7 (YR f g))/\∃ n,w'=w.drewN n:=by
 by_cases h:g=0
 ·subst h;go_enter Tryz.func42,Tryz.ntmps42;go_wp2;go_ret;exact⟨rfl,0,rfl⟩
 ·have h0:(g == 0)=false:=by simpa using h
  have c:=fun w=>FP 1000 f g w ⟨by omega,by omega⟩ hf hg;have e:YR f g=if qZ 1000 f g=true then qY 1000 f g else 18446744073709551615:=by unfold YR; rw[if_neg h]
  rw[e];clear e;generalize qY 1000 f g=v at *
  cases hb:qZ 1000 f g
  ·rw[hb] at c;clear hb;go_enter Tryz.func42,Tryz.ntmps42;go_wp2_with fail;refine(c _).mono ?_;rintro e w' ⟨rfl,n,rfl⟩;go_wp2;go_ret;exact⟨rfl,n,rfl⟩
  ·rw[hb] at c;clear hb;go_enter Tryz.func42,Tryz.ntmps42;go_wp2_with fail;refine(c _).mono ?_;rintro e w' ⟨rfl,n,rfl⟩;go_wp2;go_ret;exact⟨rfl,n,rfl⟩
theorem kW (f g:Int)(w:World)(hf:W64 f)(hg:W64 g) :
  Calls Tryz.prog 47 #[Z7 f,Z7 g] w fun e w'=>e=.returned (Z7 (YR f g))/\w=w':=by
 by_cases h:g=0
 ·subst h;go_enter Tryz.func47,Tryz.ntmps47;go_wp2;go_ret;exact⟨rfl,rfl⟩
 ·have h0:(g == 0)=false:=by simpa using h
  have c:=fun w=>zy f 1000 g w hf ⟨by omega,by omega⟩ hg;have e:YR f g=if qZ 1000 f g=true then qY 1000 f g else 18446744073709551615:=by unfold YR; rw[if_neg h]
  rw[e];rw[(wS 1000 f g).1,(wS 1000 f g).2] at c;clear e;generalize qY 1000 f g=v at *
  cases hb:qZ 1000 f g
  ·rw[hb] at c;clear hb;go_enter Tryz.func47,Tryz.ntmps47;go_wp2_with fail;refine(c _).mono ?_;rintro e w' ⟨rfl,rfl⟩;go_wp2;go_ret;exact⟨rfl,rfl⟩
  ·rw[hb] at c;clear hb;go_enter Tryz.func47,Tryz.ntmps47;go_wp2_with fail;refine(c _).mono ?_;rintro e w' ⟨rfl,rfl⟩;go_wp2;go_ret;exact⟨rfl,rfl⟩
end Go.Proofs.YtfpnnmeblefkkaaGreatDoor.Mo
namespace Go.Proofs.YtfpnnmeblefkkaaGreatDoor.Lg
open Go.RowKit
open Mo (YK YR Yl Yw)
structure X6 where
 code:Int
 snd:ByteArray
 sq:Int
 Zx:Int
 pr:Int
abbrev ZE (r:X6):Array Value:=#[Z8 r.code,.string r.snd,Z7 r.sq,Z7 r.Zx,Z7 r.pr]
def YP (e:Int):X6:=⟨e,WM,0,0,0⟩
def VX (t:YV):List Int:=t.Y8::t.tr.map (·.2)
def VP (t:YV):Bool:=KQ (VX t)
def YN (t:YV):Int:=KP (VX t)
def Vw (A:List Ac)(s:ByteArray):Ac:=if YS A s<A.length then aca A (YS A s) else (s,0,0)
def Vu (A:List Ac)(x:Tf):List Ac:=Yt A ((Vw A x.1).1,(Vw A x.1).2.1+x.2,(Vw A x.1).2.2)
def VO (A:List Ac)(t:YV):List Ac:=Yt A ((Zi A t.snd).1.1,(Zi A t.snd).1.2.1-YN t,(Zi A t.snd).1.2.2+1)
def PG (A:List Ac)(t:YV)(j:Nat):List Ac:=(t.tr.take j).foldl Vu (VO A t)
def Yb (A:List Ac)(t:YV):List Ac:=PG A t t.tr.length
def Yc (A:List Ac)(price:Int)(t:YV)(size:Int):Int:=
 if (Zi A t.snd).2=false then 13 else if (Zi A t.snd).1.2.2≠t.sq then 14 else if t.sq=18446744073709551615 then 6
 else if t.Zx<YK size t.tr.length then 15 else if Yl t.Zx price=false then 6 else if t.Y8<Yw t.Zx price then 16
 else if VP t=false then 6 else if (Zi A t.snd).1.2.1<YN t then 17 else if 256<(Yb A t).length then 3 else 0
def TF (A:List Ac)(c price:Int)(L:List Int):(List Ac×Int)×X6:=
 if YE A c≠0 then ((A,c),YP 1) else if (Zc L).2≠0 then ((A,c),YP (Zc L).2) else
 if Yc A price (Zc L).1 L.length≠0 then ((A,c),⟨Yc A price (Zc L).1 L.length,(Zc L).1.snd,(Zc L).1.sq,(Zc L).1.Zx,YR (Zc L).1.Y8 (Zc L).1.Zx⟩)
 else ((Yb A (Zc L).1,c+(Zc L).1.Y8),⟨0,(Zc L).1.snd,(Zc L).1.sq,(Zc L).1.Zx,YR (Zc L).1.Y8 (Zc L).1.Zx⟩)
theorem Vt {A:List Ac}{s:ByteArray}(h:(Zi A s).2=true):YS A s<A.length/\(Zi A s).1=aca A (YS A s)/\(Zi A s).1.1=s:=by
 unfold Zi at *
 by_cases hf:YS A s<A.length
 ·rw[if_pos hf] at *
  exact⟨hf,rfl,(Pj hf).1⟩
 ·rw[if_neg hf] at h;cases h
theorem IX (A:List Ac)(s:ByteArray):(Vw A s).1=s:=by
 unfold Vw
 split
 ·rename_i h; exact(Pj h).1
 ·rfl
theorem EM {A:List Ac}{i:Nat}{a:Ac}(h:i<A.length):tot (Ze (A.set i a))=tot (Ze A)-(aca A i).2.1+a.2.1:=by
 have e:A.set i a=A.take i++a::A.drop (i+1):=List.set_eq_take_append_cons_drop.trans (if_pos h);have e2:A=A.take i++aca A i::A.drop (i+1):=by rw[XF h,List.getElem_cons_drop,List.take_append_drop]
 have h1:tot (Ze (A.set i a))=tot (Ze (A.take i))+(a.2.1+tot (Ze (A.drop (i+1)))):=by
  rw[e]; unfold Ze; rw[List.map_append,List.map_cons,Xq,Ya]
 have h2:tot (Ze A)=tot (Ze (A.take i))+((aca A i).2.1+tot (Ze (A.drop (i+1)))):=by
  conv=>lhs; rw[e2]
  unfold Ze; rw[List.map_append,List.map_cons,Xq,Ya]
 omega
theorem yJ (A:List Ac)(a:Ac):tot (Ze (Yt A a))=tot (Ze A)-(Vw A a.1).2.1+a.2.1:=by
 by_cases h:YS A a.1<A.length
 ·rw[UN h,EM h]; unfold Vw; rw[if_pos h]
 ·rw[Qp h];have e:tot (Ze A)=tot (Ze (A.take (Yi A a.1)))+tot (Ze (A.drop (Yi A a.1))):=by
   rw[<- Xq]; unfold Ze; rw[<- List.map_append,List.take_append_drop]
  have h1:tot (Ze (A.take (Yi A a.1)++a::A.drop (Yi A a.1)))=tot (Ze (A.take (Yi A a.1)))+(a.2.1+tot (Ze (A.drop (Yi A a.1)))):=by
   unfold Ze; rw[List.map_append,List.map_cons,Xq,Ya]
  unfold Vw;rw[if_neg h,h1,e];show _=_-0+_;omega
theorem yI (A:List Ac)(x:Tf):tot (Ze (Vu A x))=tot (Ze A)+x.2:=by
 unfold Vu;rw[yJ];simp only[IX];omega
theorem yH {A:List Ac}{t:YV}(h:(Zi A t.snd).2=true):tot (Ze (VO A t))=tot (Ze A)-YN t:=by
 obtain⟨h1,h2,h3⟩:=Vt h;unfold VO;rw[yJ];have e:Vw A (Zi A t.snd).1.1=(Zi A t.snd).1:=by rw[h3]; unfold Vw; rw[if_pos h1,h2]
 simp only[e];omega
theorem qL {A:List Ac}(hw:Tz A){i:Nat}(h:i<A.length):(aca A i).2.1<=tot (Ze A):=by
 have h1:=EM (a:=(WM,0,0)) h;have h2:0<=tot (Ze (A.set i (WM,0,0))):=WL _ fun x hx=>by
  obtain⟨y,hy,rfl⟩:=List.mem_map.1 hx;rcases List.mem_or_eq_of_mem_set hy with h3 | h3
  ·exact(Qo hw y h3).1.1
  ·subst h3; decide
 have h3:((WM,0,0):Ac).2.1=0:=rfl;omega
theorem qK {A:List Ac}(hw:Tz A)(s:ByteArray):W64 (Vw A s).2.1/\W64 (Vw A s).2.2/\(Vw A s).2.1<=tot (Ze A):=by
 unfold Vw
 split
 ·rename_i h; exact⟨(hw _ h).1,(hw _ h).2,qL hw h⟩
 ·exact⟨Xd,Xd,WL _ fun x hx=>by obtain⟨y,hy,rfl⟩:=List.mem_map.1 hx; exact(Qo hw y hy).1.1⟩
def qJ (t:YV)(j:Nat):Int:=tot ((t.tr.take j).map (·.2))
theorem qI (t:YV):qJ t 0=0:=rfl
theorem EL {t:YV}{j:Nat}(h:j<t.tr.length):qJ t (j+1)=qJ t j+(tfa t.tr j).2:=by
 unfold qJ;rw[List.take_succ_eq_append_getElem h,List.map_append,Xq,VF h];show _+tot [(t.tr[j]).2]=_;rw[Ya]; show _+(_+0)=_; omega
theorem OI (t:YV):tot (VX t)=t.Y8+qJ t t.tr.length:=by
 unfold VX qJ;rw[Ya,List.take_length]
theorem Hg {t:YV}(h:VP t=true):YN t=tot (VX t)/\tot (VX t)<18446744073709551616:=by
 have h1:tot (VX t)<18446744073709551616:=of_decide_eq_true h;exact⟨if_pos h1,h1⟩
theorem ag0 {t:YV}(h:VP t=false):YN t=0:=if_neg (of_decide_eq_false h)
theorem Hf {t:YV}(h:∀ x,x∈t.tr->W64 x.2)(j:Nat):0<=qJ t j/\qJ t j<=qJ t t.tr.length:=by
 refine⟨WL _ fun x hx=>?_,?_⟩
 ·obtain⟨y,hy,rfl⟩:=List.mem_map.1 hx;exact(h y (List.mem_of_mem_take hy)).1
 ·unfold qJ;rw[List.take_length,List.map_take];refine Uj _ (fun k hk=>?_) _;rw[List.length_map] at hk;rw[List.getD_eq_getElem?_getD,List.getElem?_map,List.getElem?_eq_getElem hk];exact h _ (List.getElem_mem hk)
theorem Ph {A:List Ac}{t:YV}{j:Nat}(h:j<t.tr.length):PG A t (j+1)=Vu (PG A t j) (tfa t.tr j):=by
 unfold PG;rw[List.take_succ_eq_append_getElem h,List.foldl_append,VF h];rfl
structure yG (A:List Ac)(t:YV)(j:Nat)(B:List Ac):Prop where
 is:B=PG A t j
 w:Tz B
 s:tot (Ze B)=tot (Ze A)-tot (VX t)+qJ t j
 n:B.length<=A.length+j
theorem yG.start {A:List Ac}{t:YV}(hw:Tz A)(hg:(Zi A t.snd).2=true)(hq:(Zi A t.snd).1.2.2<18446744073709551615)(hc:VP t=true)(hb:YN t<=(Zi A t.snd).1.2.1)(h0:0<=YN t):yG A t 0 (VO A t):=by
 obtain⟨h1,h2,h3⟩:=Vt hg;have hwi:=hw _ h1;rw[<- h2] at hwi;obtain⟨⟨p0,p1⟩,q0,q1⟩:=hwi;refine⟨rfl,EK hw ⟨⟨?_,?_⟩,?_,?_⟩,?_,?_⟩
 ·show 0<=_-_; omega
 ·show _-_<=_; omega
 ·show 0<=_+1; omega
 ·show _+1<=_; omega
 ·rw[yH hg,(Hg hc).1,qI]; omega
 ·unfold VO; rw[Wv]; simp only[h3]; rw[if_pos h1]; omega
theorem yG.step {A B:List Ac}{t:YV}{j:Nat}(h:yG A t j B)(hj:j<t.tr.length)(hA:tot (Ze A)<18446744073709551616)(ht:∀ x,x∈t.tr->W64 x.2)(hf:0<=t.Y8):yG A t (j+1) (Vu B (tfa t.tr j))/\W64 ((Vw B (tfa t.tr j).1).2.1+(tfa t.tr j).2):=by
 have hx:W64 (tfa t.tr j).2:=ht _ (by rw[VF hj]; exact List.getElem_mem hj);obtain⟨⟨b0,b1⟩,⟨s0,s1⟩,b2⟩:=qK h.w (tfa t.tr j).1;have hs:=h.s;have e1:=EL hj;have l1:=(Hf ht (j+1)).2;have e2:=OI t;obtain⟨x0,x1⟩:=hx;have hW:W64 ((Vw B (tfa t.tr j).1).2.1+(tfa t.tr j).2):=⟨by omega,by omega⟩;refine⟨⟨by rw[Ph hj,h.is],EK h.w ⟨hW,s0,s1⟩,by rw[yI,hs,e1]; omega,?_⟩,hW⟩;unfold Vu;rw[Wv];have:=h.n
 split <;> omega
end Go.Proofs.YtfpnnmeblefkkaaGreatDoor.Lg
