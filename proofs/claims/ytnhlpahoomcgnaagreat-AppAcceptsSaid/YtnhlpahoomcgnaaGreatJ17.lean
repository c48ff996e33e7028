/-
  Texts joined.
-/
import Derived.Test.YtnhlpahoomcgnaaGreatJ16
import Derived.Lib.Mul64
import Derived.Lib.BitFns
import Derived.Outline
import Derived.Deep.CutBlock
set_option maxRecDepth 100000
set_option maxHeartbeats 8000000
set_option linter.unusedSimpArgs false
set_option linter.unusedVariables false
namespace Go.Proofs.YtnhlpahoomcgnaaGreat.Lg
open Go.RowKit
theorem jT (a:Option Addr)(cap:Nat)(l:List Int)(w:World)(hl:l.length<=9223372036854775807)(hc:∀ k,k<l.length->∃ b off,a=some ⟨b,off,none⟩/\w.cell? ⟨b,off+k,none⟩=some (Z4 (l.getD k 0)))(hw:∀ k,k<l.length->W64 (l.getD k 0)) :
  Calls Tryz.prog 85 #[.slice a l.length cap] w fun e w'=>e=.returned (.tuple #[Z4 (LD l),.bool (LG l)])/\w=w':=by
 go_enter Tryz.func85,Tryz.ntmps85;go_wp2_with fail;go_loopg [4,11] l.length (fun g s4 s11 wx=>w=wx/\∃ k:Nat,k<=l.length/\s4=Z4 (tot (l.take k))/\s11=Z8 k/\l.length-k=g/\Hid (tot (l.take k)<18446744073709551616))
 case atStart=>exact⟨rfl,0,by omega,rfl,rfl,rfl,Z9 (by simp[tot])⟩
 case round=>
  obtain⟨rfl,k,hk,rfl,rfl,rfl,ht⟩:=hrel;by_cases hlt:k<l.length
  ·obtain⟨b,off,ea,hcell⟩:=hc k hlt;have hx:=hw k hlt;have hts:=FB l k hlt;have ht0:=WB (l.take k) (fun x hx=>(Oi l hw x (List.mem_of_mem_take hx)).1);have hA:=fun w=>zB (tot (l.take k)) (l.getD k 0) w ⟨ht0,by have:=ht.out; omega⟩ hx;have hle:=TY l hw (k+1);obtain⟨x,hxe⟩:=ZR (l.getD k 0);obtain⟨t,hte⟩:=ZR (tot (l.take k));rw[hxe] at hcell hx hts hA;rw[hte] at hts hA ht0 ht;rw[hts] at hle;rw[hte];subst ea;clear hxe hte hc hw;by_cases hs:t+x<18446744073709551616
   ·have e1:Ns t x=t+x:=if_pos hs;have e2:Nr t x=true:=decide_eq_true hs;rw[e1,e2] at hA;have HS:=Z9 hts;have hs':=Z9 hs;clear e1 e2 hts hle;go_wp2_with (go_at_call 105; refine(hA _).mono ?_; rintro e w' ⟨rfl,rfl⟩)
    go_roundg (l.length-(k+1))
    case measure=>omega
    case rel=>exact⟨rfl,k+1,by omega,by rw[HS.out],by first | rfl | go_num,rfl,by rw[HS.out]; exact hs'⟩
   ·have e1:Ns t x=0:=if_neg hs;have e2:Nr t x=false:=decide_eq_false hs;rw[e1,e2] at hA;have f1:=Z9 (show LD l=0 from if_neg (by omega));have f2:=Z9 (show LG l=false from decide_eq_false (by omega));clear e1 e2 hts hle;go_wp2_with (go_at_call 105; refine(hA _).mono ?_; rintro e w' ⟨rfl,rfl⟩)
    go_ret2;exact⟨by rw[f1.out,f2.out]; rfl,rfl⟩
  ·obtain rfl:k=l.length:=(by omega);rw[List.take_length] at ht ⊢;have f1:=Z9 (show LD l=tot l from if_pos ht.out);have f2:=Z9 (show LG l=true from decide_eq_true ht.out);clear hc hw;go_wp2_with fail;go_ret2;exact⟨by rw[f1.out,f2.out]; rfl,rfl⟩
end Go.Proofs.YtnhlpahoomcgnaaGreat.Lg
namespace Go.Proofs.YtnhlpahoomcgnaaGreat.Mo.Ar
theorem Yz (q y1 y0:Nat):q*(y1*4294967296+y0)=q*y1*4294967296+q*y0:=by
 rw[Nat.mul_add,Nat.mul_assoc]
theorem aa7 (u d y1 y0 q r:Nat)(hi:q*y1+r=u)(h:q*y0<=4294967296*r+d):q*(y1*4294967296+y0)<=u*4294967296+d:=by
 rw[Yz];generalize q*y1=a at *
 generalize q*y0=b at *
 omega
theorem aA1 (u d y1 y0 q r:Nat)(hi:q*y1+r=u)(h:4294967296*r+d<q*y0):u*4294967296+d<q*(y1*4294967296+y0):=by
 rw[Yz];generalize q*y1=a at *
 generalize q*y0=b at *
 omega
theorem aA2 (u d y1 y0 q r:Nat)(hi:q*y1+r=u)(hr:4294967296<=r)(hq:q<=4294967296)(hy:y0<4294967296):q*(y1*4294967296+y0)<=u*4294967296+d:=by
 refine aa7 u d y1 y0 q r hi ?_;have:=Nat.mul_le_mul hq (Nat.le_of_lt_succ (Nat.lt_succ_of_lt hy));omega
def gB (u d y1 y0 q r:Nat):Prop:=
 q*y1+r=u/\(u*4294967296+d) / (y1*4294967296+y0)<=q/\q<=4294967297/\r<4294967296
theorem J8 (u d V:Nat)(hu:u<V)(hd:d<4294967296):(u*4294967296+d) / V<4294967296:=by
 rw[Nat.div_lt_iff_lt_mul (by omega)];omega
theorem IC (u d y1 y0:Nat)(hy1:2147483648<=y1)(hy1':y1<4294967296)(hy0:y0<4294967296)(hd:d<4294967296)(hu:u<y1*4294967296+y0) :
  gB u d y1 y0 (u / y1) (u % y1):=by
 have h1:u / y1*y1+u % y1=u:=Nat.div_add_mod' u y1;have h2:u % y1<y1:=Nat.mod_lt _ (by omega);refine⟨h1,?_,?_,by omega⟩
 ·rw[<- Nat.lt_succ_iff,Nat.div_lt_iff_lt_mul (by omega)];have:=Yz (u / y1).succ y1 y0;rw[this,Nat.succ_mul];generalize u / y1*y1=a at *
  have h0:0<=(u / y1).succ*y0:=Nat.zero_le _;generalize (u / y1).succ*y0=b at *
  omega
 ·rw[<- Nat.lt_succ_iff,Nat.div_lt_iff_lt_mul (by omega)];omega
theorem Ec (u d y1 y0 q r:Nat)(aO4:2147483648<=y1)(hu:u<y1*4294967296+y0)(hd:d<4294967296)(h:gB u d y1 y0 q r)
  (ht:4294967296<=q∨4294967296*r+d<q*y0) :
  1<=q/\(q-1)*y1+(r+y1)=u/\(u*4294967296+d) / (y1*4294967296+y0)<=q-1/\q-1<=4294967296:=by
 obtain⟨hi,hq,hq',hr⟩:=h;have hlt:=J8 u d (y1*4294967296+y0) hu hd;have hs:(u*4294967296+d) / (y1*4294967296+y0)<q:=by
  rcases ht with ht | ht
  ·exact Nat.lt_of_lt_of_le hlt ht
  ·rw[Nat.div_lt_iff_lt_mul (by omega)];exact aA1 u d y1 y0 q r hi ht
 have hq1:1<=q:=Nat.lt_of_le_of_lt (Nat.zero_le _) hs;have hq2:=Nat.le_sub_one_of_lt hs;clear hs hlt hq;obtain⟨k,rfl⟩:∃ k,q=k+1:=⟨q-1,by omega⟩;refine⟨by omega,?_,hq2,by omega⟩;rw[Nat.add_sub_cancel];rw[Nat.succ_mul] at hi;omega
theorem Eb (u d y1 y0 q:Nat)(hy1:2147483648<=y1)(hq:(u*4294967296+d) / (y1*4294967296+y0)<=q)(h:q*(y1*4294967296+y0)<=u*4294967296+d) :
  q=(u*4294967296+d) / (y1*4294967296+y0):=by
 have:=(Nat.le_div_iff_mul_le (show 0<y1*4294967296+y0 by omega)).2 h;omega
theorem II (u d y1 y0 q r:Nat)(hy1:2147483648<=y1)(h:gB u d y1 y0 q r)(ht:q*y0<=4294967296*r+d) :
  q=(u*4294967296+d) / (y1*4294967296+y0):=
 Eb u d y1 y0 q hy1 h.2.1 (aa7 u d y1 y0 q r h.1 ht)
theorem IJ (u d y1 y0 q r:Nat)(hy1:2147483648<=y1)(hy0:y0<4294967296)(hi:q*y1+r=u)(hq:(u*4294967296+d) / (y1*4294967296+y0)<=q)(hq':q<=4294967296)(hr:4294967296<=r) :
  q=(u*4294967296+d) / (y1*4294967296+y0):=
 Eb u d y1 y0 q hy1 hq (aA2 u d y1 y0 q r hi hr hq' hy0)
theorem Au (u d V a b:Nat)(h1:a+b=u*4294967296+d)(h2:b<V)(hV':V<18446744073709551616) :
  (((u*4294967296 % 18446744073709551616+d) % 18446744073709551616:Nat)-((a % 18446744073709551616:Nat):Int)) % 18446744073709551616=(b:Int):=by
 omega
theorem IE (u d V:Nat)(hV:0<V)(hV':V<18446744073709551616) :
  (((u*4294967296 % 18446744073709551616+d) % 18446744073709551616:Nat)-(((u*4294967296+d) / V*V % 18446744073709551616:Nat):Int)) % 18446744073709551616=(((u*4294967296+d) % V:Nat):Int):=by
 exact Au u d V _ _ (Nat.div_add_mod' (u*4294967296+d) V) (Nat.mod_lt _ hV) hV'
theorem Ea (T p y u l1 l0 q1 r1 q0 r0:Nat)(hp:0<p)(hv:0<y*p)(hT:T*p=u*18446744073709551616+(l1*4294967296+l0))
  (e1:q1*(y*p)+r1=u*4294967296+l1) (e2:q0*(y*p)+r0=r1*4294967296+l0) (e3:r0<y*p) :
  q1*4294967296+q0=T / y/\r0 / p=T % y:=by
 have e:T*p=(q1*4294967296+q0)*(y*p)+r0:=by
  rw[hT,Nat.add_mul,Nat.mul_right_comm];omega
 have d1:T*p / (y*p)=q1*4294967296+q0:=by
  rw[e,Nat.mul_comm _ (y*p),Nat.mul_add_div hv,Nat.div_eq_of_lt e3,Nat.add_zero]
 have d2:T*p % (y*p)=r0:=by
  rw[e,Nat.mul_comm _ (y*p),Nat.mul_add_mod,Nat.mod_eq_of_lt e3]
 rw[Nat.mul_div_mul_right _ _ hp] at d1;rw[Nat.mul_mod_mul_right] at d2;exact⟨d1.symm,by rw[<- d2,Nat.mul_div_cancel _ hp]⟩
theorem Aw (T p y u l1 l0:Nat)(hp:0<p)(hy:0<y)(hT:T*p=u*18446744073709551616+(l1*4294967296+l0)) :
  (u*4294967296+l1) / (y*p)*4294967296+((u*4294967296+l1) % (y*p)*4294967296+l0) / (y*p)=T / y /\
  ((u*4294967296+l1) % (y*p)*4294967296+l0) % (y*p) / p=T % y:=by
 have hv:0<y*p:=Nat.mul_pos hy hp;exact Ea T p y u l1 l0 _ _ _ _ hp hv hT (Nat.div_add_mod' _ _) (Nat.div_add_mod' _ _) (Nat.mod_lt _ hv)
theorem shifted (hi lo s:Nat)(hs:s<=63)(aO5:lo<18446744073709551616) :
  (hi*18446744073709551616+lo)*2 ^ s=(hi*2 ^ s+lo / 2 ^ (64-s))*18446744073709551616+(lo*2 ^ s % 18446744073709551616):=by
 have e:(18446744073709551616:Nat)=2 ^ (64-s)*2 ^ s:=by
  rw[<- Nat.pow_add];rw[show 64-s+s=64 by omega]
 have h:lo*2 ^ s / 18446744073709551616=lo / 2 ^ (64-s):=by
  rw[e,Nat.mul_div_mul_right _ _ (Nat.two_pow_pos s)]
 have h2:=Nat.div_add_mod' (lo*2 ^ s) 18446744073709551616;rw[h] at h2;rw[Nat.add_mul,Nat.add_mul,Nat.mul_right_comm,<- h2,<- Nat.add_assoc];simp only[Nat.mul_add_mod_self_right,Nat.mod_mod]
theorem Az (hi lo y s:Nat)(hs:s<=63)(hlo:lo<18446744073709551616)(h:hi<y) :
  hi*2 ^ s+lo / 2 ^ (64-s)<y*2 ^ s:=by
 have e:(18446744073709551616:Nat)=2 ^ s*2 ^ (64-s):=by
  rw[<- Nat.pow_add];rw[show s+(64-s)=64 by omega]
 have h1:lo / 2 ^ (64-s)<2 ^ s:=by
  rw[Nat.div_lt_iff_lt_mul (Nat.two_pow_pos _),<- e];exact hlo
 have h2:=Nat.mul_le_mul_right (2 ^ s) h;rw[Nat.succ_mul] at h2;omega
theorem nJ (q y0:Nat)(hq:q<4294967296)(hy:y0<4294967296):(q:Int)*(y0:Int)<=18446744065119617025/\q*y0<=18446744065119617025:=by
 have h:q*y0<=4294967295*4294967295:=Nat.mul_le_mul (by omega) (by omega);rw[<- Int.natCast_mul];omega
theorem L6 (r d q y0:Nat)(h:4294967296*r+d<q*y0):4294967296*(r:Int)+(d:Int)<(q:Int)*(y0:Int):=by
 rw[<- Int.natCast_mul];omega
theorem yj (r d q y0:Nat)(h:q*y0<=4294967296*r+d):(q:Int)*(y0:Int)<=4294967296*(r:Int)+(d:Int):=by
 rw[<- Int.natCast_mul];omega
end Go.Proofs.YtnhlpahoomcgnaaGreat.Mo.Ar
namespace Go.Proofs.YtnhlpahoomcgnaaGreat.Mo
open Go.RowKit
theorem Vl (a:Nat)(h:a<18446744073709551616):bits .and .u64 (a:Int) 4294967295=((a % 4294967296:Nat):Int):=
 (and_low32 (a:Int) (Int.natCast_nonneg a) (by omega)).trans (by omega)
theorem Ef (a:Nat):(a:Int) / 4294967296=((a / 4294967296:Nat):Int):=(Int.natCast_ediv a 4294967296).symm
theorem L8 (a b:Nat):(a:Int)*(b:Int)=((a*b:Nat):Int):=by simp
theorem castAdd (a b:Nat):(a:Int)+(b:Int)=((a+b:Nat):Int):=by simp
theorem TL (a:Nat):IntKind.u64.wrap (a:Int)=((a % 18446744073709551616:Nat):Int):=(IntKind.wrap_u64 a).trans (by omega)
theorem Yo (a:Nat)(h:a<18446744073709551616):IntKind.u64.wrap (a:Int)=(a:Int):=by rw[TL,Nat.mod_eq_of_lt h]
theorem halves (x y:Nat)(hx:x<18446744073709551616)(hy:y<18446744073709551616) :
  x % 4294967296*(y % 4294967296)<18446744073709551616/\x / 4294967296*(y % 4294967296)<18446744073709551616/\x % 4294967296*(y / 4294967296)<18446744073709551616/\x / 4294967296*(y / 4294967296)<18446744073709551616 /\
  x / 4294967296*(y % 4294967296)+x % 4294967296*(y % 4294967296) / 4294967296<18446744073709551616 /\
  (x / 4294967296*(y % 4294967296)+x % 4294967296*(y % 4294967296) / 4294967296) % 4294967296+x % 4294967296*(y / 4294967296)<18446744073709551616 /\
  x / 4294967296*(y / 4294967296)+(x / 4294967296*(y % 4294967296)+x % 4294967296*(y % 4294967296) / 4294967296) / 4294967296<18446744073709551616 /\
  x*y / 18446744073709551616<18446744073709551616 /\
  x / 4294967296*(y / 4294967296)+(x / 4294967296*(y % 4294967296)+x % 4294967296*(y % 4294967296) / 4294967296) / 4294967296 +
   ((x / 4294967296*(y % 4294967296)+x % 4294967296*(y % 4294967296) / 4294967296) % 4294967296+x % 4294967296*(y / 4294967296)) / 4294967296=x*y / 18446744073709551616:=by
 have e:=Lib.split_mul (x / 4294967296) (x % 4294967296) (y / 4294967296) (y % 4294967296) 4294967296;rw[Nat.div_add_mod',Nat.div_add_mod'] at e;have top:x*y / 18446744073709551616<18446744073709551616:=by
  rw[Nat.div_lt_iff_lt_mul (by omega)];exact Nat.lt_of_le_of_lt (Nat.mul_le_mul_right y (Nat.le_of_lt hx)) (Nat.mul_lt_mul_of_pos_left hy (by omega))
 have k1:=Lib.half_mul_le (a:=x % 4294967296) (b:=y % 4294967296) (by omega) (by omega);have k2:=Lib.half_mul_le (a:=x / 4294967296) (b:=y % 4294967296) (by omega) (by omega);have k3:=Lib.half_mul_le (a:=x % 4294967296) (b:=y / 4294967296) (by omega) (by omega);have k4:=Lib.half_mul_le (a:=x / 4294967296) (b:=y / 4294967296) (by omega) (by omega);generalize x*y=t at *
 generalize x % 4294967296*(y % 4294967296)=p at *
 generalize x / 4294967296*(y % 4294967296)=q at *
 generalize x % 4294967296*(y / 4294967296)=r at *
 generalize x / 4294967296*(y / 4294967296)=u at *
 clear hx hy;refine⟨?_,?_,?_,?_,?_,?_,?_,top,?_⟩ <;> omega
theorem yU (x y:Int)(hx:0<=x)(hy:0<=y)(w:World):(callFunc 132 #[Z4 x,Z4 y,Z4 0]).run Tryz.prog w =
  .ok (.value (.tuple #[Z4 ((x+y) % 18446744073709551616),Z4 ((x+y) / 18446744073709551616)])) w:=by
 rw[run_callFunc_extern Tryz.func132 (by kernel_rfl) (by kernel_rfl) (by kernel_rfl) (e:=add64Entry) (by kernel_rfl),run_add64 x y 0 hx hy (by omega) (by omega)];simp only[Result.andThen,Int.add_zero]
theorem aa4 (x y:Nat)(hx:x<18446744073709551616)(hy:y<18446744073709551616)(w:World) :
  Calls Tryz.prog 97 #[Z4 x,Z4 y] w fun e w'=>e=.returned (.tuple #[Z4 ((x*y / 18446744073709551616:Nat):Int),Z4 ((x*y % 18446744073709551616:Nat):Int)])/\w=w':=by
 obtain⟨c1,c2,c3,c4,c5,c6,c7,c8,c9⟩:=halves x y hx hy;have C:=Z9 c9;have c10:=c9 ▸ c8;clear c8 c9;go_enter Tryz.func97,Tryz.ntmps97;go_wp2;simp only[Vl x hx,Vl y hy,Ef,L8,castAdd,Yo _ c1,Yo _ c2,Yo _ c3,Yo _ c4,Yo _ c5,Vl _ c5,Yo _ c6,Yo _ c7,Yo _ c10];rw[C.out,TL];go_ret2;exact⟨rfl,rfl⟩
theorem len8_get (i:Int)(h0:0<=i)(h1:i<=255)(h:i.toNat<Lib.len8tab.size):(Lib.len8tab[i.toNat].toNat:Int)=(Lib.bitLen i.toNat:Int):=by
 rw[<- Lib.len8_of i h0 h1];unfold Lib.len8;rw[ByteArray.getElem?_lt' _ _ h,Option.getD_some]
theorem Ws (i:Int)(n:Nat)(h0:0<=i)(h1:i<=255)(h:i.toNat<Lib.len8tab.size)(hn:n<=56):wrap64 ((n:Int)+wrap64 (Lib.len8tab[i.toNat].toNat:Int))=((n+Lib.bitLen i.toNat:Nat):Int):=by
 have l:=Lib.bitLen_le8' i h0 h1;rw[len8_get i h0 h1 h];unfold wrap64;omega
theorem Aq (i:Int)(h0:0<=i)(h1:i<=255)(h:i.toNat<Lib.len8tab.size):wrap64 (wrap64 (Lib.len8tab[i.toNat].toNat:Int))=((Lib.bitLen i.toNat:Nat):Int):=by
 have:=Ws i 0 h0 h1 h (by omega);simpa using this
theorem aA3 (x:Int)(w:World)(h0:0<=x)(h1:x<=18446744073709551615) :
  Calls Tryz.prog 131 #[Z4 x] w fun e w'=>e=.returned (Z8 (Lib.bitLen x.toNat))/\w=w':=by
 have hsz:=Lib.len8tab_size;go_enter Tryz.func131,Tryz.ntmps131;go_wp2;all_goals (go_ret; refine⟨congrArg Ending.returned (congrArg (Value.int IntKind.i64) ?_),rfl⟩)
 ·exact(Ws (x / 4294967296 / 65536 / 256) 56 (by omega) (by omega) (by omega) (by omega)).trans (by rw[show(x / 4294967296 / 65536 / 256).toNat=x.toNat / 72057594037927936 from by omega,<- Lib.bitLen_shift56 x.toNat (by omega) (by omega)])
 ·exact(Ws (x / 4294967296 / 65536) 48 (by omega) (by omega) (by omega) (by omega)).trans (by rw[show(x / 4294967296 / 65536).toNat=x.toNat / 281474976710656 from by omega,<- Lib.bitLen_shift48 x.toNat (by omega) (by omega)])
 ·exact(Ws (x / 4294967296 / 256) 40 (by omega) (by omega) (by omega) (by omega)).trans (by rw[show(x / 4294967296 / 256).toNat=x.toNat / 1099511627776 from by omega,<- Lib.bitLen_shift40 x.toNat (by omega) (by omega)])
 ·exact(Ws (x / 4294967296) 32 (by omega) (by omega) (by omega) (by omega)).trans (by rw[show(x / 4294967296).toNat=x.toNat / 4294967296 from by omega,<- Lib.bitLen_shift32 x.toNat (by omega) (by omega)])
 ·exact(Ws (x / 65536 / 256) 24 (by omega) (by omega) (by omega) (by omega)).trans (by rw[show(x / 65536 / 256).toNat=x.toNat / 16777216 from by omega,<- Lib.bitLen_shift24 x.toNat (by omega) (by omega)])
 ·exact(Ws (x / 65536) 16 (by omega) (by omega) (by omega) (by omega)).trans (by rw[show(x / 65536).toNat=x.toNat / 65536 from by omega,<- Lib.bitLen_shift16 x.toNat (by omega) (by omega)])
 ·exact(Ws (x / 256) 8 (by omega) (by omega) (by omega) (by omega)).trans (by rw[show(x / 256).toNat=x.toNat / 256 from by omega,<- Lib.bitLen_shift8 x.toNat (by omega) (by omega)])
 ·exact Aq x h0 (by omega) (by omega)
def lz (y:Nat):Nat:=64-Lib.bitLen y
theorem Gs (f:Nat):∀ x:Nat,x<2 ^ f->x<2 ^ Lib.bitLenAux f x:=by
 induction f with
 | zero=>intro x hx; simpa [Lib.bitLenAux] using hx
 | succ f ih=>
  intro x hx;simp only[Lib.bitLenAux]
  split
  ·subst_vars; simp
  ·have:=ih (x / 2) (by rw[Nat.pow_succ] at hx; omega);rw[Nat.add_comm,Nat.pow_succ];omega
theorem Gq (f:Nat):∀ x:Nat,x<2 ^ f->0<x->2 ^ (Lib.bitLenAux f x-1)<=x:=by
 induction f with
 | zero=>intro x hx h; simp at hx; omega
 | succ f ih=>
  intro x hx h;simp only[Lib.bitLenAux];rw[if_neg (by omega),Nat.add_sub_cancel_left];by_cases h2:x / 2=0
  ·have:Lib.bitLenAux f (x / 2)=0:=(by rw[h2]; cases f <;> simp[Lib.bitLenAux]);rw[this];omega
  ·have h3:=ih (x / 2) (by rw[Nat.pow_succ] at hx; omega) (by omega);have h4:1<=Lib.bitLenAux f (x / 2):=by
    cases f with
    | zero=>simp at hx; omega
    | succ f=>simp[Lib.bitLenAux,h2]
   generalize Lib.bitLenAux f (x / 2)=k at *
   obtain⟨j,rfl⟩:∃ j,k=j+1:=⟨k-1,by omega⟩;rw[Nat.add_sub_cancel] at h3;rw[Nat.pow_succ];omega
theorem IG (y:Nat)(h0:0<y)(h1:y<18446744073709551616):lz y<=63/\Lib.bitLen y<=64/\9223372036854775808<=y*2 ^ lz y/\y*2 ^ lz y<18446744073709551616:=by
 have a:=Gs 64 y (by omega);have b:=Gq 64 y (by omega) h0;have c:=Lib.bitLen_le y 64 (by omega) (by omega);unfold lz;change Lib.bitLenAux 64 y<=64 at c;change 64-Lib.bitLenAux 64 y<=63/\Lib.bitLenAux 64 y<=64/\_<=y*2 ^ (64-Lib.bitLenAux 64 y)/\y*2 ^ (64-Lib.bitLenAux 64 y)<_;generalize Lib.bitLenAux 64 y=k at *
 have hk:1<=k:=by
  cases k with
  | zero=>simp at a; omega
  | succ k=>omega
 refine⟨by omega,c,?_,?_⟩
 ·have:=Nat.mul_le_mul_right (2 ^ (64-k)) b;rw[<- Nat.pow_add,show k-1+(64-k)=63 by omega] at this;exact this
 ·have:=Nat.mul_lt_mul_of_pos_right a (Nat.two_pow_pos (64-k));rw[<- Nat.pow_add,show k+(64-k)=64 by omega] at this;exact this
theorem aK4 (y:Nat)(w:World)(h0:0<y)(h1:y<18446744073709551616) :
  Calls Tryz.prog 121 #[Z4 y] w fun e w'=>e=.returned (Z8 (lz y))/\w=w':=by
 obtain⟨_,hb,_,_⟩:=IG y h0 h1;have e8:(64-(Lib.bitLen y:Int))=(lz y:Int):=by unfold lz; omega
 go_enter Tryz.func121,Tryz.ntmps121;go_wp2_with (go_at_call 131; refine(aA3 (y:Int) _ (by omega) (by omega)).mono ?_; rintro e w' ⟨rfl,rfl⟩)
 go_ret;exact⟨by simp,rfl⟩
theorem Ar.Ed (q:Nat)(h:1<=q):Value.int IntKind.u64 ((q:Int)-1)=Value.int IntKind.u64 ((q-1:Nat):Int):=by
 rw[show((q-1:Nat):Int)=(q:Int)-1 by omega]
theorem Ar.gG (q p:Nat)(h:1<=q)(e:q-1=p):Value.int IntKind.u64 ((q:Int)-1)=Value.int IntKind.u64 (p:Int):=by
 subst e;exact Ar.Ed q h
theorem nK (hi lo y V y1 y0 u l l1 l0 qa ra q1 u2 qb rb q0 R1 R:Nat)(w:World)(h:0<hi)(hlt:hi<y)(_h1:lo<18446744073709551616)(h2:y<18446744073709551616)
  (z1:lz y<=63) (b1:2147483648<=y1) (b1':y1<4294967296) (b0:y0<4294967296) (aK2:l1<4294967296) (aK3:l0<4294967296) (aO3:u<18446744073709551616) (aN7:u2<18446744073709551616)
  (bu:Hid (u<y1*4294967296+y0)) (bu2:Hid (u2<y1*4294967296+y0)) (bq1:q1<4294967296) (bq0:q0<4294967296)
  (eq1:Hid (q1=(u*4294967296+l1) / (y1*4294967296+y0))) (eq0:Hid (q0=(u2*4294967296+l0) / (y1*4294967296+y0)))
  (eqa:Hid (Ar.gB u l1 y1 y0 qa ra)) (eqb:Hid (Ar.gB u2 l0 y1 y0 qb rb))
  (rV:IntKind.u64.wrap ((y:Int)*2 ^ lz y)=(V:Int)) (r9:(V:Int) / 4294967296=(y1:Int)) (r10:bits .and .u64 (V:Int) 4294967295=(y0:Int))
  (r11:bits .or .u64 (IntKind.u64.wrap ((hi:Int)*2 ^ lz y)) ((lo:Int) / 2 ^ (64-lz y))=(u:Int))
  (r12:IntKind.u64.wrap ((lo:Int)*2 ^ lz y)=(l:Int)) (r13:(l:Int) / 4294967296=(l1:Int)) (r14:bits .and .u64 (l:Int) 4294967295=(l0:Int))
  (ra1:IntKind.u64.wrap ((u:Int) / (y1:Int))=(qa:Int)) (ra2:IntKind.u64.wrap ((u:Int)-IntKind.u64.wrap ((qa:Int)*(y1:Int)))=(ra:Int))
  (ru2:Hid (IntKind.u64.wrap (IntKind.u64.wrap (IntKind.u64.wrap ((u:Int)*4294967296)+(l1:Int))-IntKind.u64.wrap ((q1:Int)*(V:Int)))=(u2:Int)))
  (rb1:Hid (IntKind.u64.wrap ((u2:Int) / (y1:Int))=(qb:Int))) (rb2:Hid (IntKind.u64.wrap ((u2:Int)-IntKind.u64.wrap ((qb:Int)*(y1:Int)))=(rb:Int)))
  (rR:Hid (IntKind.u64.wrap (IntKind.u64.wrap (IntKind.u64.wrap ((u2:Int)*4294967296)+(l0:Int))-IntKind.u64.wrap ((q0:Int)*(V:Int)))=(R1:Int))) (rR1:Hid ((R1:Int) / 2 ^ lz y=(R:Int))) :
  Calls Tryz.prog 98 #[Z4 hi,Z4 lo,Z4 y] w fun e w'=>e=.returned (.tuple #[Z4 ((q1*4294967296+q0:Nat):Int),Z4 (R:Int)])/\w=w':=by
 have hy:((y:Int) == 0)=false:=by simp; omega
 have hh:((hi:Int) == 0)=false:=by simp; omega
 have hy1:((y1:Int) == 0)=false:=by simp; omega
 go_enter Tryz.func98,Tryz.ntmps98;go_upto_block 0 with (go_at_call 121; refine(aK4 y _ (by omega) h2).mono ?_; rintro e w' ⟨rfl,rfl⟩)
 clear rV r9 r10 r11 r12 r13 r14 ra1 ra2;go_cut [15] (fun s15 wx=>w=wx/\s15=Z4 q1)
 case first=>
  go_wp2_with fail;go_loopg [15,16] qa (fun g s15 s16 wx=>w=wx/\∃ q r:Nat,s15=Z4 q/\s16=Z4 r/\q=g/\Hid (Ar.gB u l1 y1 y0 q r))
  case atStart=>exact⟨rfl,qa,ra,rfl,rfl,rfl,eqa⟩
  case round=>
   obtain⟨rfl,q,r,rfl,rfl,rfl,he⟩:=hrel;have ha:(q:Int)<=4294967297:=(by have:=he.out.2.2.1; omega);have hb:(r:Int)<4294967296:=(by have:=he.out.2.2.2; omega);have hm:(q:Int)<4294967296->(q:Int)*(y0:Int)<=18446744065119617025:=fun hq=>(Ar.nJ q y0 (by omega) (by omega)).1;have hm0:(0:Int)<=(q:Int)*(y0:Int):=Int.mul_nonneg (by omega) (by omega);by_cases ht:4294967296<=q∨4294967296*r+l1<q*y0
   ·obtain⟨s1,s2,s3,s4⟩:=Ar.Ec u l1 y1 y0 q r b1 bu.out aK2 he.out ht;by_cases hB:4294967296<=r+y1
    ·have hf:=Z9 (Ar.IJ u l1 y1 y0 (q-1) (r+y1) b1 b0 s2 s3 s4 hB);have hB':(4294967296:Int)<=(r:Int)+(y1:Int):=(by omega);have hbB:decide ((4294967296:Int)<=(r:Int)+(y1:Int))=true:=decide_eq_true hB';clear s2 s3 s4 hB;by_cases hq:4294967296<=q
     ·have hq':(4294967296:Int)<=(q:Int):=(by omega);clear hm ht hq;go_wp2;go_meet;exact⟨rfl,Ar.gG q q1 s1 (by rw[eq1.out,hf.out])⟩
     ·have hm':=hm (by omega);have hq':(q:Int)<(4294967296:Int):=(by omega);have ht':4294967296*(r:Int)+(l1:Int)<(q:Int)*(y0:Int):=Ar.L6 r l1 q y0 (ht.resolve_left hq);obtain⟨P,hP⟩:∃ P:Int,(q:Int)*(y0:Int)=P:=⟨_,rfl⟩;rw[hP] at ht' hm' hm0;obtain⟨M,hM⟩:∃ M:Int,4294967296*(r:Int)=M:=⟨_,rfl⟩;have hM0:0<=M/\M<=18446744069414584320:=(by omega);rw[hM] at ht';have hbq:decide ((4294967296:Int)<=(q:Int))=false:=decide_eq_false (by omega);have hbP:decide (M+(l1:Int)<P)=true:=decide_eq_true (by omega);clear hm ht hq;go_wp2;go_meet;exact⟨rfl,Ar.gG q q1 s1 (by rw[eq1.out,hf.out])⟩
    ·have hn:Hid (Ar.gB u l1 y1 y0 (q-1) (r+y1)):=Z9 ⟨s2,s3,by omega,by omega⟩;have hB':(r:Int)+(y1:Int)<(4294967296:Int):=(by omega);have hbB:decide ((4294967296:Int)<=(r:Int)+(y1:Int))=false:=decide_eq_false (by omega);clear s2 s3 s4 hB;by_cases hq:4294967296<=q
     ·have hq':(4294967296:Int)<=(q:Int):=(by omega);clear hm ht hq;go_wp2;go_roundg (q-1)
      case measure=>omega
      case rel=>exact⟨rfl,q-1,r+y1,Ar.Ed q s1,by first | rfl | go_num,rfl,hn⟩
     ·have hm':=hm (by omega);have hq':(q:Int)<(4294967296:Int):=(by omega);have ht':4294967296*(r:Int)+(l1:Int)<(q:Int)*(y0:Int):=Ar.L6 r l1 q y0 (ht.resolve_left hq);obtain⟨P,hP⟩:∃ P:Int,(q:Int)*(y0:Int)=P:=⟨_,rfl⟩;rw[hP] at ht' hm' hm0;obtain⟨M,hM⟩:∃ M:Int,4294967296*(r:Int)=M:=⟨_,rfl⟩;have hM0:0<=M/\M<=18446744069414584320:=(by omega);rw[hM] at ht';have hbq:decide ((4294967296:Int)<=(q:Int))=false:=decide_eq_false (by omega);have hbP:decide (M+(l1:Int)<P)=true:=decide_eq_true (by omega);clear hm ht hq;go_wp2;go_roundg (q-1)
      case measure=>omega
      case rel=>exact⟨rfl,q-1,r+y1,Ar.Ed q s1,by first | rfl | go_num,rfl,hn⟩
   ·have hq:q<4294967296:=(by omega);have hm':=hm (by omega);have hq':(q:Int)<(4294967296:Int):=(by omega);have ht':(q:Int)*(y0:Int)<=4294967296*(r:Int)+(l1:Int):=Ar.yj r l1 q y0 (by omega);have hf:=Z9 (Ar.II u l1 y1 y0 q r b1 he.out (by omega));obtain⟨P,hP⟩:∃ P:Int,(q:Int)*(y0:Int)=P:=⟨_,rfl⟩;rw[hP] at ht' hm' hm0;obtain⟨M,hM⟩:∃ M:Int,4294967296*(r:Int)=M:=⟨_,rfl⟩;have hM0:0<=M/\M<=18446744069414584320:=(by omega);rw[hM] at ht';have hbq:decide ((4294967296:Int)<=(q:Int))=false:=decide_eq_false (by omega);have hbP:decide (M+(l1:Int)<P)=false:=decide_eq_false (by omega);clear hm ht hq;go_wp2;go_meet;exact⟨rfl,by rw[eq1.out,hf.out]⟩
 case rest=>
  obtain⟨rfl,rfl⟩:=hcut;have r1:=ru2.out;have r2:=rb1.out;have r3:=rb2.out;go_upto_block 2 with fail;clear r1 r2 r3;go_cut [18] (fun s18 wx=>w=wx/\s18=Z4 q0)
  case first=>
   go_wp2_with fail;go_loopg [18,16] qb (fun g s18 s16 wx=>w=wx/\∃ q r:Nat,s18=Z4 q/\s16=Z4 r/\q=g/\Hid (Ar.gB u2 l0 y1 y0 q r))
   case atStart=>exact⟨rfl,qb,rb,rfl,rfl,rfl,eqb⟩
   case round=>
    obtain⟨rfl,q,r,rfl,rfl,rfl,he⟩:=hrel;have ha:(q:Int)<=4294967297:=(by have:=he.out.2.2.1; omega);have hb:(r:Int)<4294967296:=(by have:=he.out.2.2.2; omega);have hm:(q:Int)<4294967296->(q:Int)*(y0:Int)<=18446744065119617025:=fun hq=>(Ar.nJ q y0 (by omega) (by omega)).1;have hm0:(0:Int)<=(q:Int)*(y0:Int):=Int.mul_nonneg (by omega) (by omega);by_cases ht:4294967296<=q∨4294967296*r+l0<q*y0
    ·obtain⟨s1,s2,s3,s4⟩:=Ar.Ec u2 l0 y1 y0 q r b1 bu2.out aK3 he.out ht;by_cases hB:4294967296<=r+y1
     ·have hf:=Z9 (Ar.IJ u2 l0 y1 y0 (q-1) (r+y1) b1 b0 s2 s3 s4 hB);have hB':(4294967296:Int)<=(r:Int)+(y1:Int):=(by omega);have hbB:decide ((4294967296:Int)<=(r:Int)+(y1:Int))=true:=decide_eq_true hB';clear s2 s3 s4 hB;by_cases hq:4294967296<=q
      ·have hq':(4294967296:Int)<=(q:Int):=(by omega);clear hm ht hq;go_wp2;go_meet;exact⟨rfl,Ar.gG q q0 s1 (by rw[eq0.out,hf.out])⟩
      ·have hm':=hm (by omega);have hq':(q:Int)<(4294967296:Int):=(by omega);have ht':4294967296*(r:Int)+(l0:Int)<(q:Int)*(y0:Int):=Ar.L6 r l0 q y0 (ht.resolve_left hq);obtain⟨P,hP⟩:∃ P:Int,(q:Int)*(y0:Int)=P:=⟨_,rfl⟩;rw[hP] at ht' hm' hm0;obtain⟨M,hM⟩:∃ M:Int,4294967296*(r:Int)=M:=⟨_,rfl⟩;have hM0:0<=M/\M<=18446744069414584320:=(by omega);rw[hM] at ht';have hbq:decide ((4294967296:Int)<=(q:Int))=false:=decide_eq_false (by omega);have hbP:decide (M+(l0:Int)<P)=true:=decide_eq_true (by omega);clear hm ht hq;go_wp2;go_meet;exact⟨rfl,Ar.gG q q0 s1 (by rw[eq0.out,hf.out])⟩
     ·have hn:Hid (Ar.gB u2 l0 y1 y0 (q-1) (r+y1)):=Z9 ⟨s2,s3,by omega,by omega⟩;have hB':(r:Int)+(y1:Int)<(4294967296:Int):=(by omega);have hbB:decide ((4294967296:Int)<=(r:Int)+(y1:Int))=false:=decide_eq_false (by omega);clear s2 s3 s4 hB;by_cases hq:4294967296<=q
      ·have hq':(4294967296:Int)<=(q:Int):=(by omega);clear hm ht hq;go_wp2;go_roundg (q-1)
       case measure=>omega
       case rel=>exact⟨rfl,q-1,r+y1,Ar.Ed q s1,by first | rfl | go_num,rfl,hn⟩
      ·have hm':=hm (by omega);have hq':(q:Int)<(4294967296:Int):=(by omega);have ht':4294967296*(r:Int)+(l0:Int)<(q:Int)*(y0:Int):=Ar.L6 r l0 q y0 (ht.resolve_left hq);obtain⟨P,hP⟩:∃ P:Int,(q:Int)*(y0:Int)=P:=⟨_,rfl⟩;rw[hP] at ht' hm' hm0;obtain⟨M,hM⟩:∃ M:Int,4294967296*(r:Int)=M:=⟨_,rfl⟩;have hM0:0<=M/\M<=18446744069414584320:=(by omega);rw[hM] at ht';have hbq:decide ((4294967296:Int)<=(q:Int))=false:=decide_eq_false (by omega);have hbP:decide (M+(l0:Int)<P)=true:=decide_eq_true (by omega);clear hm ht hq;go_wp2;go_roundg (q-1)
       case measure=>omega
       case rel=>exact⟨rfl,q-1,r+y1,Ar.Ed q s1,by first | rfl | go_num,rfl,hn⟩
    ·have hq:q<4294967296:=(by omega);have hm':=hm (by omega);have hq':(q:Int)<(4294967296:Int):=(by omega);have ht':(q:Int)*(y0:Int)<=4294967296*(r:Int)+(l0:Int):=Ar.yj r l0 q y0 (by omega);have hf:=Z9 (Ar.II u2 l0 y1 y0 q r b1 he.out (by omega));obtain⟨P,hP⟩:∃ P:Int,(q:Int)*(y0:Int)=P:=⟨_,rfl⟩;rw[hP] at ht' hm' hm0;obtain⟨M,hM⟩:∃ M:Int,4294967296*(r:Int)=M:=⟨_,rfl⟩;have hM0:0<=M/\M<=18446744069414584320:=(by omega);rw[hM] at ht';have hbq:decide ((4294967296:Int)<=(q:Int))=false:=decide_eq_false (by omega);have hbP:decide (M+(l0:Int)<P)=false:=decide_eq_false (by omega);clear hm ht hq;go_wp2;go_meet;exact⟨rfl,by rw[eq0.out,hf.out]⟩
  case rest=>
   obtain⟨rfl,rfl⟩:=hcut;have r4:=rR.out;have r5:=rR1.out;go_wp2;go_ret2;exact⟨by simp,rfl⟩
def J9 (hi lo y:Nat):Nat:=(hi*18446744073709551616+lo) / y
def vN (hi lo y:Nat):Nat:=(hi*18446744073709551616+lo) % y
theorem gu (lo y:Nat)(w:World)(h1:lo<18446744073709551616)(h2:y<18446744073709551616)(h0:0<y) :
  Calls Tryz.prog 98 #[Z4 0,Z4 lo,Z4 y] w fun e w'=>e=.returned (.tuple #[Z4 (J9 0 lo y),Z4 (vN 0 lo y)])/\∃ n,w'=w.drewN n:=by
 have hy:((y:Int) == 0)=false:=by simp; omega
 have rq:IntKind.u64.wrap ((lo:Int) / (y:Int))=((lo / y:Nat):Int):=by rw[<- Int.natCast_ediv]; exact Yo _ (Nat.lt_of_le_of_lt (Nat.div_le_self lo y) h1)
 have eQ:J9 0 lo y=lo / y:=by simp[J9]
 have eR:vN 0 lo y=lo % y:=by simp[vN]
 rw[eQ,eR];clear eQ eR;go_enter Tryz.func98,Tryz.ntmps98;go_wp2
 go_quiet (fail)
 go_wp2;go_ret2;exact⟨by simp,_,rfl⟩
theorem az9 (u y1:Nat)(hu:u<18446744073709551616):IntKind.u64.wrap ((u:Int) / (y1:Int))=((u / y1:Nat):Int):=by
 rw[<- Int.natCast_ediv]; exact Yo _ (Nat.lt_of_le_of_lt (Nat.div_le_self u y1) hu)
theorem aA0 (u y1:Nat)(hu:u<18446744073709551616):IntKind.u64.wrap ((u:Int)-IntKind.u64.wrap (((u / y1:Nat):Int)*(y1:Int)))=((u % y1:Nat):Int):=by
 have h:=Nat.div_add_mod' u y1;rw[L8,Yo _ (by omega),IntKind.wrap_u64];omega
theorem aa6 (u d V q b:Nat)(h:(((u*4294967296 % 18446744073709551616+d) % 18446744073709551616:Nat)-((q*V % 18446744073709551616:Nat):Int)) % 18446744073709551616=(b:Int)) :
  IntKind.u64.wrap (IntKind.u64.wrap (IntKind.u64.wrap ((u:Int)*4294967296)+(d:Int))-IntKind.u64.wrap ((q:Int)*(V:Int)))=(b:Int):=by
 rw[show(u:Int)*4294967296=((u*4294967296:Nat):Int) by omega,TL,castAdd,TL,L8,TL,IntKind.wrap_u64];exact h
theorem AB (a b s:Nat)(hb:b<2 ^ s):a*2 ^ s ||| b=a*2 ^ s+b:=by
 rw[Nat.mul_comm,Nat.two_pow_add_eq_or_of_lt hb]
theorem fZ (hi lo y:Nat)(w:World)(h:0<hi)(hlt:hi<y)(h1:lo<18446744073709551616)(h2:y<18446744073709551616) :
  Calls Tryz.prog 98 #[Z4 hi,Z4 lo,Z4 y] w fun e w'=>e=.returned (.tuple #[Z4 (J9 hi lo y),Z4 (vN hi lo y)])/\w=w':=by
 obtain⟨z1,_,z3,z4⟩:=IG y (by omega) h2;have c1:=Ar.shifted hi lo (lz y) z1 h1;have c2:=Ar.Az hi lo y (lz y) z1 h1 hlt;have c3:=Nat.two_pow_pos (lz y);have e0:(18446744073709551616:Nat)=2 ^ lz y*2 ^ (64-lz y):=by
  rw[<- Nat.pow_add,show lz y+(64-lz y)=64 by omega]
 have c4:lo / 2 ^ (64-lz y)<2 ^ lz y:=by
  rw[Nat.div_lt_iff_lt_mul (Nat.two_pow_pos _),<- e0];exact h1
 clear e0;have dl:=Nat.mod_lt (lo*2 ^ lz y) (show 0<18446744073709551616 by omega);have c5:hi*2 ^ lz y+lo / 2 ^ (64-lz y)<18446744073709551616:=Nat.lt_trans c2 z4;have r11:bits .or .u64 (IntKind.u64.wrap ((hi:Int)*2 ^ lz y)) ((lo:Int) / 2 ^ (64-lz y))=((hi*2 ^ lz y+lo / 2 ^ (64-lz y):Nat):Int):=by
  have a1:IntKind.u64.wrap ((hi:Int)*2 ^ lz y)=((hi*2 ^ lz y:Nat):Int):=by
   rw[<- Yo (hi*2 ^ lz y) (Nat.lt_of_le_of_lt (Nat.le_add_right _ _) c5)]; simp
  have a2:((lo:Int) / 2 ^ (64-lz y))=((lo / 2 ^ (64-lz y):Nat):Int):=by simp
  rw[a1,a2,bits_or_u64_nat _ _ (Nat.lt_of_le_of_lt (Nat.le_add_right _ _) c5) (Nat.lt_of_le_of_lt (Nat.le_add_left _ _) c5),AB _ _ _ c4]
 have rV:IntKind.u64.wrap ((y:Int)*2 ^ lz y)=((y*2 ^ lz y:Nat):Int):=by
  rw[<- Yo (y*2 ^ lz y) z4]; simp
 have r12:IntKind.u64.wrap ((lo:Int)*2 ^ lz y)=((lo*2 ^ lz y % 18446744073709551616:Nat):Int):=by
  rw[<- TL (lo*2 ^ lz y)]; simp
 have rR1:∀ n:Nat,((n:Int) / 2 ^ lz y)=((n / 2 ^ lz y:Nat):Int):=fun n=>by simp
 have T:=Ar.Aw (hi*18446744073709551616+lo) (2 ^ lz y) y (hi*2 ^ lz y+lo / 2 ^ (64-lz y)) (lo*2 ^ lz y % 18446744073709551616 / 4294967296) (lo*2 ^ lz y % 18446744073709551616 % 4294967296) c3 (by omega)
  (by rw[c1,Nat.div_add_mod'])
 change _=J9 hi lo y/\_=vN hi lo y at T;rw[<- T.1,<- T.2];clear T c1;generalize hi*2 ^ lz y+lo / 2 ^ (64-lz y)=u at *
 generalize lo*2 ^ lz y % 18446744073709551616=l at *
 generalize y*2 ^ lz y=V at *
 have eV:V / 4294967296*4294967296+V % 4294967296=V:=Nat.div_add_mod' V 4294967296;have f1:2147483648<=V / 4294967296:=by omega
 have f2:V / 4294967296<4294967296:=by omega
 have f3:V % 4294967296<4294967296:=by omega
 have g1:l / 4294967296<4294967296:=by omega
 have g0:l % 4294967296<4294967296:=by omega
 have hV0:0<V:=by omega
 have k2:=Nat.mod_lt (u*4294967296+l / 4294967296) hV0;have k1:=Ar.J8 u (l / 4294967296) V c2 g1;have k0:=Ar.J8 ((u*4294967296+l / 4294967296) % V) (l % 4294967296) V k2 g0;have m1:=Ar.IE u (l / 4294967296) V hV0 z4;have m0:=Ar.IE ((u*4294967296+l / 4294967296) % V) (l % 4294967296) V hV0 z4;refine nK hi lo y V (V / 4294967296) (V % 4294967296) u l (l / 4294967296) (l % 4294967296) (u / (V / 4294967296)) (u % (V / 4294967296)) ((u*4294967296+l / 4294967296) / V) ((u*4294967296+l / 4294967296) % V)
  ((u*4294967296+l / 4294967296) % V / (V / 4294967296)) ((u*4294967296+l / 4294967296) % V % (V / 4294967296)) (((u*4294967296+l / 4294967296) % V*4294967296+l % 4294967296) / V)
  (((u*4294967296+l / 4294967296) % V*4294967296+l % 4294967296) % V) (((u*4294967296+l / 4294967296) % V*4294967296+l % 4294967296) % V / 2 ^ lz y) w h hlt h1 h2 z1 f1 f2 f3 g1 g0 c5 (Nat.lt_trans k2 z4)
  (by rw[eV]; exact Z9 c2) (by rw[eV]; exact Z9 k2) k1 k0 (by rw[eV]; exact Z9 rfl) (by rw[eV]; exact Z9 rfl)
  (Z9 (Ar.IC _ _ _ _ f1 f2 f3 g1 (by rw[eV]; exact c2))) (Z9 (Ar.IC _ _ _ _ f1 f2 f3 g0 (by rw[eV]; exact k2)))
  rV (by omega) (Vl V z4) r11 r12 (by omega) (Vl l dl) ?_ ?_ ?_ ?_ ?_ ?_ ?_
 ·exact az9 u _ (Nat.lt_trans c2 z4)
 ·exact aA0 u _ (Nat.lt_trans c2 z4)
 ·exact Z9 (aa6 u _ V _ _ m1)
 ·exact Z9 (az9 _ _ (Nat.lt_trans k2 z4))
 ·exact Z9 (aA0 _ _ (Nat.lt_trans k2 z4))
 ·exact Z9 (aa6 _ _ V _ _ m0)
 ·exact Z9 (rR1 _)
theorem aa5 (hi lo y:Nat)(w:World)(hlt:hi<y)(h1:lo<18446744073709551616)(h2:y<18446744073709551616) :
  Calls Tryz.prog 98 #[Z4 hi,Z4 lo,Z4 y] w fun e w'=>e=.returned (.tuple #[Z4 (J9 hi lo y),Z4 (vN hi lo y)])/\∃ n,w'=w.drewN n:=by
 by_cases h:hi=0
 ·subst h;exact gu lo y w h1 h2 hlt
 ·exact(fZ hi lo y w (by omega) hlt h1 h2).mono fun e w' ⟨he,hw⟩=>⟨he,0,hw ▸ rfl⟩
#print axioms aa5
def Ym (a b:Int):Bool:=decide (a*b<18446744073709551616)
def Yz (a b:Int):Int:=if a*b<18446744073709551616 then a*b else 0
def uz (a b c:Int):Bool:=decide (a*b<c*18446744073709551616)
def uy (a b c:Int):Int:=if a*b<c*18446744073709551616 then a*b / c else 0
theorem vP (a b:Int)(w:World)(ha:W64 a)(hb:W64 b) :
  Calls Tryz.prog 123 #[Z4 a,Z4 b] w fun e w'=>e=.returned (.tuple #[Z4 (Yz a b),.bool (Ym a b)])/\w=w':=by
 obtain⟨a0,a1⟩:=ha; obtain⟨b0,b1⟩:=hb;obtain⟨x,rfl⟩:=Int.eq_ofNat_of_zero_le a0;obtain⟨y,rfl⟩:=Int.eq_ofNat_of_zero_le b0;have hM:=fun w=>aa4 x y (by omega) (by omega) w;by_cases h:x*y<18446744073709551616
 ·have h':(x:Int)*(y:Int)<18446744073709551616:=by rw[<- Int.natCast_mul]; omega
  have e1:Yz x y=((x*y:Nat):Int):=by rw[Int.natCast_mul]; exact if_pos h'
  have e2:Ym x y=true:=decide_eq_true h';have q1:x*y % 18446744073709551616=x*y:=Nat.mod_eq_of_lt h;have q2:x*y / 18446744073709551616=0:=Nat.div_eq_of_lt h;rw[e1,e2];simp only[q1,q2] at hM;generalize x*y=p at *
  clear e1 e2 q1 q2 h h';go_enter Tryz.func123,Tryz.ntmps123;go_wp2_with (go_at_call 97; refine(hM _).mono ?_; rintro e w' ⟨rfl,rfl⟩)
  go_ret2;exact⟨rfl,rfl⟩
 ·have h':¬ (x:Int)*(y:Int)<18446744073709551616:=by rw[<- Int.natCast_mul]; omega
  have e1:Yz x y=0:=if_neg h';have e2:Ym x y=false:=decide_eq_false h';have q2:1<=x*y / 18446744073709551616:=by omega
  rw[e1,e2];generalize x*y / 18446744073709551616=p at *
  generalize x*y % 18446744073709551616=r at *
  clear e1 e2 h h';have hp:((p:Int) != 0)=true:=by simp; omega
  go_enter Tryz.func123,Tryz.ntmps123;go_wp2_with (go_at_call 97; refine(hM _).mono ?_; rintro e w' ⟨rfl,rfl⟩)
  go_ret2;exact⟨rfl,rfl⟩
theorem gK (a b:Int)(w:World)(ha:W64 a)(hb:W64 b) :
  Calls Tryz.prog 109 #[Z4 a,Z4 b] w fun e w'=>e=.returned (.tuple #[Z4 (Yz a b),.bool (Ym a b)])/\w=w':=by
 obtain⟨a0,a1⟩:=ha; obtain⟨b0,b1⟩:=hb;by_cases hz:a=0
 ·subst hz;have e1:Yz 0 b=0:=by simp[Yz]
  have e2:Ym 0 b=true:=by simp[Ym]
  rw[e1,e2];clear e1 e2;go_enter Tryz.func109,Tryz.ntmps109;go_wp2;go_ret2;exact⟨rfl,rfl⟩
 ·have hq:(18446744073709551615 / a<b)↔¬ (a*b<18446744073709551616):=by
   rw[Int.ediv_lt_iff_lt_mul (by omega),Int.mul_comm b a];omega
  have q0:0<=18446744073709551615 / a:=Int.ediv_nonneg (by omega) a0;have q1:18446744073709551615 / a<=18446744073709551615:=Int.ediv_le_self _ (by omega);have p0:0<=a*b:=Int.mul_nonneg a0 b0;have hn:(a != 0)=true:=by simpa using hz
  have rq:IntKind.u64.wrap (18446744073709551615 / a)=18446744073709551615 / a:=by rw[IntKind.wrap_u64]; omega
  by_cases h:a*b<18446744073709551616
  ·have e1:Yz a b=a*b:=if_pos h;have e2:Ym a b=true:=decide_eq_true h;have h':¬ 18446744073709551615 / a<b:=fun hc=>hq.1 hc h;have hb':decide (18446744073709551615 / a<b)=false:=decide_eq_false h';rw[e1,e2];clear e1 e2 hq;go_enter Tryz.func109,Tryz.ntmps109;go_wp2;go_ret2;exact⟨rfl,rfl⟩
  ·have e1:Yz a b=0:=if_neg h;have e2:Ym a b=false:=decide_eq_false h;have h':18446744073709551615 / a<b:=hq.2 h;have hb':decide (18446744073709551615 / a<b)=true:=decide_eq_true h';rw[e1,e2];clear e1 e2 hq;go_enter Tryz.func109,Tryz.ntmps109;go_wp2;go_ret2;exact⟨rfl,rfl⟩
theorem aa2 (x y z:Nat)(hz:x*y / 18446744073709551616<z):uz x y z=true/\uy x y z=((J9 (x*y / 18446744073709551616) (x*y % 18446744073709551616) z:Nat):Int):=by
 have h:x*y<z*18446744073709551616:=(Nat.div_lt_iff_lt_mul (by omega)).1 hz;have h':(x:Int)*(y:Int)<(z:Int)*18446744073709551616:=by rw[<- Int.natCast_mul]; omega
 refine⟨decide_eq_true h',?_⟩;unfold J9;rw[Nat.div_add_mod',Int.natCast_ediv,Int.natCast_mul];exact if_pos h'
theorem aa3 (x y z:Nat)(hz:z<=x*y / 18446744073709551616):uz x y z=false/\uy x y z=0:=by
 have h:z*18446744073709551616<=x*y:=(Nat.le_div_iff_mul_le (by omega)).1 hz;have h':¬ (x:Int)*(y:Int)<(z:Int)*18446744073709551616:=by rw[<- Int.natCast_mul]; omega
 exact⟨decide_eq_false h',if_neg h'⟩
theorem Gt (a b c:Int)(w:World)(ha:W64 a)(hb:W64 b)(hc:W64 c) :
  Calls Tryz.prog 72 #[Z4 a,Z4 b,Z4 c] w fun e w'=>e=.returned (.tuple #[Z4 (uy a b c),.bool (uz a b c)])/\∃ n,w'=w.drewN n:=by
 obtain⟨a0,a1⟩:=ha; obtain⟨b0,b1⟩:=hb; obtain⟨c0,c1⟩:=hc;obtain⟨x,rfl⟩:=Int.eq_ofNat_of_zero_le a0;obtain⟨y,rfl⟩:=Int.eq_ofNat_of_zero_le b0;obtain⟨z,rfl⟩:=Int.eq_ofNat_of_zero_le c0;have hM:=fun w=>aa4 x y (by omega) (by omega) w;have hr:=Nat.mod_lt (x*y) (show 0<18446744073709551616 by omega);by_cases h:x*y / 18446744073709551616<z
 ·obtain⟨e2,e1⟩:=aa2 x y z h;have hD:=fun w=>aa5 (x*y / 18446744073709551616) (x*y % 18446744073709551616) z w h hr (by omega);rw[e1,e2];clear e1 e2;generalize x*y / 18446744073709551616=p at *
  generalize x*y % 18446744073709551616=r at *
  go_enter Tryz.func72,Tryz.ntmps72;go_wp2_with (first | (go_at_call 97; refine(hM _).mono ?_; rintro e w' ⟨rfl,rfl⟩) | (go_at_call 98; refine(hD _).mono ?_; rintro e w' ⟨rfl,n,rfl⟩))
  go_ret2;exact⟨rfl,_,rfl⟩
 ·obtain⟨e2,e1⟩:=aa3 x y z (by omega);rw[e1,e2];clear e1 e2;generalize x*y / 18446744073709551616=p at *
  generalize x*y % 18446744073709551616=r at *
  go_enter Tryz.func72,Tryz.ntmps72;go_wp2_with (go_at_call 97; refine(hM _).mono ?_; rintro e w' ⟨rfl,rfl⟩)
  go_ret2;exact⟨rfl,0,rfl⟩
theorem Jp (a b:Nat)(ha:a<18446744073709551616)(hb:b<18446744073709551616) :
  (a % 4294967296)*(b % 4294967296)<18446744073709551616/\(a / 4294967296)*(b % 4294967296)<18446744073709551616/\(a % 4294967296)*(b / 4294967296)<18446744073709551616 /\
  (a / 4294967296)*(b / 4294967296)<18446744073709551616 /\
  (a % 4294967296)*(b % 4294967296) / 4294967296+(a / 4294967296)*(b % 4294967296) % 4294967296+(a % 4294967296)*(b / 4294967296) % 4294967296<18446744073709551616 /\
  (a / 4294967296)*(b / 4294967296)+(a / 4294967296)*(b % 4294967296) / 4294967296<18446744073709551616 /\
  (a / 4294967296)*(b / 4294967296)+(a / 4294967296)*(b % 4294967296) / 4294967296+(a % 4294967296)*(b / 4294967296) / 4294967296<18446744073709551616 /\
  (a / 4294967296)*(b / 4294967296)+(a / 4294967296)*(b % 4294967296) / 4294967296+(a % 4294967296)*(b / 4294967296) / 4294967296 +
   ((a % 4294967296)*(b % 4294967296) / 4294967296+(a / 4294967296)*(b % 4294967296) % 4294967296+(a % 4294967296)*(b / 4294967296) % 4294967296) / 4294967296=a*b / 18446744073709551616 /\
  ((a % 4294967296)*(b % 4294967296) / 4294967296+(a / 4294967296)*(b % 4294967296) % 4294967296+(a % 4294967296)*(b / 4294967296) % 4294967296)*4294967296 % 18446744073709551616+(a % 4294967296)*(b % 4294967296) % 4294967296=a*b % 18446744073709551616 /\
  a*b / 18446744073709551616<18446744073709551616:=by
 have e:a*b=(a / 4294967296)*(b / 4294967296)*(4294967296*4294967296)+((a / 4294967296)*(b % 4294967296)+(a % 4294967296)*(b / 4294967296))*4294967296+(a % 4294967296)*(b % 4294967296):=by
  rw[<- Lib.split_mul,Nat.div_add_mod' a 4294967296,Nat.div_add_mod' b 4294967296]
 have h1:=Lib.half_mul_le (a:=a / 4294967296) (b:=b / 4294967296) (by omega) (by omega);have h2:=Lib.half_mul_le (a:=a / 4294967296) (b:=b % 4294967296) (by omega) (by omega);have h3:=Lib.half_mul_le (a:=a % 4294967296) (b:=b / 4294967296) (by omega) (by omega);have h4:=Lib.half_mul_le (a:=a % 4294967296) (b:=b % 4294967296) (by omega) (by omega);have h5:a*b / 18446744073709551616<18446744073709551616:=by
  rw[Nat.div_lt_iff_lt_mul (by omega)];exact Nat.lt_of_le_of_lt (Nat.mul_le_mul_right b (Nat.le_of_lt ha)) (Nat.mul_lt_mul_of_pos_left hb (by omega))
 generalize a*b=t at *
 generalize (a / 4294967296)*(b / 4294967296)=p at *
 generalize (a / 4294967296)*(b % 4294967296)=q at *
 generalize (a % 4294967296)*(b / 4294967296)=r at *
 generalize (a % 4294967296)*(b % 4294967296)=s at *
 refine⟨by omega,by omega,by omega,by omega,by omega,by omega,by omega,by omega,by omega,h5⟩
theorem az7 (a b:Nat)(hb:b<4294967296):bits .or .u64 (((a*4294967296 % 18446744073709551616:Nat):Int)) (b:Int)=((a*4294967296 % 18446744073709551616+b:Nat):Int):=by
 rw[bits_or_u64_nat _ _ (by omega) (by omega)];have e:a*4294967296 % 18446744073709551616=a % 4294967296*2 ^ 32:=by omega
 rw[e,AB _ _ 32 (by omega)]
theorem aJ9 (a:Nat):(a:Int)*4294967296=((a*4294967296:Nat):Int):=by omega
theorem product (a b:Nat)(w:World)(ha:a<18446744073709551616)(hb:b<18446744073709551616) :
  Calls Tryz.prog 110 #[Z4 a,Z4 b] w fun e w'=>e=.returned (.tuple #[Z4 ((a*b / 18446744073709551616:Nat):Int),Z4 ((a*b % 18446744073709551616:Nat):Int)])/\w=w':=by
 obtain⟨c1,c2,c3,c4,c5,c6,c7,c8,c9,c10⟩:=Jp a b ha hb;have d5:=Nat.lt_of_le_of_lt (Nat.le_add_right _ _) c5;have d8:=c8 ▸ c10;have C8:=Z9 c8;have C9:=Z9 c9;clear c8 c9 c10;go_enter Tryz.func110,Tryz.ntmps110;go_wp2;simp only[Vl a ha,Vl b hb,Ef,L8,aJ9,castAdd,Yo _ c1,Yo _ c2,Yo _ c3,Yo _ c4,Vl _ c1,Vl _ c2,Vl _ c3,Yo _ c5,Yo _ c6,Yo _ c7,Yo _ d5,Yo _ d8];rw[TL,az7 _ _ (Nat.mod_lt _ (by omega)),C8.out,C9.out];go_ret2;exact⟨rfl,rfl⟩
def Inv (H low c j r o:Nat):Prop:=H*2 ^ (64-j)+low / 2 ^ j=o*c+r/\r<c/\o<2 ^ (64-j)
theorem inv_start (H low c:Nat)(h:H<c)(hl:low<18446744073709551616):Inv H low c 64 H 0:=by
 refine⟨?_,h,by simp⟩;rw[show(2:Nat) ^ 64=18446744073709551616 from rfl,Nat.div_eq_of_lt hl];simp
theorem gJ (H low c r o:Nat)(h:Inv H low c 0 r o):o=J9 H low c:=by
 obtain⟨h1,h2,_⟩:=h;unfold J9;rw[Nat.sub_zero,Nat.pow_zero,Nat.div_one,show(2:Nat) ^ 64=18446744073709551616 from rfl] at h1;rw[h1,Nat.mul_comm o c,Nat.mul_add_div (by omega),Nat.div_eq_of_lt h2,Nat.add_zero]
theorem AA (H low c m r o:Nat)(hm:m<=63)(h:Inv H low c (m+1) r o):o<=9223372036854775807:=by
 have h1:(2:Nat) ^ (64-(m+1))<=2 ^ 63:=Nat.pow_le_pow_right (by omega) (by omega);have h2:=h.2.2;omega
theorem Ee (H low c m r o:Nat)(hm:m<=63)(h:Inv H low c (m+1) r o) :
  H*2 ^ (64-m)+low / 2 ^ m=(2*o)*c+(2*r+low / 2 ^ m % 2)/\2*o+1<2 ^ (64-m):=by
 obtain⟨h1,_,h3⟩:=h;have e:(2:Nat) ^ (64-m)=2 ^ (64-(m+1))*2:=by rw[<- Nat.pow_succ,show(64-(m+1)).succ=64-m by omega]
 have e2:low / 2 ^ (m+1)=low / 2 ^ m / 2:=by rw[Nat.pow_succ,Nat.div_div_eq_div_mul]
 rw[e2] at h1;rw[e,<- Nat.mul_assoc,Nat.mul_assoc 2 o c];omega
theorem gI (H low c m r o:Nat)(hm:m<=63)(h:Inv H low c (m+1) r o)(hc:c<=2*r+low / 2 ^ m % 2):Inv H low c m (2*r+low / 2 ^ m % 2-c) (o*2+1):=by
 obtain⟨h1,h2⟩:=Ee H low c m r o hm h;have h3:=h.2.1;refine⟨?_,by omega,by omega⟩;rw[h1,Nat.mul_comm o 2,Nat.add_mul];omega
theorem ak1 (H low c m r o:Nat)(hm:m<=63)(h:Inv H low c (m+1) r o)(hc:2*r+low / 2 ^ m % 2<c):Inv H low c m (2*r+low / 2 ^ m % 2) (o*2):=by
 obtain⟨h1,h2⟩:=Ee H low c m r o hm h;refine⟨?_,hc,by omega⟩;rw[h1,Nat.mul_comm o 2]
theorem aK1 (n:Nat)(h:n<18446744073709551616):bits .and .u64 (n:Int) 1=((n % 2:Nat):Int):=by
 have e:=bits_and_u64_nat n 1 h (by omega);rw[Nat.and_one_is_mod] at e;exact e
theorem az8 (a b:Nat)(hb:b<2):bits .or .u64 (((a*2 % 18446744073709551616:Nat):Int)) (b:Int)=((a*2 % 18446744073709551616+b:Nat):Int):=by
 rw[bits_or_u64_nat _ _ (by omega) (by omega)];have e:a*2 % 18446744073709551616=a % 9223372036854775808*2 ^ 1:=by omega
 rw[e,AB _ _ 1 (by omega)]
theorem vO (x y c H low:Nat)(w:World)(hx:x<18446744073709551616)(hy:y<18446744073709551616)(hc:c<18446744073709551616)(hH:H<c)(hl:low<18446744073709551616)
  (eH:Hid (x*y / 18446744073709551616=H)) (el:Hid (x*y % 18446744073709551616=low)) :
  Calls Tryz.prog 84 #[Z4 x,Z4 y,Z4 c] w fun e w'=>e=.returned (.tuple #[Z4 (J9 H low c),ZW])/\w=w':=by
 have hP:=fun w=>product x y w hx hy;rw[eH.out,el.out] at hP;clear eH el;have hc0:((c:Int) == 0)=false:=by simp; omega
 have I0:=Z9 (inv_start H low c hH hl);go_enter Tryz.func84,Tryz.ntmps84;go_wp2_with (go_at_call 110; refine(hP _).mono ?_; rintro e w' ⟨rfl,rfl⟩)
 clear hP;go_loopg [8,10,11] 64 (fun g s8 s10 s11 wx=>w=wx/\∃ j r o:Nat,j<=64/\s8=Z4 r/\s10=Z4 o/\s11=Z8 ((j:Int)-1)/\j=g/\Hid (Inv H low c j r o))
 case atStart=>exact⟨rfl,64,H,0,by omega,rfl,rfl,rfl,rfl,I0⟩
 case round=>
  obtain⟨rfl,j,r,o,hj,rfl,rfl,rfl,rfl,hI⟩:=hrel;clear I0;by_cases hz:j=0
  ·subst hz;have hE:=Z9 (gJ H low c r o hI.out);rw[show(((0:Nat):Int)-1)=-1 from rfl];go_wp2;go_ret2;exact⟨by rw[hE.out]; rfl,rfl⟩
  ·obtain⟨m,rfl⟩:∃ m,j=m+1:=⟨j-1,by omega⟩;rw[show(((m+1:Nat):Int)-1)=(m:Int) by omega];have hm:m<=63:=(by omega);have hr:=hI.out.2.1;have ho:=AA H low c m r o hm hI.out;have hb:low / 2 ^ m<18446744073709551616:=Nat.lt_of_le_of_lt (Nat.div_le_self _ _) hl;obtain⟨bit,eb⟩:=ZR (low / 2 ^ m % 2);have hb2:bit<2:=(by omega);obtain⟨cy,ec⟩:=ZR (r / 9223372036854775808);have rA:(r:Int) / 9223372036854775808=(cy:Int):=(by omega);have rB:bits .and .u64 ((low:Int) / 2 ^ m) 1=(bit:Int):=by
    rw[<- eb,<- aK1 _ hb]; simp
   have rC:bits .or .u64 (IntKind.u64.wrap ((r:Int)*2)) (bit:Int)=((r*2 % 18446744073709551616+bit:Nat):Int):=by
    rw[<- az8 _ _ hb2,<- TL]; simp
   obtain⟨rr,er⟩:=ZR (r*2 % 18446744073709551616+bit);rw[er] at rC;have rC0:r<9223372036854775808->bits .or .u64 ((r:Int)*2) (bit:Int)=(rr:Int):=fun h=>by
    rw[<- rC,show(r:Int)*2=((r*2:Nat):Int) by omega,Yo _ (by omega)]
   have rE:bits .or .u64 ((o:Int)*2) 1=(o:Int)*2+1:=by
    have:=az8 o 1 (by omega);rw[show o*2 % 18446744073709551616=o*2 by omega] at this;simpa using this
   by_cases hs:c<=2*r+bit
   ·have hn:=Z9 (gI H low c m r o hm hI.out (by rw[eb]; exact hs));rw[eb] at hn;have rF:IntKind.u64.wrap ((rr:Int)-(c:Int))=((2*r+bit-c:Nat):Int):=(by rw[IntKind.wrap_u64]; omega);have hcy:cy=0∨cy=1:=(by omega);rcases hcy with hcy | hcy
    ·subst hcy;have rC1:=rC0 (by omega);have h1:c<=rr:=(by omega);have rF':(rr:Int)-(c:Int)=((2*r+bit-c:Nat):Int):=(by omega);clear hs ec er eb hr hb rC rC0 rF;go_wp2;go_roundg m
     case measure=>omega
     case rel=>exact⟨rfl,m,2*r+bit-c,o*2+1,by omega,by first | rfl | go_num,by first | rfl | go_num,by first | rfl | go_num,rfl,hn⟩
    ·subst hcy;clear rC0;clear hs ec er eb hr hb;go_wp2;go_roundg m
     case measure=>omega
     case rel=>exact⟨rfl,m,2*r+bit-c,o*2+1,by omega,by first | rfl | go_num,by first | rfl | go_num,by first | rfl | go_num,rfl,hn⟩
   ·have hn:=Z9 (ak1 H low c m r o hm hI.out (by rw[eb]; omega));rw[eb] at hn;obtain rfl:cy=0:=(by omega);have rC1:=rC0 (by omega);clear rC rC0;have e2:2*r+bit=rr:=(by omega);rw[e2] at hn hs;have h1:rr<c:=(by omega);clear e2;clear hs ec er eb hr hb;go_wp2;go_roundg m
    case measure=>omega
    case rel=>exact⟨rfl,m,rr,o*2,by omega,by first | rfl | go_num,by first | rfl | go_num,by first | rfl | go_num,rfl,hn⟩
theorem AL (a b c:Int)(w:World)(ha:W64 a)(hb:W64 b)(hc:W64 c) :
  Calls Tryz.prog 84 #[Z4 a,Z4 b,Z4 c] w fun e w'=>e=.returned (.tuple #[Z4 (uy a b c),.bool (uz a b c)])/\w=w':=by
 obtain⟨a0,a1⟩:=ha; obtain⟨b0,b1⟩:=hb; obtain⟨c0,c1⟩:=hc;obtain⟨x,rfl⟩:=Int.eq_ofNat_of_zero_le a0;obtain⟨y,rfl⟩:=Int.eq_ofNat_of_zero_le b0;obtain⟨z,rfl⟩:=Int.eq_ofNat_of_zero_le c0;have hr:=Nat.mod_lt (x*y) (show 0<18446744073709551616 by omega);by_cases h:x*y / 18446744073709551616<z
 ·obtain⟨e2,e1⟩:=aa2 x y z h;rw[e1,e2];exact vO x y z _ _ w (by omega) (by omega) (by omega) h hr (Z9 rfl) (Z9 rfl)
 ·obtain⟨e2,e1⟩:=aa3 x y z (by omega);rw[e1,e2];clear e1 e2;have hP:=fun w=>product x y w (by omega) (by omega);generalize x*y / 18446744073709551616=p at *
  generalize x*y % 18446744073709551616=r at *
  have h':(z:Int)<=(p:Int):=by omega
  have hb':decide ((z:Int)<=(p:Int))=true:=decide_eq_true h';by_cases hz:z=0
  ·subst hz;go_enter Tryz.func84,Tryz.ntmps84;go_wp2_with (go_at_call 110; refine(hP _).mono ?_; rintro e w' ⟨rfl,rfl⟩)
   go_ret2;exact⟨rfl,rfl⟩
  ·have hc0:((z:Int) == 0)=false:=(by simp; omega);go_enter Tryz.func84,Tryz.ntmps84;go_wp2_with (go_at_call 110; refine(hP _).mono ?_; rintro e w' ⟨rfl,rfl⟩)
   go_ret2;exact⟨rfl,rfl⟩
end Go.Proofs.YtnhlpahoomcgnaaGreat.Mo
