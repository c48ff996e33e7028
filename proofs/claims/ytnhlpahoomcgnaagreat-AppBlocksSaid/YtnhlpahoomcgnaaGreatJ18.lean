/-
  Texts joined.
-/
import Derived.Test.YtnhlpahoomcgnaaGreatJ17
set_option maxRecDepth 100000
set_option maxHeartbeats 8000000
set_option linter.unusedSimpArgs false
set_option linter.unusedVariables false
namespace Go.Proofs.YtnhlpahoomcgnaaGreat.Mo
open Go.RowKit
theorem yx {ρ:Operand->Value}{o:Oper}{x y:Operand}(ho:o.op=.call { callee:=.builtin .max,args:=#[x,y],argTypes:=#[3,3] })(a b:Int)(hx:ρ x=Z8 a)(hy:ρ y=Z8 b)(w:World):(execOp ρ o).run Tryz.prog w=.ok (.value (Z8 (max a b))) w:=by
 unfold execOp;simp only[ho,hx,hy,resolve,invoke,builtin,Sem.run_bind,Sem.run_pure,Result.andThen_ok,List.map_toArray,List.map_cons,List.map_nil];simp[go_sem];by_cases hab:a<b
 ·rw[if_pos hab,Int.max_eq_right (by omega)]
 ·rw[if_neg hab,Int.max_eq_left (by omega)]
theorem yu {ρ:Operand->Value}{o:Oper}{x y:Operand}(ho:o.op=.call { callee:=.builtin .min,args:=#[x,y],argTypes:=#[3,3] })(a b:Int)(hx:ρ x=Z8 a)(hy:ρ y=Z8 b)(w:World):(execOp ρ o).run Tryz.prog w=.ok (.value (Z8 (min a b))) w:=by
 unfold execOp;simp only[ho,hx,hy,resolve,invoke,builtin,Sem.run_bind,Sem.run_pure,Result.andThen_ok,List.map_toArray,List.map_cons,List.map_nil];simp[go_sem];by_cases hab:b<a
 ·rw[if_pos hab,Int.min_eq_right (by omega)]
 ·rw[if_neg hab,Int.min_eq_left (by omega)]
theorem Vm {ρ:Operand->Value}{o:Oper}{x:Operand}(ho:o.op=.convert 3 27 x)(a:Int)(h0:0<=a)(h1:a<=9223372036854775807)(hx:ρ x=Z8 a)(w:World):(execOp ρ o).run Tryz.prog w=.ok (.value (Z4 a)) w:=by
 have hw:IntKind.u64.wrap a=a:=by rw[IntKind.wrap_u64]; omega
 unfold execOp;simp only[ho,hx];go_simp
def lim (n:Int):Int:=max 0 (min n 1073741824)
def YU (s t:Int):Int:=50+lim s+20*lim t
def Y9 (f g:Int):Int:=if g=0 then 0 else if uz 1000 f g=true then uy 1000 f g else 18446744073709551615
theorem Uy (n:Int):0<=lim n/\lim n<=1073741824:=by unfold lim; omega
theorem yt (a b c:Int):uy b a c=uy a b c/\uz b a c=uz a b c:=by
 unfold uy uz;rw[Int.mul_comm b a];exact⟨rfl,rfl⟩
theorem IK (n:Int)(w:World):Calls Tryz.prog 122 #[Z8 n] w fun e w'=>e=.returned (Z4 (lim n))/\w=w':=by
 have hr:=Uy n;have e1:min (max n 0) 1073741824=lim n:=by unfold lim; omega
 generalize lim n=L at *
 go_enter Tryz.func122,Tryz.ntmps122;go_upto_region 1 with fail;refine wl<|YG (Z8 n) rfl<|Yy (Z8 (max n 0)) (yx rfl n 0)<|YG (Z8 L) ((yu rfl (max n 0) 1073741824 (by kernel_rfl) (by kernel_rfl) _).trans (by rw[e1])) <|
  YG (Z4 L) (Vm rfl L (by omega) (by omega) (by kernel_rfl) _)<|ZV (Z4 L)<|wn ?_
 simp only[pu];go_wp2_with fail;go_ret;exact⟨rfl,rfl⟩
theorem Nz (n:Int)(w:World):Calls Tryz.prog 108 #[Z8 n] w fun e w'=>e=.returned (Z4 (lim n))/\w=w':=by
 have hr:=Uy n;have e1:max 0 (min n 1073741824)=lim n:=by unfold lim; omega
 generalize lim n=L at *
 go_enter Tryz.func108,Tryz.ntmps108;go_upto_region 1 with fail;refine wl<|YG (Z8 n) rfl<|Yy (Z8 (min n 1073741824)) (yu rfl n 1073741824)<|YG (Z8 L) ((yx rfl 0 (min n 1073741824) (by kernel_rfl) (by kernel_rfl) _).trans (by rw[e1])) <|
  YG (Z4 L) (Vm rfl L (by omega) (by omega) (by kernel_rfl) _)<|ZV (Z4 L)<|wn ?_
 simp only[pu];go_wp2_with fail;go_ret;exact⟨rfl,rfl⟩
theorem nS (s t:Int)(w:World):Calls Tryz.prog 100 #[Z8 s,Z8 t] w fun e w'=>e=.returned (Z4 (YU s t))/\w=w':=by
 have h1:=Uy s;have h2:=Uy t;have c1:=fun w=>IK s w;have c2:=fun w=>IK t w;unfold YU;generalize lim s=a at *
 generalize lim t=b at *
 go_enter Tryz.func100,Tryz.ntmps100;go_wp2_with fail;refine(c1 _).mono ?_;rintro e w' ⟨rfl,rfl⟩;go_wp2_with fail;refine(c2 _).mono ?_;rintro e w' ⟨rfl,rfl⟩;go_wp2;go_ret;exact⟨rfl,rfl⟩
theorem nR (s t:Int)(w:World):Calls Tryz.prog 82 #[Z8 s,Z8 t] w fun e w'=>e=.returned (Z4 (YU s t))/\w=w':=by
 have h1:=Uy s;have h2:=Uy t;have c1:=fun w=>Nz s w;have c2:=fun w=>Nz t w;unfold YU;generalize lim s=a at *
 generalize lim t=b at *
 go_enter Tryz.func82,Tryz.ntmps82;go_wp2_with fail;refine(c1 _).mono ?_;rintro e w' ⟨rfl,rfl⟩;go_wp2_with fail;refine(c2 _).mono ?_;rintro e w' ⟨rfl,rfl⟩;go_wp2;go_ret;exact⟨rfl,rfl⟩
theorem nP (a b:Int)(w:World)(ha:W64 a)(hb:W64 b) :
  Calls Tryz.prog 101 #[Z4 a,Z4 b] w fun e w'=>e=.returned (.tuple #[Z4 (Yz a b),.bool (Ym a b)])/\w=w':=by
 have c:=fun w=>vP a b w ha hb;generalize Yz a b=v at *
 generalize Ym a b=t at *
 go_enter Tryz.func101,Tryz.ntmps101;go_wp2_with fail;refine(c _).mono ?_;rintro e w' ⟨rfl,rfl⟩;go_wp2;go_ret2;exact⟨rfl,rfl⟩
theorem nO (a b:Int)(w:World)(ha:W64 a)(hb:W64 b) :
  Calls Tryz.prog 83 #[Z4 a,Z4 b] w fun e w'=>e=.returned (.tuple #[Z4 (Yz a b),.bool (Ym a b)])/\w=w':=by
 have c:=fun w=>gK a b w ha hb;generalize Yz a b=v at *
 generalize Ym a b=t at *
 go_enter Tryz.func83,Tryz.ntmps83;go_wp2_with fail;refine(c _).mono ?_;rintro e w' ⟨rfl,rfl⟩;go_wp2;go_ret2;exact⟨rfl,rfl⟩
theorem nN (f g:Int)(w:World)(hf:W64 f)(hg:W64 g) :
  Calls Tryz.prog 50 #[Z4 f,Z4 g] w fun e w'=>e=.returned (Z4 (Y9 f g))/\∃ n,w'=w.drewN n:=by
 by_cases h:g=0
 ·subst h;go_enter Tryz.func50,Tryz.ntmps50;go_wp2;go_ret;exact⟨rfl,0,rfl⟩
 ·have h0:(g == 0)=false:=by simpa using h
  have c:=fun w=>Gt 1000 f g w ⟨by omega,by omega⟩ hf hg;have e:Y9 f g=if uz 1000 f g=true then uy 1000 f g else 18446744073709551615:=by unfold Y9; rw[if_neg h]
  rw[e];clear e;generalize uy 1000 f g=v at *
  cases hb:uz 1000 f g
  ·rw[hb] at c;clear hb;go_enter Tryz.func50,Tryz.ntmps50;go_wp2_with fail;refine(c _).mono ?_;rintro e w' ⟨rfl,n,rfl⟩;go_wp2;go_ret;exact⟨rfl,n,rfl⟩
  ·rw[hb] at c;clear hb;go_enter Tryz.func50,Tryz.ntmps50;go_wp2_with fail;refine(c _).mono ?_;rintro e w' ⟨rfl,n,rfl⟩;go_wp2;go_ret;exact⟨rfl,n,rfl⟩
theorem nM (f g:Int)(w:World)(hf:W64 f)(hg:W64 g) :
  Calls Tryz.prog 56 #[Z4 f,Z4 g] w fun e w'=>e=.returned (Z4 (Y9 f g))/\w=w':=by
 by_cases h:g=0
 ·subst h;go_enter Tryz.func56,Tryz.ntmps56;go_wp2;go_ret;exact⟨rfl,rfl⟩
 ·have h0:(g == 0)=false:=by simpa using h
  have c:=fun w=>AL f 1000 g w hf ⟨by omega,by omega⟩ hg;have e:Y9 f g=if uz 1000 f g=true then uy 1000 f g else 18446744073709551615:=by unfold Y9; rw[if_neg h]
  rw[e];rw[(yt 1000 f g).1,(yt 1000 f g).2] at c;clear e;generalize uy 1000 f g=v at *
  cases hb:uz 1000 f g
  ·rw[hb] at c;clear hb;go_enter Tryz.func56,Tryz.ntmps56;go_wp2_with fail;refine(c _).mono ?_;rintro e w' ⟨rfl,rfl⟩;go_wp2;go_ret;exact⟨rfl,rfl⟩
  ·rw[hb] at c;clear hb;go_enter Tryz.func56,Tryz.ntmps56;go_wp2_with fail;refine(c _).mono ?_;rintro e w' ⟨rfl,rfl⟩;go_wp2;go_ret;exact⟨rfl,rfl⟩
end Go.Proofs.YtnhlpahoomcgnaaGreat.Mo
namespace Go.Proofs.YtnhlpahoomcgnaaGreat.Lg
open Go.RowKit
open Mo (YU Y9 Ym Yz)
structure XO where
 code:Int
 snd:ByteArray
 sq:Int
 Zp:Int
 pr:Int
abbrev ZI (r:XO):Array Value:=#[Z8 r.code,.string r.snd,Z4 r.sq,Z4 r.Zp,Z4 r.pr]
def YR (e:Int):XO:=⟨e,WE,0,0,0⟩
def VK (t:Y8):List Int:=t.YZ::t.tr.map (·.2)
def VB (t:Y8):Bool:=LG (VK t)
def YJ (t:Y8):Int:=LD (VK t)
def Xt (A:List Ac)(s:ByteArray):Ac:=if Y0 A s<A.length then aca A (Y0 A s) else (s,0,0)
def Wp (A:List Ac)(x:Tf):List Ac:=Yw A ((Xt A x.1).1,(Xt A x.1).2.1+x.2,(Xt A x.1).2.2)
def Wh (A:List Ac)(t:Y8):List Ac:=Yw A ((Zm A t.snd).1.1,(Zm A t.snd).1.2.1-YJ t,(Zm A t.snd).1.2.2+1)
def Rl (A:List Ac)(t:Y8)(j:Nat):List Ac:=(t.tr.take j).foldl Wp (Wh A t)
def Yl (A:List Ac)(t:Y8):List Ac:=Rl A t t.tr.length
def Yp (A:List Ac)(price:Int)(t:Y8)(size:Int):Int:=
 if (Zm A t.snd).2=false then 13 else if (Zm A t.snd).1.2.2≠t.sq then 14 else if t.sq=18446744073709551615 then 6
 else if t.Zp<YU size t.tr.length then 15 else if Ym t.Zp price=false then 6 else if t.YZ<Yz t.Zp price then 16
 else if VB t=false then 6 else if (Zm A t.snd).1.2.1<YJ t then 17 else if 256<(Yl A t).length then 3 else 0
def WZ (A:List Ac)(c price:Int)(L:List Int):(List Ac×Int)×XO:=
 if YD A c≠0 then ((A,c),YR 1) else if (Zj L).2≠0 then ((A,c),YR (Zj L).2) else
 if Yp A price (Zj L).1 L.length≠0 then ((A,c),⟨Yp A price (Zj L).1 L.length,(Zj L).1.snd,(Zj L).1.sq,(Zj L).1.Zp,Y9 (Zj L).1.YZ (Zj L).1.Zp⟩)
 else ((Yl A (Zj L).1,c+(Zj L).1.YZ),⟨0,(Zj L).1.snd,(Zj L).1.sq,(Zj L).1.Zp,Y9 (Zj L).1.YZ (Zj L).1.Zp⟩)
theorem WV {A:List Ac}{s:ByteArray}(h:(Zm A s).2=true):Y0 A s<A.length/\(Zm A s).1=aca A (Y0 A s)/\(Zm A s).1.1=s:=by
 unfold Zm at *
 by_cases hf:Y0 A s<A.length
 ·rw[if_pos hf] at *
  exact⟨hf,rfl,(Uu hf).1⟩
 ·rw[if_neg hf] at h;cases h
theorem Oj (A:List Ac)(s:ByteArray):(Xt A s).1=s:=by
 unfold Xt
 split
 ·rename_i h; exact(Uu h).1
 ·rfl
theorem FD {A:List Ac}{i:Nat}{a:Ac}(h:i<A.length):tot (Zb (A.set i a))=tot (Zb A)-(aca A i).2.1+a.2.1:=by
 have e:A.set i a=A.take i++a::A.drop (i+1):=List.set_eq_take_append_cons_drop.trans (if_pos h);have e2:A=A.take i++aca A i::A.drop (i+1):=by rw[X3 h,List.getElem_cons_drop,List.take_append_drop]
 have h1:tot (Zb (A.set i a))=tot (Zb (A.take i))+(a.2.1+tot (Zb (A.drop (i+1)))):=by
  rw[e]; unfold Zb; rw[List.map_append,List.map_cons,Xl,X6]
 have h2:tot (Zb A)=tot (Zb (A.take i))+((aca A i).2.1+tot (Zb (A.drop (i+1)))):=by
  conv=>lhs; rw[e2]
  unfold Zb; rw[List.map_append,List.map_cons,Xl,X6]
 omega
theorem zG (A:List Ac)(a:Ac):tot (Zb (Yw A a))=tot (Zb A)-(Xt A a.1).2.1+a.2.1:=by
 by_cases h:Y0 A a.1<A.length
 ·rw[Wv h,FD h]; unfold Xt; rw[if_pos h]
 ·rw[UM h];have e:tot (Zb A)=tot (Zb (A.take (Yf A a.1)))+tot (Zb (A.drop (Yf A a.1))):=by
   rw[<- Xl]; unfold Zb; rw[<- List.map_append,List.take_append_drop]
  have h1:tot (Zb (A.take (Yf A a.1)++a::A.drop (Yf A a.1)))=tot (Zb (A.take (Yf A a.1)))+(a.2.1+tot (Zb (A.drop (Yf A a.1)))):=by
   unfold Zb; rw[List.map_append,List.map_cons,Xl,X6]
  unfold Xt;rw[if_neg h,h1,e];show _=_-0+_;omega
theorem zF (A:List Ac)(x:Tf):tot (Zb (Wp A x))=tot (Zb A)+x.2:=by
 unfold Wp;rw[zG];simp only[Oj];omega
theorem zD {A:List Ac}{t:Y8}(h:(Zm A t.snd).2=true):tot (Zb (Wh A t))=tot (Zb A)-YJ t:=by
 obtain⟨h1,h2,h3⟩:=WV h;unfold Wh;rw[zG];have e:Xt A (Zm A t.snd).1.1=(Zm A t.snd).1:=by rw[h3]; unfold Xt; rw[if_pos h1,h2]
 simp only[e];omega
theorem tu {A:List Ac}(hw:Vj A){i:Nat}(h:i<A.length):(aca A i).2.1<=tot (Zb A):=by
 have h1:=FD (a:=(WE,0,0)) h;have h2:0<=tot (Zb (A.set i (WE,0,0))):=WB _ fun x hx=>by
  obtain⟨y,hy,rfl⟩:=List.mem_map.1 hx;rcases List.mem_or_eq_of_mem_set hy with h3 | h3
  ·exact(SB hw y h3).1.1
  ·subst h3; decide
 have h3:((WE,0,0):Ac).2.1=0:=rfl;omega
theorem tq {A:List Ac}(hw:Vj A)(s:ByteArray):W64 (Xt A s).2.1/\W64 (Xt A s).2.2/\(Xt A s).2.1<=tot (Zb A):=by
 unfold Xt
 split
 ·rename_i h; exact⟨(hw _ h).1,(hw _ h).2,tu hw h⟩
 ·exact⟨Xq,Xq,WB _ fun x hx=>by obtain⟨y,hy,rfl⟩:=List.mem_map.1 hx; exact(SB hw y hy).1.1⟩
def sZ (t:Y8)(j:Nat):Int:=tot ((t.tr.take j).map (·.2))
theorem sW (t:Y8):sZ t 0=0:=rfl
theorem FC {t:Y8}{j:Nat}(h:j<t.tr.length):sZ t (j+1)=sZ t j+(tfa t.tr j).2:=by
 unfold sZ;rw[List.take_succ_eq_append_getElem h,List.map_append,Xl,Vr h];show _+tot [(t.tr[j]).2]=_;rw[X6]; show _+(_+0)=_; omega
theorem Pj (t:Y8):tot (VK t)=t.YZ+sZ t t.tr.length:=by
 unfold VK sZ;rw[X6,List.take_length]
theorem Il {t:Y8}(h:VB t=true):YJ t=tot (VK t)/\tot (VK t)<18446744073709551616:=by
 have h1:tot (VK t)<18446744073709551616:=of_decide_eq_true h;exact⟨if_pos h1,h1⟩
theorem ad5 {t:Y8}(h:VB t=false):YJ t=0:=if_neg (of_decide_eq_false h)
theorem Ik {t:Y8}(h:∀ x,x∈t.tr->W64 x.2)(j:Nat):0<=sZ t j/\sZ t j<=sZ t t.tr.length:=by
 refine⟨WB _ fun x hx=>?_,?_⟩
 ·obtain⟨y,hy,rfl⟩:=List.mem_map.1 hx;exact(h y (List.mem_of_mem_take hy)).1
 ·unfold sZ;rw[List.take_length,List.map_take];refine TY _ (fun k hk=>?_) _;rw[List.length_map] at hk;rw[List.getD_eq_getElem?_getD,List.getElem?_map,List.getElem?_eq_getElem hk];exact h _ (List.getElem_mem hk)
theorem P9 {A:List Ac}{t:Y8}{j:Nat}(h:j<t.tr.length):Rl A t (j+1)=Wp (Rl A t j) (tfa t.tr j):=by
 unfold Rl;rw[List.take_succ_eq_append_getElem h,List.foldl_append,Vr h];rfl
structure zC (A:List Ac)(t:Y8)(j:Nat)(B:List Ac):Prop where
 is:B=Rl A t j
 w:Vj B
 s:tot (Zb B)=tot (Zb A)-tot (VK t)+sZ t j
 n:B.length<=A.length+j
theorem zC.start {A:List Ac}{t:Y8}(hw:Vj A)(hg:(Zm A t.snd).2=true)(hq:(Zm A t.snd).1.2.2<18446744073709551615)(hc:VB t=true)(hb:YJ t<=(Zm A t.snd).1.2.1)(h0:0<=YJ t):zC A t 0 (Wh A t):=by
 obtain⟨h1,h2,h3⟩:=WV hg;have hwi:=hw _ h1;rw[<- h2] at hwi;obtain⟨⟨p0,p1⟩,q0,q1⟩:=hwi;refine⟨rfl,Jj hw ⟨⟨?_,?_⟩,?_,?_⟩,?_,?_⟩
 ·show 0<=_-_; omega
 ·show _-_<=_; omega
 ·show 0<=_+1; omega
 ·show _+1<=_; omega
 ·rw[zD hg,(Il hc).1,sW]; omega
 ·unfold Wh; rw[WR]; simp only[h3]; rw[if_pos h1]; omega
theorem zC.step {A B:List Ac}{t:Y8}{j:Nat}(h:zC A t j B)(hj:j<t.tr.length)(hA:tot (Zb A)<18446744073709551616)(ht:∀ x,x∈t.tr->W64 x.2)(hf:0<=t.YZ):zC A t (j+1) (Wp B (tfa t.tr j))/\W64 ((Xt B (tfa t.tr j).1).2.1+(tfa t.tr j).2):=by
 have hx:W64 (tfa t.tr j).2:=ht _ (by rw[Vr hj]; exact List.getElem_mem hj);obtain⟨⟨b0,b1⟩,⟨s0,s1⟩,b2⟩:=tq h.w (tfa t.tr j).1;have hs:=h.s;have e1:=FC hj;have l1:=(Ik ht (j+1)).2;have e2:=Pj t;obtain⟨x0,x1⟩:=hx;have hW:W64 ((Xt B (tfa t.tr j).1).2.1+(tfa t.tr j).2):=⟨by omega,by omega⟩;refine⟨⟨by rw[P9 hj,h.is],Jj h.w ⟨hW,s0,s1⟩,by rw[zF,hs,e1]; omega,?_⟩,hW⟩;unfold Wp;rw[WR];have:=h.n
 split <;> omega
end Go.Proofs.YtnhlpahoomcgnaaGreat.Lg
namespace Go.Proofs.YtnhlpahoomcgnaaGreat.Lg
attribute [local irreducible] wpList wpQuiet
open Mo (YU Y9 Ym Yz)
open Go.RowKit
theorem DV (t:Y8):(VK t).length=t.tr.length+1:=by simp[VK]
def NT (t:Y8)(j:Nat):List Int:=t.YZ::(t.tr.take j).map (·.2)
theorem IB {t:Y8}{j:Nat}(h:j<t.tr.length):NT t (j+1)=NT t j++[(tfa t.tr j).2]:=by
 unfold NT;rw[List.take_succ_eq_append_getElem h,List.map_append,Vr h];rfl
theorem DU (t:Y8)(j:Nat):(NT t j).length<=t.tr.length+1:=by
 unfold NT;rw[List.length_cons,List.length_map,List.length_take];omega
theorem DT (t:Y8):NT t t.tr.length=VK t:=by unfold NT VK; rw[List.take_length]
theorem ng {t:Y8}(hf:W64 t.YZ)(ha:∀ x,x∈t.tr->W64 x.2):∀ k,k<(VK t).length->W64 ((VK t).getD k 0):=fun k hk=>by
 have hm:∀ x,x∈VK t->W64 x:=fun x hx=>by
  rcases List.mem_cons.1 hx with h | h
  ·rw[h]; exact hf
  ·obtain⟨y,hy,rfl⟩:=List.mem_map.1 h;exact ha y hy
 rw[List.getD_eq_getElem?_getD,List.getElem?_eq_getElem hk];exact hm _ (List.getElem_mem hk)
theorem DZ (t:Y8)(a:Option Addr)(k:Nat)(w:World)(hR:Cs w a (Rq t.tr))(hn:t.tr.length<=100000)(hf:W64 t.YZ)(ha:∀ x,x∈t.tr->W64 x.2) :
  Calls Tryz.prog 57 #[.agg (Zx t a k)] w fun e w'=>e=.returned (.tuple #[Z4 (YJ t),.bool (VB t)])/\Below w.heap.size w w':=by
 have hb0:Below w.heap.size w (w.alloc (.cells (Zx t a k) 67)):=(Below.refl _ w).alloc (Nat.le_refl _) _;have hX0:Bx (w.alloc (.cells (Zx t a k) 67)) w.heap.size (Zx t a k) 67:=heap_alloc_last w _;have HA:=Z9 (hR.below hb0);have aT:=Z9 (fun(al:Option Addr) (cl:Nat) (V:World) (h:Cs V al (UR (VK t)))=>jT al cl (VK t) V (by rw[DV]; omega) (fun q hq=>by
  obtain⟨b,off,e,-,h1⟩:=h q (Z4 ((VK t).getD q 0)) (by
   unfold UR;rw[List.getElem?_map,List.getElem?_eq_getElem hq,List.getD_eq_getElem?_getD,List.getElem?_eq_getElem hq];rfl)
  exact⟨b,off,e,h1⟩) (ng hf ha))
 have HST:=Z9 (fun j (h:j<t.tr.length)=>IB h);have qc:=Z9 (DU t);have HJA:=Z9 (DT t);have uI:Hid (NT t 0=[t.YZ]):=Z9 (by unfold NT; rw[List.take_zero,List.map_nil]);have Dc:Hid (LD (VK t)=YJ t/\LG (VK t)=VB t):=Z9 ⟨rfl,rfl⟩;generalize NT t=J at *
 generalize VK t=AM at *
 generalize YJ t=tv at *
 generalize VB t=tb at *
 obtain⟨snd,sq,Zp,YZ,memo,A⟩:=t;simp only at *
 obtain⟨n,hnn⟩:=ZR A.length;have U5:Hid (n<=100000):=Z9 (by omega);simp only[Zx,hnn] at hb0 hX0 HA HST qc HJA ⊢;have HN:=Z9 hnn;clear hR hn hnn hf ha;go_enter Tryz.func57,Tryz.ntmps57;go_upto_region 1 with fail;change Code.wp _ _ _ _ (w.alloc (.cells #[.string snd,Z4 sq,Z4 Zp,Z4 YZ,.string memo,.slice a n k] 67));generalize w.alloc (.cells #[.string snd,Z4 sq,Z4 Zp,Z4 YZ,.string memo,.slice a n k] 67)=W at *
 obtain⟨g0,hg0⟩:=ZR w.heap.size;have HB0:=Z9 hb0;rw[hg0] at hX0;simp only[hg0];have HX:=Z9 hX0;clear hb0 hg0 hX0;have hbu:=QI YZ W;have hou:=rZ YZ W;refine wl<|ZV (Z5 g0 3)<|ZL rfl ⟨g0,3,none⟩ (Z4 YZ) (HX.out.ZP 3) ?_;refine Zr (by kernel_rfl) (some 9) rfl 113 1 #[(0,.tmp 8)] rfl #[(0,Z4 YZ)] (by kernel_rfl) (.slice (some ⟨W.heap.size,0,none⟩) 1 1) _ hbu ?_;refine ZV (.slice (some ⟨W.heap.size,0,none⟩) 1 1)<|wn ?_;simp only[pu];have hb1:Below W.heap.size W (W.alloc (.cells #[Z4 YZ] 27)):=(Below.refl _ W).alloc (Nat.le_refl _) _;clear hbu;obtain⟨v1,hv1⟩:=ZR (Value.slice (some ⟨W.heap.size,0,none⟩) 1 1);rw[hv1] at hou ⊢;generalize W.alloc (.cells #[Z4 YZ] 27)=W1 at *
 have HR1:Hid (Oe W1 W.heap.size v1 (J 0)):=Z9 (by rw[uI.out]; exact hou);have HB1:=Z9 hb1;have WW:=Z9 (HX.out.below HX.out.lt hb1);clear hv1 hou hb1;go_upto_region 2 with fail;refine wl<|ZV (Z5 g0 5)<|ZL rfl ⟨g0,5,none⟩ (.slice a n k) (WW.out.ZP 5)<|ZA (Z8 n) (Z8 0)<|wn ?_;simp only[pu];go_wp2_with fail;go_loopg [4,13] n (fun gg s4 s13 wx=>∃ (j:Nat) (v4:Value),s4=v4/\s13=Z8 j/\j<=n/\Hid (Oe wx W.heap.size v4 (J j))/\Hid (Below W.heap.size W wx)/\n-j=gg)
 case atStart=>exact⟨0,v1,rfl,rfl,by omega,HR1,HB1,by omega⟩
 case round=>
  obtain⟨j,v4,rfl,rfl,hj,rW,HB,hg⟩:=hrel;have zo:=U5.out;by_cases hlt:j<n
  ·obtain⟨b,off,rfl,-,hrx⟩:=Um (HA.out.below HB.out) (k:=j) (by rw[HN.out]; exact hlt);have YO:=Z9 (TQ hrx);have uK:=Z9 (HST.out j hlt);generalize tfa A j=y at *
   have HG:=Z9 hg;obtain⟨V2,hst,hb2,hbx⟩:=TF wr y;obtain⟨v3,V3,hap,hr3,hb3⟩:=BL (own_below rW.out hb2) (by have:=HB.out.size; have:=hb2.size; omega) y.2 (by have:=qc.out j; omega);have HR3:Hid (Oe V3 W.heap.size v3 (J (j+1))):=Z9 (by rw[uK.out]; exact hr3);have HB3:=Z9 ((HB.out.trans (hb2.mono HB.out.size)).trans hb3);have hbu:=QI y.2 V2;clear hrx hg hb2 hr3 hb3 uK;go_upto_region 3 with fail;refine wl<|ZJ (Zv rfl (j) (n) dT)<|wn ?_;simp only[pu];go_upto_region 4 with fail;refine wl<|YG (Z5 b (off+j*2)) (PW b off n k j hlt _ _ _ rfl (by kernel_rfl) (by kernel_rfl))<|ZL rfl ⟨b,off+j*2,none⟩ (.agg (Yx y)) (YO.out) ?_;refine Zy rfl (some 6) rfl (Z5 wr.heap.size 0) (wr.alloc (.cells (Yx Uc) 64)) (by kernel_rfl) ?_;refine Zu rfl (hst)<|wn ?_;obtain⟨g4,hg4⟩:=ZR wr.heap.size;rw[hg4] at hbx ⊢;obtain⟨g5,hg5⟩:=ZR V2.heap.size;rw[hg5] at hap hbu;clear hst hg4 hg5 YO;go_upto_region 5 with fail;refine wl<|ZA (u4) (Z5 g4 1)<|ZL rfl ⟨g4,1,none⟩ (Z4 y.2) (hbx.ZP 1) ?_;refine Zr (by kernel_rfl) (some 20) rfl 113 1 #[(0,.tmp 19)] rfl #[(0,Z4 y.2)] (by kernel_rfl) (.slice (some ⟨g5,0,none⟩) 1 1) _ hbu ?_;refine Zh rfl (some 21) rfl 113 rfl (.tmp 17) (.tmp 20) 113 rfl (u4) (.slice (some ⟨g5,0,none⟩) 1 1) (v3) V3 (by kernel_rfl) (by kernel_rfl) hap ?_;refine ZV (v3)<|wn ?_;simp only[pu];clear hap hbu hbx;go_upto_region 6 with fail;refine wl<|Yy (Z8 (j+1:Nat)) (ZF rfl j 1 (by omega))<|ZV (Z8 (j+1:Nat))<|wn ?_;simp only[pu];go_wp2_with fail;go_roundg (n-(j+1))
   case measure=>have:=HG.out; omega
   case rel=>exact⟨j+1,v3,rfl,rfl,hlt,HR3,HB3,rfl⟩
  ·obtain rfl:n=j:=(by omega);obtain⟨al,cl,rfl,hcs,-⟩:=Yq rW.out;rw[HJA.out] at hcs ⊢;have CS:=aT.out al cl wr hcs;rw[Dc.out.1,Dc.out.2] at CS;generalize AM.length=m at *
   have Zl:=Z9 (HB0.out.trans (HB.out.mono HB0.out.size));clear hg rW aT Dc hcs HB;go_upto_region 3 with fail;refine wl<|ZJ (Zv rfl (n) (n) dF)<|wn ?_;simp only[pu];go_upto_region 7 with fail;refine wl<|ZV (.slice al m cl)<|YS (.tuple #[Z4 tv,.bool tb]) (fun w'=>wr=w') (CS) (fun V9 Xo=>?_);subst Xo;refine WL (Z4 tv) (.bool tb) (Z4 tv) (.bool tb)<|wn ?_;simp only[pu];clear CS;go_wp2_with fail;go_ret2;exact⟨rfl,Zl.out⟩
theorem al3 (t:Y8)(a:Option Addr)(k:Nat)(w:World)(hR:Cs w a (Rq t.tr))(hn:t.tr.length<=100000)(hf:W64 t.YZ)(ha:∀ x,x∈t.tr->W64 x.2) :
  Calls Tryz.prog 102 #[.agg (Zx t a k)] w fun e w'=>e=.returned (.tuple #[Z4 (YJ t),.bool (VB t)])/\Below w.heap.size w w':=by
 have hb0:Below w.heap.size w (w.alloc (.cells (Zx t a k) 67)):=(Below.refl _ w).alloc (Nat.le_refl _) _;have hX0:Bx (w.alloc (.cells (Zx t a k) 67)) w.heap.size (Zx t a k) 67:=heap_alloc_last w _;have HA:=Z9 (hR.below hb0);have aT:=Z9 (fun(al:Option Addr) (cl:Nat) (V:World) (h:Cs V al (UR (VK t)))=>Jd al cl (VK t) V (by rw[DV]; omega) (fun q hq=>by
  obtain⟨b,off,e,-,h1⟩:=h q (Z4 ((VK t).getD q 0)) (by
   unfold UR;rw[List.getElem?_map,List.getElem?_eq_getElem hq,List.getD_eq_getElem?_getD,List.getElem?_eq_getElem hq];rfl)
  exact⟨b,off,e,h1⟩) (ng hf ha))
 have HST:=Z9 (fun j (h:j<t.tr.length)=>IB h);have qc:=Z9 (DU t);have HJA:=Z9 (DT t);have uI:Hid (NT t 0=[t.YZ]):=Z9 (by unfold NT; rw[List.take_zero,List.map_nil]);have Dc:Hid (LD (VK t)=YJ t/\LG (VK t)=VB t):=Z9 ⟨rfl,rfl⟩;generalize NT t=J at *
 generalize VK t=AM at *
 generalize YJ t=tv at *
 generalize VB t=tb at *
 obtain⟨snd,sq,Zp,YZ,memo,A⟩:=t;simp only at *
 obtain⟨n,hnn⟩:=ZR A.length;have U5:Hid (n<=100000):=Z9 (by omega);simp only[Zx,hnn] at hb0 hX0 HA HST qc HJA ⊢;have HN:=Z9 hnn;clear hR hn hnn hf ha;go_enter Tryz.func102,Tryz.ntmps102;go_upto_region 1 with fail;change Code.wp _ _ _ _ (w.alloc (.cells #[.string snd,Z4 sq,Z4 Zp,Z4 YZ,.string memo,.slice a n k] 67));generalize w.alloc (.cells #[.string snd,Z4 sq,Z4 Zp,Z4 YZ,.string memo,.slice a n k] 67)=W at *
 obtain⟨g0,hg0⟩:=ZR w.heap.size;have HB0:=Z9 hb0;rw[hg0] at hX0;simp only[hg0];have HX:=Z9 hX0;clear hb0 hg0 hX0;have hbu:=QI YZ W;have hou:=rZ YZ W;refine wl<|ZV (Z5 g0 3)<|ZL rfl ⟨g0,3,none⟩ (Z4 YZ) (HX.out.ZP 3) ?_;refine Zr (by kernel_rfl) (some 9) rfl 113 1 #[(0,.tmp 8)] rfl #[(0,Z4 YZ)] (by kernel_rfl) (.slice (some ⟨W.heap.size,0,none⟩) 1 1) _ hbu ?_;refine ZV (.slice (some ⟨W.heap.size,0,none⟩) 1 1)<|wn ?_;simp only[pu];have hb1:Below W.heap.size W (W.alloc (.cells #[Z4 YZ] 27)):=(Below.refl _ W).alloc (Nat.le_refl _) _;clear hbu;obtain⟨v1,hv1⟩:=ZR (Value.slice (some ⟨W.heap.size,0,none⟩) 1 1);rw[hv1] at hou ⊢;generalize W.alloc (.cells #[Z4 YZ] 27)=W1 at *
 have HR1:Hid (Oe W1 W.heap.size v1 (J 0)):=Z9 (by rw[uI.out]; exact hou);have HB1:=Z9 hb1;have WW:=Z9 (HX.out.below HX.out.lt hb1);clear hv1 hou hb1;go_upto_region 2 with fail;refine wl<|ZV (Z5 g0 5)<|ZL rfl ⟨g0,5,none⟩ (.slice a n k) (WW.out.ZP 5)<|ZA (Z8 n) (Z8 0)<|wn ?_;simp only[pu];go_wp2_with fail;go_loopg [4,13] n (fun gg s4 s13 wx=>∃ (j:Nat) (v4:Value),s4=v4/\s13=Z8 j/\j<=n/\Hid (Oe wx W.heap.size v4 (J j))/\Hid (Below W.heap.size W wx)/\n-j=gg)
 case atStart=>exact⟨0,v1,rfl,rfl,by omega,HR1,HB1,by omega⟩
 case round=>
  obtain⟨j,v4,rfl,rfl,hj,rW,HB,hg⟩:=hrel;have zo:=U5.out;by_cases hlt:j<n
  ·obtain⟨b,off,rfl,-,hrx⟩:=Um (HA.out.below HB.out) (k:=j) (by rw[HN.out]; exact hlt);have YO:=Z9 (TQ hrx);have uK:=Z9 (HST.out j hlt);generalize tfa A j=y at *
   have HG:=Z9 hg;obtain⟨V2,hst,hb2,hbx⟩:=TF wr y;obtain⟨v3,V3,hap,hr3,hb3⟩:=BL (own_below rW.out hb2) (by have:=HB.out.size; have:=hb2.size; omega) y.2 (by have:=qc.out j; omega);have HR3:Hid (Oe V3 W.heap.size v3 (J (j+1))):=Z9 (by rw[uK.out]; exact hr3);have HB3:=Z9 ((HB.out.trans (hb2.mono HB.out.size)).trans hb3);have hbu:=QI y.2 V2;clear hrx hg hb2 hr3 hb3 uK;go_upto_region 3 with fail;refine wl<|ZJ (Zv rfl (j) (n) dT)<|wn ?_;simp only[pu];go_upto_region 4 with fail;refine wl<|YG (Z5 b (off+j*2)) (PW b off n k j hlt _ _ _ rfl (by kernel_rfl) (by kernel_rfl))<|ZL rfl ⟨b,off+j*2,none⟩ (.agg (Yx y)) (YO.out) ?_;refine Zy rfl (some 6) rfl (Z5 wr.heap.size 0) (wr.alloc (.cells (Yx Uc) 64)) (by kernel_rfl) ?_;refine Zu rfl (hst)<|wn ?_;obtain⟨g4,hg4⟩:=ZR wr.heap.size;rw[hg4] at hbx ⊢;obtain⟨g5,hg5⟩:=ZR V2.heap.size;rw[hg5] at hap hbu;clear hst hg4 hg5 YO;go_upto_region 5 with fail;refine wl<|ZA (u4) (Z5 g4 1)<|ZL rfl ⟨g4,1,none⟩ (Z4 y.2) (hbx.ZP 1) ?_;refine Zr (by kernel_rfl) (some 20) rfl 113 1 #[(0,.tmp 19)] rfl #[(0,Z4 y.2)] (by kernel_rfl) (.slice (some ⟨g5,0,none⟩) 1 1) _ hbu ?_;refine Zh rfl (some 21) rfl 113 rfl (.tmp 17) (.tmp 20) 113 rfl (u4) (.slice (some ⟨g5,0,none⟩) 1 1) (v3) V3 (by kernel_rfl) (by kernel_rfl) hap ?_;refine ZV (v3)<|wn ?_;simp only[pu];clear hap hbu hbx;go_upto_region 6 with fail;refine wl<|Yy (Z8 (j+1:Nat)) (ZF rfl j 1 (by omega))<|ZV (Z8 (j+1:Nat))<|wn ?_;simp only[pu];go_wp2_with fail;go_roundg (n-(j+1))
   case measure=>have:=HG.out; omega
   case rel=>exact⟨j+1,v3,rfl,rfl,hlt,HR3,HB3,rfl⟩
  ·obtain rfl:n=j:=(by omega);obtain⟨al,cl,rfl,hcs,-⟩:=Yq rW.out;rw[HJA.out] at hcs ⊢;have CS:=aT.out al cl wr hcs;rw[Dc.out.1,Dc.out.2] at CS;generalize AM.length=m at *
   have Zl:=Z9 (HB0.out.trans (HB.out.mono HB0.out.size));clear hg rW aT Dc hcs HB;go_upto_region 3 with fail;refine wl<|ZJ (Zv rfl (n) (n) dF)<|wn ?_;simp only[pu];go_upto_region 7 with fail;refine wl<|ZV (.slice al m cl)<|YS (.tuple #[Z4 tv,.bool tb]) (fun w'=>wr=w') (CS) (fun V9 Xo=>?_);subst Xo;refine WL (Z4 tv) (.bool tb) (Z4 tv) (.bool tb)<|wn ?_;simp only[pu];clear CS;go_wp2_with fail;go_ret2;exact⟨rfl,Zl.out⟩
section
variable {ρ : Operand -> Value} {o : Oper} {x y : Operand}
theorem PK (ho:o.op=.binOp .add 27 x y 27)(a b:Int)(h:W64 (a+b))(hx:ρ x=Z4 a)(hy:ρ y=Z4 b)(w:World):(execOp ρ o).run Tryz.prog w=.ok (.value (Z4 (a+b))) w:=by
 have hw:IntKind.u64.wrap (a+b)=a+b:=by obtain⟨h0,h1⟩:=h; rw[IntKind.wrap_u64]; omega
 unfold execOp;simp only[ho,hx,hy];go_simp
theorem al0 (ho:o.op=.binOp .sub 27 x y 27)(a b:Int)(h:W64 (a-b))(hx:ρ x=Z4 a)(hy:ρ y=Z4 b)(w:World):(execOp ρ o).run Tryz.prog w=.ok (.value (Z4 (a-b))) w:=by
 have hw:IntKind.u64.wrap (a-b)=a-b:=by obtain⟨h0,h1⟩:=h; rw[IntKind.wrap_u64]; omega
 unfold execOp;simp only[ho,hx,hy];go_simp
end
structure Jo (A:List Ac)(c:Int)(t:Y8):Prop where
 w:Vj A
 cw:W64 c
 n:A.length<=256
 tt:c+tot (Zb A)<18446744073709551616
 g:(Zm A t.snd).2=true
 q:(Zm A t.snd).1.2.2<18446744073709551615
 cb:VB t=true
 cv:YJ t<=(Zm A t.snd).1.2.1
 f:W64 t.YZ
 a:∀ x,x∈t.tr->W64 x.2
 m:t.tr.length<=16
theorem Jo.c0 {A:List Ac}{c:Int}{t:Y8}(h:Jo A c t):0<=YJ t/\t.YZ<=YJ t/\YJ t=tot (VK t):=by
 have h1:=(Il h.cb).1;have h2:=Pj t;have h3:=(Ik h.a t.tr.length).1;have:=h.f.1;exact⟨by omega,by omega,h1⟩
theorem Jo.j0 {A:List Ac}{c:Int}{t:Y8}(h:Jo A c t):zC A t 0 (Wh A t):=zC.start h.w h.g h.q h.cb h.cv h.c0.1
theorem Jo.js {A B:List Ac}{c:Int}{t:Y8}(h:Jo A c t){j:Nat}(hJ:zC A t j B)(hj:j<t.tr.length):zC A t (j+1) (Wp B (tfa t.tr j))/\W64 ((Xt B (tfa t.tr j).1).2.1+(tfa t.tr j).2):=
 hJ.step hj (by have:=h.tt; have:=h.cw.1; omega) h.a h.f.1
theorem Jo.yw {A:List Ac}{c:Int}{t:Y8}(h:Jo A c t):W64 ((Zm A t.snd).1.2.1-YJ t)/\W64 ((Zm A t.snd).1.2.2+1):=by
 obtain⟨h1,h2,h3⟩:=WV h.g;have hwi:=h.w _ h1;rw[<- h2] at hwi;obtain⟨⟨p0,p1⟩,q0,q1⟩:=hwi;have h4:=h.c0.1;have h5:=h.cv;have h6:=h.q;exact⟨⟨by omega,by omega⟩,by omega,by omega⟩
theorem Jo.cf {A:List Ac}{c:Int}{t:Y8}(h:Jo A c t):W64 (c+t.YZ):=by
 obtain⟨h1,h2,h3⟩:=WV h.g;have h4:=tu h.w h1;rw[<- h2] at h4;have h5:=h.c0;have:=h.cv; have:=h.tt; have:=h.cw.1; have:=h.f.1;exact⟨by omega,by omega⟩
theorem DW {A:List Ac}{c:Int}{t:Y8}(h:Jo A c t):∀ j,j<=t.tr.length->zC A t j (Rl A t j)
 | 0,_=>h.j0
 | j+1,hj=>by rw[P9 hj]; exact(h.js (DW h j (by omega)) hj).1
theorem xZ {A:List Ac}{c:Int}{t:Y8}(h:Jo A c t):zC A t t.tr.length (Yl A t):=DW h _ (Nat.le_refl _)
theorem vF (B:List Ac)(s:ByteArray):(Y0 B s<B.length/\P7 B s=(Y0 B s:Nat)/\Xt B s=aca B (Y0 B s))∨(¬ Y0 B s<B.length/\P7 B s=-1/\Xt B s=(s,0,0)):=by
 by_cases h:Y0 B s<B.length
 ·exact .inl ⟨h,if_pos h,if_pos h⟩
 ·exact .inr ⟨h,if_neg h,if_neg h⟩
def fC (w:World)(B:List Ac)(c:Int)(e:Ending)(w':World):Prop:=∃ ad k,e=.returned (.agg (ZU ad B.length k c))/\Zi w' w.heap.size (.slice ad B.length k) B/\Below w.heap.size w w'
theorem DY (A:List Ac)(c:Int)(t:Y8)(la ta:Option Addr)(lk tk:Nat)(w:World)(hL:Cs w la (acc A))(hlk:A.length<=lk)(hT:Cs w ta (Rq t.tr))(hQ:Jo A c t) :
  Calls Tryz.prog 58 #[.agg (ZU la A.length lk c),.agg (Zx t ta tk),Z4 (YJ t)] w (fC w (Yl A t) (c+t.YZ)):=by
 obtain⟨hb0,Wj,YA,WX⟩:=Xk w (ZU la A.length lk c) (Zx t ta tk) (ZU none 0 0 0) 29 67 29;have hA:=hL.below hb0;have hT0:=hT.below hb0;have HQ:=Z9 hQ;have HYW:=Z9 hQ.yw;have HCF:=Z9 hQ.cf;have U5:Hid (A.length<=256/\t.tr.length<=16):=Z9 ⟨hQ.n,hQ.m⟩;have uI:=Z9 hQ.j0;clear hL hT hQ;go_enter Tryz.func58,Tryz.ntmps58;go_upto_region 1 with fail;change Code.wp _ _ _ _ (((w.alloc (.cells (ZU la A.length lk c) 29)).alloc (.cells (Zx t ta tk) 67)).alloc (.cells (ZU none 0 0 0) 29));generalize ((w.alloc (.cells (ZU la A.length lk c) 29)).alloc (.cells (Zx t ta tk) 67)).alloc (.cells (ZU none 0 0 0) 29)=W at *
 obtain⟨g3,hg3⟩:=ZR w.heap.size;obtain⟨g4,hg4⟩:=ZR (g3+1);obtain⟨g6,WG⟩:=ZR (g4+1);have HB0:=Z9 hb0;rw[show w.heap.size+2=g6 by omega] at WX;rw[show w.heap.size+1=g4 by omega] at YA;have HG6:Hid (w.heap.size<=g6):=Z9 (by omega);have aK7:Hid (g6<W.heap.size):=Z9 WX.lt;rw[hg3] at Wj;simp only[hg3];simp only[hg4];simp only[WG];have XD:=Z9 Wj;have YV:=Z9 YA;have XQ:=Z9 WX;have HA:=Z9 hA;have HT:=Z9 hT0;have CG:=zk la lk A c t.snd W hA (by have:=U5.out; omega);obtain⟨y,hy⟩:=ZR ((Zm A t.snd).1);have hS:Wh A t=Yw A (y.1,y.2.1-YJ t,y.2.2+1):=by rw[<- hy]; rfl
 rw[HQ.out.g,hy] at CG;have HS:=Z9 hS;rw[hy] at HYW;clear hb0 Wj YA WX hA hT0 hg3 hg4 WG hy hS;refine wl<|ZL rfl ⟨g3,0,none⟩ (.agg (ZU la A.length lk c)) (ZN XD.out)<|ZV (Z5 g4 0)<|ZL rfl ⟨g4,0,none⟩ (.string t.snd) (YV.out.ZP 0) <|
  YS (.tuple #[.agg (Zq y),ZW]) (fun w'=>Below W.heap.size W w') CG (fun W1 hW1=>?_)
 obtain⟨V2,hst2,hb2,hbx2⟩:=VX W1 y;refine Yr (.tuple #[.agg (Zq y),ZW]) (.agg (Zq y)) ZW ?_;refine Zy rfl (some 7) rfl (Z5 W1.heap.size 0) (W1.alloc (.cells (Zq WA) 60)) (by kernel_rfl) ?_;refine Zu rfl (hst2)<|ZV ZW<|wn ?_;simp only[pu];have hb3:=hW1.trans (hb2.mono hW1.size);obtain⟨g7,RF⟩:=ZR W1.heap.size;have hG7:W.heap.size<=g7:=by rw[<- RF]; exact hW1.size
 rw[RF] at hbx2 ⊢;obtain⟨V3,hst3,al1,hb4,-⟩:=Zn (i:=1) (ty:=27) (v:=Z4 (y.2.1-YJ t)) (cs':=Zq (y.1,y.2.1-YJ t,y.2.2)) hbx2 hb3 hG7 (by show 1<3; decide) rfl (by kernel_rfl) rfl;obtain⟨V4,UZ,aB5,hb5,-⟩:=Zn (i:=2) (ty:=27) (v:=Z4 (y.2.2+1)) (cs':=Zq (y.1,y.2.1-YJ t,y.2.2+1)) al1 hb4 hG7 (by show 2<3; decide) rfl (by kernel_rfl) rfl;clear CG hW1 hst2 hb2 RF;go_upto_region 2 with fail;refine wl<|ZV (Z5 g7 1)<|ZL rfl ⟨g7,1,none⟩ (Z4 y.2.1) (hbx2.ZP 1)<|ZV (Z4 (YJ t))<|Yy (Z4 (y.2.1-YJ t)) (al0 rfl y.2.1 (YJ t) HYW.out.1) <|
  ZV (Z5 g7 1)<|Zu rfl (hst3)<|wn ?_
 simp only[pu];go_upto_region 3 with fail;refine wl<|ZV (Z5 g7 2)<|ZL rfl ⟨g7,2,none⟩ (Z4 y.2.2) (al1.ZP 2)<|Yy (Z4 (y.2.2+1)) (PK rfl y.2.2 1 HYW.out.2)<|ZV (Z5 g7 2)<|Zu rfl (UZ) <|
  wpList_nil ?_
 simp only[pu];have CP:=MO la lk A (y.1,y.2.1-YJ t,y.2.2+1) V4 (HA.out.below hb5) hlk (by have:=U5.out; omega);rw[<- HS.out] at CP;have JG:=Z9 hb5;have ni:=Z9 (XD.out.below XD.out.lt hb5);clear hst3 UZ hb3 hb4 hbx2 al1 hb5;go_upto_region 4 with fail;refine wl<|ZV (Z5 g3 0)<|ZL rfl ⟨g3,0,none⟩ (.slice la A.length lk) (ni.out.ZP 0)<|ZL rfl ⟨g7,0,none⟩ (.agg (Zq (y.1,y.2.1-YJ t,y.2.2+1))) (Za aB5) <|
  Yi (fun v w'=>Zi w' V4.heap.size v (Wh A t)/\Below V4.heap.size V4 w') (CP.mono fun e w' q=>by obtain⟨v,h1,h2,h3⟩:=q; exact⟨v,h1,h2,h3⟩) (fun vV5 V5 hq=>?_)
 refine ZV (vV5)<|wn ?_;simp only[pu];obtain⟨Rj,hb6⟩:=hq;have Yd:=Z9 (JG.out.trans (hb6.mono JG.out.size));have Pn:=Z9 (own_base Rj JG.out.size);have aB6:=Z9 (YV.out.below YV.out.lt Yd.out);clear CP aB5 Rj hb6 ni HS HYW;go_upto_region 5 with fail;refine wl<|ZV (Z5 g4 5)<|ZL rfl ⟨g4,5,none⟩ (.slice ta t.tr.length tk) (aB6.out.ZP 5)<|ZA (Z8 t.tr.length) (Z8 0)<|wn ?_;simp only[pu];go_wp2_with fail;clear aB6;go_loopg [9,37] t.tr.length (fun gg s9 s37 wx=>∃ (j:Nat) (B:List Ac) (v9:Value),s9=v9/\s37=Z8 j/\j<=t.tr.length/\Hid (zC A t j B)/\Hid (Zi wx W.heap.size v9 B)/\Hid (Below W.heap.size W wx)/\t.tr.length-j=gg)
 case atStart=>exact⟨0,Wh A t,vV5,rfl,rfl,by omega,uI,Pn,Yd,by omega⟩
 case round=>
  obtain⟨j,B,v9,rfl,rfl,hj,HJ,HR,HB,hg⟩:=hrel;clear uI Pn Yd;obtain⟨ad,cd,rfl,hcs,hcd⟩:=HR.out.cs;have hBn:B.length<=300:=by have:=HJ.out.n; have:=U5.out; omega
  by_cases hlt:j<t.tr.length
  ·obtain⟨b,off,rfl,-,hrx⟩:=Um (HT.out.below HB.out) hlt;have YO:=Z9 (TQ hrx);obtain⟨hJ1,hW1⟩:=HQ.out.js HJ.out hlt;have hGV:Wp B (tfa t.tr j)=Yw B ((Xt B (tfa t.tr j).1).1,(Xt B (tfa t.tr j).1).2.1+(tfa t.tr j).2,(Xt B (tfa t.tr j).1).2.2):=rfl;have HJ1:=Z9 hJ1;generalize tfa t.tr j=x at *
   have hn16:=U5.out.2;have HG:=Z9 hg;obtain⟨V2,hst,hb2,hbx⟩:=TF wr x;obtain⟨V3,hst3,hb3,hbz⟩:=VX V2 (x.1,0,0);have hbv:=hb2.trans (hb3.mono hb2.size);have CF:=O8 ad cd B x.1 V3 (hcs.below hbv) (by omega);have hcx:=vF B x.1;generalize Wp B x=B2 at *
   generalize Xt B x.1=z at *
   generalize P7 B x.1=fi at *
   clear hrx hg hJ1 HJ;go_upto_region 6 with fail;refine wl<|ZJ (Zv rfl (j) (t.tr.length) dT)<|wn ?_;simp only[pu];go_upto_region 7 with fail;refine wl<|YG (Z5 b (off+j*2)) (PW b off t.tr.length tk j hlt _ _ _ rfl (by kernel_rfl) (by kernel_rfl))<|ZL rfl ⟨b,off+j*2,none⟩ (.agg (Yx x)) (YO.out) ?_;refine Zy rfl (some 11) rfl (Z5 wr.heap.size 0) (wr.alloc (.cells (Yx Uc) 64)) (by kernel_rfl) ?_;refine Zu rfl (hst)<|wn ?_;obtain⟨g11,QS⟩:=ZR wr.heap.size;have WY:=hbx.below hbx.lt hb3;rw[QS] at hbx WY hst ⊢;clear hst YO;go_upto_region 8 with fail;refine wl<|ZV (Z5 g11 0)<|ZL rfl ⟨g11,0,none⟩ (.string x.1) (hbx.ZP 0)<|ZV (.agg #[.string x.1,Z4 0,Z4 0]) ?_;refine Zy rfl (some 12) rfl (Z5 V2.heap.size 0) (V2.alloc (.cells (Zq WA) 60)) (by kernel_rfl) ?_;refine Zu rfl (hst3)<|wn ?_;obtain⟨g12,Qu⟩:=ZR V2.heap.size;have al2:wr.heap.size<=g12:=(by rw[<- Qu]; exact hb2.size);rw[Qu] at hbz hst3 ⊢;clear hst3;go_upto_region 9 with fail;refine wl<|ZA (.slice ad B.length cd) (Z5 g11 0)<|ZL rfl ⟨g11,0,none⟩ (.string x.1) (WY.ZP 0)<|YS (Z8 fi) (fun w'=>Below V3.heap.size V3 w') (CF) (fun V4 VL=>?_);refine ZV (Z8 fi)<|wn ?_;simp only[pu];have hb4:=hbv.trans (VL.mono hbv.size);have fB:=hbz.below hbz.lt VL;have Qp:=WY.below WY.lt VL;have hne:g11≠g12:=(by rw[<- QS,<- Qu]; have:=hbx.lt; rw[<- QS] at this; omega);clear CF VL hbz hbx WY hb2 hb3 hbv QS Qu;rcases hcx with⟨hf,rfl,rfl⟩ | ⟨hf,rfl,rfl⟩
   ·obtain⟨bb,bo,e1,-,hrz⟩:=Yv (hcs.below hb4) hf;subst e1;have HLZ:=Z9 (XM hrz);obtain⟨hst5,Nk⟩:=XI (y:=aca B (Y0 B x.1)) fB;have jo:=Qp.but (But.setRow (g:=g12) V4 (Zq (aca B (Y0 B x.1)))) hne;have hb5:Below wr.heap.size wr (V4.setRow g12 (Zq (aca B (Y0 B x.1)))):=ZQ hb4 al2 _;generalize Y0 B x.1=fl at *
    generalize aca B fl=z at *
    generalize V4.setRow g12 (Zq z)=V5 at *
    clear hrz Qp fB;go_upto_region 10 with fail;refine wl<|ZV (Z8 (fl:Nat))<|ZJ (UQ rfl (fl:Nat) 0 dT)<|wn ?_;simp only[pu];go_upto_region 11 with fail;refine wl<|ZA (.slice (some ⟨bb,bo,none⟩) B.length cd) (Z8 (fl:Nat))<|YG (Z5 bb (bo+fl*3)) (YC bb bo B.length cd fl hf _ _ _ rfl (by kernel_rfl) (by kernel_rfl))<|ZL rfl ⟨bb,bo+fl*3,none⟩ (.agg (Zq z)) (HLZ.out) <|
     Zu rfl (hst5)<|wn ?_
    simp only[pu];clear hst5 HLZ;obtain⟨V6,Xc,ET,hb6,-⟩:=Zn (i:=1) (ty:=27) (v:=Z4 (z.2.1+x.2)) (cs':=Zq (z.1,z.2.1+x.2,z.2.2)) Nk hb5 al2 (by show 1<3; decide) rfl (by kernel_rfl) rfl;have CP:=MO (some ⟨bb,bo,none⟩) cd B (z.1,z.2.1+x.2,z.2.2) V6 (hcs.below hb6) hcd (by omega);rw[<- hGV] at CP;go_upto_region 12 with fail;refine wl<|ZV (Z5 g12 1)<|ZL rfl ⟨g12,1,none⟩ (Z4 z.2.1) (Nk.ZP 1)<|ZV (Z5 g11 1)<|ZL rfl ⟨g11,1,none⟩ (Z4 x.2) (jo.ZP 1) <|
     Yy (Z4 (z.2.1+x.2)) (PK rfl z.2.1 x.2 hW1)<|ZV (Z5 g12 1)<|Zu rfl (Xc)<|wn ?_
    simp only[pu];go_upto_region 13 with fail;refine wl<|ZV (.slice (some ⟨bb,bo,none⟩) B.length cd)<|ZL rfl ⟨g12,0,none⟩ (.agg (Zq (z.1,z.2.1+x.2,z.2.2))) (Za ET) <|
     Yi (fun v w'=>Zi w' V6.heap.size v (B2)/\Below V6.heap.size V6 w') (CP.mono fun e w' q=>by obtain⟨v,h1,h2,h3⟩:=q; exact⟨v,h1,h2,h3⟩) (fun vV7 V7 hq=>?_)
    refine ZV (vV7)<|wn ?_;simp only[pu];obtain⟨Lu,hb7⟩:=hq;have hb8:=hb6.trans (hb7.mono hb6.size);have OX:=Z9 (HB.out.trans (hb8.mono HB.out.size));have Bv:=Z9 (own_base Lu (Nat.le_trans HB.out.size hb6.size));clear CP Xc ET hb6 Lu hb7 hb8;go_upto_region 14 with fail;refine wl<|Yy (Z8 (j+1:Nat)) (ZF rfl j 1 (by omega))<|ZV (Z8 (j+1:Nat))<|wn ?_;simp only[pu];go_wp2_with fail;go_roundg (t.tr.length-(j+1))
    case measure=>have:=HG.out; omega
    case rel=>exact⟨j+1,B2,vV7,rfl,rfl,hlt,HJ1,Bv,OX,rfl⟩
   ·go_upto_region 10 with fail;refine wl<|ZV (Z8 (-1))<|ZJ (UQ rfl (-1) 0 dF)<|wn ?_;simp only[pu];obtain⟨V6,Xc,ET,hb6,-⟩:=Zn (i:=1) (ty:=27) (v:=Z4 ((x.1,0,0).2.1+x.2)) (cs':=Zq ((x.1,0,0).1,(x.1,0,0).2.1+x.2,(x.1,0,0).2.2)) fB hb4 al2 (by show 1<3; decide) rfl (by kernel_rfl) rfl;have CP:=MO ad cd B ((x.1,0,0).1,(x.1,0,0).2.1+x.2,(x.1,0,0).2.2) V6 (hcs.below hb6) hcd (by omega);rw[<- hGV] at CP;go_upto_region 12 with fail;refine wl<|ZV (Z5 g12 1)<|ZL rfl ⟨g12,1,none⟩ (Z4 (x.1,0,0).2.1) (fB.ZP 1)<|ZV (Z5 g11 1)<|ZL rfl ⟨g11,1,none⟩ (Z4 x.2) (Qp.ZP 1) <|
     Yy (Z4 ((x.1,0,0).2.1+x.2)) (PK rfl (x.1,0,0).2.1 x.2 hW1)<|ZV (Z5 g12 1)<|Zu rfl (Xc)<|wn ?_
    simp only[pu];go_upto_region 13 with fail;refine wl<|ZV (.slice ad B.length cd)<|ZL rfl ⟨g12,0,none⟩ (.agg (Zq ((x.1,0,0).1,(x.1,0,0).2.1+x.2,(x.1,0,0).2.2))) (Za ET) <|
     Yi (fun v w'=>Zi w' V6.heap.size v (B2)/\Below V6.heap.size V6 w') (CP.mono fun e w' q=>by obtain⟨v,h1,h2,h3⟩:=q; exact⟨v,h1,h2,h3⟩) (fun vV7 V7 hq=>?_)
    refine ZV (vV7)<|wn ?_;simp only[pu];obtain⟨Lu,hb7⟩:=hq;have hb8:=hb6.trans (hb7.mono hb6.size);have OX:=Z9 (HB.out.trans (hb8.mono HB.out.size));have Bv:=Z9 (own_base Lu (Nat.le_trans HB.out.size hb6.size));clear CP Xc ET hb6 Lu hb7 hb8;go_upto_region 14 with fail;refine wl<|Yy (Z8 (j+1:Nat)) (ZF rfl j 1 (by omega))<|ZV (Z8 (j+1:Nat))<|wn ?_;simp only[pu];go_wp2_with fail;go_roundg (t.tr.length-(j+1))
    case measure=>have:=HG.out; omega
    case rel=>exact⟨j+1,B2,vV7,rfl,rfl,hlt,HJ1,Bv,OX,rfl⟩
  ·obtain rfl:t.tr.length=j:=(by omega);have hfin:Yl A t=B:=(HJ.out.is).symm;have XD:=Z9 (XD.out.below XD.out.lt HB.out);have YV:=Z9 (YV.out.below YV.out.lt HB.out);obtain⟨YT,SY⟩:=ZC (a':=ad) (n':=B.length) (k':=cd) (c':=c+t.YZ) (XQ.out.below XQ.out.lt HB.out);have hrow:=Zt HR.out (But.setRow (g:=g6) wr (ZU ad B.length cd (c+t.YZ))) aK7.out;have Yb:=ZQ (HB0.out.trans (HB.out.mono HB0.out.size)) HG6.out (ZU ad B.length cd (c+t.YZ));have HE:Hid (Zi (wr.setRow g6 (ZU ad B.length cd (c+t.YZ))) w.heap.size (.slice ad B.length cd) B/\Below w.heap.size w (wr.setRow g6 (ZU ad B.length cd (c+t.YZ)))):=Z9 ⟨own_base hrow HB0.out.size,Yb⟩;generalize wr.setRow g6 (ZU ad B.length cd (c+t.YZ))=V9 at *
   have HFN:=Z9 hfin;clear hrow Yb HJ hfin hcs;go_upto_region 6 with fail;refine wl<|ZJ (Zv rfl (t.tr.length) (t.tr.length) dF)<|wn ?_;simp only[pu];go_upto_region 15 with fail;refine wl<|ZA (.slice ad B.length cd) (Z5 g3 1)<|ZL rfl ⟨g3,1,none⟩ (Z4 c) (XD.out.ZP 1)<|ZV (Z5 g4 3)<|ZL rfl ⟨g4,3,none⟩ (Z4 t.YZ) (YV.out.ZP 3) <|
    Yy (Z4 (c+t.YZ)) (PK rfl c t.YZ HCF.out)<|ZV (.agg (ZU ad B.length cd (c+t.YZ)))<|Zu rfl (YT)<|wn ?_
   simp only[pu];go_wp2_with fail;exact bodyPost_ret (YB rfl (by kernel_rfl) (ZN SY)) rfl (by show fC w (Yl A t) (c+t.YZ) _ _; rw[HFN.out]; exact⟨ad,cd,rfl,HE.out⟩)
section
variable {ρ : Operand -> Value} {o : Oper} {x y : Operand}
theorem Gm (ho:o.op=.binOp .neq 27 x y 27)(a b:Int){t:Bool}(ht:decide (a=b)=t)(hx:ρ x=Z4 a)(hy:ρ y=Z4 b)(w:World):(execOp ρ o).run Tryz.prog w=.ok (.value (.bool (!t))) w:=by
 have e:(a != b) = !t:=by rw[<- ht]; rfl
 unfold execOp;simp only[ho,hx,hy];go_simp
theorem J3 (ho:o.op=.binOp .eql 27 x y 27)(a b:Int){t:Bool}(ht:decide (a=b)=t)(hx:ρ x=Z4 a)(hy:ρ y=Z4 b)(w:World):(execOp ρ o).run Tryz.prog w=.ok (.value (.bool t)) w:=by
 have e:(a == b)=t:=ht;unfold execOp;simp only[ho,hx,hy];go_simp
theorem Tz (ho:o.op=.binOp .lss 27 x y 27)(a b:Int){t:Bool}(ht:decide (a<b)=t)(hx:ρ x=Z4 a)(hy:ρ y=Z4 b)(w:World):(execOp ρ o).run Tryz.prog w=.ok (.value (.bool t)) w:=by
 rw[<- ht];unfold execOp;simp only[ho,hx,hy];go_simp
end
structure FaQ (A:List Ac)(c price:Int)(t:Y8):Prop where
 v:YD A c=0
 w:Vj A
 cw:W64 c
 p:W64 price
 sq:W64 t.sq
 Zp:W64 t.Zp
 f:W64 t.YZ
 a:∀ x,x∈t.tr->W64 x.2
 m:t.tr.length<=16
theorem FaQ.dn {A:List Ac}{c price:Int}{t:Y8}(h:FaQ A c price t)(h1:(Zm A t.snd).2=true)(h2:(Zm A t.snd).1.2.2=t.sq)(h3:¬ t.sq=18446744073709551615)(h4:VB t=true)(h5:¬ (Zm A t.snd).1.2.1<YJ t):Jo A c t:=by
 obtain⟨v1,v2,v3,v4⟩:=Vq h.v;have v5:tot (c::Zb A)<18446744073709551616:=of_decide_eq_true v4;rw[X6] at v5;have:=h.sq.2;exact⟨h.w,h.cw,v1,v5,h1,by omega,h4,by omega,h.f,h.a,h.m⟩
theorem vI (A:List Ac)(c price size:Int)(t:Y8)(la ta:Option Addr)(lk tk:Nat)(w:World)(hL:Cs w la (acc A))(hlk:A.length<=lk)(hT:Cs w ta (Rq t.tr))(hQ:FaQ A c price t) :
  Calls Tryz.prog 55 #[.agg (ZU la A.length lk c),Z4 price,.agg (Zx t ta tk),Z8 size] w fun e w'=>e=.returned (Z8 (Yp A price t size))/\Below w.heap.size w w':=by
 obtain⟨hb0,YA,WX⟩:=Zk w (ZU la A.length lk c) (Zx t ta tk) 29 67;have hA:=hL.below hb0;have hT0:=hT.below hb0;have HQ:=Z9 hQ;have hn:=(Vq hQ.v).1;have U5:Hid (A.length<=256/\t.tr.length<=16):=Z9 ⟨hn,hQ.m⟩;have lu:=Z9 (fun h1 h2 h3 h4 h5=>hQ.dn h1 h2 h3 h4 h5);obtain⟨f8,h8⟩:∃ v:Int,v=(if 256<(Yl A t).length then 3 else 0):=⟨_,rfl⟩;obtain⟨f7,h7⟩:∃ v:Int,v=(if (Zm A t.snd).1.2.1<YJ t then 17 else f8):=⟨_,rfl⟩;obtain⟨f6,h6⟩:∃ v:Int,v=(if VB t=false then 6 else f7):=⟨_,rfl⟩;obtain⟨f5,h5⟩:∃ v:Int,v=(if t.YZ<Yz t.Zp price then 16 else f6):=⟨_,rfl⟩;obtain⟨f4,h4⟩:∃ v:Int,v=(if Ym t.Zp price=false then 6 else f5):=⟨_,rfl⟩;obtain⟨f3,h3⟩:∃ v:Int,v=(if t.Zp<YU size t.tr.length then 15 else f4):=⟨_,rfl⟩;obtain⟨f2,h2⟩:∃ v:Int,v=(if t.sq=18446744073709551615 then 6 else f3):=⟨_,rfl⟩;obtain⟨f1,h1⟩:∃ v:Int,v=(if (Zm A t.snd).1.2.2≠t.sq then 14 else f2):=⟨_,rfl⟩;have h0:Yp A price t size=(if (Zm A t.snd).2=false then 13 else f1):=by rw[h1,h2,h3,h4,h5,h6,h7,h8]; rfl
 obtain⟨f0,hf0⟩:∃ v:Int,v=Yp A price t size:=⟨_,rfl⟩;rw[<- hf0] at h0 ⊢;have CC:=Z9 (fun V (h:Cs V ta (Rq t.tr))=>DZ t ta tk V h (by have:=hQ.m; omega) hQ.f hQ.a);have CU:=fun V=>Mo.nR size t.tr.length V;have CN:=fun V=>Mo.nO t.Zp price V hQ.Zp hQ.p;obtain⟨y,hy⟩:=ZR ((Zm A t.snd).1);obtain⟨gb,hgb⟩:=ZR ((Zm A t.snd).2);rw[hy] at h1 h7;rw[hgb] at h0;have HY:=Z9 hy;have HGB:=Z9 hgb;generalize YU size t.tr.length=us at *
 generalize Yz t.Zp price=mv at *
 generalize Ym t.Zp price=mb at *
 have H0:=Z9 h0; have H1:=Z9 h1; have H2:=Z9 h2; have H3:=Z9 h3; have H4:=Z9 h4; have H5:=Z9 h5; have H6:=Z9 h6; have H7:=Z9 h7; have H8:=Z9 h8;clear h0 h1 h2 h3 h4 h5 h6 h7 h8 hf0 hL hT hQ hn;go_enter Tryz.func55,Tryz.ntmps55;go_upto_region 1 with fail;change Code.wp _ _ _ _ ((w.alloc (.cells (ZU la A.length lk c) 29)).alloc (.cells (Zx t ta tk) 67));generalize (w.alloc (.cells (ZU la A.length lk c) 29)).alloc (.cells (Zx t ta tk) 67)=W at *
 obtain⟨g4,hg4⟩:=ZR w.heap.size;obtain⟨g6,WG⟩:=ZR (g4+1);have HB0:=Z9 hb0;rw[show w.heap.size+1=g6 by omega] at WX;rw[hg4] at YA;simp only[hg4];simp only[WG];have YV:=Z9 YA;have XQ:=Z9 WX;have HA:=Z9 hA;have HT:=Z9 hT0;have CG:=zk la lk A c t.snd W hA (by have:=U5.out; omega);rw[hy,hgb] at CG;clear hb0 YA WX hA hT0 hg4 WG hy hgb;refine wl<|ZL rfl ⟨g4,0,none⟩ (.agg (ZU la A.length lk c)) (ZN YV.out)<|ZV (Z5 g6 0)<|ZL rfl ⟨g6,0,none⟩ (.string t.snd) (XQ.out.ZP 0)<|YS (.tuple #[.agg (Zq y),.bool gb]) (fun w'=>Below W.heap.size W w') CG (fun W1 hW1=>?_);obtain⟨V2,hst2,hb2,hbx2⟩:=VX W1 y;refine Yr (.tuple #[.agg (Zq y),.bool gb]) (.agg (Zq y)) (.bool gb) ?_;refine Zy rfl (some 9) rfl (Z5 W1.heap.size 0) (W1.alloc (.cells (Zq WA) 60)) (by kernel_rfl) ?_;refine Zu rfl (hst2)<|ZV (.bool gb)<|wn ?_;simp only[pu];have hb3:=hW1.trans (hb2.mono hW1.size);obtain⟨g9,FH⟩:=ZR W1.heap.size;rw[FH] at hbx2 ⊢;have JK:=Z9 hbx2;have HB2:=Z9 hb3;have RP:=Z9 (XQ.out.below XQ.out.lt hb3);clear CG hW1 hst2 hb2 FH hbx2 hb3;cases gb
 ·go_upto_region 2 with fail;refine wl<|Yr ZY ZW ZW<|wn ?_;simp only[pu];obtain rfl:f0=13:=by rw[H0.out]; rfl
  go_upto_region 3 with fail;refine wl<|ZV (Z8 13)<|wn ?_;simp only[pu];go_wp2_with fail;go_ret;exact⟨rfl,HB0.out.trans (HB2.out.mono HB0.out.size)⟩
 ·have E0:=Z9 (show f0=f1 by rw[H0.out]; rfl);clear H0;go_upto_region 2 with fail;refine wl<|Yr ZW ZY ZY<|wn ?_;simp only[pu];by_cases hs:y.2.2=t.sq
  ·have E1:=Z9 (show f1=f2 by rw[H1.out,if_neg (by simpa using hs)]);clear H1;go_upto_region 4 with fail;refine wl<|ZV (Z5 g9 2)<|ZL rfl ⟨g9,2,none⟩ (Z4 y.2.2) (JK.out.ZP 2)<|ZV (Z5 g6 1)<|ZL rfl ⟨g6,1,none⟩ (Z4 t.sq) (RP.out.ZP 1) <|
    ZJ (Gm rfl y.2.2 t.sq (decide_eq_true hs))<|ZV ZY<|wn ?_
   simp only[pu];by_cases hm:t.sq=18446744073709551615
   ·go_upto_region 6 with fail;refine wl<|ZV (Z5 g6 1)<|ZL rfl ⟨g6,1,none⟩ (Z4 t.sq) (RP.out.ZP 1)<|ZJ (J3 rfl t.sq 18446744073709551615 (decide_eq_true hm))<|ZV ZW <|
     wpList_nil ?_
    simp only[pu];obtain rfl:f0=6:=(by rw[E0.out,E1.out,H2.out,if_pos hm]);go_upto_region 7 with fail;refine wl<|ZV (Z8 6)<|wn ?_;simp only[pu];go_wp2_with fail;go_ret;exact⟨rfl,HB0.out.trans (HB2.out.mono HB0.out.size)⟩
   ·have E2:=Z9 (show f2=f3 by rw[H2.out,if_neg hm]);clear H2;go_upto_region 6 with fail;refine wl<|ZV (Z5 g6 1)<|ZL rfl ⟨g6,1,none⟩ (Z4 t.sq) (RP.out.ZP 1)<|ZJ (J3 rfl t.sq 18446744073709551615 (decide_eq_false hm))<|ZV ZY <|
     wpList_nil ?_
    simp only[pu];by_cases hga:t.Zp<us
    ·go_upto_region 8 with fail;have uq:Hid (Bx V2.drew g6 (Zx t ta tk) 67):=Z9 RP.out;refine ZH (C:=fun U=>U=V2.drew) (by kernel_rfl) (by kernel_rfl) (rfl) ?_;refine gy (Z5 g6 2)<|Vy rfl ⟨g6,2,none⟩ (Z4 t.Zp) (fun U hU=>by rw[hU]; exact uq.out.ZP 2)<|gy (Z8 size)<|gy (Z5 g6 5) <|
       Vy rfl ⟨g6,5,none⟩ (.slice ta t.tr.length tk) (fun U hU=>by rw[hU]; exact uq.out.ZP 5)<|gy (Z8 t.tr.length) ?_
     refine L9 (by kernel_rfl) (some 42) rfl 82 #[Z8 size,Z8 t.tr.length] (Z4 us) (fun U hU=>by kernel_rfl) (fun U hU=>(CU U).mono fun e w2 q=>⟨q.1,q.2 ▸ hU⟩) ?_;refine XU ZW (fun U hU=>Tz rfl t.Zp us (decide_eq_true hga) (by kernel_rfl) (by kernel_rfl) _)<|gy ZW ?_;simp only[pu];apply wpQuiet_nil;intro U hU;have HB2:Hid (Below W.heap.size W U):=Z9 (by rw[hU]; exact HB2.out.drew);have JK:Hid (Bx U g9 (Zq y) 60):=Z9 (by rw[hU]; exact JK.out);have RP:Hid (Bx U g6 (Zx t ta tk) 67):=Z9 (by rw[hU]; exact RP.out);clear hU;obtain rfl:f0=15:=(by rw[E0.out,E1.out,E2.out,H3.out,if_pos hga]);go_upto_region 9 with fail;refine wl<|ZV (Z8 15)<|wn ?_;simp only[pu];go_wp2_with fail;go_ret;exact⟨rfl,HB0.out.trans (HB2.out.mono HB0.out.size)⟩
    ·have E3:=Z9 (show f3=f4 by rw[H3.out,if_neg hga]);clear H3;go_upto_region 8 with fail;have uq:Hid (Bx V2.drew g6 (Zx t ta tk) 67):=Z9 RP.out;refine ZH (C:=fun U=>U=V2.drew) (by kernel_rfl) (by kernel_rfl) (rfl) ?_;refine gy (Z5 g6 2)<|Vy rfl ⟨g6,2,none⟩ (Z4 t.Zp) (fun U hU=>by rw[hU]; exact uq.out.ZP 2)<|gy (Z8 size)<|gy (Z5 g6 5) <|
       Vy rfl ⟨g6,5,none⟩ (.slice ta t.tr.length tk) (fun U hU=>by rw[hU]; exact uq.out.ZP 5)<|gy (Z8 t.tr.length) ?_
     refine L9 (by kernel_rfl) (some 42) rfl 82 #[Z8 size,Z8 t.tr.length] (Z4 us) (fun U hU=>by kernel_rfl) (fun U hU=>(CU U).mono fun e w2 q=>⟨q.1,q.2 ▸ hU⟩) ?_;refine XU ZY (fun U hU=>Tz rfl t.Zp us (decide_eq_false hga) (by kernel_rfl) (by kernel_rfl) _)<|gy ZY ?_;simp only[pu];apply wpQuiet_nil;intro U hU;have HB2:Hid (Below W.heap.size W U):=Z9 (by rw[hU]; exact HB2.out.drew);have JK:Hid (Bx U g9 (Zq y) 60):=Z9 (by rw[hU]; exact JK.out);have RP:Hid (Bx U g6 (Zx t ta tk) 67):=Z9 (by rw[hU]; exact RP.out);clear hU;go_upto_region 10 with fail;refine wl<|ZV (Z5 g6 2)<|ZL rfl ⟨g6,2,none⟩ (Z4 t.Zp) (RP.out.ZP 2)<|ZV (Z4 price)<|YS (.tuple #[Z4 mv,.bool mb]) (fun w'=>U=w') (CN U) (fun V9 Xo=>?_);subst Xo;refine SG (.tuple #[Z4 mv,.bool mb]) (Z4 mv) (.bool mb) (Z4 mv) (.bool mb)<|wn ?_;simp only[pu];go_upto_region 11 with fail;refine wl<|ZL rfl ⟨g6,0,none⟩ (.agg (Zx t ta tk)) (Zz RP.out)<|YS (.tuple #[Z4 (YJ t),.bool (VB t)]) (fun w'=>Below U.heap.size U w') (CC.out U (HT.out.below HB2.out)) (fun V3 WH=>?_);refine SG (.tuple #[Z4 (YJ t),.bool (VB t)]) (Z4 (YJ t)) (.bool (VB t)) (Z4 (YJ t)) (.bool (VB t))<|wn ?_;simp only[pu];have HB3:=Z9 (HB2.out.trans (WH.mono HB2.out.size));have aB4:=Z9 (JK.out.below JK.out.lt WH);have PL:=Z9 (RP.out.below RP.out.lt WH);clear WH CU CN;cases mb
     ·go_upto_region 12 with fail;refine wl<|Yr ZY ZW ZW<|wn ?_;simp only[pu];obtain rfl:f0=6:=(by rw[E0.out,E1.out,E2.out,E3.out,H4.out]; rfl);go_upto_region 13 with fail;refine wl<|ZV (Z8 6)<|wn ?_;simp only[pu];go_wp2_with fail;go_ret;exact⟨rfl,HB0.out.trans (HB3.out.mono HB0.out.size)⟩
     ·have E4:=Z9 (show f4=f5 by rw[H4.out]; rfl);clear H4;go_upto_region 12 with fail;refine wl<|Yr ZW ZY ZY<|wn ?_;simp only[pu];by_cases hfe:t.YZ<mv
      ·go_upto_region 14 with fail;refine wl<|ZV (Z5 g6 3)<|ZL rfl ⟨g6,3,none⟩ (Z4 t.YZ) (PL.out.ZP 3)<|ZV (Z4 mv)<|ZJ (Tz rfl t.YZ mv (decide_eq_true hfe))<|ZV ZW <|
        wpList_nil ?_
       simp only[pu];obtain rfl:f0=16:=(by rw[E0.out,E1.out,E2.out,E3.out,E4.out,H5.out,if_pos hfe]);go_upto_region 15 with fail;refine wl<|ZV (Z8 16)<|wn ?_;simp only[pu];go_wp2_with fail;go_ret;exact⟨rfl,HB0.out.trans (HB3.out.mono HB0.out.size)⟩
      ·have E5:=Z9 (show f5=f6 by rw[H5.out,if_neg hfe]);clear H5;go_upto_region 14 with fail;refine wl<|ZV (Z5 g6 3)<|ZL rfl ⟨g6,3,none⟩ (Z4 t.YZ) (PL.out.ZP 3)<|ZV (Z4 mv)<|ZJ (Tz rfl t.YZ mv (decide_eq_false hfe)) <|
        ZV ZY<|wn ?_
       simp only[pu];cases hcb:VB t
       ·go_upto_region 16 with fail;refine wl<|Yr ZY ZW ZW<|wn ?_;simp only[pu];obtain rfl:f0=6:=(by rw[E0.out,E1.out,E2.out,E3.out,E4.out,E5.out,H6.out,if_pos hcb]);go_upto_region 17 with fail;refine wl<|ZV (Z8 6)<|wn ?_;simp only[pu];go_wp2_with fail;go_ret;exact⟨rfl,HB0.out.trans (HB3.out.mono HB0.out.size)⟩
       ·have E6:=Z9 (show f6=f7 by rw[H6.out,if_neg (by rw[hcb]; decide)]);clear H6;go_upto_region 16 with fail;refine wl<|Yr ZW ZY ZY<|wn ?_;simp only[pu];by_cases hfu:y.2.1<YJ t
        ·go_upto_region 18 with fail;refine wl<|ZV (Z5 g9 1)<|ZL rfl ⟨g9,1,none⟩ (Z4 y.2.1) (aB4.out.ZP 1)<|ZV (Z4 (YJ t))<|ZJ (Tz rfl y.2.1 (YJ t) (decide_eq_true hfu)) <|
          ZV ZW<|wn ?_
         simp only[pu];obtain rfl:f0=17:=(by rw[E0.out,E1.out,E2.out,E3.out,E4.out,E5.out,E6.out,H7.out,if_pos hfu]);go_upto_region 19 with fail;refine wl<|ZV (Z8 17)<|wn ?_;simp only[pu];go_wp2_with fail;go_ret;exact⟨rfl,HB0.out.trans (HB3.out.mono HB0.out.size)⟩
        ·have E7:=Z9 (show f7=f8 by rw[H7.out,if_neg hfu]);clear H7;go_upto_region 18 with fail;refine wl<|ZV (Z5 g9 1)<|ZL rfl ⟨g9,1,none⟩ (Z4 y.2.1) (aB4.out.ZP 1)<|ZV (Z4 (YJ t))<|ZJ (Tz rfl y.2.1 (YJ t) (decide_eq_false hfu)) <|
          ZV ZY<|wn ?_
         simp only[pu];have uw:=lu.out HGB.out (by rw[HY.out]; exact hs) hm hcb (by rw[HY.out]; exact hfu);have CD:=DY A c t la ta lk tk V3 (HA.out.below HB3.out) hlk (HT.out.below HB3.out) uw;have JZ:=Z9 (YV.out.below YV.out.lt HB3.out);have hdl:(Yl A t).length<=300:=(by have h1:=uw.n; have h2:=uw.m; have h3:=(xZ uw).n; omega);generalize Yl A t=DL at *
         by_cases hli:256<DL.length
         ·go_upto_region 20 with fail;refine wl<|ZL rfl ⟨g4,0,none⟩ (.agg (ZU la A.length lk c)) (ZN JZ.out)<|ZL rfl ⟨g6,0,none⟩ (.agg (Zx t ta tk)) (Zz PL.out)<|ZV (Z4 (YJ t)) <|
           Yi (fun v w'=>(∃ ad kk,v=.agg (ZU ad DL.length kk (c+t.YZ)))/\Below V3.heap.size V3 w') (CD.mono fun e w' q=>by obtain⟨ad,kk,h1,-,h3⟩:=q; exact⟨_,h1,⟨ad,kk,rfl⟩,h3⟩) (fun vv V4 hq=>?_)
          obtain⟨⟨ad,kk,rfl⟩,VL⟩:=hq;refine ZA (.slice ad DL.length kk) (Z8 DL.length)<|ZJ (Zo rfl DL.length 256 dT)<|wn ?_;simp only[pu];have HB4:=Z9 (HB3.out.trans (VL.mono HB3.out.size));clear VL CD;obtain rfl:f0=3:=(by rw[E0.out,E1.out,E2.out,E3.out,E4.out,E5.out,E6.out,E7.out,H8.out,if_pos hli]);go_upto_region 21 with fail;refine wl<|ZV (Z8 3)<|wn ?_;simp only[pu];go_wp2_with fail;go_ret;exact⟨rfl,HB0.out.trans (HB4.out.mono HB0.out.size)⟩
         ·go_upto_region 20 with fail;refine wl<|ZL rfl ⟨g4,0,none⟩ (.agg (ZU la A.length lk c)) (ZN JZ.out)<|ZL rfl ⟨g6,0,none⟩ (.agg (Zx t ta tk)) (Zz PL.out)<|ZV (Z4 (YJ t)) <|
           Yi (fun v w'=>(∃ ad kk,v=.agg (ZU ad DL.length kk (c+t.YZ)))/\Below V3.heap.size V3 w') (CD.mono fun e w' q=>by obtain⟨ad,kk,h1,-,h3⟩:=q; exact⟨_,h1,⟨ad,kk,rfl⟩,h3⟩) (fun vv V4 hq=>?_)
          obtain⟨⟨ad,kk,rfl⟩,VL⟩:=hq;refine ZA (.slice ad DL.length kk) (Z8 DL.length)<|ZJ (Zo rfl DL.length 256 dF)<|wn ?_;simp only[pu];have HB4:=Z9 (HB3.out.trans (VL.mono HB3.out.size));clear VL CD;obtain rfl:f0=0:=(by rw[E0.out,E1.out,E2.out,E3.out,E4.out,E5.out,E6.out,E7.out,H8.out,if_neg hli]);go_upto_region 22 with fail;refine wl<|ZV (Z8 0)<|wn ?_;simp only[pu];go_wp2_with fail;go_ret;exact⟨rfl,HB0.out.trans (HB4.out.mono HB0.out.size)⟩
  ·go_upto_region 4 with fail;refine wl<|ZV (Z5 g9 2)<|ZL rfl ⟨g9,2,none⟩ (Z4 y.2.2) (JK.out.ZP 2)<|ZV (Z5 g6 1)<|ZL rfl ⟨g6,1,none⟩ (Z4 t.sq) (RP.out.ZP 1) <|
    ZJ (Gm rfl y.2.2 t.sq (decide_eq_false hs))<|ZV ZW<|wn ?_
   simp only[pu];obtain rfl:f0=14:=(by rw[E0.out,H1.out,if_pos hs]);go_upto_region 5 with fail;refine wl<|ZV (Z8 14)<|wn ?_;simp only[pu];go_wp2_with fail;go_ret;exact⟨rfl,HB0.out.trans (HB2.out.mono HB0.out.size)⟩
end Go.Proofs.YtnhlpahoomcgnaaGreat.Lg
