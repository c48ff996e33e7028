/-
  Texts joined.
-/
import Derived.Test.YtnelmomagdcmnaaGreatD15
import GoSem.Core.Utf8
set_option maxRecDepth 100000
set_option maxHeartbeats 8000000
set_option linter.unusedSimpArgs false
set_option linter.unusedVariables false
namespace Go.Proofs.YtnelmomagdcmnaaGreat.Ex
attribute [local irreducible] wpList wpQuiet
open Go.RowKit
theorem Dl {thn nw lim:Int}(ht:I64 thn)(hn:I64 nw)(hl:I64 lim)(h0:0<=lim)(w:World):Calls Tryz.prog 108 #[Z9 thn,Z9 nw,Z9 lim] w fun e w'=>e=.returned (.bool (WL thn nw lim))/\w=w':=by
 obtain⟨q,hq⟩:=ZR (WL thn nw lim);have HQ:Hid ((¬ thn<nw->q=false)/\(thn<nw->decide (IntKind.u64.wrap lim<IntKind.u64.wrap (IntKind.u64.wrap nw-IntKind.u64.wrap thn))=q)):=Z8 ⟨fun h=>by rw[<- hq]; exact decide_eq_false fun h2=>h h2.1,fun h2=>by
  rw[<- hq,rQ hn ht h2,ku h0 hl];exact decide_eq_decide.2 ⟨fun h3=>⟨h2,h3⟩,fun h3=>h3.2⟩⟩
 rw[hq];clear hq hn ht hl h0;go_enter Tryz.func108,Tryz.ntmps108;by_cases h2:thn<nw
 ·have gU:=Z8 (HQ.out.2 h2);go_upto_region 1 with fail;refine wl<|ZA (Z9 thn) (Z9 nw)<|YF (Zv rfl thn nw (decide_eq_true h2))<|ZA ZT (Z9 nw)<|YT (ZY (IntKind.u64.wrap nw)) (aQ rfl nw (by kernel_rfl) _)<|ZN (Z9 thn) <|
   YT (ZY (IntKind.u64.wrap thn)) (aQ rfl thn (by kernel_rfl) _)<|Yb (ZY (IntKind.u64.wrap (IntKind.u64.wrap nw-IntKind.u64.wrap thn))) (sbU rfl _ _)<|ZN (Z9 lim) <|
   YT (ZY (IntKind.u64.wrap lim)) (aQ rfl lim (by kernel_rfl) _)<|Yb (.bool q) (gtU rfl _ _ gU.out)<|ZA (.bool q) (.bool q)<|wn ?_
  simp only[pu];go_wp2_with fail;go_ret;exact⟨rfl,rfl⟩
 ·obtain rfl:=HQ.out.1 h2;go_upto_region 1 with fail;refine wl<|ZA (Z9 thn) (Z9 nw)<|YF (Zv rfl thn nw (decide_eq_false h2))<|AP ZW undef undef undef undef undef<|qF undef undef undef ZW ZW<|wn ?_;simp only[pu];go_wp2_with fail;go_ret;exact⟨rfl,rfl⟩
theorem yU {E:List Eo}{p:Eo->Bool}{i:Nat}(hi:i<E.length):(E.drop i).takeWhile p=if p (Yv E i) then Yv E i::(E.drop (i+1)).takeWhile p else []:=by
 unfold Yv;rw[getD_lt E i Wn hi,List.drop_eq_getElem_cons hi,List.takeWhile_cons]
def XT (E:List Eo):Prop:=∀ e∈E,I64 e.1
theorem Dn {w:World}{g o:Nat}{cs:Array Value}{lim now:Int}{v:Value}{E:List Eo}(hX:Bx w g cs 139)(ho:cs[o]?=some (Z9 lim))(ho1:cs[o+1]?=some v)(hr:ZE w 0 v E)(hl:E.length<=10000)(hE:XT E)(hlim:I64 lim)(rP:I64 now):Calls Tryz.prog 78 #[Z7 g o,Z9 now] w (PZ w (VO E lim now)):=by
 by_cases h0:lim<=0
 ·have HE:Hid (PZ w (VO E lim now) (.returned (.slice none 0 0)) w):=Z8 (by unfold VO; rw[if_pos h0]; exact⟨_,rfl,SE _ _ _ _,Below.refl _ _⟩);obtain⟨PO,Yo⟩:=ZR (PZ w (VO E lim now));rw[Yo] at HE ⊢;have HX:=Z8 hX;clear Yo hr hl hE hlim rP ho1 hX;go_enter Tryz.func78,Tryz.ntmps78;go_upto_region 1 with fail;refine wl<|ZN (.slice none 0 0)<|wn ?_;simp only[pu];go_upto_region 2 with fail;refine wl<|YU (Z7 g o) (Z7 g o) (Z7 g o)<|Zq rfl ⟨g,o,none⟩ (Z9 lim) (HX.out.load (i:=o) ho (by kernel_rfl))<|YF (xJ rfl lim 0 (decide_eq_true h0)) <|
   wpList_nil ?_
  simp only[pu];clear ho h0 HX;go_upto_region 3 with fail;refine wl<|ZA (.slice none 0 0) (.slice none 0 0)<|wn ?_;simp only[pu];go_wp2_with fail;exact HE.out
 ·obtain⟨a,c,rfl,hcs,hcc⟩:=hr.cs;have PL:Hid (∀ V,Below w.heap.size w V->∀ i,i<E.length->∃ b off,a=some ⟨b,off,none⟩/\V.rangeAt b (off+i*2) (YN (Yv E i))):=Z8 fun V hV i hi=>by
   obtain⟨b,off,h1,-,h2⟩:=UZ (hcs.below hV) hi;exact⟨b,off,h1,h2⟩
  have gQ:Hid (∀ i,i<E.length->(E.drop i).takeWhile (fun e=>WL e.1 now lim)=if WL (Yv E i).1 now lim then Yv E i::(E.drop (i+1)).takeWhile (fun e=>WL e.1 now lim) else []):=Z8 fun i hi=>yU (p:=fun e=>WL e.1 now lim) hi;have gK:Hid ((E.drop E.length).takeWhile (fun e=>WL e.1 now lim)=[]):=Z8 (by rw[List.drop_length]; rfl);have gJ:Hid (∀ i,i<E.length->∀ V,Calls Tryz.prog 108 #[Z9 (Yv E i).1,Z9 now,Z9 lim] V fun e w'=>e=.returned (.bool (WL (Yv E i).1 now lim))/\V=w'):=Z8 fun i hi V=>Dl (hE _ (Q8 hi)) rP hlim (by omega) V;have Yh:Hid (∀ V u,Below w.heap.size w V->Zd V w.heap.size u (VO E lim now)->PZ w (VO E lim now) (.returned u) V):=Z8 fun V u hV h=>⟨u,rfl,h,hV⟩;have HR0:Hid (VO E lim now=[]++((E.drop 0).takeWhile fun e=>WL e.1 now lim).map (fun e=>e.2)/\([]:List Int).length<=0):=Z8 ⟨by unfold VO; rw[if_neg h0]; rfl,Nat.le_refl 0⟩;obtain⟨R9,hR9⟩:=ZR (VO E lim now);rw[hR9] at Yh HR0 ⊢;obtain⟨PO,Yo⟩:=ZR (PZ w R9);rw[Yo] at Yh ⊢;obtain⟨n,hn⟩:=ZR E.length;rw[hn] at PL gQ gK gJ hl ho1;have MX:=Z8 hl;have HX:=Z8 hX;have HO:=Z8 ho;clear hcs hcc hr hn Yo hR9 hE hlim rP hX hl;go_enter Tryz.func78,Tryz.ntmps78;go_upto_region 1 with fail;refine wl<|ZN (.slice none 0 0)<|wn ?_;simp only[pu];go_upto_region 2 with fail;refine wl<|YU (Z7 g o) (Z7 g o) (Z7 g o)<|Zq rfl ⟨g,o,none⟩ (Z9 lim) (HX.out.load (i:=o) ho (by kernel_rfl))<|YF (xJ rfl lim 0 (decide_eq_false h0)) <|
   wpList_nil ?_
  simp only[pu];clear h0 ho;go_upto_region 4 with fail;refine wl<|YU (Z7 g o) (Z7 g o) (Z7 g (o+1))<|Zq rfl ⟨g,o+1,none⟩ (.slice a n c) (HX.out.load (i:=o+1) ho1 (by kernel_rfl))<|ZA (Z9 n) (Z9 0)<|wn ?_;simp only[pu];clear ho1;go_wp2_with fail;go_loopg [5,19] n (fun gg s5 s19 wx=>∃ (i:Nat) (u:Value) (L:List Int),s19=Z9 i/\s5=u/\i<=n/\gg+i=n/\Hid (R9=L++((E.drop i).takeWhile fun e=>WL e.1 now lim).map (fun e=>e.2)/\L.length<=i)/\Hid (Zd wx w.heap.size u L)/\Hid (Below w.heap.size w wx))
  case atStart=>exact⟨0,_,[],rfl,rfl,by omega,by omega,HR0,Z8 (SE _ _ _ _),Z8 (Below.refl _ _)⟩
  case round=>
   obtain⟨i,v,L,rfl,hv,hin,hg,HQ,HP,HR⟩:=hrel;obtain rfl:=hv.symm;have PN:Hid (gk+i=n):=Z8 hg;clear hg HR0;by_cases hlt:i<n
   ·obtain⟨b,off,hbb,hrg⟩:=PL.out wr HR.out i hlt;obtain rfl:=hbb;have hQ:=HQ.out;rw[gQ.out i hlt] at hQ;have jZ:=gJ.out i hlt;obtain⟨x,hx⟩:=ZR (Yv E i);rw[hx] at hrg hQ jZ;obtain⟨V2,hst2,hb2,hX2⟩:=YQ (c:=ZQ Wn) (c':=ZQ x) (ty:=174) wr rfl (Y3 x) (by kernel_rfl);have HR2:=Z8 (HR.out.trans (hb2.mono HR.out.size));have HP2:=Z8 (HP.out.below hb2);have xR:=Z8 hQ;have pJ:=Z8 (HX.out.below HX.out.lt HR2.out);clear hx hQ HQ hb2 HR HP;go_upto_region 5 with fail;refine wl<|YF (Zv rfl (i) (n) dT)<|wn ?_;simp only[pu];go_upto_region 6 with fail;refine wl<|YT (Z7 b (off+i*2)) (Yn b off n c i hlt _ _ _ rfl (by kernel_rfl) (by kernel_rfl))<|Zq rfl ⟨b,off+i*2,none⟩ (.agg (ZQ x)) (ZC hrg) ?_;refine YP rfl (some 7) rfl (Z7 wr.heap.size 0) (wr.alloc (.cells (ZQ Wn) 174)) (by kernel_rfl) ?_;refine WC rfl (hst2)<|wn ?_;obtain⟨g5,hg5⟩:=ZR wr.heap.size;rw[hg5] at hX2 ⊢;clear hst2 hg5 hrg;cases Kr:WL x.1 now lim
    ·go_upto_region 7 with fail;refine ZU (C:=fun U=>Below V2.heap.size V2 U) (by kernel_rfl) (by kernel_rfl) ((Below.refl _ V2).drew) ?_;refine gy (Z7 g5 0)<|Zj rfl ⟨g5,0,none⟩ (Z9 x.1) (fun U hU=>(hX2.below hX2.lt hU).ZL 0)<|gy (Z9 now)<|gy (Z7 g o)<|gy (Z7 g o)<|gy (Z7 g o) <|
       Zj rfl ⟨g,o,none⟩ (Z9 lim) (fun U hU=>(pJ.out.below pJ.out.lt hU).load (i:=o) HO.out (by kernel_rfl)) ?_
     refine Zz (by kernel_rfl) (some 30) rfl 108 #[Z9 x.1,Z9 now,Z9 lim] ZW (fun U hU=>by kernel_rfl) (fun U hU=>(jZ U).mono fun e w2 q=>⟨by rw[q.1,Kr],q.2 ▸ hU⟩) ?_;refine gy ZT ?_;simp only[pu];apply wpQuiet_nil;intro V3 UJ;have HR3:=Z8 (HR2.out.trans (UJ.mono HR2.out.size));have Ze:=hX2.below hX2.lt UJ;have jY:=Z8 (HP2.out.below UJ);have hQ:=xR.out;rw[Kr] at hQ;clear UJ HR2 hX2 HP2 xR jZ pJ Kr;rw[if_neg Bool.false_ne_true,List.map_nil,List.append_nil] at hQ;have HE:=Z8 (Yh.out V3 v HR3.out (by rw[hQ.1]; exact jY.out));clear hQ Ze jY HR3 Yh gQ gK PL gJ HX;go_upto_region 10 with fail;refine wl<|ZA (v) (v)<|wn ?_;simp only[pu];go_wp2_with fail;exact HE.out
    ·go_upto_region 7 with fail;refine ZU (C:=fun U=>Below V2.heap.size V2 U) (by kernel_rfl) (by kernel_rfl) ((Below.refl _ V2).drew) ?_;refine gy (Z7 g5 0)<|Zj rfl ⟨g5,0,none⟩ (Z9 x.1) (fun U hU=>(hX2.below hX2.lt hU).ZL 0)<|gy (Z9 now)<|gy (Z7 g o)<|gy (Z7 g o)<|gy (Z7 g o) <|
       Zj rfl ⟨g,o,none⟩ (Z9 lim) (fun U hU=>(pJ.out.below pJ.out.lt hU).load (i:=o) HO.out (by kernel_rfl)) ?_
     refine Zz (by kernel_rfl) (some 30) rfl 108 #[Z9 x.1,Z9 now,Z9 lim] ZT (fun U hU=>by kernel_rfl) (fun U hU=>(jZ U).mono fun e w2 q=>⟨by rw[q.1,Kr],q.2 ▸ hU⟩) ?_;refine gy ZW ?_;simp only[pu];apply wpQuiet_nil;intro V3 UJ;have HR3:=Z8 (HR2.out.trans (UJ.mono HR2.out.size));have Ze:=hX2.below hX2.lt UJ;have jY:=Z8 (HP2.out.below UJ);have hQ:=xR.out;rw[Kr] at hQ;clear UJ HR2 hX2 HP2 xR jZ pJ Kr;rw[if_pos rfl,List.map_cons] at hQ;have kW:Hid (L.length<=10000):=Z8 (by have:=hQ.2; have:=MX.out; omega);have gU:Hid (R9=(L++[x.2])++((E.drop (i+1)).takeWhile fun e=>WL e.1 now lim).map (fun e=>e.2)/\(L++[x.2]).length<=i+1):=Z8 ⟨by rw[List.append_assoc]; exact hQ.1,by rw[List.length_append,List.length_singleton]; have:=hQ.2; omega⟩;clear hQ;have Rz:Below V3.heap.size V3 (V3.alloc (.cells #[Z9 (x.2)] 3)):=(Below.refl _ V3).alloc (Nat.le_refl _) _;have Io:Bx (V3.alloc (.cells #[Z9 (x.2)] 3)) V3.heap.size #[Z9 (x.2)] 3:=heap_alloc_last V3 _;obtain⟨v6,W6,UD,Xy,hb6,-,-⟩:=TY (Zd.below jY.out Rz) (Nat.le_trans (HR3.out.size) Rz.size) (some ⟨V3.heap.size,0,none⟩) 1 1 [x.2] (Cs.block (cs:=ZM [x.2]) Io) rfl (by have:=kW.out; omega) (by omega);have DR:Below w.heap.size V3 W6:=(Rz.mono (HR3.out.size)).trans hb6;go_upto_region 8 with fail;refine wl<|ZA (v) (Z7 g5 1)<|Zq rfl ⟨g5,1,none⟩ (Z9 x.2) (Ze.ZL 1) ?_;refine YM (by kernel_rfl) (some 35) rfl 22 1 #[(0,.tmp 34)] rfl #[(0,Z9 (x.2))] (by kernel_rfl) (.slice (some ⟨V3.heap.size,0,none⟩) 1 1) _ (TU (x.2) V3) ?_;refine Y5 rfl (some 36) rfl 22 rfl (.tmp 32) (.tmp 35) 22 rfl (v) (.slice (some ⟨V3.heap.size,0,none⟩) 1 1) (v6) W6 (by kernel_rfl) (by kernel_rfl) UD ?_;refine ZN (v6)<|wn ?_;simp only[pu];have BI:=Z8 (HR3.out.trans DR);obtain⟨L9,hL9⟩:=ZR (L++[x.2]);rw[hL9] at gU Xy;have BH:Hid (Zd W6 w.heap.size v6 L9):=Z8 Xy;clear UD Xy hb6 DR Rz Io jY HR3 Ze hL9;go_upto_region 9 with fail;refine wl<|YT (Z9 (i+1:Nat)) (add_one rfl i (by have:=MX.out; omega) (by kernel_rfl) _)<|ZN (Z9 (i+1:Nat))<|wn ?_;simp only[pu];go_wp2_with fail;go_roundg (n-(i+1))
     case measure=>have:=PN.out; omega
     case rel=>exact⟨i+1,v6,L9,rfl,rfl,by omega,by omega,gU,BH,BI⟩
   ·obtain rfl:i=n:=(by omega);go_upto_region 5 with fail;refine wl<|YF (Zv rfl (i) (i) dF)<|wn ?_;simp only[pu];have hQ:=HQ.out;rw[gK.out,List.map_nil,List.append_nil] at hQ;have HE:=Z8 (Yh.out wr v HR.out (by rw[hQ.1]; exact HP.out));clear HP HR Yh gQ gK PL gJ HX hQ HQ;go_upto_region 10 with fail;refine wl<|ZA (v) (v)<|wn ?_;simp only[pu];go_wp2_with fail;exact HE.out
def Dt (w:World)(g o:Nat)(cs:Array Value)(v:Value)(E2:List Eo)(w':World):Prop:=∃ v',Bx w' g (cs.setIfInBounds (o+1) v') 139/\ZE w' 0 v' E2/\ZP 0 (fun j=>j=g∨v.ownBlock=some j) w w'/\(v'.ownBlock=v.ownBlock∨∃ k,w.heap.size<=k/\v'.ownBlock=some k)
theorem Ym {Q:Nat->Prop}{w w':World}{r:Option Nat}(h:w.grownBy w' r)(hQ:∀ j,r=some j->Q j):ZP 0 Q w w':=⟨⟨h.1,h.2,h.3,h.4,fun k hk=>absurd hk (Nat.not_lt_zero k)⟩,fun k hk hn=>h.5 k hk fun e=>hn (hQ k e.symm)⟩
theorem Qd {Q:Nat->Prop}{w w':World}{g:Nat}(h:But g w w')(hQ:Q g):ZP 0 Q w w':=⟨h.1.mono (Nat.zero_le _),fun k hk hn=>h.2 k hk fun e=>hn (e ▸ hQ)⟩
theorem XF {Q:Nat->Prop}{w w':World}(h:Below w.heap.size w w'):ZP 0 Q w w':=ZP.of_below h (Nat.zero_le _)
theorem row_ne {w:World}{v:Value}{E:List Eo}{k t:Nat}{cs:Array Value}(h:ZE w 0 v E)(hk:v.ownBlock=some k)(hX:Bx w k cs t)(ht:t≠174):False:=by
 rcases Yf h with⟨rfl,-⟩ | ⟨b,c,rfl,-,-,-⟩
 ·cases hk
 ·obtain⟨cur,hc,-⟩:=YJ h;simp only[Value.ownBlock,Option.some.injEq] at hk;subst hk;unfold Bx at hc hX;rw[hc] at hX;simp only[Option.some.injEq,Obj.cells.injEq] at hX;exact ht hX.2.1.symm
theorem Qc {w:World}{v:Value}{E:List Eo}{k:Nat}{es:Array MapEntry}{c:Nat}(h:ZE w 0 v E)(hk:v.ownBlock=some k)(hX:w.heap[k]?=some (.map es c)):False:=by
 rcases Yf h with⟨rfl,-⟩ | ⟨b,c,rfl,-,-,-⟩
 ·cases hk
 ·obtain⟨cur,hc,-⟩:=YJ h;simp only[Value.ownBlock,Option.some.injEq] at hk;subst hk;unfold Bx at hc;rw[hc] at hX;cases hX
theorem Yt {w w':World}{v:Value}{E:List Eo}(h:ZE w 0 v E)(hs:∀ k,v.ownBlock=some k->w'.heap[k]?=w.heap[k]?):ZE w' 0 v E:=by
 obtain⟨a,c,rfl,-,-⟩:=h.cs;exact SB h fun x hx=>hs _ (by rw[hx]; rfl)
def rO (W:World)(g:Nat)(cs:Array Value)(v:Value)(E2:List Eo)(x23:Value)(V:World):Prop:=ZE V 0 x23 E2/\Bx V g cs 139/\ZP 0 (fun j=>j=g∨v.ownBlock=some j) W V/\(x23.ownBlock=v.ownBlock∨∃ k,W.heap.size<=k/\x23.ownBlock=some k)
theorem rO.ins {W V V2:World}{g:Nat}{cs:Array Value}{v x23:Value}{E E2:List Eo}(hX:Bx W g cs 139)(hr:ZE W 0 v E)(hb:Below W.heap.size W V)(h1:ZE V2 0 x23 E2)(h2:V.grownBy V2 v.ownBlock)(h3:x23.ownBlock=v.ownBlock∨∃ k,V.heap.size<=k/\x23.ownBlock=some k):rO W g cs v E2 x23 V2:=by
 have hX2:=hX.below hX.lt hb;have hne:v.ownBlock≠some g:=fun e=>row_ne hr e hX (by decide);refine⟨h1,(h2.5 g hX2.lt (Ne.symm hne)).trans hX2,(XF hb).trans' (Ym h2 fun j hj=>.inr hj),h3.imp id fun⟨k,h4,h5⟩=>⟨k,Nat.le_trans hb.size h4,h5⟩⟩
theorem rO.fin {W V:World}{g o:Nat}{cs:Array Value}{v x23:Value}{E2:List Eo}(h:rO W g cs v E2 x23 V)(ho:o+1<cs.size):∃ V2,(Instr.storeAt 135 (Z7 g (o+1)) x23).run Tryz.prog V=.ok () V2/\Dt W g o cs v E2 V2:=by
 obtain⟨h1,h2,h3,h4⟩:=h;obtain⟨a,c,rfl,-,-⟩:=h1.cs;obtain⟨V2,hs,hX2,hb2⟩:=Xm (i:=o+1) (v:=.slice a E2.length c) (ty:=135) _ h2 ho rfl rfl (by kernel_rfl);refine⟨V2,hs,_,hX2,Yt h1 fun k hk=>hb2.2 k (h1.lt k hk).2 fun e=>row_ne h1 (by rw[hk,e]) h2 (by decide),h3.trans' (Qd hb2 (.inl rfl)),h4⟩
theorem rM {P:Program}{ops:Array Oper}{Q:Exit->Act->World->Prop}{i:Nat}{o:Oper}{a:Act}{w:World}{K:Act->World->Prop}(hi:ops[i]?=some o)(hw:Region.wanted o (yielded ops a.tmps)=true)(hd:o.dst=none)(ty:TypeId)(x y:Operand)(ho:o.op=.store ty x y)(vx vy:Value)(hx:a.eval x=vx)(hy:a.eval y=vy)(w2:World)(hr:(Instr.storeAt ty vx vy).run P w=.ok () w2)(h:K a w2):wpOp P ops Q i K a w:=by
 refine LZ hi hw ?_;unfold Oper.wp execOp;simp only[ho,hx,hy,Sem.run_bind,hr,Sem.run_pure,Result.andThen_ok];show K (a.put o.dst undef) _;rw[hd];exact h
structure KA (W:World)(g o:Nat)(cs:Array Value)(v:Value)(E2:List Eo)(q:Eo)(b4 b6 b7 b8 b11:Bool)(x22 x23:Value)(V:World):Prop where
 o8:b8=true->b4=true/\b7=true
 o7:b7=true->b6=true
 o11:b11=true->b8=true
 pre:b8=false->Below W.heap.size W V
 pI:b7=true->b8=false->∃ gq,x22=.slice (some ⟨gq,0,none⟩) 1 1/\Bx V gq (ZQ q) 174/\W.heap.size<=gq
 mid:b8=true->b11=false->rO W g cs v E2 x23 V
 fin:b11=true->Dt W g o cs v E2 V
section
variable {W : World} {g o : Nat} {cs : Array Value} {v : Value} {E E2 : List Eo} {q : Eo} {b4 b6 b7 b8 b11 : Bool} {x22 x23 : Value} {V : World}
theorem KA.start {W V1:World}(hb:Below W.heap.size W V1)(g o:Nat)(cs:Array Value)(v:Value)(E2:List Eo)(q:Eo)(x22 x23:Value):KA W g o cs v E2 q false false false false false x22 x23 V1.drew:=⟨fun h=>by(cases h),fun h=>by(cases h),fun h=>by(cases h),fun _=>hb.drew,fun h=>by(cases h),fun h=>by(cases h),fun h=>by(cases h)⟩
theorem KA.s4 (h:KA W g o cs v E2 q b4 b6 b7 b8 b11 x22 x23 V):KA W g o cs v E2 q true b6 b7 b8 b11 x22 x23 V:={ h with o8:=fun h8=>⟨rfl,(h.o8 h8).2⟩ }
theorem KA.s6 (h:KA W g o cs v E2 q b4 b6 b7 b8 b11 x22 x23 V):KA W g o cs v E2 q b4 true b7 b8 b11 x22 x23 V:={ h with o7:=fun _=>rfl }
theorem KA.n8 (h:KA W g o cs v E2 q false b6 b7 b8 b11 x22 x23 V):b8=false:=by cases b8; rfl; exact absurd (h.o8 rfl).1 (by decide)
theorem KA.n7 (h:KA W g o cs v E2 q b4 b6 false b8 b11 x22 x23 V):b8=false:=by cases b8; rfl; exact absurd (h.o8 rfl).2 (by decide)
theorem KA.n6 (h:KA W g o cs v E2 q b4 false b7 b8 b11 x22 x23 V):b7=false:=by cases b7; rfl; exact absurd (h.o7 rfl) (by decide)
theorem KA.n11 (h:KA W g o cs v E2 q b4 b6 b7 false b11 x22 x23 V):b11=false:=by cases b11; rfl; exact absurd (h.o11 rfl) (by decide)
theorem KA.s7 (h:KA W g o cs v E2 q b4 true false false b11 x22 x23 V):KA W g o cs v E2 q b4 true true false b11 (.slice (some ⟨V.heap.size,0,none⟩) 1 1) x23 (V.alloc (.cells (ZQ q) 174)):=
 {o8:=fun h8=>by(cases h8),o7:=fun _=>rfl,o11:=h.o11,pre:=fun _=>(h.pre rfl).alloc (h.pre rfl).size _,pI:=fun _ _=>⟨_,rfl,heap_alloc_last V _,(h.pre rfl).size⟩,mid:=fun h8=>by(cases h8),fin:=fun h11=>by(cases h.o11 h11) }
theorem KA.s8 (h:KA W g o cs v E2 q true b6 true false false x22 x23 V){V2:World}{x:Value}(hm:rO W g cs v E2 x V2):KA W g o cs v E2 q true b6 true true false x22 x V2:=
 {o8:=fun _=>⟨rfl,rfl⟩,o7:=h.o7,o11:=fun h11=>by(cases h11),pre:=fun h8=>by(cases h8),pI:=fun _ h8=>by(cases h8),mid:=fun _ _=>hm,fin:=fun h11=>by(cases h11) }
theorem KA.s11 (h:KA W g o cs v E2 q b4 b6 b7 true false x22 x23 V){V2:World}(hf:Dt W g o cs v E2 V2):KA W g o cs v E2 q b4 b6 b7 true true x22 x23 V2:=
 {o8:=h.o8,o7:=h.o7,o11:=fun _=>rfl,pre:=fun h8=>by(cases h8),pI:=fun _ h8=>by(cases h8),mid:=fun _ h11=>by(cases h11),fin:=fun _=>hf }
end
theorem Dt.mono {w W W':World}{g o:Nat}{cs:Array Value}{v:Value}{E2:List Eo}(h:Dt W g o cs v E2 W')(hb:Below w.heap.size w W):Dt w g o cs v E2 W':=by
 obtain⟨v',h1,h2,h3,h4⟩:=h;exact⟨v',h1,h2,(XF hb).trans' h3,h4.imp id fun⟨k,h5,h6⟩=>⟨k,Nat.le_trans hb.size h5,h6⟩⟩
theorem Dp {w:World}{g o:Nat}{cs:Array Value}{v:Value}{E:List Eo}(hX:Bx w g cs 139)(ho1:cs[o+1]?=some v)(hr:ZE w 0 v E)(hl:E.length<=9000)(hs:Vt E)(q:Eo):Calls Tryz.prog 91 #[Z7 g o,.agg (ZQ q)] w fun e w'=>e=.returned (.tuple #[])/\Dt w g o cs v (E.take (Zw E q)++q::E.drop (Zw E q)) w':=by
 have hb0:Below w.heap.size w (w.alloc (.cells (ZQ q) 174)):=(Below.refl _ w).alloc (Nat.le_refl _) _;have hX0:Bx (w.alloc (.cells (ZQ q) 174)) w.heap.size (ZQ q) 174:=heap_alloc_last w _;obtain⟨W,hW⟩:=ZR (w.alloc (.cells (ZQ q) 174));rw[hW] at hb0 hX0;have pV:=hX.below hX.lt hb0;have hr1:=hr.below hb0;have CP:=fun V (hV:Below W.heap.size W V)=>Nh (hr1.below hV) hs (by omega) q;have CI:=fun V gq (hV:Below W.heap.size W V) (hq:Bx V gq (ZQ q) 174) (hge:W.heap.size<=gq)=>DJ (hr1.below hV) (cnt_le E q) (by omega) q hq (fun e=>by have:=(hr1.lt _ e).2; omega);obtain⟨E2,hE2⟩:=ZR (E.take (Zw E q)++q::E.drop (Zw E q));simp only[hE2] at CI;rw[hE2];have rJ:Zw E q<=9000:=Nat.le_trans (cnt_le E q) hl;obtain⟨ct,hct⟩:=ZR (Zw E q);simp only[hct] at CI CP rJ;obtain⟨Yi,hhb⟩:=ZR (Xk E q);simp only[hhb] at CP;obtain⟨g3,hg3⟩:=ZR w.heap.size;rw[hg3] at hX0;have jX:=(Array.getElem?_eq_some_iff.1 ho1).1;have HOS:=Z8 jX;have HCT:=Z8 rJ;have HCI:=Z8 CI;have aP:=Z8 pV;have HRV:=Z8 hr1;have Ol:=Z8 hX0;have HO1:=Z8 ho1;have HB0:=Z8 hb0;clear hE2 hct hhb rJ jX hX hr hl hs CI;go_enter Tryz.func91,Tryz.ntmps91;go_upto_region 1 with fail;clear hW hg3;refine ZU (C:=fun U=>Below W.heap.size W U) (by kernel_rfl) (by kernel_rfl) ((Below.refl _ W).drew) ?_;refine gy (Z7 g o)<|gy (Z7 g o)<|gy (Z7 g (o+1))<|Zj rfl ⟨g,o+1,none⟩ (v) (fun U hU=>(pV.below pV.lt hU).load (i:=o+1) ho1 (by kernel_rfl)) <|
   Zj rfl ⟨g3,0,none⟩ (.agg (ZQ q)) (fun U hU=>U5 (hX0.below hX0.lt hU)) ?_
 refine Zz (by kernel_rfl) (some 12) rfl 117 #[v,.agg (ZQ q),.func (.func 118) #[] #[]] (.tuple #[Z9 ct,.bool Yi]) (fun U hU=>by kernel_rfl) (fun U hU=>(CP U hU).mono fun e w2 z=>⟨z.1,hU.trans (z.2.mono hU.size)⟩) ?_;refine gy (.tuple #[Z9 ct,.bool Yi])<|gy (Z9 ct)<|gy (.bool Yi)<|gy (Z9 ct)<|gy (.bool Yi) ?_;simp only[pu];apply wpQuiet_nil;intro V1 hV1;have IZ:=Z8 hV1;clear hV1 pV hr1 hX0 hb0 CP ho1;go_upto_region 2 with fail;have h0:=KA.start IZ.out g o cs v E2 q undef undef;refine ZI (fun listed Zr V=>∃ b0 b1 b2 b3 b4 b5 b6 b7 b8 b9 b10 b11:Bool,∃ x22 x23:Value,listed=#[b0,b1,b2,b3,b4,b5,b6,b7,b8,b9,b10,b11]/\Zr={ tmps:=#[Z7 g o,.agg (ZQ q),undef,Z7 g3 0,Z9 ct,.bool Yi,.tuple #[Z9 ct,.bool Yi],Z7 g o,Z7 g o,Z7 g (o+1),v,.agg (ZQ q),.tuple #[Z9 ct,.bool Yi],Z9 ct,.bool Yi,(cond b0 (Z7 g o) undef),(cond b1 (Z7 g o) undef),(cond b2 (Z7 g o) undef),(cond b3 (Z7 g (o+1)) undef),(cond b4 (v) undef),(cond b5 (Z9 ct) undef),(cond b6 (.agg (ZQ q)) undef),x22,x23,(cond b9 (Z7 g o) undef),(cond b10 (Z7 g (o+1)) undef)],defers:=[] }/\KA W g o cs v E2 q b4 b6 b7 b8 b11 x22 x23 V) (by kernel_rfl) (by kernel_rfl) ?_ ?_ ?_
 ·exact⟨_,_,_,_,_,_,_,_,_,_,_,_,_,_,rfl,rfl,h0⟩
 ·intro i9 listed Zr V hi9 hr hJ;obtain⟨b0,b1,b2,b3,b4,b5,b6,b7,b8,b9,b10,b11,x22,x23,rfl,rfl,hF⟩:=hJ;have hi2:i9<12:=hi9;have hi3:i9=0∨i9=1∨i9=2∨i9=3∨i9=4∨i9=5∨i9=6∨i9=7∨i9=8∨i9=9∨i9=10∨i9=11:=by omega
  rcases hi3 with rfl | rfl | rfl | rfl | rfl | rfl | rfl | rfl | rfl | rfl | rfl | rfl
  ·obtain rfl:b0=false:=Z5 hr;refine ZX rfl (by kernel_rfl) (some 15) rfl (Z7 g o) V (by kernel_rfl) ?_;exact⟨_,_,_,_,_,_,_,_,_,_,_,_,_,_,rfl,rfl,hF⟩
  ·obtain rfl:b1=false:=Z5 hr;refine ZX rfl (by kernel_rfl) (some 16) rfl (Z7 g o) V (by kernel_rfl) ?_;exact⟨_,_,_,_,_,_,_,_,_,_,_,_,_,_,rfl,rfl,hF⟩
  ·obtain rfl:b2=false:=Z5 hr;obtain rfl:b1=true:=Z4 hr 1;refine ZX rfl (by kernel_rfl) (some 17) rfl (Z7 g o) V (by kernel_rfl) ?_;exact⟨_,_,_,_,_,_,_,_,_,_,_,_,_,_,rfl,rfl,hF⟩
  ·obtain rfl:b3=false:=Z5 hr;obtain rfl:b2=true:=Z4 hr 2;refine ZX rfl (by kernel_rfl) (some 18) rfl (Z7 g (o+1)) V (by kernel_rfl) ?_;exact⟨_,_,_,_,_,_,_,_,_,_,_,_,_,_,rfl,rfl,hF⟩
  ·obtain rfl:b4=false:=Z5 hr;obtain rfl:b3=true:=Z4 hr 3;obtain rfl:b8=false:=hF.n8;refine ZJ rfl (by kernel_rfl) (some 19) rfl 135 (.tmp 18) rfl ⟨g,o+1,none⟩ (v) (by kernel_rfl) ((aP.out.below aP.out.lt (hF.pre rfl)).load (i:=o+1) HO1.out (by kernel_rfl)) ?_;exact⟨_,_,_,_,_,_,_,_,_,_,_,_,_,_,rfl,rfl,hF.s4⟩
  ·obtain rfl:b5=false:=Z5 hr;refine ZX rfl (by kernel_rfl) (some 20) rfl (Z9 ct) V (by kernel_rfl) ?_;exact⟨_,_,_,_,_,_,_,_,_,_,_,_,_,_,rfl,rfl,hF⟩
  ·obtain rfl:b6=false:=Z5 hr;obtain rfl:b7=false:=hF.n6;obtain rfl:b8=false:=hF.n7;refine ZJ rfl (by kernel_rfl) (some 21) rfl 174 (.tmp 3) rfl ⟨g3,0,none⟩ (.agg (ZQ q)) (by kernel_rfl) (U5 (Ol.out.below Ol.out.lt (hF.pre rfl))) ?_;exact⟨_,_,_,_,_,_,_,_,_,_,_,_,_,_,rfl,rfl,hF.s6⟩
  ·obtain rfl:b7=false:=Z5 hr;obtain rfl:b6=true:=Z4 hr 6;obtain rfl:b8=false:=hF.n7;refine Xu rfl (by kernel_rfl) (some 22) rfl 135 1 #[(0,.tmp 21)] rfl #[(0,.agg (ZQ q))] (by kernel_rfl) (.slice (some ⟨V.heap.size,0,none⟩) 1 1) _ (Qu q V) ?_;exact⟨_,_,_,_,_,_,_,_,_,_,_,_,_,_,rfl,rfl,hF.s7⟩
  ·obtain rfl:b8=false:=Z5 hr;obtain rfl:b4=true:=Z4 hr 4;obtain rfl:b5=true:=Z4 hr 5;obtain rfl:b7=true:=Z4 hr 7;obtain rfl:b11=false:=hF.n11;obtain⟨gq,rfl,hgx,hge⟩:=hF.pI rfl rfl;refine YX rfl (by kernel_rfl) (some 23) rfl 119 #[v,Z9 ct,.slice (some ⟨gq,0,none⟩) 1 1] (by kernel_rfl) ((HCI.out V gq (hF.pre rfl) hgx hge).mono fun e9 V9 Kr=>?_);obtain⟨v9,rfl,h1,h2,h3⟩:=Kr;refine⟨v9,rfl,?_⟩;exact⟨_,_,_,_,_,_,_,_,_,_,_,_,_,_,rfl,rfl,hF.s8 (rO.ins aP.out HRV.out (hF.pre rfl) h1 h2 h3)⟩
  ·obtain rfl:b9=false:=Z5 hr;obtain rfl:b0=true:=Z4 hr 0;refine ZX rfl (by kernel_rfl) (some 24) rfl (Z7 g o) V (by kernel_rfl) ?_;exact⟨_,_,_,_,_,_,_,_,_,_,_,_,_,_,rfl,rfl,hF⟩
  ·obtain rfl:b10=false:=Z5 hr;obtain rfl:b9=true:=Z4 hr 9;refine ZX rfl (by kernel_rfl) (some 25) rfl (Z7 g (o+1)) V (by kernel_rfl) ?_;exact⟨_,_,_,_,_,_,_,_,_,_,_,_,_,_,rfl,rfl,hF⟩
  ·obtain rfl:b11=false:=Z5 hr;obtain rfl:b8=true:=Z4 hr 8;obtain rfl:b10=true:=Z4 hr 10;obtain⟨V9,YB,hf9⟩:=(hF.mid rfl rfl).fin HOS.out;refine rM rfl (by kernel_rfl) rfl 135 (.tmp 25) (.tmp 23) rfl (Z7 g (o+1)) x23 (by kernel_rfl) (by kernel_rfl) V9 YB ?_;exact⟨_,_,_,_,_,_,_,_,_,_,_,_,_,_,rfl,rfl,hF.s11 hf9⟩
 ·intro Zr V hJ;obtain⟨b0,b1,b2,b3,b4,b5,b6,b7,b8,b9,b10,b11,x22,x23,he,rfl,hF⟩:=hJ;have he:(#[true,true,true,true,true,true,true,true,true,true,true,true]:Array Bool)=#[b0,b1,b2,b3,b4,b5,b6,b7,b8,b9,b10,b11]:=he;simp only[Array.mk.injEq,List.cons.injEq,and_true] at he;obtain⟨rfl,rfl,rfl,rfl,rfl,rfl,rfl,rfl,rfl,rfl,rfl,rfl⟩:=he;simp only[cond_true];have HE:=Z8 ((hF.fin rfl).mono HB0.out);clear hF h0;go_wp2_with fail;first | exact end_none rfl rfl ⟨rfl,HE.out⟩ | exact bodyPost_ret (v:=.tuple #[]) (by kernel_rfl) rfl ⟨rfl,HE.out⟩ | exact bodyPost_ret (v:=.tuple #[]) (by simp[results]) rfl ⟨rfl,HE.out⟩
abbrev qc (B:Nat)(bl:Int)(vH:Value)(sp:Int)(vT:Value):Array Value:=#[.map (some B),Z9 bl,vH,Z9 sp,vT]
theorem Q7 {Q S:Nat->Prop}{w w':World}{B0:Nat}(h:ZP 0 Q w w')(hQ:∀ j,Q j->S j)(hB:∀ j,S j->B0<=j)(hw:B0<=w.heap.size):ZP B0 S w w':=by
 obtain⟨⟨h1,h2,h3,h4,-⟩,h6⟩:=h;exact⟨⟨h1,h2,h3,h4,fun k hk=>h6 k (by omega) fun q=>by have:=hB k (hQ k q); omega⟩,fun k hk hn=>h6 k hk fun q=>hn (hQ k q)⟩
theorem KR {Q S:Nat->Prop}{w w':World}(h:ZP 0 Q w w')(hQ:∀ j,Q j->S j):ZP 0 S w w':=Q7 h hQ (fun _ _=>Nat.zero_le _) (Nat.zero_le _)
structure Rq (w:World)(g B:Nat)(f:Int->Option Value)(vH vT:Value)(EH ET:List Eo)(bl sp:Int):Prop where
 bx:Bx w g (qc B bl vH sp vT) 139
 mp:Mf w B f
 rh:ZE w 0 vH EH
 rt:ZE w 0 vT ET
 ap:∀ k,vH.ownBlock=some k->vT.ownBlock=some k->False
def wW (g B:Nat)(vH vT:Value)(k:Nat):Prop:=k=g∨k=B∨vH.ownBlock=some k∨vT.ownBlock=some k
structure GL (g B:Nat)(vH vT:Value)(w:World)(Nc MV:Value)(W:World):Prop where
 ch:ZP 0 (wW g B vH vT) w W
 ah:Nc.ownBlock=vH.ownBlock∨∃ k,w.heap.size<=k/\Nc.ownBlock=some k
 al:MV.ownBlock=vT.ownBlock∨∃ k,w.heap.size<=k/\MV.ownBlock=some k
section
variable {w w' W : World} {g B : Nat} {f f2 : Int -> Option Value} {vH vT Nc MV : Value} {EH ET rY rX : List Eo} {bl sp : Int}
theorem Rq.gB (h:Rq w g B f vH vT EH ET bl sp):g≠B:=fun e=>by
 obtain⟨es,c,h1⟩:=h.mp.map;have h2:=h.bx;unfold Bx at h2;rw[e,h1] at h2;cases h2
theorem Rq.hg (h:Rq w g B f vH vT EH ET bl sp):vH.ownBlock≠some g:=fun e=>row_ne h.rh e h.bx (by decide)
theorem Rq.tg (h:Rq w g B f vH vT EH ET bl sp):vT.ownBlock≠some g:=fun e=>row_ne h.rt e h.bx (by decide)
theorem Rq.hB (h:Rq w g B f vH vT EH ET bl sp):vH.ownBlock≠some B:=fun e=>by
 obtain⟨es,c,h1⟩:=h.mp.map;exact Qc h.rh e h1
theorem Rq.tB (h:Rq w g B f vH vT EH ET bl sp):vT.ownBlock≠some B:=fun e=>by
 obtain⟨es,c,h1⟩:=h.mp.map;exact Qc h.rt e h1
theorem Rq.inn (h:Rq w g B f vH vT EH ET bl sp):∀ k,wW g B vH vT k->k<w.heap.size:=fun k hk=>by
 rcases hk with rfl | rfl | hk | hk
 ·exact h.bx.lt
 ·exact h.mp.lt
 ·exact(h.rh.lt k hk).2
 ·exact(h.rt.lt k hk).2
theorem Rq.same (h:Rq w g B f vH vT EH ET bl sp)(hs:∀ k,wW g B vH vT k->w'.heap[k]?=w.heap[k]?):Rq w' g B f vH vT EH ET bl sp:=
 ⟨(hs g (.inl rfl)).trans h.bx,h.mp.same (hs B (.inr (.inl rfl))),Yt h.rh fun k hk=>hs k (.inr (.inr (.inl hk))),Yt h.rt fun k hk=>hs k (.inr (.inr (.inr hk))),h.ap⟩
theorem Rq.below (h:Rq w g B f vH vT EH ET bl sp)(hb:Below w.heap.size w w'):Rq w' g B f vH vT EH ET bl sp:=h.same fun k hk=>hb.block k (h.inn k hk)
theorem GL.below (hb:Below w.heap.size w W):GL g B vH vT w vH vT W:=⟨XF hb,.inl rfl,.inl rfl⟩
theorem GL.tr {w2:World}{vH3 vT3:Value}(h:GL g B vH vT w Nc MV W)(k:GL g B Nc MV W vH3 vT3 w2):GL g B vH vT w vH3 vT3 w2:=by
 have hz:=h.ch.1.size;refine⟨h.ch.trans k.ch fun x hx=>?_,?_,?_⟩
 ·rcases hx with hx | hx | hx | hx
  ·exact .inl (.inl hx)
  ·exact .inl (.inr (.inl hx))
  ·rcases h.ah with h1 | ⟨j,h1,h2⟩
   ·exact .inl (.inr (.inr (.inl (by rw[<- h1]; exact hx))))
   ·rw[h2] at hx; cases hx; exact .inr h1
  ·rcases h.al with h1 | ⟨j,h1,h2⟩
   ·exact .inl (.inr (.inr (.inr (by rw[<- h1]; exact hx))))
   ·rw[h2] at hx; cases hx; exact .inr h1
 ·rcases k.ah with h1 | ⟨j,h1,h2⟩
  ·rw[h1]; exact h.ah
  ·exact .inr ⟨j,by omega,h2⟩
 ·rcases k.al with h1 | ⟨j,h1,h2⟩
  ·rw[h1]; exact h.al
  ·exact .inr ⟨j,by omega,h2⟩
theorem Rq.map (h:Rq w g B f vH vT EH ET bl sp)(hM:Mf W B f2)(hg:w.grownBy W (some B)):Rq W g B f2 vH vT EH ET bl sp/\GL g B vH vT w vH vT W:=by
 have hk:∀ k,wW g B vH vT k->k≠B->W.heap[k]?=w.heap[k]?:=fun k hk hn=>hg.5 k (h.inn k hk) (by simpa using hn);refine⟨⟨(hk g (.inl rfl) h.gB).trans h.bx,hM,Yt h.rh fun k h1=>hk k (.inr (.inr (.inl h1))) fun e=>h.hB (by rw[h1,e]),Yt h.rt fun k h1=>hk k (.inr (.inr (.inr h1))) fun e=>h.tB (by rw[h1,e]),h.ap⟩,⟨Ym hg fun j hj=>.inr (.inl (by cases hj; rfl)),.inl rfl,.inl rfl⟩⟩
theorem Rq.lH (h:Rq w g B f vH vT EH ET bl sp)(hl:Dt w g 1 (qc B bl vH sp vT) vH rY W):∃ Nc,Rq W g B f Nc vT rY ET bl sp/\GL g B vH vT w Nc vT W:=by
 obtain⟨v',h1,h2,h3,h4⟩:=hl;refine⟨v',⟨h1,h.mp.same (h3.2 B h.mp.lt ?_),h2,Yt h.rt fun k hk=>h3.2 k (h.rt.lt k hk).2 ?_,fun k hk hk2=>?_⟩,⟨KR h3 ?_,h4,.inl rfl⟩⟩
 ·rintro (e | e)
  ·exact h.gB e.symm
  ·exact h.hB e
 ·rintro (e | e)
  ·exact h.tg (by rw[hk,e])
  ·exact h.ap k e hk
 ·rcases h4 with h4 | ⟨j,h5,h6⟩
  ·exact h.ap k (by rw[<- h4]; exact hk) hk2
  ·rw[h6] at hk; cases hk;have:=(h.rt.lt _ hk2).2;omega
 ·rintro j (e | e)
  ·exact .inl e
  ·exact .inr (.inr (.inl e))
theorem Rq.lT (h:Rq w g B f vH vT EH ET bl sp)(hl:Dt w g 3 (qc B bl vH sp vT) vT rX W):∃ MV,Rq W g B f vH MV EH rX bl sp/\GL g B vH vT w vH MV W:=by
 obtain⟨v',h1,h2,h3,h4⟩:=hl;refine⟨v',⟨h1,h.mp.same (h3.2 B h.mp.lt ?_),Yt h.rh fun k hk=>h3.2 k (h.rh.lt k hk).2 ?_,h2,fun k hk hk2=>?_⟩,⟨KR h3 ?_,.inl rfl,h4⟩⟩
 ·rintro (e | e)
  ·exact h.gB e.symm
  ·exact h.tB e
 ·rintro (e | e)
  ·exact h.hg (by rw[hk,e])
  ·exact h.ap k hk e
 ·rcases h4 with h4 | ⟨j,h5,h6⟩
  ·exact h.ap k hk (by rw[<- h4]; exact hk2)
  ·rw[h6] at hk2; cases hk2;have:=(h.rh.lt _ hk).2;omega
 ·rintro j (e | e)
  ·exact .inl e
  ·exact .inr (.inr (.inr e))
end
structure Ri (w:World)(g B:Nat)(vH vT:Value)(EH ET:List Eo)(bl sp:Int)(m:List Wt):Prop where
 rq:Rq w g B (BU m) vH vT EH ET bl sp
 lh:OV EH m fun x=>x.2.1
 lt:OV ET m fun x=>x.2.2
 Hw:JR m
 iw:gW m
def VT (w:World)(g:Nat)(S:Nat->Prop)(bl sp:Int)(m:List Wt):Prop:=∃ B vH vT EH ET,Ri w g B vH vT EH ET bl sp m/\S=wW g B vH vT
def J9 (g B0:Nat)(S:Nat->Prop)(bl sp:Int)(m:List Wt)(w w':World):Prop:=∃ S',VT w' g S' bl sp m/\(∀ k,S' k->S k∨w.heap.size<=k)/\ZP B0 S w w'
section
variable {w w' : World} {g : Nat} {S : Nat -> Prop} {bl sp : Int} {m : List Wt}
theorem VT.inn (h:VT w g S bl sp m):∀ k,S k->k<w.heap.size:=by
 obtain⟨B,vH,vT,EH,ET,h1,rfl⟩:=h;exact h1.rq.inn
theorem VT.same (h:VT w g S bl sp m)(hs:∀ k,S k->w'.heap[k]?=w.heap[k]?):VT w' g S bl sp m:=by
 obtain⟨B,vH,vT,EH,ET,h1,rfl⟩:=h;exact⟨B,vH,vT,EH,ET,{ h1 with rq:=h1.rq.same hs },rfl⟩
theorem VT.below (h:VT w g S bl sp m)(hb:Below w.heap.size w w'):VT w' g S bl sp m:=h.same fun k hk=>hb.block k (h.inn k hk)
theorem VT.upd (h:VT w g S bl sp m)(hb:Below w.heap.size w w'){B0:Nat}(hw:B0<=w.heap.size):J9 g B0 S bl sp m w w':=⟨S,h.below hb,fun k hk=>.inl hk,ZP.of_below hb hw⟩
theorem GL.fin {B:Nat}{vH vT Nc MV:Value}{W:World}{rY rX:List Eo}{m2:List Wt}(hs:GL g B vH vT w Nc MV W)(h2:Ri W g B Nc MV rY rX bl sp m2)(hS:S=wW g B vH vT){B0:Nat}(hB:∀ k,S k->B0<=k)(hw:B0<=w.heap.size):J9 g B0 S bl sp m2 w W:=by
 subst hS;refine⟨_,⟨B,Nc,MV,rY,rX,h2,rfl⟩,fun k hk=>?_,Q7 hs.ch (fun j hj=>hj) hB hw⟩;rcases hk with hk | hk | hk | hk
 ·exact .inl (.inl hk)
 ·exact .inl (.inr (.inl hk))
 ·rcases hs.ah with h1 | ⟨j,h1,h3⟩
  ·exact .inl (.inr (.inr (.inl (by rw[<- h1]; exact hk))))
  ·rw[h3] at hk; cases hk; exact .inr h1
 ·rcases hs.al with h1 | ⟨j,h1,h3⟩
  ·exact .inl (.inr (.inr (.inr (by rw[<- h1]; exact hk))))
  ·rw[h3] at hk; cases hk; exact .inr h1
end
theorem OV.kJ {E:List Eo}{m:List Wt}(h:OV E m fun x=>x.2.1)(hm:gW m):XT E:=fun e he=>by
 obtain⟨x,hx,rfl⟩:=h.mem.1 he;exact(hm x hx).1
theorem OV.kH {E:List Eo}{m:List Wt}(h:OV E m fun x=>x.2.2)(hm:gW m):XT E:=fun e he=>by
 obtain⟨x,hx,rfl⟩:=h.mem.1 he;exact(hm x hx).2
theorem IE (m:List Wt)(k:Int):JF (BU m k) true=.tuple #[OL ((U6 m k).getD (0,0)),.bool (XJ m k)]:=by
 rw[<- Aq];unfold BU;cases h:U6 m k with
 | none=>rfl
 | some p=>rfl
theorem Uy (bl sp:Int)(w:World):Calls Tryz.prog 57 #[Z9 bl,Z9 sp] w fun e w'=>∃ g S,e=.returned (Z7 g 0)/\VT w' g S bl sp []/\(∀ k,S k->w.heap.size<=k)/\Below w.heap.size w w':=by
 obtain⟨W1,hW1⟩:=ZR (w.alloc (.map #[] 0));obtain⟨W2,hW2⟩:=ZR (W1.alloc (.cells (qc w.heap.size bl (.slice none 0 0) sp (.slice none 0 0)) 139));have hb1:Below w.heap.size w W1:=by rw[<- hW1]; exact(Below.refl _ w).alloc (Nat.le_refl _) _
 have hb2:Below W1.heap.size W1 W2:=by rw[<- hW2]; exact(Below.refl _ W1).alloc (Nat.le_refl _) _
 have hM1:Mf W1 w.heap.size (BU []):=by rw[<- hW1]; exact Mf.new w
 have hM2:Mf W2 w.heap.size (BU []):=hM1.same (hb2.block _ hM1.lt);have hX:Bx W2 W1.heap.size (qc w.heap.size bl (.slice none 0 0) sp (.slice none 0 0)) 139:=by rw[<- hW2]; exact heap_alloc_last W1 _
 have hrep:VT W2 W1.heap.size (wW W1.heap.size w.heap.size (.slice none 0 0) (.slice none 0 0)) bl sp []:=⟨_,_,_,[],[],⟨⟨hX,hM2,SE _ _ _ _,SE _ _ _ _,fun k h=>by cases h⟩,OV.nil _,OV.nil _,List.Pairwise.nil,fun x hx=>by simp at hx⟩,rfl⟩;have hsub:∀ k,wW W1.heap.size w.heap.size (.slice none 0 0) (.slice none 0 0) k->w.heap.size<=k:=fun k hk=>by
  rcases hk with rfl | rfl | h | h
  ·exact hb1.size
  ·exact Nat.le_refl _
  ·cases h
  ·cases h
 have HE:=Z8 (And.intro hrep (And.intro hsub (hb1.trans (hb2.mono hb1.size))));clear hrep hsub;clear hb1 hb2 hM1 hM2 hX;go_enter Tryz.func57,Tryz.ntmps57;go_upto_region 1 with fail;apply wp_region_lit;refine VR (by kernel_rfl) (some 5) rfl (.map (some w.heap.size)) W1 (by rw[<- hW1]; exact Vw 134 rfl) ?_;refine qF (Z9 bl) (.agg #[Z9 bl,.slice none 0 0]) (Z9 sp) (.agg #[Z9 sp,.slice none 0 0]) (.agg (qc w.heap.size bl (.slice none 0 0) sp (.slice none 0 0))) ?_;refine YP rfl (some 11) rfl (Z7 W1.heap.size 0) W2 (by rw[<- hW2]; kernel_rfl) ?_;refine ZN (Z7 W1.heap.size 0)<|wn ?_;simp only[pu];go_wp2_with fail;go_ret;exact⟨W1.heap.size,_,rfl,HE.out⟩
theorem Nr {w:World}{g:Nat}{S:Nat->Prop}{bl sp:Int}{m:List Wt}(h0:VT w g S bl sp m)(id h t:Int)(hh:XJ m id=true):Calls Tryz.prog 62 #[Z7 g 0,Z9 id,Z9 h,Z9 t] w fun e w'=>e=.returned ZW/\Below w.heap.size w w':=by
 obtain⟨B,vH,vT,EH,ET,h1,-⟩:=h0;have hX:=h1.rq.bx;have hlk:=h1.rq.mp.look id true;rw[IE,hh] at hlk;obtain⟨P,hP⟩:=ZR ((U6 m id).getD (0,0));rw[hP] at hlk;have Ux:=Z8 hlk;obtain⟨V2,hst2,hb2,hX2⟩:=YQ (c:=#[Z9 0,Z9 0]) (c':=#[Z9 P.1,Z9 P.2]) (ty:=170) w rfl (by kernel_rfl) (by kernel_rfl);have HB2:=Z8 hb2;clear h1 hh hP hlk hb2 hX2;go_enter Tryz.func62,Tryz.ntmps62;go_upto_region 1 with fail;refine wl<|ZA (Z7 g 0) ZW<|wn ?_;simp only[pu];go_upto_region 3 with fail;refine wl<|YU (Z7 g 0) (Z7 g 0) (Z7 g 0)<|Zq rfl ⟨g,0,none⟩ (.map (some B)) (hX.ZL 0)<|ZN (Z9 id) <|
  YT (.tuple #[.agg #[Z9 P.1,Z9 P.2],ZT]) (Yy 134 (.tmp 17) (.tmp 18) true rfl (.map (some B)) (Z9 id) _ (by kernel_rfl) (by kernel_rfl) Ux.out) <|
  YU (.tuple #[.agg #[Z9 P.1,Z9 P.2],ZT]) (.agg #[Z9 P.1,Z9 P.2]) ZT ?_
 refine YP rfl (some 9) rfl (Z7 w.heap.size 0) (w.alloc (.cells #[Z9 0,Z9 0] 170)) (by kernel_rfl) ?_;refine WC rfl (hst2)<|ZN ZT<|wn ?_;simp only[pu];clear hX Ux hst2;go_upto_region 4 with fail;refine wl<|ZN ZT<|wn ?_;simp only[pu];go_upto_region 5 with fail;refine wl<|ZN ZW<|wn ?_;simp only[pu];go_wp2_with fail;go_ret;exact⟨rfl,HB2.out⟩
theorem X7 {w:World}{g:Nat}{S:Nat->Prop}{bl sp:Int}{m:List Wt}(h0:VT w g S bl sp m)(hl:m.length<=1000)(id h t:Int)(hh:XJ m id=false)(hhi:I64 h)(hti:I64 t){B0:Nat}(hB:∀ j,S j->B0<=j)(hw:B0<=w.heap.size):Calls Tryz.prog 62 #[Z7 g 0,Z9 id,Z9 h,Z9 t] w fun e w'=>e=.returned ZT/\J9 g B0 S bl sp (SL m (id,h,t)) w w':=by
 obtain⟨B,vH,vT,EH,ET,h1,hS⟩:=h0;have hX:=h1.rq.bx;have hlk:=h1.rq.mp.look id true;rw[IE,hh] at hlk;obtain⟨P,hP⟩:=ZR ((U6 m id).getD (0,0));rw[hP] at hlk;have Ux:=Z8 hlk;obtain⟨V2,hst2,hb2,hX2⟩:=YQ (c:=#[Z9 0,Z9 0]) (c':=#[Z9 P.1,Z9 P.2]) (ty:=170) w rfl (by kernel_rfl) (by kernel_rfl);have HB2:=Z8 hb2;have DK:=UQ h1.Hw (z:=(id,h,t)) hh;have HR2:=Z8 (h1.rq.below hb2);have hLH:=h1.lh.add (z:=(id,h,t)) hh DK;have hLT:=h1.lt.add (z:=(id,h,t)) hh DK;have hf:=yV DK;have hiw:gW (SL m (id,h,t)):=fun x hx=>by
  rcases List.mem_cons.1 (DK.qy.mem_iff.1 hx) with rfl | hx
  ·exact⟨hhi,hti⟩
  ·exact h1.iw x hx
 have KQ:Hid (∀ W Nc MV,GL g B vH vT V2 Nc MV W->Rq W g B (Ya (BU m) id (some (OL (h,t)))) Nc MV (EH.take (Zw EH (h,id))++(h,id)::EH.drop (Zw EH (h,id))) (ET.take (Zw ET (t,id))++(t,id)::ET.drop (Zw ET (t,id))) bl sp->J9 g B0 S bl sp (SL m (id,h,t)) w W):=Z8 fun W Nc MV hs hr=>((GL.below hb2).tr hs).fin ⟨by rw[<- hf]; exact hr,hLH,hLT,DK.Hw,hiw⟩ hS hB hw;have kG:EH.length<=9000:=by rw[h1.lh.len]; omega
 have kF:ET.length<=9000:=by rw[h1.lt.len]; omega
 have kE:Hid (EH.length<=9000/\Vt EH):=Z8 ⟨kG,h1.lh.1⟩;have Cj:Hid (ET.length<=9000/\Vt ET):=Z8 ⟨kF,h1.lt.1⟩;clear h1 hS hP hlk DK hLH hLT hf hiw kG kF hh hhi hti hB hw hl hb2 hX2;generalize BU m=f at *
 generalize SL m (id,h,t)=m2 at *
 obtain⟨rY,rW⟩:=ZR (EH.take (Zw EH (h,id))++(h,id)::EH.drop (Zw EH (h,id)));obtain⟨rX,rV⟩:=ZR (ET.take (Zw ET (t,id))++(t,id)::ET.drop (Zw ET (t,id)));rw[rW,rV] at KQ;have aW:=Z8 rW;have aV:=Z8 rV;clear rW rV;go_enter Tryz.func62,Tryz.ntmps62;go_upto_region 1 with fail;refine wl<|ZA (Z7 g 0) ZW<|wn ?_;simp only[pu];go_upto_region 3 with fail;refine wl<|YU (Z7 g 0) (Z7 g 0) (Z7 g 0)<|Zq rfl ⟨g,0,none⟩ (.map (some B)) (hX.ZL 0)<|ZN (Z9 id) <|
  YT (.tuple #[.agg #[Z9 P.1,Z9 P.2],ZW]) (Yy 134 (.tmp 17) (.tmp 18) true rfl (.map (some B)) (Z9 id) _ (by kernel_rfl) (by kernel_rfl) Ux.out) <|
  YU (.tuple #[.agg #[Z9 P.1,Z9 P.2],ZW]) (.agg #[Z9 P.1,Z9 P.2]) ZW ?_
 refine YP rfl (some 9) rfl (Z7 w.heap.size 0) (w.alloc (.cells #[Z9 0,Z9 0] 170)) (by kernel_rfl) ?_;refine WC rfl (hst2)<|ZN ZW<|wn ?_;simp only[pu];obtain⟨g9,KJ⟩:=ZR w.heap.size;rw[KJ];clear hX Ux hst2 KJ;go_upto_region 4 with fail;refine wl<|ZN ZW<|wn ?_;simp only[pu];obtain⟨V3,hup,Ci,-,hg3⟩:=HR2.out.mp.put id (OL (h,t));have Dq:=HR2.out.map Ci hg3;have HR3:=Z8 Dq.1;have wF:=Z8 Dq.2;have hX2:=HR2.out.bx;have aU:=Dp (o:=1) HR3.out.bx rfl HR3.out.rh kE.out.1 kE.out.2 (h,id);rw[aW.out] at aU;clear Ci hg3 Dq;go_upto_region 6 with fail;refine wl<|YU (Z7 g 0) (Z7 g 0) (Z7 g 0)<|Zq rfl ⟨g,0,none⟩ (.map (some B)) (hX2.ZL 0)<|MR (Z9 id) (Z9 h) (Z9 t) (.agg #[Z9 h,Z9 t]) ?_;refine Xe (by kernel_rfl) rfl V3 (Vu 134 (.tmp 26) (.tmp 27) (.tmp 30) rfl (.map (some B)) (Z9 id) (OL (h,t)) (by kernel_rfl) (by kernel_rfl) (by kernel_rfl) hup) ?_;apply wpList_nil;clear hup hX2;go_upto_region 7 with fail;refine wl<|AP (Z7 g 0) (Z7 g 0) (Z7 g 1) (Z9 h) (Z9 id) (.agg (ZQ (h,id)))<|Yd (.tuple #[]) (fun w'=>Dt V3 g 1 (qc B bl vH sp vT) vH rY w') aU (fun V4 hq4=>?_);obtain⟨Nc,gV,hS4⟩:=HR3.out.lH hq4;have aT:=Dp (o:=3) gV.bx rfl gV.rt Cj.out.1 Cj.out.2 (t,id);rw[aV.out] at aT;have HR4:=Z8 gV;have Gx:=Z8 (wF.out.tr hS4);clear hq4 gV hS4 aU wF;simp only[pu];apply wpList_nil;go_upto_region 8 with fail;refine wl<|AP (Z7 g 0) (Z7 g 0) (Z7 g 3) (Z9 t) (Z9 id) (.agg (ZQ (t,id)))<|Yd (.tuple #[]) (fun w'=>Dt V4 g 3 (qc B bl Nc sp vT) vT rX w') aT (fun V5 hq5=>?_);obtain⟨MV,l7,hS5⟩:=HR4.out.lT hq5;have HE:=Z8 (KQ.out V5 Nc MV (Gx.out.tr hS5) l7);clear hq5 l7 hS5 aT Gx HR4 HR3 KQ;simp only[pu];apply wpList_nil;go_upto_region 9 with fail;refine wl<|ZN ZT<|wn ?_;simp only[pu];go_wp2_with fail;go_ret;exact⟨rfl,HE.out⟩
theorem MK {w:World}{g:Nat}{S:Nat->Prop}{bl sp:Int}{m:List Wt}(h0:VT w g S bl sp m)(hl:m.length<=1000)(id h t:Int)(hhi:I64 h)(hti:I64 t){B0:Nat}(hB:∀ j,S j->B0<=j)(hw:B0<=w.heap.size):Calls Tryz.prog 62 #[Z7 g 0,Z9 id,Z9 h,Z9 t] w fun e w'=>e=.returned (.bool (!XJ m id))/\J9 g B0 S bl sp (SL m (id,h,t)) w w':=by
 cases hh:XJ m id with
 | true=>exact(Nr h0 id h t hh).mono fun e w' z=>⟨z.1,by rw[Qw (z:=(id,h,t)) hh]; exact h0.upd z.2 hw⟩
 | false=>exact X7 h0 hl id h t hh hhi hti hB hw
structure KE (w:World)(LH LT:List Int)(b4 b9 b10 b11:Bool)(x14 x19 x20:Value)(V:World):Prop where
 bel:Below w.heap.size w V
 o10:b10=true->b4=true/\b9=true
 o11:b11=true->b10=true
 r14:b4=true->b10=false->Zd V w.heap.size x14 LH
 r19:b9=true->b10=false->Zd V w.heap.size x19 LT
 r20:b10=true->Zd V w.heap.size x20 (LH++LT)
section
variable {w : World} {LH LT : List Int} {b4 b9 b10 b11 : Bool} {x14 x19 x20 : Value} {V : World}
theorem KE.start (w:World)(LH LT:List Int)(x14 x19 x20:Value):KE w LH LT false false false false x14 x19 x20 w.drew:=⟨(Below.refl _ w).drew,fun h=>by(cases h),fun h=>by(cases h),fun h=>by(cases h),fun h=>by(cases h),fun h=>by(cases h)⟩
theorem KE.n4 (h:KE w LH LT false b9 b10 b11 x14 x19 x20 V):b10=false:=by cases b10; rfl; exact absurd (h.o10 rfl).1 (by decide)
theorem KE.n9 (h:KE w LH LT b4 false b10 b11 x14 x19 x20 V):b10=false:=by cases b10; rfl; exact absurd (h.o10 rfl).2 (by decide)
theorem KE.n11 (h:KE w LH LT b4 b9 false b11 x14 x19 x20 V):b11=false:=by cases b11; rfl; exact absurd (h.o11 rfl) (by decide)
theorem KE.s4 (h:KE w LH LT false b9 false b11 x14 x19 x20 V){V2:World}{x:Value}(hx:Zd V2 V.heap.size x LH)(hb:Below V.heap.size V V2):KE w LH LT true b9 false b11 x x19 x20 V2:=
 ⟨h.bel.trans (hb.mono h.bel.size),fun h=>by(cases h),h.o11,fun _ _=>own_base hx h.bel.size,fun h9 h10=>(h.r19 h9 h10).below hb,fun h=>by(cases h)⟩
theorem KE.s9 (h:KE w LH LT b4 false false b11 x14 x19 x20 V){V2:World}{x:Value}(hx:Zd V2 V.heap.size x LT)(hb:Below V.heap.size V V2):KE w LH LT b4 true false b11 x14 x x20 V2:=
 ⟨h.bel.trans (hb.mono h.bel.size),fun h=>by(cases h),h.o11,fun h4 h10=>(h.r14 h4 h10).below hb,fun _ _=>own_base hx h.bel.size,fun h=>by(cases h)⟩
theorem KE.s10 (h:KE w LH LT true true false false x14 x19 x20 V){V2:World}{x:Value}(hx:Zd V2 w.heap.size x (LH++LT))(hb:Below w.heap.size V V2):KE w LH LT true true true false x14 x19 x V2:=
 ⟨h.bel.trans hb,fun _=>⟨rfl,rfl⟩,fun h=>by(cases h),fun _ h=>by(cases h),fun _ h=>by(cases h),fun _=>hx⟩
theorem KE.s11 (h:KE w LH LT b4 b9 true b11 x14 x19 x20 V):KE w LH LT b4 b9 true true x14 x19 x20 V:={ h with o11:=fun _=>rfl }
end
theorem below_grown {w V V2:World}{r:Option Nat}(h:Below w.heap.size w V)(hg:V.grownBy V2 r)(hr:∀ j,r=some j->w.heap.size<=j):Below w.heap.size w V2:=
 h.trans ⟨hg.1,hg.2,hg.3,hg.4,fun k hk=>hg.5 k (Nat.lt_of_lt_of_le hk h.size) fun e=>by have:=hr k e.symm; omega⟩
theorem oI {w:World}{g:Nat}{S:Nat->Prop}{bl sp:Int}{m:List Wt}(h0:VT w g S bl sp m)(hl:m.length<=1000)(hbl:I64 bl)(hsp:I64 sp){h t:Int}(hhi:I64 h)(hti:I64 t):Calls Tryz.prog 45 #[Z7 g 0,Z9 h,Z9 t] w (PZ w (Ua m bl sp h t)):=by
 obtain⟨B,vH,vT,EH,ET,h1,-⟩:=h0;have kG:EH.length<=1000:=by rw[h1.lh.len]; exact hl
 have kF:ET.length<=1000:=by rw[h1.lt.len]; exact hl
 have kD:Hid (∀ V,Below w.heap.size w V->Calls Tryz.prog 78 #[Z7 g 1,Z9 h] V (PZ V (VO EH bl h))):=Z8 fun V hV=>Dn (o:=1) (h1.rq.below hV).bx rfl rfl (h1.rq.below hV).rh (by omega) (h1.lh.kJ h1.iw) hbl hhi;have HC2:Hid (∀ V,Below w.heap.size w V->Calls Tryz.prog 78 #[Z7 g 3,Z9 t] V (PZ V (VO ET sp t))):=Z8 fun V hV=>Dn (o:=3) (h1.rq.below hV).bx rfl rfl (h1.rq.below hV).rt (by omega) (h1.lt.kH h1.iw) hsp hti;have hlh:=Nat.le_trans (LK EH bl h) kG;have hlt:=Nat.le_trans (LK ET sp t) kF;have hsc:=Nb (VO EH bl h++VO ET sp t);have heq:=EP h1.lh h1.lt h1.Hw hsc.1 hsc.2;generalize VO EH bl h=LH at *
 generalize VO ET sp t=LT at *
 have MX:Hid (LH.length<=1000/\LT.length<=1000):=Z8 ⟨hlh,hlt⟩;have gX:=Z8 heq;generalize Ua m bl sp h t=R at *
 obtain⟨PO,Yo⟩:=ZR (PZ w R);have Yh:Hid (∀ V v,Below w.heap.size w V->Zd V w.heap.size v R->PO (.returned v) V):=Z8 fun V v hV hr=>by rw[<- Yo]; exact⟨v,rfl,hr,hV⟩
 rw[Yo];clear h1 hl hbl hsp hhi hti kG kF hlh hlt hsc heq Yo;go_enter Tryz.func45,Tryz.ntmps45;go_upto_region 1 with fail;refine wl<|ZA (Z7 g 0) ZW<|wn ?_;simp only[pu];go_upto_region 3 with fail;have h0:=KE.start w LH LT undef undef undef;refine ZI (fun listed Zr V=>∃ b0 b1 b2 b3 b4 b5 b6 b7 b8 b9 b10 b11:Bool,∃ x14 x19 x20:Value,listed=#[b0,b1,b2,b3,b4,b5,b6,b7,b8,b9,b10,b11]/\Zr={ tmps:=#[Z7 g 0,Z9 h,Z9 t,undef,undef,undef,.slice none 0 0,(cond b11 (x20) undef),Z7 g 0,ZW,(cond b0 (Z7 g 0) undef),(cond b1 (Z7 g 0) undef),(cond b2 (Z7 g 1) undef),(cond b3 (Z9 h) undef),x14,(cond b5 (Z7 g 0) undef),(cond b6 (Z7 g 0) undef),(cond b7 (Z7 g 3) undef),(cond b8 (Z9 t) undef),x19,x20,undef,undef,undef,undef],defers:=[] }/\KE w LH LT b4 b9 b10 b11 x14 x19 x20 V) (by kernel_rfl) (by kernel_rfl) ?_ ?_ ?_
 ·exact⟨_,_,_,_,_,_,_,_,_,_,_,_,_,_,_,rfl,rfl,h0⟩
 ·intro i9 listed Zr V hi9 hr hJ;obtain⟨b0,b1,b2,b3,b4,b5,b6,b7,b8,b9,b10,b11,x14,x19,x20,rfl,rfl,hF⟩:=hJ;have hi2:i9<12:=hi9;have hi3:i9=0∨i9=1∨i9=2∨i9=3∨i9=4∨i9=5∨i9=6∨i9=7∨i9=8∨i9=9∨i9=10∨i9=11:=by omega
  rcases hi3 with rfl | rfl | rfl | rfl | rfl | rfl | rfl | rfl | rfl | rfl | rfl | rfl
  ·obtain rfl:b0=false:=Z5 hr;refine ZX rfl (by kernel_rfl) (some 10) rfl (Z7 g 0) V (by kernel_rfl) ?_;exact⟨_,_,_,_,_,_,_,_,_,_,_,_,_,_,_,rfl,rfl,hF⟩
  ·obtain rfl:b1=false:=Z5 hr;obtain rfl:b0=true:=Z4 hr 0;refine ZX rfl (by kernel_rfl) (some 11) rfl (Z7 g 0) V (by kernel_rfl) ?_;exact⟨_,_,_,_,_,_,_,_,_,_,_,_,_,_,_,rfl,rfl,hF⟩
  ·obtain rfl:b2=false:=Z5 hr;obtain rfl:b1=true:=Z4 hr 1;refine ZX rfl (by kernel_rfl) (some 12) rfl (Z7 g 1) V (by kernel_rfl) ?_;exact⟨_,_,_,_,_,_,_,_,_,_,_,_,_,_,_,rfl,rfl,hF⟩
  ·obtain rfl:b3=false:=Z5 hr;refine ZX rfl (by kernel_rfl) (some 13) rfl (Z9 h) V (by kernel_rfl) ?_;exact⟨_,_,_,_,_,_,_,_,_,_,_,_,_,_,_,rfl,rfl,hF⟩
  ·obtain rfl:b4=false:=Z5 hr;obtain rfl:b2=true:=Z4 hr 2;obtain rfl:b3=true:=Z4 hr 3;obtain rfl:b10=false:=hF.n4;refine YX rfl (by kernel_rfl) (some 14) rfl 78 #[Z7 g 1,Z9 h] (by kernel_rfl) ((kD.out V hF.bel).mono fun e9 V9 Kr=>?_);obtain⟨v9,rfl,h2,h3⟩:=Kr;refine⟨v9,rfl,?_⟩;exact⟨_,_,_,_,_,_,_,_,_,_,_,_,_,_,_,rfl,rfl,hF.s4 h2 h3⟩
  ·obtain rfl:b5=false:=Z5 hr;refine ZX rfl (by kernel_rfl) (some 15) rfl (Z7 g 0) V (by kernel_rfl) ?_;exact⟨_,_,_,_,_,_,_,_,_,_,_,_,_,_,_,rfl,rfl,hF⟩
  ·obtain rfl:b6=false:=Z5 hr;obtain rfl:b5=true:=Z4 hr 5;refine ZX rfl (by kernel_rfl) (some 16) rfl (Z7 g 0) V (by kernel_rfl) ?_;exact⟨_,_,_,_,_,_,_,_,_,_,_,_,_,_,_,rfl,rfl,hF⟩
  ·obtain rfl:b7=false:=Z5 hr;obtain rfl:b6=true:=Z4 hr 6;refine ZX rfl (by kernel_rfl) (some 17) rfl (Z7 g 3) V (by kernel_rfl) ?_;exact⟨_,_,_,_,_,_,_,_,_,_,_,_,_,_,_,rfl,rfl,hF⟩
  ·obtain rfl:b8=false:=Z5 hr;refine ZX rfl (by kernel_rfl) (some 18) rfl (Z9 t) V (by kernel_rfl) ?_;exact⟨_,_,_,_,_,_,_,_,_,_,_,_,_,_,_,rfl,rfl,hF⟩
  ·obtain rfl:b9=false:=Z5 hr;obtain rfl:b7=true:=Z4 hr 7;obtain rfl:b8=true:=Z4 hr 8;obtain rfl:b10=false:=hF.n9;refine YX rfl (by kernel_rfl) (some 19) rfl 78 #[Z7 g 3,Z9 t] (by kernel_rfl) ((HC2.out V hF.bel).mono fun e9 V9 Kr=>?_);obtain⟨v9,rfl,h2,h3⟩:=Kr;refine⟨v9,rfl,?_⟩;exact⟨_,_,_,_,_,_,_,_,_,_,_,_,_,_,_,rfl,rfl,hF.s9 h2 h3⟩
  ·obtain rfl:b10=false:=Z5 hr;obtain rfl:b4=true:=Z4 hr 4;obtain rfl:b9=true:=Z4 hr 9;obtain rfl:b11=false:=hF.n11;obtain⟨a9,c9,rfl,aS,-⟩:=(hF.r19 rfl rfl).cs;obtain⟨v9,V9,hap,h2,h3,-,-⟩:=TY (hF.r14 rfl rfl) hF.bel.size a9 LT.length c9 LT aS rfl (by have:=MX.out.1; omega) (by have:=MX.out.2; omega);refine XG rfl (by kernel_rfl) (some 20) rfl 22 rfl (.tmp 14) (.tmp 19) 22 rfl x14 (.slice a9 LT.length c9) v9 V9 (by kernel_rfl) (by kernel_rfl) hap ?_;exact⟨_,_,_,_,_,_,_,_,_,_,_,_,_,_,_,rfl,rfl,hF.s10 h2 h3⟩
  ·obtain rfl:b11=false:=Z5 hr;obtain rfl:b10=true:=Z4 hr 10;refine ZX rfl (by kernel_rfl) (some 7) rfl (x20) V (by kernel_rfl) ?_;exact⟨_,_,_,_,_,_,_,_,_,_,_,_,_,_,_,rfl,rfl,hF.s11⟩
 ·intro Zr V hJ;obtain⟨b0,b1,b2,b3,b4,b5,b6,b7,b8,b9,b10,b11,x14,x19,x20,he,rfl,hF⟩:=hJ;have he:(#[true,true,true,true,true,true,true,true,true,true,true,true]:Array Bool)=#[b0,b1,b2,b3,b4,b5,b6,b7,b8,b9,b10,b11]:=he;simp only[Array.mk.injEq,List.cons.injEq,and_true] at he;obtain⟨rfl,rfl,rfl,rfl,rfl,rfl,rfl,rfl,rfl,rfl,rfl,rfl⟩:=he;simp only[cond_true];have hr:=hF.r20 rfl;have HB:=Z8 hF.bel;clear hF h0 kD HC2;obtain⟨L0,hL0⟩:=ZR (LH++LT);have hlen:L0.length<=1000000:=by rw[<- hL0,List.length_append]; have:=MX.out; omega
  rw[hL0] at hr gX;have CS:=rU hr hlen;have HRL:=Z8 hr;have hlen2:(L0.mergeSort fun x y=>decide (x<=y)).length<=1000000:=by rw[List.length_mergeSort]; exact hlen
  generalize (L0.mergeSort fun x y=>decide (x<=y))=L1 at *
  have IU:=Z8 hlen2;clear hr hL0 hlen hlen2;go_upto_region 4 with fail;refine wl<|ZN (x20)<|Yd (.tuple #[]) (fun w'=>Zd w' w.heap.size x20 L1/\V.grownBy w' x20.ownBlock) CS (fun V2 hq=>?_);obtain⟨hr2,hg2⟩:=hq;have HB2:=Z8 (below_grown HB.out hg2 fun j hj=>(HRL.out.lt j hj).1);have CC:=GK hr2 IU.out;rw[gX.out] at CC;have HR2:=Z8 hr2;clear hr2 hg2 CS HB HRL;simp only[pu];apply wpList_nil;go_upto_region 5 with fail;refine wl<|ZN (x20)<|Vx (fun u w'=>Zd w' w.heap.size u R/\V2.grownBy w' x20.ownBlock) CC (fun v9 V3 hq=>?_);obtain⟨hr3,hg3⟩:=hq;have HE:=Z8 (Yh.out V3 v9 (below_grown HB2.out hg3 fun j hj=>(HR2.out.lt j hj).1) hr3);clear hr3 hg3 CC HR2 HB2 Yh;refine ZN (v9)<|wn ?_;simp only[pu];go_wp2_with fail;exact HE.out
end Go.Proofs.YtnelmomagdcmnaaGreat.Ex
namespace Go.Proofs.YtnelmomagdcmnaaGreat.Cg
open Go.RowKit
end Go.Proofs.YtnelmomagdcmnaaGreat.Cg
namespace Go.Proofs.YtnelmomagdcmnaaGreat.Cg
def runN (c0 c1:Int)(f1 f2 f3:Bool):Nat:=
 if c0<128 then 1
 else if (194<=c0/\c0<224)/\f1=true then 2
 else if ((224<=c0/\c0<240)/\f1=true)/\f2=true then (if (c0=224/\c1<160)∨(c0=237/\160<=c1) then 0 else 3)
 else if (((240<=c0/\c0<245)/\f1=true)/\f2=true)/\f3=true then (if (c0=240/\c1<144)∨(c0=244/\144<=c1) then 0 else 4)
 else 0
def aF (L:List Int)(i:Nat):Bool:=decide (i<L.length) && (decide (128<=L.getD i 0) && decide (L.getD i 0<192))
def runK (L:List Int)(i:Nat):Nat:=runN (L.getD i 0) (L.getD (i+1) 0) (aF L (i+1)) (aF L (i+2)) (aF L (i+3))
end Go.Proofs.YtnelmomagdcmnaaGreat.Cg
namespace Go.Proofs.YtnelmomagdcmnaaGreat.Cg
open Go.RowKit
section
variable {ρ : Operand -> Value} {o : Oper} {x y : Operand}
theorem Qq (ho:o.op=.binOp .geq 3 x y 3)(a b:Int){t:Bool}(ht:decide (b<=a)=t)(hx:ρ x=Z9 a)(hy:ρ y=Z9 b)(w:World):(execOp ρ o).run Tryz.prog w=.ok (.value (.bool t)) w:=by
 rw[<- ht];unfold execOp;simp only[ho,hx,hy];go_simp
theorem Zv (ho:o.op=.binOp .lss 3 x y 3)(a b:Int){t:Bool}(ht:decide (a<b)=t)(hx:ρ x=Z9 a)(hy:ρ y=Z9 b)(w:World):(execOp ρ o).run Tryz.prog w=.ok (.value (.bool t)) w:=by
 rw[<- ht];unfold execOp;simp only[ho,hx,hy];go_simp
end
end Go.Proofs.YtnelmomagdcmnaaGreat.Cg
namespace Go.Proofs.YtnelmomagdcmnaaGreat.Cg
def Tok (r:List Int):Prop:=r≠[]/\∀ A B:List Int,runK (A++(r++B)) A.length=r.length
def spL (r:List Int):Bool:=decide (r=[9]) || decide (r=[32]) || decide (r=[194,160]) || decide (r=[226,128,131]) || decide (r=[227,128,128])
def jT (L:List Int)(i:Nat)(w:List Int):List (List Int):=
 if h:i<L.length/\runK L i≠0 then
  if (L.drop i).take (runK L i)=[35] then (if w=[] then [] else [w])
  else if spL ((L.drop i).take (runK L i)) then (if w=[] then jT L (i+runK L i) [] else w::jT L (i+runK L i) [])
  else jT L (i+runK L i) (w++(L.drop i).take (runK L i))
 else if w=[] then [] else [w]
termination_by L.length-i
decreasing_by all_goals omega
def qY (n:Nat):List Int:=if n<10 then [((48+n:Nat):Int)] else qY (n / 10)++[((48+n % 10:Nat):Int)]
def aG (n:Int):List Int:=if n<0 then 45::qY (-n).toNat else qY n.toNat
def keysL:List (List Int):=[[109,97,120,45,116,120,115],[109,97,120,45,98,121,116,101,115],[109,97,120,45,116,120,45,98,121,116,101,115],[99,97,99,104,101,45,115,105,122,101],[116,116,108,45,98,108,111,99,107,115],[116,116,108,45,116,105,109,101],[107,101,101,112,45,105,110,118,97,108,105,100],[98,108,111,99,107,45,98,121,116,101,115],[98,108,111,99,107,45,103,97,115],[112,114,105,99,101],[115,101,108,102],[110,111,100,101,115]]
def XM:List Int:=[1,1,1,0,0,0,0,1,-1,0,0,1]
def QO:List Int:=[512,1048576,4096,1024,1073741824,1073741824,1,1048576,1125899906842624,0,7,8]
def Vd:List Int:=[100,65536,1024,200,0,0,0,32768,-1,1,0,1]
def inR (i:Nat)(n:Int):Bool:=decide (XM.getD i 0<=n) && decide (n<=(if i=9 then 18446744073709551615 else QO.getD i 0))
def aH (c:List Int):Bool:=((List.range 12).all fun i=>decide (i=9) || (decide (XM.getD i 0<=c.getD i 0) && decide (c.getD i 0<=QO.getD i 0))) && decide (c.getD 10 0<c.getD 11 0)
def Ul (c:List Int):Int:=if aH c then 0 else 1
def jS (l:List Int):Prop:=(∃ ts:List (List Int),l=ts.flatten/\∀ r∈ts,Tok r)/\(∀ x∈l,x≠10)/\l.length<=100
inductive jR:List (List Int)->List (Nat×Int)->Prop
 | nil:jR [] []
 | skip {l:List Int} {ls:List (List Int)} {q:List (Nat×Int)}:jS l->jT l 0 []=[]->jR ls q->jR (l::ls) q
 | set {l:List Int} {ls:List (List Int)} {q:List (Nat×Int)} {i:Nat} {n:Int}:jS l->jT l 0 []=[keysL.getD i [],aG n]->i<12->inR i n=true->jR ls q->jR (l::ls) ((i,n)::q)
end Go.Proofs.YtnelmomagdcmnaaGreat.Cg
