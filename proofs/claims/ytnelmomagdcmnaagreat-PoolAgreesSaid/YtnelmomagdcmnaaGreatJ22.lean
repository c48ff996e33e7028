/-
  Texts joined.
-/
import Derived.Test.YtnelmomagdcmnaaGreatJ21
import GoSem.Core.Utf8
set_option maxRecDepth 100000
set_option maxHeartbeats 8000000
set_option linter.unusedSimpArgs false
set_option linter.unusedVariables false
namespace Go.Proofs.YtnelmomagdcmnaaGreat.Ex
attribute [local irreducible] wpList wpQuiet
open Go.RowKit
abbrev qc (B:Nat)(bl:Int)(vH:Value)(sp:Int)(vT:Value):Array Value:=#[.map (some B),Z9 bl,vH,Z9 sp,vT]
theorem MC {Q S:Nat->Prop}{w w':World}{B0:Nat}(h:ZL 0 Q w w')(hQ:∀ j,Q j->S j)(hB:∀ j,S j->B0<=j)(hw:B0<=w.heap.size):ZL B0 S w w':=by
 obtain⟨⟨h1,h2,h3,h4,-⟩,h6⟩:=h;exact⟨⟨h1,h2,h3,h4,fun k hk=>h6 k (by omega) fun q=>by have:=hB k (hQ k q); omega⟩,fun k hk hn=>h6 k hk fun q=>hn (hQ k q)⟩
theorem Ej {Q S:Nat->Prop}{w w':World}(h:ZL 0 Q w w')(hQ:∀ j,Q j->S j):ZL 0 S w w':=MC h hQ (fun _ _=>Nat.zero_le _) (Nat.zero_le _)
structure Rq (w:World)(g B:Nat)(f:Int->Option Value)(vH vT:Value)(EH ET:List Eo)(bl sp:Int):Prop where
 bx:Bx w g (qc B bl vH sp vT) 139
 mp:Mf w B f
 rh:Zz w 0 vH EH
 rt:Zz w 0 vT ET
 ap:∀ k,vH.ownBlock=some k->vT.ownBlock=some k->False
def jq (g B:Nat)(vH vT:Value)(k:Nat):Prop:=k=g∨k=B∨vH.ownBlock=some k∨vT.ownBlock=some k
structure Ei (g B:Nat)(vH vT:Value)(w:World)(Nl Me:Value)(W:World):Prop where
 ch:ZL 0 (jq g B vH vT) w W
 ah:Nl.ownBlock=vH.ownBlock∨∃ k,w.heap.size<=k/\Nl.ownBlock=some k
 al:Me.ownBlock=vT.ownBlock∨∃ k,w.heap.size<=k/\Me.ownBlock=some k
section
variable {w w' W : World} {g B : Nat} {f f2 : Int -> Option Value} {vH vT Nl Me : Value} {EH ET jo jm : List Eo} {bl sp : Int}
theorem Rq.gB (h:Rq w g B f vH vT EH ET bl sp):g≠B:=fun e=>by
 obtain⟨es,c,h1⟩:=h.mp.map;have h2:=h.bx;unfold Bx at h2;rw[e,h1] at h2;cases h2
theorem Rq.hg (h:Rq w g B f vH vT EH ET bl sp):vH.ownBlock≠some g:=fun e=>row_ne h.rh e h.bx (by decide)
theorem Rq.tg (h:Rq w g B f vH vT EH ET bl sp):vT.ownBlock≠some g:=fun e=>row_ne h.rt e h.bx (by decide)
theorem Rq.hB (h:Rq w g B f vH vT EH ET bl sp):vH.ownBlock≠some B:=fun e=>by
 obtain⟨es,c,h1⟩:=h.mp.map;exact NH h.rh e h1
theorem Rq.tB (h:Rq w g B f vH vT EH ET bl sp):vT.ownBlock≠some B:=fun e=>by
 obtain⟨es,c,h1⟩:=h.mp.map;exact NH h.rt e h1
theorem Rq.inn (h:Rq w g B f vH vT EH ET bl sp):∀ k,jq g B vH vT k->k<w.heap.size:=fun k hk=>by
 rcases hk with rfl | rfl | hk | hk
 ·exact h.bx.lt
 ·exact h.mp.lt
 ·exact(h.rh.lt k hk).2
 ·exact(h.rt.lt k hk).2
theorem Rq.same (h:Rq w g B f vH vT EH ET bl sp)(hs:∀ k,jq g B vH vT k->w'.heap[k]?=w.heap[k]?):Rq w' g B f vH vT EH ET bl sp:=
 ⟨(hs g (.inl rfl)).trans h.bx,h.mp.same (hs B (.inr (.inl rfl))),XU h.rh fun k hk=>hs k (.inr (.inr (.inl hk))),XU h.rt fun k hk=>hs k (.inr (.inr (.inr hk))),h.ap⟩
theorem Rq.below (h:Rq w g B f vH vT EH ET bl sp)(hb:Below w.heap.size w w'):Rq w' g B f vH vT EH ET bl sp:=h.same fun k hk=>hb.block k (h.inn k hk)
theorem Ei.below (hb:Below w.heap.size w W):Ei g B vH vT w vH vT W:=⟨WJ hb,.inl rfl,.inl rfl⟩
theorem Ei.tr {w2:World}{vH3 vT3:Value}(h:Ei g B vH vT w Nl Me W)(k:Ei g B Nl Me W vH3 vT3 w2):Ei g B vH vT w vH3 vT3 w2:=by
 have hz:=h.ch.1.size;refine⟨h.ch.trans k.ch fun x hx=>?_,?_,?_⟩
 ·rcases hx with hx | hx | hx | hx
  ·exact .inl (.inl hx)
  ·exact .inl (.inr (.inl hx))
  ·rcases h.ah with h1 | ⟨j,h1,h2⟩
   ·exact .inl (.inr (.inr (.inl (by rw[<- h1]; exact hx))))
   ·rw[h2] at hx; cases hx; exact .inr h1
  ·rcases h.al with h1 | ⟨j,h1,h2⟩
   ·exact .inl (.inr (.inr (.inr (by rw[<- h1]; exact hx))))
   ·rw[h2] at hx; cases hx; exact .inr h1
 ·rcases k.ah with h1 | ⟨j,h1,h2⟩
  ·rw[h1]; exact h.ah
  ·exact .inr ⟨j,by omega,h2⟩
 ·rcases k.al with h1 | ⟨j,h1,h2⟩
  ·rw[h1]; exact h.al
  ·exact .inr ⟨j,by omega,h2⟩
theorem Rq.map (h:Rq w g B f vH vT EH ET bl sp)(hM:Mf W B f2)(hg:w.grownBy W (some B)):Rq W g B f2 vH vT EH ET bl sp/\Ei g B vH vT w vH vT W:=by
 have hk:∀ k,jq g B vH vT k->k≠B->W.heap[k]?=w.heap[k]?:=fun k hk hn=>hg.5 k (h.inn k hk) (by simpa using hn);refine⟨⟨(hk g (.inl rfl) h.gB).trans h.bx,hM,XU h.rh fun k h1=>hk k (.inr (.inr (.inl h1))) fun e=>h.hB (by rw[h1,e]),XU h.rt fun k h1=>hk k (.inr (.inr (.inr h1))) fun e=>h.tB (by rw[h1,e]),h.ap⟩,⟨XR hg fun j hj=>.inr (.inl (by cases hj; rfl)),.inl rfl,.inl rfl⟩⟩
theorem Rq.lH (h:Rq w g B f vH vT EH ET bl sp)(hl:DR w g 1 (qc B bl vH sp vT) vH jo W):∃ Nl,Rq W g B f Nl vT jo ET bl sp/\Ei g B vH vT w Nl vT W:=by
 obtain⟨v',h1,h2,h3,h4⟩:=hl;refine⟨v',⟨h1,h.mp.same (h3.2 B h.mp.lt ?_),h2,XU h.rt fun k hk=>h3.2 k (h.rt.lt k hk).2 ?_,fun k hk hk2=>?_⟩,⟨Ej h3 ?_,h4,.inl rfl⟩⟩
 ·rintro (e | e)
  ·exact h.gB e.symm
  ·exact h.hB e
 ·rintro (e | e)
  ·exact h.tg (by rw[hk,e])
  ·exact h.ap k e hk
 ·rcases h4 with h4 | ⟨j,h5,h6⟩
  ·exact h.ap k (by rw[<- h4]; exact hk) hk2
  ·rw[h6] at hk; cases hk;have:=(h.rt.lt _ hk2).2;omega
 ·rintro j (e | e)
  ·exact .inl e
  ·exact .inr (.inr (.inl e))
theorem Rq.lT (h:Rq w g B f vH vT EH ET bl sp)(hl:DR w g 3 (qc B bl vH sp vT) vT jm W):∃ Me,Rq W g B f vH Me EH jm bl sp/\Ei g B vH vT w vH Me W:=by
 obtain⟨v',h1,h2,h3,h4⟩:=hl;refine⟨v',⟨h1,h.mp.same (h3.2 B h.mp.lt ?_),XU h.rh fun k hk=>h3.2 k (h.rh.lt k hk).2 ?_,h2,fun k hk hk2=>?_⟩,⟨Ej h3 ?_,.inl rfl,h4⟩⟩
 ·rintro (e | e)
  ·exact h.gB e.symm
  ·exact h.tB e
 ·rintro (e | e)
  ·exact h.hg (by rw[hk,e])
  ·exact h.ap k hk e
 ·rcases h4 with h4 | ⟨j,h5,h6⟩
  ·exact h.ap k hk (by rw[<- h4]; exact hk2)
  ·rw[h6] at hk2; cases hk2;have:=(h.rh.lt _ hk).2;omega
 ·rintro j (e | e)
  ·exact .inl e
  ·exact .inr (.inr (.inr e))
end
theorem DR.but {w W:World}{g o:Nat}{cs:Array Value}{v:Value}{E2:List Eo}(h:DR w g o cs v E2 W)(k:Nat)(hk:k<w.heap.size)(h1:k≠g)(h2:v.ownBlock≠some k):W.heap[k]?=w.heap[k]?:=by
 obtain⟨v',-,-,h3,-⟩:=h;exact h3.2 k hk fun e=>e.elim h1 h2
structure Ri (w:World)(g B:Nat)(vH vT:Value)(EH ET:List Eo)(bl sp:Int)(m:List Wt):Prop where
 rq:Rq w g B (BA m) vH vT EH ET bl sp
 lh:KD EH m fun x=>x.2.1
 lt:KD ET m fun x=>x.2.2
 FB:E5 m
 iw:ItW m
def U6 (w:World)(g:Nat)(S:Nat->Prop)(bl sp:Int)(m:List Wt):Prop:=∃ B vH vT EH ET,Ri w g B vH vT EH ET bl sp m/\S=jq g B vH vT
def LG (g B0:Nat)(S:Nat->Prop)(bl sp:Int)(m:List Wt)(w w':World):Prop:=∃ S',U6 w' g S' bl sp m/\(∀ k,S' k->S k∨w.heap.size<=k)/\ZL B0 S w w'
section
variable {w w' : World} {g : Nat} {S : Nat -> Prop} {bl sp : Int} {m : List Wt}
theorem U6.inn (h:U6 w g S bl sp m):∀ k,S k->k<w.heap.size:=by
 obtain⟨B,vH,vT,EH,ET,h1,rfl⟩:=h;exact h1.rq.inn
theorem U6.same (h:U6 w g S bl sp m)(hs:∀ k,S k->w'.heap[k]?=w.heap[k]?):U6 w' g S bl sp m:=by
 obtain⟨B,vH,vT,EH,ET,h1,rfl⟩:=h;exact⟨B,vH,vT,EH,ET,{ h1 with rq:=h1.rq.same hs },rfl⟩
theorem U6.below (h:U6 w g S bl sp m)(hb:Below w.heap.size w w'):U6 w' g S bl sp m:=h.same fun k hk=>hb.block k (h.inn k hk)
theorem U6.upd (h:U6 w g S bl sp m)(hb:Below w.heap.size w w'){B0:Nat}(hw:B0<=w.heap.size):LG g B0 S bl sp m w w':=⟨S,h.below hb,fun k hk=>.inl hk,ZL.of_below hb hw⟩
theorem Ei.fin {B:Nat}{vH vT Nl Me:Value}{W:World}{jo jm:List Eo}{m2:List Wt}(hs:Ei g B vH vT w Nl Me W)(h2:Ri W g B Nl Me jo jm bl sp m2)(hS:S=jq g B vH vT){B0:Nat}(hB:∀ k,S k->B0<=k)(hw:B0<=w.heap.size):LG g B0 S bl sp m2 w W:=by
 subst hS;refine⟨_,⟨B,Nl,Me,jo,jm,h2,rfl⟩,fun k hk=>?_,MC hs.ch (fun j hj=>hj) hB hw⟩;rcases hk with hk | hk | hk | hk
 ·exact .inl (.inl hk)
 ·exact .inl (.inr (.inl hk))
 ·rcases hs.ah with h1 | ⟨j,h1,h3⟩
  ·exact .inl (.inr (.inr (.inl (by rw[<- h1]; exact hk))))
  ·rw[h3] at hk; cases hk; exact .inr h1
 ·rcases hs.al with h1 | ⟨j,h1,h3⟩
  ·exact .inl (.inr (.inr (.inr (by rw[<- h1]; exact hk))))
  ·rw[h3] at hk; cases hk; exact .inr h1
end
theorem KD.ap4 {E:List Eo}{m:List Wt}(h:KD E m fun x=>x.2.1)(hm:ItW m):Ws E:=fun e he=>by
 obtain⟨x,hx,rfl⟩:=h.mem.1 he;exact(hm x hx).1
theorem KD.ap5 {E:List Eo}{m:List Wt}(h:KD E m fun x=>x.2.2)(hm:ItW m):Ws E:=fun e he=>by
 obtain⟨x,hx,rfl⟩:=h.mem.1 he;exact(hm x hx).2
theorem Md (m:List Wt)(k:Int):BM (BA m k) true=.tuple #[Jc ((RG m k).getD (0,0)),.bool (XB m k)]:=by
 rw[<- kU];unfold BA;cases h:RG m k with
 | none=>rfl
 | some p=>rfl
theorem P9 (bl sp:Int)(w:World):Calls Tryz.prog 57 #[Z9 bl,Z9 sp] w fun e w'=>∃ g S,e=.returned (Z7 g 0)/\U6 w' g S bl sp []/\(∀ k,S k->w.heap.size<=k)/\Below w.heap.size w w':=by
 obtain⟨W1,hW1⟩:=ZR (w.alloc (.map #[] 0));obtain⟨W2,hW2⟩:=ZR (W1.alloc (.cells (qc w.heap.size bl (.slice none 0 0) sp (.slice none 0 0)) 139));have hb1:Below w.heap.size w W1:=by rw[<- hW1]; exact(Below.refl _ w).alloc (Nat.le_refl _) _
 have hb2:Below W1.heap.size W1 W2:=by rw[<- hW2]; exact(Below.refl _ W1).alloc (Nat.le_refl _) _
 have hM1:Mf W1 w.heap.size (BA []):=by rw[<- hW1]; exact Mf.new w
 have hM2:Mf W2 w.heap.size (BA []):=hM1.same (hb2.block _ hM1.lt);have hX:Bx W2 W1.heap.size (qc w.heap.size bl (.slice none 0 0) sp (.slice none 0 0)) 139:=by rw[<- hW2]; exact heap_alloc_last W1 _
 have hrep:U6 W2 W1.heap.size (jq W1.heap.size w.heap.size (.slice none 0 0) (.slice none 0 0)) bl sp []:=⟨_,_,_,[],[],⟨⟨hX,hM2,NW _ _ _ _,NW _ _ _ _,fun k h=>by cases h⟩,KD.nil _,KD.nil _,List.Pairwise.nil,fun x hx=>by simp at hx⟩,rfl⟩;have hsub:∀ k,jq W1.heap.size w.heap.size (.slice none 0 0) (.slice none 0 0) k->w.heap.size<=k:=fun k hk=>by
  rcases hk with rfl | rfl | h | h
  ·exact hb1.size
  ·exact Nat.le_refl _
  ·cases h
  ·cases h
 have HE:=Z8 (And.intro hrep (And.intro hsub (hb1.trans (hb2.mono hb1.size))));clear hrep hsub;clear hb1 hb2 hM1 hM2 hX;go_enter Tryz.func57,Tryz.ntmps57;go_upto_region 1 with fail;apply wp_region_lit;refine Vd (by kernel_rfl) (some 5) rfl (.map (some w.heap.size)) W1 (by rw[<- hW1]; exact SK 134 rfl) ?_;refine Gg (Z9 bl) (.agg #[Z9 bl,.slice none 0 0]) (Z9 sp) (.agg #[Z9 sp,.slice none 0 0]) (.agg (qc w.heap.size bl (.slice none 0 0) sp (.slice none 0 0))) ?_;refine Zj rfl (some 11) rfl (Z7 W1.heap.size 0) W2 (by rw[<- hW2]; kernel_rfl) ?_;refine ZQ (Z7 W1.heap.size 0)<|wn ?_;simp only[pu];go_wp2_with fail;go_ret;exact⟨W1.heap.size,_,rfl,HE.out⟩
theorem FQ {P:Program}{ops:Array Oper}{rest:List Oper}{o:Oper}{a:Act}{w:World}{Q:Exit->Act->World->Prop}(hg:o.guard=none)(hw:Region.wanted o (yielded ops a.tmps)=true)(hd:o.dst=none)(x y:Operand)(t u:TypeId)(ho:o.op=.call { callee:=.builtin .delete,args:=#[x,y],argTypes:=#[t,u] })(vx vy v:Value)(w2:World)(hx:a.eval x=vx)(hy:a.eval y=vy)(hr:(Builtin.delete_ #[t,u] o.type #[vx,vy]).run P w=.ok v w2)(k:wpList P ops Q rest a w2):wpList P ops Q (o::rest) a w:=by
 apply wpList_step;intro K hK;rw[if_pos hw,Oper.wp,NJ x y t u ho vx vy v hx hy hr];refine hK _ _ ?_;rw[hd];exact k
theorem G8 {w:World}{g:Nat}{S:Nat->Prop}{bl sp:Int}{m:List Wt}(h0:U6 w g S bl sp m)(id h t:Int)(hh:XB m id=true):Calls Tryz.prog 62 #[Z7 g 0,Z9 id,Z9 h,Z9 t] w fun e w'=>e=.returned ZY/\Below w.heap.size w w':=by
 obtain⟨B,vH,vT,EH,ET,h1,-⟩:=h0;have hX:=h1.rq.bx;have hlk:=h1.rq.mp.look id true;rw[Md,hh] at hlk;obtain⟨P,hP⟩:=ZR ((RG m id).getD (0,0));rw[hP] at hlk;have TF:=Z8 hlk;obtain⟨V2,hst2,hb2,hX2⟩:=Zk (c:=#[Z9 0,Z9 0]) (c':=#[Z9 P.1,Z9 P.2]) (ty:=170) w rfl (by kernel_rfl) (by kernel_rfl);have HB2:=Z8 hb2;clear h1 hh hP hlk hb2 hX2;go_enter Tryz.func62,Tryz.ntmps62;go_upto_region 1 with fail;refine wl<|ZB (Z7 g 0) ZY<|wn ?_;simp only[pu];go_upto_region 3 with fail;refine wl<|YX (Z7 g 0) (Z7 g 0) (Z7 g 0)<|ZC rfl ⟨g,0,none⟩ (.map (some B)) (hX.ZM 0)<|ZQ (Z9 id) <|
  Za (.tuple #[.agg #[Z9 P.1,Z9 P.2],ZX]) (Yv 134 (.tmp 17) (.tmp 18) true rfl (.map (some B)) (Z9 id) _ (by kernel_rfl) (by kernel_rfl) TF.out) <|
  YX (.tuple #[.agg #[Z9 P.1,Z9 P.2],ZX]) (.agg #[Z9 P.1,Z9 P.2]) ZX ?_
 refine Zj rfl (some 9) rfl (Z7 w.heap.size 0) (w.alloc (.cells #[Z9 0,Z9 0] 170)) (by kernel_rfl) ?_;refine Yb rfl (hst2)<|ZQ ZX<|wn ?_;simp only[pu];clear hX TF hst2;go_upto_region 4 with fail;refine wl<|ZQ ZX<|wn ?_;simp only[pu];go_upto_region 5 with fail;refine wl<|ZQ ZY<|wn ?_;simp only[pu];go_wp2_with fail;go_ret;exact⟨rfl,HB2.out⟩
theorem WR {w:World}{g:Nat}{S:Nat->Prop}{bl sp:Int}{m:List Wt}(h0:U6 w g S bl sp m)(hl:m.length<=1000)(id h t:Int)(hh:XB m id=false)(hhi:I64 h)(hti:I64 t){B0:Nat}(hB:∀ j,S j->B0<=j)(hw:B0<=w.heap.size):Calls Tryz.prog 62 #[Z7 g 0,Z9 id,Z9 h,Z9 t] w fun e w'=>e=.returned ZX/\LG g B0 S bl sp (NY m (id,h,t)) w w':=by
 obtain⟨B,vH,vT,EH,ET,h1,hS⟩:=h0;have hX:=h1.rq.bx;have hlk:=h1.rq.mp.look id true;rw[Md,hh] at hlk;obtain⟨P,hP⟩:=ZR ((RG m id).getD (0,0));rw[hP] at hlk;have TF:=Z8 hlk;obtain⟨V2,hst2,hb2,hX2⟩:=Zk (c:=#[Z9 0,Z9 0]) (c':=#[Z9 P.1,Z9 P.2]) (ty:=170) w rfl (by kernel_rfl) (by kernel_rfl);have HB2:=Z8 hb2;have Eu:=QB h1.FB (z:=(id,h,t)) hh;have HR2:=Z8 (h1.rq.below hb2);have hLH:=h1.lh.add (z:=(id,h,t)) hh Eu;have hLT:=h1.lt.add (z:=(id,h,t)) hh Eu;have hf:=jl Eu;have hiw:ItW (NY m (id,h,t)):=fun x hx=>by
  rcases List.mem_cons.1 (Eu.aC.mem_iff.1 hx) with rfl | hx
  ·exact⟨hhi,hti⟩
  ·exact h1.iw x hx
 have RF:Hid (∀ W Nl Me,Ei g B vH vT V2 Nl Me W->Rq W g B (XC (BA m) id (some (Jc (h,t)))) Nl Me (EH.take (Zw EH (h,id))++(h,id)::EH.drop (Zw EH (h,id))) (ET.take (Zw ET (t,id))++(t,id)::ET.drop (Zw ET (t,id))) bl sp->LG g B0 S bl sp (NY m (id,h,t)) w W):=Z8 fun W Nl Me hs hr=>((Ei.below hb2).tr hs).fin ⟨by rw[<- hf]; exact hr,hLH,hLT,Eu.FB,hiw⟩ hS hB hw;have dK:EH.length<=9000:=by rw[h1.lh.len]; omega
 have dJ:ET.length<=9000:=by rw[h1.lt.len]; omega
 have HLH:Hid (EH.length<=9000/\UQ EH):=Z8 ⟨dK,h1.lh.1⟩;have Af:Hid (ET.length<=9000/\UQ ET):=Z8 ⟨dJ,h1.lt.1⟩;clear h1 hS hP hlk Eu hLH hLT hf hiw dK dJ hh hhi hti hB hw hl hb2 hX2;generalize BA m=f at *
 generalize NY m (id,h,t)=m2 at *
 obtain⟨jo,Bz⟩:=ZR (EH.take (Zw EH (h,id))++(h,id)::EH.drop (Zw EH (h,id)));obtain⟨jm,Bv⟩:=ZR (ET.take (Zw ET (t,id))++(t,id)::ET.drop (Zw ET (t,id)));rw[Bz,Bv] at RF;have ae6:=Z8 Bz;have ae7:=Z8 Bv;clear Bz Bv;go_enter Tryz.func62,Tryz.ntmps62;go_upto_region 1 with fail;refine wl<|ZB (Z7 g 0) ZY<|wn ?_;simp only[pu];go_upto_region 3 with fail;refine wl<|YX (Z7 g 0) (Z7 g 0) (Z7 g 0)<|ZC rfl ⟨g,0,none⟩ (.map (some B)) (hX.ZM 0)<|ZQ (Z9 id) <|
  Za (.tuple #[.agg #[Z9 P.1,Z9 P.2],ZY]) (Yv 134 (.tmp 17) (.tmp 18) true rfl (.map (some B)) (Z9 id) _ (by kernel_rfl) (by kernel_rfl) TF.out) <|
  YX (.tuple #[.agg #[Z9 P.1,Z9 P.2],ZY]) (.agg #[Z9 P.1,Z9 P.2]) ZY ?_
 refine Zj rfl (some 9) rfl (Z7 w.heap.size 0) (w.alloc (.cells #[Z9 0,Z9 0] 170)) (by kernel_rfl) ?_;refine Yb rfl (hst2)<|ZQ ZY<|wn ?_;simp only[pu];obtain⟨g9,AO⟩:=ZR w.heap.size;rw[AO];clear hX TF hst2 AO;go_upto_region 4 with fail;refine wl<|ZQ ZY<|wn ?_;simp only[pu];obtain⟨V3,hup,Gx,-,hg3⟩:=HR2.out.mp.put id (Jc (h,t));have JX:=HR2.out.map Gx hg3;have HR3:=Z8 JX.1;have oD:=Z8 JX.2;have hX2:=HR2.out.bx;have EU:=qp (o:=1) HR3.out.bx rfl HR3.out.rh HLH.out.1 HLH.out.2 (h,id);rw[ae6.out] at EU;clear Gx hg3 JX;go_upto_region 6 with fail;refine wl<|YX (Z7 g 0) (Z7 g 0) (Z7 g 0)<|ZC rfl ⟨g,0,none⟩ (.map (some B)) (hX2.ZM 0)<|Qc (Z9 id) (Z9 h) (Z9 t) (.agg #[Z9 h,Z9 t]) ?_;refine UU (by kernel_rfl) rfl V3 (SI 134 (.tmp 26) (.tmp 27) (.tmp 30) rfl (.map (some B)) (Z9 id) (Jc (h,t)) (by kernel_rfl) (by kernel_rfl) (by kernel_rfl) hup) ?_;apply wpList_nil;clear hup hX2;go_upto_region 7 with fail;refine wl<|Ia (Z7 g 0) (Z7 g 0) (Z7 g 1) (Z9 h) (Z9 id) (.agg (ZO (h,id)))<|YD (.tuple #[]) (fun w'=>DR V3 g 1 (qc B bl vH sp vT) vH jo w') EU (fun V4 hq4=>?_);obtain⟨Nl,zZ,hS4⟩:=HR3.out.lH hq4;have CA2:=qp (o:=3) zZ.bx rfl zZ.rt Af.out.1 Af.out.2 (t,id);rw[ae7.out] at CA2;have HR4:=Z8 zZ;have mY:=Z8 (oD.out.tr hS4);clear hq4 zZ hS4 EU oD;simp only[pu];apply wpList_nil;go_upto_region 8 with fail;refine wl<|Ia (Z7 g 0) (Z7 g 0) (Z7 g 3) (Z9 t) (Z9 id) (.agg (ZO (t,id)))<|YD (.tuple #[]) (fun w'=>DR V4 g 3 (qc B bl Nl sp vT) vT jm w') CA2 (fun V5 hq5=>?_);obtain⟨Me,yw,hS5⟩:=HR4.out.lT hq5;have HE:=Z8 (RF.out V5 Nl Me (mY.out.tr hS5) yw);clear hq5 yw hS5 CA2 mY HR4 HR3 RF;simp only[pu];apply wpList_nil;go_upto_region 9 with fail;refine wl<|ZQ ZX<|wn ?_;simp only[pu];go_wp2_with fail;go_ret;exact⟨rfl,HE.out⟩
theorem G7 {w:World}{g:Nat}{S:Nat->Prop}{bl sp:Int}{m:List Wt}(h0:U6 w g S bl sp m)(id:Int)(hh:XB m id=false):Calls Tryz.prog 68 #[Z7 g 0,Z9 id] w fun e w'=>e=.returned ZY/\Below w.heap.size w w':=by
 obtain⟨B,vH,vT,EH,ET,h1,-⟩:=h0;have hX:=h1.rq.bx;have hlk:=h1.rq.mp.look id true;rw[Md,hh] at hlk;obtain⟨P,hP⟩:=ZR ((RG m id).getD (0,0));rw[hP] at hlk;have TF:=Z8 hlk;obtain⟨V2,hst2,hb2,hX2⟩:=Zk (c:=#[Z9 0,Z9 0]) (c':=#[Z9 P.1,Z9 P.2]) (ty:=170) w rfl (by kernel_rfl) (by kernel_rfl);have HB2:=Z8 hb2;clear h1 hh hP hlk hb2 hX2;go_enter Tryz.func68,Tryz.ntmps68;go_upto_region 1 with fail;refine wl<|ZB (Z7 g 0) ZY<|wn ?_;simp only[pu];go_upto_region 3 with fail;refine wl<|YX (Z7 g 0) (Z7 g 0) (Z7 g 0)<|ZC rfl ⟨g,0,none⟩ (.map (some B)) (hX.ZM 0)<|ZQ (Z9 id) <|
  Za (.tuple #[.agg #[Z9 P.1,Z9 P.2],ZY]) (Yv 134 (.tmp 13) (.tmp 14) true rfl (.map (some B)) (Z9 id) _ (by kernel_rfl) (by kernel_rfl) TF.out) <|
  YX (.tuple #[.agg #[Z9 P.1,Z9 P.2],ZY]) (.agg #[Z9 P.1,Z9 P.2]) ZY ?_
 refine Zj rfl (some 5) rfl (Z7 w.heap.size 0) (w.alloc (.cells #[Z9 0,Z9 0] 170)) (by kernel_rfl) ?_;refine Yb rfl (hst2)<|ZQ ZY<|wn ?_;simp only[pu];clear hX TF hst2;go_upto_region 4 with fail;refine wl<|ZB ZY ZX<|wn ?_;simp only[pu];go_upto_region 5 with fail;refine wl<|ZQ ZY<|wn ?_;simp only[pu];go_wp2_with fail;go_ret;exact⟨rfl,HB2.out⟩
theorem G6 {w:World}{g:Nat}{S:Nat->Prop}{bl sp:Int}{m:List Wt}(h0:U6 w g S bl sp m)(hl:m.length<=1000)(id:Int)(hh:XB m id=true){B0:Nat}(hB:∀ j,S j->B0<=j)(hw:B0<=w.heap.size):Calls Tryz.prog 68 #[Z7 g 0,Z9 id] w fun e w'=>e=.returned ZX/\LG g B0 S bl sp (Tz id m) w w':=by
 obtain⟨B,vH,vT,EH,ET,h1,hS⟩:=h0;have hX:=h1.rq.bx;have hRM:=WQ h1.FB hh;obtain⟨x,hx1,jk,hget⟩:=hRM.aC;have hlk:=h1.rq.mp.look id true;rw[Md,hh,hget,Option.getD_some] at hlk;obtain⟨ae8,hLH⟩:=h1.lh.rem hx1 jk;obtain⟨ae9,hLT⟩:=h1.lt.rem hx1 jk;obtain⟨P,hP⟩:=ZR x.2;rw[hP] at hlk ae8 hLH ae9 hLT;have TF:=Z8 hlk;obtain⟨V2,hst2,hb2,hX2⟩:=Zk (c:=#[Z9 0,Z9 0]) (c':=#[Z9 P.1,Z9 P.2]) (ty:=170) w rfl (by kernel_rfl) (by kernel_rfl);have HB2:=Z8 hb2;have HR2:=Z8 (h1.rq.below hb2);have hf:=ji hRM;have hiw:ItW (Tz id m):=fun y hy=>h1.iw y (jk.mem_iff.2 (List.mem_cons_of_mem _ hy));have RF:Hid (∀ W Nl Me,Ei g B vH vT V2 Nl Me W->Rq W g B (XC (BA m) id none) Nl Me (EH.take (Zw EH (P.1,id))++EH.drop (Zw EH (P.1,id)+1)) (ET.take (Zw ET (P.2,id))++ET.drop (Zw ET (P.2,id)+1)) bl sp->LG g B0 S bl sp (Tz id m) w W):=Z8 fun W Nl Me hs hr=>((Ei.below hb2).tr hs).fin ⟨by rw[<- hf]; exact hr,hLH,hLT,hRM.FB,hiw⟩ hS hB hw;have dK:EH.length<=9000:=by rw[h1.lh.len]; omega
 have dJ:ET.length<=9000:=by rw[h1.lt.len]; omega
 have HLH:Hid (EH.length<=9000/\UQ EH/\Zw EH (P.1,id)<EH.length):=Z8 ⟨dK,h1.lh.1,ae8⟩;have Af:Hid (ET.length<=9000/\UQ ET/\Zw ET (P.2,id)<ET.length):=Z8 ⟨dJ,h1.lt.1,ae9⟩;have Ai:Hid (∀ k,jq g B vH vT k->k<w.heap.size):=Z8 h1.rq.inn;clear h1 hS hP hlk hLH hLT hf hiw dK dJ hh hB hw hl hb2 hRM jk hget ae8 ae9 hx1;generalize BA m=f at *
 generalize Tz id m=m2 at *
 obtain⟨jo,Bz⟩:=ZR (EH.take (Zw EH (P.1,id))++EH.drop (Zw EH (P.1,id)+1));obtain⟨jm,Bv⟩:=ZR (ET.take (Zw ET (P.2,id))++ET.drop (Zw ET (P.2,id)+1));rw[Bz,Bv] at RF;have ae6:=Z8 Bz;have ae7:=Z8 Bv;clear Bz Bv;go_enter Tryz.func68,Tryz.ntmps68;go_upto_region 1 with fail;refine wl<|ZB (Z7 g 0) ZY<|wn ?_;simp only[pu];go_upto_region 3 with fail;refine wl<|YX (Z7 g 0) (Z7 g 0) (Z7 g 0)<|ZC rfl ⟨g,0,none⟩ (.map (some B)) (hX.ZM 0)<|ZQ (Z9 id) <|
  Za (.tuple #[.agg #[Z9 P.1,Z9 P.2],ZX]) (Yv 134 (.tmp 13) (.tmp 14) true rfl (.map (some B)) (Z9 id) _ (by kernel_rfl) (by kernel_rfl) TF.out) <|
  YX (.tuple #[.agg #[Z9 P.1,Z9 P.2],ZX]) (.agg #[Z9 P.1,Z9 P.2]) ZX ?_
 refine Zj rfl (some 5) rfl (Z7 w.heap.size 0) (w.alloc (.cells #[Z9 0,Z9 0] 170)) (by kernel_rfl) ?_;refine Yb rfl (hst2)<|ZQ ZX<|wn ?_;simp only[pu];obtain⟨g5,hg5⟩:=ZR w.heap.size;rw[hg5] at hX2 Ai ⊢;clear hX TF hst2 hg5;go_upto_region 4 with fail;refine wl<|ZB ZX ZY<|wn ?_;simp only[pu];obtain⟨V3,hdl,Gx,-,hg3⟩:=HR2.out.mp.del id 0;have JX:=HR2.out.map Gx hg3;have HR3:=Z8 JX.1;have oD:=Z8 JX.2;have xM:=HR2.out.bx;have hP3:=hg3.5 g5 hX2.lt (fun e=>by cases e; have:=Ai.out _ (.inr (.inl rfl)); omega);have Zr:Bx V3 g5 #[Z9 P.1,Z9 P.2] 170:=hP3.trans hX2;have EU:=qo (o:=1) (HR3.out.below (Below.refl _ V3).drew).bx rfl (HR3.out.below (Below.refl _ V3).drew).rh HLH.out.1 HLH.out.2.1 (P.1,id) HLH.out.2.2;rw[ae6.out] at EU;clear Gx hg3 JX hP3 hX2;go_upto_region 6 with fail;refine wl<|YX (Z7 g 0) (Z7 g 0) (Z7 g 0)<|ZC rfl ⟨g,0,none⟩ (.map (some B)) (xM.ZM 0)<|ZQ (Z9 id) ?_;refine FQ rfl (by kernel_rfl) rfl (.tmp 23) (.tmp 24) 134 3 rfl (.map (some B)) (Z9 id) (.tuple #[]) V3 (by kernel_rfl) (by kernel_rfl) hdl ?_;apply wpList_nil;clear hdl xM;go_upto_region 7 with fail;refine ZP (C:=fun U=>U=V3.drew) 7 (by kernel_rfl) (by kernel_rfl) (rfl) ?_;simp only[List.take_succ_cons,List.take_zero,List.drop_succ_cons,List.drop_zero];refine gy (Z7 g 0)<|gy (Z7 g 0)<|gy (Z7 g 1)<|gy (Z7 g5 0)<|Zx rfl ⟨g5,0,none⟩ (Z9 P.1) (fun U hU=>by rw[hU]; exact Bx.load (w:=V3.drew) Zr (i:=0) rfl (by kernel_rfl)) <|
   gy (Z9 id)<|gy (.agg (ZO (P.1,id))) ?_
 simp only[pu];apply wpQuiet_nil;intro U hU;subst hU;refine YD (.tuple #[]) (fun w'=>DR V3.drew g 1 (qc B bl vH sp vT) vH jo w') EU (fun V4 hq=>?_);simp only[pu];have Xu:Bx V4 g5 #[Z9 P.1,Z9 P.2] 170:=(hq.but g5 (show g5<V3.drew.heap.size from Zr.lt) (fun e=>by have:=Ai.out _ (.inl rfl); omega) (fun e=>by have:=Ai.out _ (.inr (.inr (.inl e))); omega)).trans Zr;obtain⟨Nl,zZ,hS4⟩:=(HR3.out.below (Below.refl _ V3).drew).lH hq;have CA2:=qo (o:=3) (zZ.below (Below.refl _ V4).drew).bx rfl (zZ.below (Below.refl _ V4).drew).rt Af.out.1 Af.out.2.1 (P.2,id) Af.out.2.2;rw[ae7.out] at CA2;have HR4:=Z8 zZ;have mY:=Z8 ((oD.out.tr (Ei.below (Below.refl _ V3).drew)).tr hS4);clear hq zZ hS4 EU oD Zr;apply wpList_nil;go_upto_region 8 with fail;refine ZP (C:=fun U=>U=V4.drew) 7 (by kernel_rfl) (by kernel_rfl) (rfl) ?_;simp only[List.take_succ_cons,List.take_zero,List.drop_succ_cons,List.drop_zero];refine gy (Z7 g 0)<|gy (Z7 g 0)<|gy (Z7 g 3)<|gy (Z7 g5 1)<|Zx rfl ⟨g5,1,none⟩ (Z9 P.2) (fun U hU=>by rw[hU]; exact Bx.load (w:=V4.drew) Xu (i:=1) rfl (by kernel_rfl)) <|
   gy (Z9 id)<|gy (.agg (ZO (P.2,id))) ?_
 simp only[pu];apply wpQuiet_nil;intro U hU;subst hU;refine YD (.tuple #[]) (fun w'=>DR V4.drew g 3 (qc B bl Nl sp vT) vT jm w') CA2 (fun V5 hq=>?_);simp only[pu];obtain⟨Me,yw,hS5⟩:=(HR4.out.below (Below.refl _ V4).drew).lT hq;have HE:=Z8 (RF.out V5 Nl Me ((mY.out.tr (Ei.below (Below.refl _ V4).drew)).tr hS5) yw);clear hq yw hS5 CA2 mY HR4 HR3 RF Xu;apply wpList_nil;go_upto_region 9 with fail;refine wl<|ZQ ZX<|wn ?_;simp only[pu];go_wp2_with fail;go_ret;exact⟨rfl,HE.out⟩
theorem FM {w:World}{g:Nat}{S:Nat->Prop}{bl sp:Int}{m:List Wt}(h0:U6 w g S bl sp m)(hl:m.length<=1000)(id h t:Int)(hhi:I64 h)(hti:I64 t){B0:Nat}(hB:∀ j,S j->B0<=j)(hw:B0<=w.heap.size):Calls Tryz.prog 62 #[Z7 g 0,Z9 id,Z9 h,Z9 t] w fun e w'=>e=.returned (.bool (!XB m id))/\LG g B0 S bl sp (NY m (id,h,t)) w w':=by
 cases hh:XB m id with
 | true=>exact(G8 h0 id h t hh).mono fun e w' z=>⟨z.1,by rw[KJ (z:=(id,h,t)) hh]; exact h0.upd z.2 hw⟩
 | false=>exact WR h0 hl id h t hh hhi hti hB hw
theorem FN {w:World}{g:Nat}{S:Nat->Prop}{bl sp:Int}{m:List Wt}(h0:U6 w g S bl sp m)(hl:m.length<=1000)(id:Int){B0:Nat}(hB:∀ j,S j->B0<=j)(hw:B0<=w.heap.size):Calls Tryz.prog 68 #[Z7 g 0,Z9 id] w fun e w'=>e=.returned (.bool (XB m id))/\LG g B0 S bl sp (Tz id m) w w':=by
 cases hh:XB m id with
 | false=>exact(G7 h0 id hh).mono fun e w' z=>⟨z.1,by rw[PL hh]; exact h0.upd z.2 hw⟩
 | true=>exact G6 h0 hl id hh hB hw
structure KE (w:World)(LH LT:List Int)(b4 b9 b10 b11:Bool)(x14 x19 x20:Value)(V:World):Prop where
 bel:Below w.heap.size w V
 o10:b10=true->b4=true/\b9=true
 o11:b11=true->b10=true
 r14:b4=true->b10=false->YB V w.heap.size x14 LH
 r19:b9=true->b10=false->YB V w.heap.size x19 LT
 r20:b10=true->YB V w.heap.size x20 (LH++LT)
section
variable {w : World} {LH LT : List Int} {b4 b9 b10 b11 : Bool} {x14 x19 x20 : Value} {V : World}
theorem KE.start (w:World)(LH LT:List Int)(x14 x19 x20:Value):KE w LH LT false false false false x14 x19 x20 w.drew:=⟨(Below.refl _ w).drew,fun h=>by(cases h),fun h=>by(cases h),fun h=>by(cases h),fun h=>by(cases h),fun h=>by(cases h)⟩
theorem KE.n4 (h:KE w LH LT false b9 b10 b11 x14 x19 x20 V):b10=false:=by cases b10; rfl; exact absurd (h.o10 rfl).1 (by decide)
theorem KE.n9 (h:KE w LH LT b4 false b10 b11 x14 x19 x20 V):b10=false:=by cases b10; rfl; exact absurd (h.o10 rfl).2 (by decide)
theorem KE.n11 (h:KE w LH LT b4 b9 false b11 x14 x19 x20 V):b11=false:=by cases b11; rfl; exact absurd (h.o11 rfl) (by decide)
theorem KE.s4 (h:KE w LH LT false b9 false b11 x14 x19 x20 V){V2:World}{x:Value}(hx:YB V2 V.heap.size x LH)(hb:Below V.heap.size V V2):KE w LH LT true b9 false b11 x x19 x20 V2:=
 ⟨h.bel.trans (hb.mono h.bel.size),fun h=>by(cases h),h.o11,fun _ _=>own_base hx h.bel.size,fun h9 h10=>(h.r19 h9 h10).below hb,fun h=>by(cases h)⟩
theorem KE.s9 (h:KE w LH LT b4 false false b11 x14 x19 x20 V){V2:World}{x:Value}(hx:YB V2 V.heap.size x LT)(hb:Below V.heap.size V V2):KE w LH LT b4 true false b11 x14 x x20 V2:=
 ⟨h.bel.trans (hb.mono h.bel.size),fun h=>by(cases h),h.o11,fun h4 h10=>(h.r14 h4 h10).below hb,fun _ _=>own_base hx h.bel.size,fun h=>by(cases h)⟩
theorem KE.s10 (h:KE w LH LT true true false false x14 x19 x20 V){V2:World}{x:Value}(hx:YB V2 w.heap.size x (LH++LT))(hb:Below w.heap.size V V2):KE w LH LT true true true false x14 x19 x V2:=
 ⟨h.bel.trans hb,fun _=>⟨rfl,rfl⟩,fun h=>by(cases h),fun _ h=>by(cases h),fun _ h=>by(cases h),fun _=>hx⟩
theorem KE.s11 (h:KE w LH LT b4 b9 true b11 x14 x19 x20 V):KE w LH LT b4 b9 true true x14 x19 x20 V:={ h with o11:=fun _=>rfl }
end
theorem below_grown {w V V2:World}{r:Option Nat}(h:Below w.heap.size w V)(hg:V.grownBy V2 r)(hr:∀ j,r=some j->w.heap.size<=j):Below w.heap.size w V2:=
 h.trans ⟨hg.1,hg.2,hg.3,hg.4,fun k hk=>hg.5 k (Nat.lt_of_lt_of_le hk h.size) fun e=>by have:=hr k e.symm; omega⟩
theorem ak9 {w:World}{g:Nat}{S:Nat->Prop}{bl sp:Int}{m:List Wt}(h0:U6 w g S bl sp m)(hl:m.length<=1000)(hbl:I64 bl)(hsp:I64 sp){h t:Int}(hhi:I64 h)(hti:I64 t):Calls Tryz.prog 45 #[Z7 g 0,Z9 h,Z9 t] w (JK w (OV m bl sp h t)):=by
 obtain⟨B,vH,vT,EH,ET,h1,-⟩:=h0;have dK:EH.length<=1000:=by rw[h1.lh.len]; exact hl
 have dJ:ET.length<=1000:=by rw[h1.lt.len]; exact hl
 have HC1:Hid (∀ V,Below w.heap.size w V->Calls Tryz.prog 78 #[Z7 g 1,Z9 h] V (JK V (TP EH bl h))):=Z8 fun V hV=>qm (o:=1) (h1.rq.below hV).bx rfl rfl (h1.rq.below hV).rh (by omega) (h1.lh.ap4 h1.iw) hbl hhi;have HC2:Hid (∀ V,Below w.heap.size w V->Calls Tryz.prog 78 #[Z7 g 3,Z9 t] V (JK V (TP ET sp t))):=Z8 fun V hV=>qm (o:=3) (h1.rq.below hV).bx rfl rfl (h1.rq.below hV).rt (by omega) (h1.lt.ap5 h1.iw) hsp hti;have hlh:=Nat.le_trans (EY EH bl h) dK;have hlt:=Nat.le_trans (EY ET sp t) dJ;have hsc:=GX (TP EH bl h++TP ET sp t);have heq:=uz h1.lh h1.lt h1.FB hsc.1 hsc.2;generalize TP EH bl h=LH at *
 generalize TP ET sp t=LT at *
 have O6:Hid (LH.length<=1000/\LT.length<=1000):=Z8 ⟨hlh,hlt⟩;have HEQ:=Z8 heq;generalize OV m bl sp h t=R at *
 obtain⟨PO,Yi⟩:=ZR (JK w R);have XD:Hid (∀ V v,Below w.heap.size w V->YB V w.heap.size v R->PO (.returned v) V):=Z8 fun V v hV hr=>by rw[<- Yi]; exact⟨v,rfl,hr,hV⟩
 rw[Yi];clear h1 hl hbl hsp hhi hti dK dJ hlh hlt hsc heq Yi;go_enter Tryz.func45,Tryz.ntmps45;go_upto_region 1 with fail;refine wl<|ZB (Z7 g 0) ZY<|wn ?_;simp only[pu];go_upto_region 3 with fail;have h0:=KE.start w LH LT undef undef undef;refine ZK (fun listed ZH V=>∃ b0 b1 b2 b3 b4 b5 b6 b7 b8 b9 b10 b11:Bool,∃ x14 x19 x20:Value,listed=#[b0,b1,b2,b3,b4,b5,b6,b7,b8,b9,b10,b11]/\ZH={ tmps:=#[Z7 g 0,Z9 h,Z9 t,undef,undef,undef,.slice none 0 0,(cond b11 (x20) undef),Z7 g 0,ZY,(cond b0 (Z7 g 0) undef),(cond b1 (Z7 g 0) undef),(cond b2 (Z7 g 1) undef),(cond b3 (Z9 h) undef),x14,(cond b5 (Z7 g 0) undef),(cond b6 (Z7 g 0) undef),(cond b7 (Z7 g 3) undef),(cond b8 (Z9 t) undef),x19,x20,undef,undef,undef,undef],defers:=[] }/\KE w LH LT b4 b9 b10 b11 x14 x19 x20 V) (by kernel_rfl) (by kernel_rfl) ?_ ?_ ?_
 ·exact⟨_,_,_,_,_,_,_,_,_,_,_,_,_,_,_,rfl,rfl,h0⟩
 ·intro i9 listed ZH V hi9 hr hJ;obtain⟨b0,b1,b2,b3,b4,b5,b6,b7,b8,b9,b10,b11,x14,x19,x20,rfl,rfl,hF⟩:=hJ;have hi2:i9<12:=hi9;have hi3:i9=0∨i9=1∨i9=2∨i9=3∨i9=4∨i9=5∨i9=6∨i9=7∨i9=8∨i9=9∨i9=10∨i9=11:=by omega
  rcases hi3 with rfl | rfl | rfl | rfl | rfl | rfl | rfl | rfl | rfl | rfl | rfl | rfl
  ·obtain rfl:b0=false:=Z5 hr;refine ZW rfl (by kernel_rfl) (some 10) rfl (Z7 g 0) V (by kernel_rfl) ?_;exact⟨_,_,_,_,_,_,_,_,_,_,_,_,_,_,_,rfl,rfl,hF⟩
  ·obtain rfl:b1=false:=Z5 hr;obtain rfl:b0=true:=Z4 hr 0;refine ZW rfl (by kernel_rfl) (some 11) rfl (Z7 g 0) V (by kernel_rfl) ?_;exact⟨_,_,_,_,_,_,_,_,_,_,_,_,_,_,_,rfl,rfl,hF⟩
  ·obtain rfl:b2=false:=Z5 hr;obtain rfl:b1=true:=Z4 hr 1;refine ZW rfl (by kernel_rfl) (some 12) rfl (Z7 g 1) V (by kernel_rfl) ?_;exact⟨_,_,_,_,_,_,_,_,_,_,_,_,_,_,_,rfl,rfl,hF⟩
  ·obtain rfl:b3=false:=Z5 hr;refine ZW rfl (by kernel_rfl) (some 13) rfl (Z9 h) V (by kernel_rfl) ?_;exact⟨_,_,_,_,_,_,_,_,_,_,_,_,_,_,_,rfl,rfl,hF⟩
  ·obtain rfl:b4=false:=Z5 hr;obtain rfl:b2=true:=Z4 hr 2;obtain rfl:b3=true:=Z4 hr 3;obtain rfl:b10=false:=hF.n4;refine Zl rfl (by kernel_rfl) (some 14) rfl 78 #[Z7 g 1,Z9 h] (by kernel_rfl) ((HC1.out V hF.bel).mono fun e9 V9 MR=>?_);obtain⟨v9,rfl,h2,h3⟩:=MR;refine⟨v9,rfl,?_⟩;exact⟨_,_,_,_,_,_,_,_,_,_,_,_,_,_,_,rfl,rfl,hF.s4 h2 h3⟩
  ·obtain rfl:b5=false:=Z5 hr;refine ZW rfl (by kernel_rfl) (some 15) rfl (Z7 g 0) V (by kernel_rfl) ?_;exact⟨_,_,_,_,_,_,_,_,_,_,_,_,_,_,_,rfl,rfl,hF⟩
  ·obtain rfl:b6=false:=Z5 hr;obtain rfl:b5=true:=Z4 hr 5;refine ZW rfl (by kernel_rfl) (some 16) rfl (Z7 g 0) V (by kernel_rfl) ?_;exact⟨_,_,_,_,_,_,_,_,_,_,_,_,_,_,_,rfl,rfl,hF⟩
  ·obtain rfl:b7=false:=Z5 hr;obtain rfl:b6=true:=Z4 hr 6;refine ZW rfl (by kernel_rfl) (some 17) rfl (Z7 g 3) V (by kernel_rfl) ?_;exact⟨_,_,_,_,_,_,_,_,_,_,_,_,_,_,_,rfl,rfl,hF⟩
  ·obtain rfl:b8=false:=Z5 hr;refine ZW rfl (by kernel_rfl) (some 18) rfl (Z9 t) V (by kernel_rfl) ?_;exact⟨_,_,_,_,_,_,_,_,_,_,_,_,_,_,_,rfl,rfl,hF⟩
  ·obtain rfl:b9=false:=Z5 hr;obtain rfl:b7=true:=Z4 hr 7;obtain rfl:b8=true:=Z4 hr 8;obtain rfl:b10=false:=hF.n9;refine Zl rfl (by kernel_rfl) (some 19) rfl 78 #[Z7 g 3,Z9 t] (by kernel_rfl) ((HC2.out V hF.bel).mono fun e9 V9 MR=>?_);obtain⟨v9,rfl,h2,h3⟩:=MR;refine⟨v9,rfl,?_⟩;exact⟨_,_,_,_,_,_,_,_,_,_,_,_,_,_,_,rfl,rfl,hF.s9 h2 h3⟩
  ·obtain rfl:b10=false:=Z5 hr;obtain rfl:b4=true:=Z4 hr 4;obtain rfl:b9=true:=Z4 hr 9;obtain rfl:b11=false:=hF.n11;obtain⟨a9,c9,rfl,av9,-⟩:=(hF.r19 rfl rfl).cs;obtain⟨v9,V9,hap,h2,h3,-,-⟩:=OU (hF.r14 rfl rfl) hF.bel.size a9 LT.length c9 LT av9 rfl (by have:=O6.out.1; omega) (by have:=O6.out.2; omega);refine Zf rfl (by kernel_rfl) (some 20) rfl 22 rfl (.tmp 14) (.tmp 19) 22 rfl x14 (.slice a9 LT.length c9) v9 V9 (by kernel_rfl) (by kernel_rfl) hap ?_;exact⟨_,_,_,_,_,_,_,_,_,_,_,_,_,_,_,rfl,rfl,hF.s10 h2 h3⟩
  ·obtain rfl:b11=false:=Z5 hr;obtain rfl:b10=true:=Z4 hr 10;refine ZW rfl (by kernel_rfl) (some 7) rfl (x20) V (by kernel_rfl) ?_;exact⟨_,_,_,_,_,_,_,_,_,_,_,_,_,_,_,rfl,rfl,hF.s11⟩
 ·intro ZH V hJ;obtain⟨b0,b1,b2,b3,b4,b5,b6,b7,b8,b9,b10,b11,x14,x19,x20,he,rfl,hF⟩:=hJ;have he:(#[true,true,true,true,true,true,true,true,true,true,true,true]:Array Bool)=#[b0,b1,b2,b3,b4,b5,b6,b7,b8,b9,b10,b11]:=he;simp only[Array.mk.injEq,List.cons.injEq,and_true] at he;obtain⟨rfl,rfl,rfl,rfl,rfl,rfl,rfl,rfl,rfl,rfl,rfl,rfl⟩:=he;simp only[cond_true];have hr:=hF.r20 rfl;have HB:=Z8 hF.bel;clear hF h0 HC1 HC2;obtain⟨L0,hL0⟩:=ZR (LH++LT);have hlen:L0.length<=1000000:=by rw[<- hL0,List.length_append]; have:=O6.out; omega
  rw[hL0] at hr HEQ;have CS:=af0 hr hlen;have HRL:=Z8 hr;have hlen2:(L0.mergeSort fun x y=>decide (x<=y)).length<=1000000:=by rw[List.length_mergeSort]; exact hlen
  generalize (L0.mergeSort fun x y=>decide (x<=y))=L1 at *
  have DT:=Z8 hlen2;clear hr hL0 hlen hlen2;go_upto_region 4 with fail;refine wl<|ZQ (x20)<|YD (.tuple #[]) (fun w'=>YB w' w.heap.size x20 L1/\V.grownBy w' x20.ownBlock) CS (fun V2 hq=>?_);obtain⟨hr2,hg2⟩:=hq;have HB2:=Z8 (below_grown HB.out hg2 fun j hj=>(HRL.out.lt j hj).1);have CC:=xK hr2 DT.out;rw[HEQ.out] at CC;have HR2:=Z8 hr2;clear hr2 hg2 CS HB HRL;simp only[pu];apply wpList_nil;go_upto_region 5 with fail;refine wl<|ZQ (x20)<|XQ (fun u w'=>YB w' w.heap.size u R/\V2.grownBy w' x20.ownBlock) CC (fun v9 V3 hq=>?_);obtain⟨hr3,hg3⟩:=hq;have HE:=Z8 (XD.out V3 v9 (below_grown HB2.out hg3 fun j hj=>(HR2.out.lt j hj).1) hr3);clear hr3 hg3 CC HR2 HB2 XD;refine ZQ (v9)<|wn ?_;simp only[pu];go_wp2_with fail;exact HE.out
end Go.Proofs.YtnelmomagdcmnaaGreat.Ex
namespace Go.Proofs.YtnelmomagdcmnaaGreat.Cg
open Go.RowKit
end Go.Proofs.YtnelmomagdcmnaaGreat.Cg
namespace Go.Proofs.YtnelmomagdcmnaaGreat.Cg
def runN (c0 c1:Int)(f1 f2 f3:Bool):Nat:=
 if c0<128 then 1
 else if (194<=c0/\c0<224)/\f1=true then 2
 else if ((224<=c0/\c0<240)/\f1=true)/\f2=true then (if (c0=224/\c1<160)∨(c0=237/\160<=c1) then 0 else 3)
 else if (((240<=c0/\c0<245)/\f1=true)/\f2=true)/\f3=true then (if (c0=240/\c1<144)∨(c0=244/\144<=c1) then 0 else 4)
 else 0
def fol (L:List Int)(i:Nat):Bool:=decide (i<L.length) && (decide (128<=L.getD i 0) && decide (L.getD i 0<192))
def runK (L:List Int)(i:Nat):Nat:=runN (L.getD i 0) (L.getD (i+1) 0) (fol L (i+1)) (fol L (i+2)) (fol L (i+3))
end Go.Proofs.YtnelmomagdcmnaaGreat.Cg
namespace Go.Proofs.YtnelmomagdcmnaaGreat.Cg
open Go.RowKit
section
variable {ρ : Operand -> Value} {o : Oper} {x y : Operand}
theorem Va (ho:o.op=.binOp .geq 3 x y 3)(a b:Int){t:Bool}(ht:decide (b<=a)=t)(hx:ρ x=Z9 a)(hy:ρ y=Z9 b)(w:World):(execOp ρ o).run Tryz.prog w=.ok (.value (.bool t)) w:=by
 rw[<- ht];unfold execOp;simp only[ho,hx,hy];go_simp
theorem ZG (ho:o.op=.binOp .lss 3 x y 3)(a b:Int){t:Bool}(ht:decide (a<b)=t)(hx:ρ x=Z9 a)(hy:ρ y=Z9 b)(w:World):(execOp ρ o).run Tryz.prog w=.ok (.value (.bool t)) w:=by
 rw[<- ht];unfold execOp;simp only[ho,hx,hy];go_simp
end
end Go.Proofs.YtnelmomagdcmnaaGreat.Cg
namespace Go.Proofs.YtnelmomagdcmnaaGreat.Cg
def Tok (r:List Int):Prop:=r≠[]/\∀ A B:List Int,runK (A++(r++B)) A.length=r.length
def spL (r:List Int):Bool:=decide (r=[9]) || decide (r=[32]) || decide (r=[194,160]) || decide (r=[226,128,131]) || decide (r=[227,128,128])
def wrd (L:List Int)(i:Nat)(w:List Int):List (List Int):=
 if h:i<L.length/\runK L i≠0 then
  if (L.drop i).take (runK L i)=[35] then (if w=[] then [] else [w])
  else if spL ((L.drop i).take (runK L i)) then (if w=[] then wrd L (i+runK L i) [] else w::wrd L (i+runK L i) [])
  else wrd L (i+runK L i) (w++(L.drop i).take (runK L i))
 else if w=[] then [] else [w]
termination_by L.length-i
decreasing_by all_goals omega
def ag3 (n:Nat):List Int:=if n<10 then [((48+n:Nat):Int)] else ag3 (n / 10)++[((48+n % 10:Nat):Int)]
def aw3 (n:Int):List Int:=if n<0 then 45::ag3 (-n).toNat else ag3 n.toNat
def keysL:List (List Int):=[[109,97,120,45,116,120,115],[109,97,120,45,98,121,116,101,115],[109,97,120,45,116,120,45,98,121,116,101,115],[99,97,99,104,101,45,115,105,122,101],[116,116,108,45,98,108,111,99,107,115],[116,116,108,45,116,105,109,101],[107,101,101,112,45,105,110,118,97,108,105,100],[98,108,111,99,107,45,98,121,116,101,115],[98,108,111,99,107,45,103,97,115],[112,114,105,99,101],[115,101,108,102],[110,111,100,101,115]]
def X8:List Int:=[1,1,1,0,0,0,0,1,-1,0,0,1]
def VL:List Int:=[512,1048576,4096,1024,1073741824,1073741824,1,1048576,1125899906842624,0,7,8]
def Ru:List Int:=[100,65536,1024,200,0,0,0,32768,-1,1,0,1]
def JW:List Int:=[0,0,0,0,0,0,0,0,0,0,0,0]
def inR (i:Nat)(n:Int):Bool:=decide (X8.getD i 0<=n) && decide (n<=(if i=9 then 18446744073709551615 else VL.getD i 0))
def okL (c:List Int):Bool:=((List.range 12).all fun i=>decide (i=9) || (decide (X8.getD i 0<=c.getD i 0) && decide (c.getD i 0<=VL.getD i 0))) && decide (c.getD 10 0<c.getD 11 0)
def Ve (c:List Int):Int:=if okL c then 0 else 1
def ap9 (l:List Int):Prop:=(∃ ts:List (List Int),l=ts.flatten/\∀ r∈ts,Tok r)/\(∀ x∈l,x≠10)/\l.length<=100
inductive Lns:List (List Int)->List (Nat×Int)->Prop
 | nil:Lns [] []
 | skip {l:List Int} {ls:List (List Int)} {q:List (Nat×Int)}:ap9 l->wrd l 0 []=[]->Lns ls q->Lns (l::ls) q
 | set {l:List Int} {ls:List (List Int)} {q:List (Nat×Int)} {i:Nat} {n:Int}:ap9 l->wrd l 0 []=[keysL.getD i [],aw3 n]->i<12->inR i n=true->Lns ls q->Lns (l::ls) ((i,n)::q)
end Go.Proofs.YtnelmomagdcmnaaGreat.Cg
namespace Go.Proofs.YtnelmomagdcmnaaGreat.Cg
open Go.RowKit
def ZL (B:Nat)(S:Nat->Prop)(w w':World):Prop:=Below B w w'/\∀ k,k<w.heap.size->¬ S k->w'.heap[k]?=w.heap[k]?
theorem ZL.of_below {B:Nat}{S:Nat->Prop}{w w':World}(h:Below w.heap.size w w')(hB:B<=w.heap.size):ZL B S w w':=⟨h.mono hB,fun k hk _=>h.block k hk⟩
theorem Bx.U7 {w w':World}{k t B:Nat}{S:Nat->Prop}{cs:Array Value}(h:Bx w k cs t)(hb:ZL B S w w')(hn:¬ S k):Bx w' k cs t:=(hb.2 k h.lt hn).trans h
theorem Cs.U7 {w w':World}{B:Nat}{S:Nat->Prop}{a:Option Addr}{cs:List Value}(h:Cs w a cs)(hb:ZL B S w w')(hn:∀ x,a=some x->¬ S x.block):Cs w' a cs:=fun j v hj=>by
 obtain⟨b,off,e,hlt,hc⟩:=h j v hj;refine⟨b,off,e,Nat.lt_of_lt_of_le hlt hb.1.size,?_⟩;rw[<- hc];unfold World.cell?;rw[hb.2 b hlt (hn _ e)]
theorem ZL.refl (B:Nat)(S:Nat->Prop)(w:World):ZL B S w w:=⟨Below.refl _ _,fun _ _ _=>rfl⟩
theorem ZL.trans {B:Nat}{S S2:Nat->Prop}{a b c:World}(h:ZL B S a b)(k:ZL B S2 b c)(hs:∀ x,S2 x->S x∨a.heap.size<=x):ZL B S a c:=
 ⟨h.1.trans k.1,fun i hi hn=>(k.2 i (by have:=h.1.size; omega) (fun h2=>(hs i h2).elim hn (by omega))).trans (h.2 i hi hn)⟩
theorem ZL.trans' {B:Nat}{S:Nat->Prop}{a b c:World}(h:ZL B S a b)(k:ZL B S b c):ZL B S a c:=h.trans k fun _=>.inl
theorem ZL.setCell {B:Nat}{S:Nat->Prop}(w:World)(b o:Nat)(v:Value)(hB:B<=b)(hS:S b):ZL B S w (w.setCell ⟨b,o,none⟩ v):=
 ⟨(Below.refl B w).setCell hB v,fun k _ hn=>heap_setCell_other w _ k v (fun e=>hn (by rw[e]; exact hS))⟩
theorem ZL.sets {B b:Nat}{S:Nat->Prop}(hB:B<=b)(hS:S b):∀ (vs:List Value) (o:Nat) (w:World),ZL B S w (w.setCells b o vs)
 | [],o,w=>ZL.refl _ _ _
 | v::r,o,w=>(ZL.setCell w b o v hB hS).trans' (ZL.sets hB hS r (o+1) _)
section
variable {α : Type} (f : α -> List Value) {s : Nat}
theorem UF (hf:∀ x,(f x).length=s)(z:α):∀ (L:List α) (i j:Nat),i<L.length->j<s->(L.flatMap f)[i*s+j]?=(f (L.getD i z))[j]?
 | [],i,j,h,_=>by simp at h
 | x::r,0,j,_,hj=>by
  rw[List.flatMap_cons,Nat.zero_mul,Nat.zero_add,List.getElem?_append_left (by rw[hf x]; exact hj)]; rfl
 | x::r,i+1,j,h,hj=>by
  rw[List.flatMap_cons,List.getElem?_append_right (by rw[hf x,Nat.add_mul]; omega),hf x,show(i+1)*s+j-s=i*s+j by rw[Nat.add_mul]; omega,UF hf z r i j (by simpa using h) hj]; rfl
theorem Yf {w:World}{a:Option Addr}(hf:∀ x,(f x).length=s)(hs:0<s)(z:α){L:List α}(h:Cs w a (L.flatMap f)){i:Nat}(hi:i<L.length):∃ b off,a=some ⟨b,off,none⟩/\b<w.heap.size/\w.rangeAt b (off+i*s) (f (L.getD i z)):=by
 have hz:=hf (L.getD i z);have h0:=UF f hf z L i 0 hi hs;rw[List.getElem?_eq_getElem (show 0<(f (L.getD i z)).length by omega)] at h0;obtain⟨b,off,rfl,hb,-⟩:=h _ _ h0;refine⟨b,off,rfl,hb,fun j v hj=>?_⟩;have hjs:j<s:=by have:=(List.getElem?_eq_some_iff.1 hj).1; omega
 obtain⟨b2,o2,e2,-,c2⟩:=h _ _ ((UF f hf z L i j hi hjs).trans hj);simp only[Option.some.injEq,Addr.mk.injEq,and_true] at e2;obtain⟨rfl,rfl⟩:=e2;rw[Nat.add_assoc];exact c2
end
theorem ZU {w:World}{g t:Nat}{cs:List Value}(h:Bx w g cs.toArray t):w.rangeAt g 0 cs:=fun j v hv=>by
 rw[cell_of_row w g _ _ _ (0,0) h];simpa using hv
theorem YV {fn:Func}{tmps:Array Value}{w:World}{p g ty:Nat}{v:Value}(hr:fn.results=#[.cell p ty])(h2:tmps.getD p undef=Z7 g 0)(hl:(Instr.loadAt ty (Z7 g 0)).run Tryz.prog w=.ok v w):(results fn tmps).run Tryz.prog w=.ok v w:=by
 unfold results;rw[hr];have h2':tmps[p]?.getD undef=Z7 g 0:=by simpa using h2
 have hl':=hl;simp only[Instr.loadAt,Instr.sureAddr,Sem.run_bind,Sem.run_pure,Result.andThen_ok] at hl';simp[h2',asAddr,hl',Result.andThen]
section
variable {ρ : Operand -> Value} {o : Oper} {x y : Operand}
theorem VQ (ho:o.op=.binOp .neq 3 x y 3)(a b:Int){t:Bool}(ht:decide (a≠b)=t)(hx:ρ x=Z9 a)(hy:ρ y=Z9 b)(w:World):(execOp ρ o).run Tryz.prog w=.ok (.value (.bool t)) w:=by
 have e:(a != b)=t:=by rw[<- ht]; by_cases h:a=b <;> simp[h]
 unfold execOp;simp only[ho,hx,hy];go_simp
theorem W9 (ho:o.op=.binOp .add 3 x y 3)(a b:Int)(h:-1000000000000<=a+b/\a+b<=1000000000000)(hx:ρ x=Z9 a)(hy:ρ y=Z9 b)(w:World):(execOp ρ o).run Tryz.prog w=.ok (.value (Z9 (a+b))) w:=by
 have hw:IntKind.i64.wrap (a+b)=a+b:=by rw[IntKind.wrap_i64]; omega
 unfold execOp;simp only[ho,hx,hy];go_simp
theorem Ug (ho:o.op=.convert 3 23 x)(a:Int)(h0:0<=a)(h1:a<=1000000)(hx:ρ x=Z9 a)(w:World):(execOp ρ o).run Tryz.prog w=.ok (.value (ZV a)) w:=by
 have hw:IntKind.u64.wrap a=a:=by rw[IntKind.wrap_u64]; omega
 unfold execOp;simp only[ho,hx];go_simp
end
theorem YO {ρ:Operand->Value}{o:Oper}{x y:Operand}(ho:o.op=.binOp .gtr 3 x y 3)(a b:Int){t:Bool}(ht:decide (b<a)=t)(hx:ρ x=Z9 a)(hy:ρ y=Z9 b)(w:World):(execOp ρ o).run Tryz.prog w=.ok (.value (.bool t)) w:=by
 rw[<- ht];unfold execOp;simp only[ho,hx,hy];go_simp
theorem XY {ρ:Operand->Value}{o:Oper}{x y:Operand}(ho:o.op=.binOp .eql 3 x y 3)(a b:Int){t:Bool}(ht:decide (a=b)=t)(hx:ρ x=Z9 a)(hy:ρ y=Z9 b)(w:World):(execOp ρ o).run Tryz.prog w=.ok (.value (.bool t)) w:=by
 have e:(a == b)=t:=ht;unfold execOp;simp only[ho,hx,hy];go_simp
theorem Xo {w:World}{g t i:Nat}{cs:Array Value}(cs':Array Value){v:Value}{ty:TypeId}(h:Bx w g cs t)(hi:i<cs.size)(hc:cs.setIfInBounds i v=cs')(h1:v.oneCell'=true)(hs:(Tryz.prog.info? ty).map (·.size)=some 1):∃ V2,(Instr.storeAt ty (Z7 g i) v).run Tryz.prog w=.ok () V2/\Bx V2 g cs' t/\But g w V2:=
 ⟨_,YT h hi h1 hs,by rw[<- hc]; exact h.Gs v,But.setCell w i v⟩
theorem st_all {w:World}{g t:Nat}{cs cs':Array Value}{ty:TypeId}(h:Bx w g cs t)(hz:cs.size=cs'.size)(h1:cs'.all (·.oneCell')=true)(hs:(Tryz.prog.info? ty).map (·.size)=some cs'.size):∃ V2,(Instr.storeAt ty (Z7 g 0) (.agg cs')).run Tryz.prog w=.ok () V2/\Bx V2 g cs' t/\But g w V2:=
 ⟨_,VE h hz h1 hs,h.set,But.setRow w cs'⟩
theorem Zk {c c':Array Value}{ty:TypeId}(w:World)(hz:c.size=c'.size)(h1:c'.all (·.oneCell')=true)(hs:(Tryz.prog.info? ty).map (·.size)=some c'.size):∃ V,(Instr.storeAt ty (Z7 w.heap.size 0) (.agg c')).run Tryz.prog (w.alloc (.cells c ty))=.ok () V/\Below w.heap.size w V/\Bx V w.heap.size c' ty:=by
 obtain⟨V,hst,hX,hbt⟩:=st_all (cs':=c') (ty:=ty) (heap_alloc_last w (.cells c ty):Bx _ _ c ty) hz h1 hs;exact⟨V,hst,((Below.refl _ w).alloc (Nat.le_refl _) _).trans hbt.1,hX⟩
section
variable {P : Program} {t e s bytes : Nat} {z : Value}
end
section
variable {ρ : Operand -> Value} {o : Oper} {x y : Operand}
end
section
variable {ρ : Operand -> Value} {o : Oper} {x y : Operand}
theorem QZ (ho:o.op=.binOp .lss 23 x y 23)(a b:Int){t:Bool}(ht:decide (a<b)=t)(hx:ρ x=ZV a)(hy:ρ y=ZV b)(w:World):(execOp ρ o).run Tryz.prog w=.ok (.value (.bool t)) w:=by
  rw[<- ht];unfold execOp;go_simp
theorem KH (ho:o.op=.binOp .gtr 23 x y 23)(a b:Int){t:Bool}(ht:decide (b<a)=t)(hx:ρ x=ZV a)(hy:ρ y=ZV b)(w:World):(execOp ρ o).run Tryz.prog w=.ok (.value (.bool t)) w:=by
  rw[<- ht];unfold execOp;go_simp
theorem Y4 (ho:o.op=.binOp .eql 3 x y 3)(a b:Nat){t:Bool}(ht:decide (a=b)=t)(hx:ρ x=Z9 a)(hy:ρ y=Z9 b)(w:World):(execOp ρ o).run Tryz.prog w=.ok (.value (.bool t)) w:=
  XY ho a b (by rw[<- ht]; exact decide_eq_decide.2 (by omega)) hx hy w
end
theorem infoSt:(Tryz.prog.info? 9).map (fun i=>(i.zero,i.size,i.bytes))=some (some (.string ByteArray.empty),1,16):=by kernel_rfl
def strs (S:List ByteArray):List Value:=S.map Value.string
def Py (w:World)(B:Nat)(v:Value)(L:List ByteArray):Prop:=w.ownsRow B 9 1 v L.length (strs L)
theorem Py.below {w w':World}{B:Nat}{v:Value}{L:List ByteArray}(h:Py w B v L)(hb:Below w.heap.size w w'):Py w' B v L:=own_below h hb
theorem Py.cs {w:World}{B:Nat}{v:Value}{L:List ByteArray}(h:Py w B v L):∃ a c,v=.slice a L.length c/\Cs w a (strs L)/\L.length<=c:=Yy h
theorem Py.ne {w:World}{B:Nat}{x:Value}{L:List ByteArray}(h:Py w B x L):x.ownBlock≠some w.heap.size:=fun e=>Nat.lt_irrefl _ (h.lt _ e).2
def YB (w:World)(B:Nat)(v:Value)(L:List Int):Prop:=w.ownsRow B 3 1 v L.length (ZJ L)
theorem YB.below {w w':World}{B:Nat}{v:Value}{L:List Int}(h:YB w B v L)(hb:Below w.heap.size w w'):YB w' B v L:=own_below h hb
theorem YB.cs {w:World}{B:Nat}{v:Value}{L:List Int}(h:YB w B v L):∃ a c,v=.slice a L.length c/\Cs w a (ZJ L)/\L.length<=c:=Yy h
theorem YB.ne {w:World}{B:Nat}{x:Value}{L:List Int}(h:YB w B x L):x.ownBlock≠some w.heap.size:=fun e=>Nat.lt_irrefl _ (h.lt _ e).2
abbrev Zu (c:List Int):Array Value:=#[Z9 (c.getD 0 0),Z9 (c.getD 1 0),Z9 (c.getD 2 0),Z9 (c.getD 3 0),Z9 (c.getD 4 0),Z9 (c.getD 5 0),.bool (decide (c.getD 6 0=1)),Z9 (c.getD 7 0),Z9 (c.getD 8 0),ZV (c.getD 9 0),Z9 (c.getD 10 0),Z9 (c.getD 11 0)]
def VU (c:List Int):Prop:=c.length=12/\(c.getD 6 0=0∨c.getD 6 0=1)/\0<=c.getD 9 0/\c.getD 9 0<18446744073709551616/\∀ i,i<12->i≠9->-9223372036854775808<=c.getD i 0/\c.getD i 0<9223372036854775808
theorem wO:∀ {c:List Int},c.length=12->∃ x0 x1 x2 x3 x4 x5 x6 x7 x8 x9 x10 x11,c=[x0,x1,x2,x3,x4,x5,x6,x7,x8,x9,x10,x11]:=fun {c} h=>by
  match c,h with
  | [x0,x1,x2,x3,x4,x5,x6,x7,x8,x9,x10,x11],_=>exact⟨x0,x1,x2,x3,x4,x5,x6,x7,x8,x9,x10,x11,rfl⟩
theorem RP {w:World}{g k:Nat}{c:List Int}(h:Bx w g (Zu c) k):(Instr.loadAt 25 (Z7 g 0)).run Tryz.prog w=.ok (.agg (Zu c)) w:=run_loadAt_mid w g 0 25 (Zu c).toList _ (ZU (cs:=(Zu c).toList) h) Tryz.underlying25 rfl (by kernel_rfl)
theorem Ny (x0 x1 x2 x3 x4 x5 x6 x7 x8 x9 x10 x11:Int)(V:World):(Instr.buildSlice 22 12 #[(0,Z9 x0),(1,Z9 x1),(2,Z9 x2),(3,Z9 x3),(4,Z9 x4),(5,Z9 x5),(6,Z9 x6),(7,Z9 x7),(8,Z9 x8),(9,Z9 x9),(10,Z9 x10),(11,Z9 x11)]).run Tryz.prog V=.ok (.slice (some ⟨V.heap.size,0,none⟩) 12 12) (V.alloc (.cells (ZJ [x0,x1,x2,x3,x4,x5,x6,x7,x8,x9,x10,x11]).toArray 3)):=by
  obtain⟨i0,hi,hz0,hz1,hz2⟩:=info_parts OB;refine run_buildSlice V 22 3 12 _ (ZJ [x0,x1,x2,x3,x4,x5,x6,x7,x8,x9,x10,x11]).toArray i0 _ Tryz.underlying22 hi hz0 (by rw[hz1]; omega) (by rw[hz1]; omega) ?_;rw[hz1];kernel_rfl
def keysB:List ByteArray:=[⟨#[109,97,120,45,116,120,115]⟩,⟨#[109,97,120,45,98,121,116,101,115]⟩,⟨#[109,97,120,45,116,120,45,98,121,116,101,115]⟩,⟨#[99,97,99,104,101,45,115,105,122,101]⟩,⟨#[116,116,108,45,98,108,111,99,107,115]⟩,⟨#[116,116,108,45,116,105,109,101]⟩,⟨#[107,101,101,112,45,105,110,118,97,108,105,100]⟩,⟨#[98,108,111,99,107,45,98,121,116,101,115]⟩,⟨#[98,108,111,99,107,45,103,97,115]⟩,⟨#[112,114,105,99,101]⟩,⟨#[115,101,108,102]⟩,⟨#[110,111,100,101,115]⟩]
theorem xH (V:World):(Instr.buildSlice 40 12 #[(0,.string ⟨#[109,97,120,45,116,120,115]⟩),(1,.string ⟨#[109,97,120,45,98,121,116,101,115]⟩),(2,.string ⟨#[109,97,120,45,116,120,45,98,121,116,101,115]⟩),(3,.string ⟨#[99,97,99,104,101,45,115,105,122,101]⟩),(4,.string ⟨#[116,116,108,45,98,108,111,99,107,115]⟩),(5,.string ⟨#[116,116,108,45,116,105,109,101]⟩),(6,.string ⟨#[107,101,101,112,45,105,110,118,97,108,105,100]⟩),(7,.string ⟨#[98,108,111,99,107,45,98,121,116,101,115]⟩),(8,.string ⟨#[98,108,111,99,107,45,103,97,115]⟩),(9,.string ⟨#[112,114,105,99,101]⟩),(10,.string ⟨#[115,101,108,102]⟩),(11,.string ⟨#[110,111,100,101,115]⟩)]).run Tryz.prog V=.ok (.slice (some ⟨V.heap.size,0,none⟩) 12 12) (V.alloc (.cells (strs keysB).toArray 9)):=by
  obtain⟨i0,hi,hz0,hz1,hz2⟩:=info_parts infoSt;refine run_buildSlice V 40 9 12 _ (strs keysB).toArray i0 _ Tryz.underlying40 hi hz0 (by rw[hz1]; omega) (by rw[hz1]; omega) ?_;rw[hz1];kernel_rfl
end Go.Proofs.YtnelmomagdcmnaaGreat.Cg
