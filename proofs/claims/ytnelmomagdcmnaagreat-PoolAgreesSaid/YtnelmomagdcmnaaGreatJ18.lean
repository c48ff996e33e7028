/-
  Texts joined.
-/
import Derived.Test.YtnelmomagdcmnaaGreatJ17
set_option maxRecDepth 100000
set_option maxHeartbeats 8000000
set_option linter.unusedSimpArgs false
set_option linter.unusedVariables false
namespace Go.Proofs.YtnelmomagdcmnaaGreat.Sd
attribute [local irreducible] wpList wpQuiet
open Go.RowKit
def NI (E:List Eo)(v:Value):Option Value:=if E=[] then none else some v
section
variable {w w' : World} {g B : Nat} {f : ByteArray -> Option Value} {m : List Rw}
theorem XR {Q:Nat->Prop}{r:Option Nat}(h:w.grownBy w' r)(hQ:∀ j,r=some j->Q j):ZL 0 Q w w':=⟨⟨h.1,h.2,h.3,h.4,fun k hk=>absurd hk (Nat.not_lt_zero k)⟩,fun k hk hn=>h.5 k hk fun e=>hn (hQ k e.symm)⟩
theorem Oi {Q:Nat->Prop}(h:But g w w')(hQ:Q g):ZL 0 Q w w':=⟨h.1.mono (Nat.zero_le _),fun k hk hn=>h.2 k hk fun e=>hn (e ▸ hQ)⟩
theorem WJ {Q:Nat->Prop}(h:Below w.heap.size w w'):ZL 0 Q w w':=ZL.of_below h (Nat.zero_le _)
theorem MC {Q S:Nat->Prop}{B0:Nat}(h:ZL 0 Q w w')(hQ:∀ j,Q j->S j)(hB:∀ j,S j->B0<=j)(hw:B0<=w.heap.size):ZL B0 S w w':=by
 obtain⟨⟨h1,h2,h3,h4,-⟩,h6⟩:=h;exact⟨⟨h1,h2,h3,h4,fun k hk=>h6 k (by omega) fun q=>by have:=hB k (hQ k q); omega⟩,fun k hk hn=>h6 k hk fun q=>hn (hQ k q)⟩
theorem RX {v:Value}{k:Nat}(h:v=.slice none 0 0):v.ownBlock≠some k:=fun e=>by rw[h] at e; cases e
theorem Ri.upd (h:Ri w g B f m){m2:List Rw}{n:ByteArray}{v v':Value}{W:World}(hlk:f n=some v∨v=.slice none 0 0)(hX:Bx W g #[.map (some B),Z9 m2.length] 159)(hM:Mf W B (XC f n (NI (Zi m2 n) v')))(hrow:Zz W 0 v' (Zi m2 n))(hoth:∀ n',n'≠n->Zi m2 n'=Zi m n')
  (hat:v'.ownBlock=v.ownBlock∨∃ k,w.heap.size<=k/\v'.ownBlock=some k) (hch:ZL 0 (fun j=>j=g∨j=B∨v.ownBlock=some j) w W) {S:Nat->Prop} (hS:S=nN g B f) {B0:Nat} (hB:∀ k,S k->B0<=k) (hw:B0<=w.heap.size):LJ g B0 S m2 w W:=by
 subst hS;have hvS:∀ k,v.ownBlock=some k->nN g B f k:=fun k hk=>hlk.elim (fun h1=>.inr (.inr ⟨n,v,h1,hk⟩)) fun h1=>absurd hk (RX h1);have fN:XC f n (NI (Zi m2 n) v') n=NI (Zi m2 n) v':=if_pos rfl;have fO:∀ n',n'≠n->XC f n (NI (Zi m2 n) v') n'=f n':=fun n' hn=>if_neg hn;have fV:∀ u,XC f n (NI (Zi m2 n) v') n=some u->u=v':=fun u hu=>by
  rw[fN] at hu;unfold NI at hu
  split at hu
  ·cases hu
  ·cases hu; rfl
 refine⟨nN g B (XC f n (NI (Zi m2 n) v')),⟨B,_,⟨hX,hM,fun n' hn=>?_,fun n' hn=>?_,fun a b u u2 k ha hb hk hk2=>?_⟩,rfl⟩,fun k hk=>?_,MC hch (fun j hj=>?_) hB hw⟩
 ·by_cases e:n'=n
  ·subst e;rw[fN,hn]; rfl
  ·rw[fO n' e];exact h.no n' (by rw[<- hoth n' e]; exact hn)
 ·by_cases e:n'=n
  ·subst e;exact⟨v',by rw[fN]; exact if_neg hn,hrow⟩
  ·rw[hoth n' e] at hn ⊢;obtain⟨u,hu,hru⟩:=h.ye n' hn;refine⟨u,by rw[fO n' e]; exact hu,XU hru fun k hk=>hch.2 k (hru.lt k hk).2 fun q=>?_⟩;rcases q with rfl | rfl | q
   ·exact h.ng hu hk
   ·exact h.nB hu hk
   ·exact hlk.elim (fun h1=>e (h.ap _ _ _ _ _ hu h1 hk q)) fun h1=>RX h1 q
 ·have key:∀ c x,c≠n->f c=some x->x.ownBlock=some k->v'.ownBlock=some k->False:=fun c x hc hx h1 h2=>by
   rcases hat with h3 | ⟨j,h3,h4⟩
   ·rw[h2] at h3;exact hlk.elim (fun h5=>hc (h.ap _ _ _ _ _ hx h5 h1 h3.symm)) fun h5=>RX h5 h3.symm
   ·rw[h2] at h4;cases h4;have:=((h.row hx).2.lt k h1).2;omega
  by_cases ea:a=n <;> by_cases eb:b=n
  ·rw[ea,eb]
  ·subst ea;obtain rfl:=fV u ha;rw[fO b eb] at hb;exact(key b u2 eb hb hk2 hk).elim
  ·subst eb;obtain rfl:=fV u2 hb;rw[fO a ea] at ha;exact(key a u ea ha hk hk2).elim
  ·rw[fO a ea] at ha;rw[fO b eb] at hb;exact h.ap _ _ _ _ _ ha hb hk hk2
 ·rcases hk with rfl | rfl | ⟨n',u,h1,h2⟩
  ·exact .inl (.inl rfl)
  ·exact .inl (.inr (.inl rfl))
  ·by_cases e:n'=n
   ·subst e;obtain rfl:=fV u h1;rcases hat with h3 | ⟨j,h3,h4⟩
    ·rw[h2] at h3;exact .inl (hvS k h3.symm)
    ·rw[h2] at h4;cases h4;exact .inr h3
   ·rw[fO n' e] at h1;exact .inl (.inr (.inr ⟨n',u,h1,h2⟩))
 ·rcases hj with rfl | rfl | hj
  ·exact .inl rfl
  ·exact .inr (.inl rfl)
  ·exact hvS j hj
theorem dM {ln:Int}(hX:Bx w g #[.map (some B),Z9 ln] 159)(hM:Mf w B f)(s:ByteArray)(hs:s.size<=1000000){v:Value}{E:List Eo}(hr:Zz w 0 v E):Calls Tryz.prog 89 #[Z7 g 0,.string s,v] w fun e w'=>e=.returned (.tuple #[])/\Mf w' B (XC f s (NI E v))/\w.grownBy w' (some B):=by
 obtain⟨a,c,rfl,-,-⟩:=hr.cs;by_cases he:E=[]
 ·subst he;exact ae2 hX hM s hs a 0 c rfl
 ·have:NI E (.slice a E.length c)=some (.slice a E.length c):=if_neg he;rw[this];exact jy hX hM s hs a E.length c (by rw[Ne,List.length_eq_zero_iff]; exact he)
end
theorem P9 (w:World):Calls Tryz.prog 56 #[] w fun e w'=>∃ g S,e=.returned (Z7 g 0)/\TV w' g S []/\(∀ k,S k->w.heap.size<=k)/\Below w.heap.size w w':=by
 obtain⟨W1,hW1⟩:=ZR (w.alloc (.map #[] 0));obtain⟨W2,hW2⟩:=ZR (W1.alloc (.cells #[.map (some w.heap.size),Z9 0] 159));have hb1:Below w.heap.size w W1:=by rw[<- hW1]; exact(Below.refl _ w).alloc (Nat.le_refl _) _
 have hb2:Below W1.heap.size W1 W2:=by rw[<- hW2]; exact(Below.refl _ W1).alloc (Nat.le_refl _) _
 have hM1:Mf W1 w.heap.size (fun _=>none):=by rw[<- hW1]; exact Mf.new w
 have hM2:Mf W2 w.heap.size (fun _=>none):=hM1.same (hb2.block _ hM1.lt);have hX:Bx W2 W1.heap.size #[.map (some w.heap.size),Z9 0] 159:=by rw[<- hW2]; exact heap_alloc_last W1 _
 have hrep:TV W2 W1.heap.size (nN W1.heap.size w.heap.size (fun _=>none)) []:=⟨_,_,⟨hX,hM2,fun _ _=>rfl,fun n h=>absurd rfl h,fun n n' v v' k h=>by cases h⟩,rfl⟩;have hsub:∀ k,nN W1.heap.size w.heap.size (fun _=>none) k->w.heap.size<=k:=fun k hk=>by
  rcases hk with rfl | rfl | ⟨n,v,h,-⟩
  ·exact hb1.size
  ·exact Nat.le_refl _
  ·cases h
 have HE:=Z8 (And.intro hrep (And.intro hsub (hb1.trans (hb2.mono hb1.size))));clear hrep hsub;clear hb1 hb2 hM1 hM2 hX;go_enter Tryz.func56,Tryz.ntmps56;go_upto_region 1 with fail;apply wp_region_lit;refine Vd (by kernel_rfl) (some 1) rfl (.map (some w.heap.size)) W1 (by rw[<- hW1]; exact SK 157 rfl) ?_;refine ZQ (.agg #[.map (some w.heap.size),Z9 0]) ?_;refine Zj rfl (some 3) rfl (Z7 W1.heap.size 0) W2 (by rw[<- hW2]; kernel_rfl) ?_;refine ZQ (Z7 W1.heap.size 0)<|wn ?_;simp only[pu];go_wp2_with fail;go_ret;exact⟨W1.heap.size,rfl,_,HE.out⟩
theorem G8 {w:World}{g B:Nat}{f:ByteArray->Option Value}{m:List Rw}(h:Ri w g B f m)(hm:DX m)(hl:m.length<=1000)(k:Ky)(id:Int)(hh:XG m k=true):Calls Tryz.prog 61 #[Z7 g 0,.string k.1,ZV k.2,Z9 id] w fun e w'=>e=.returned ZY/\Below w.heap.size w w':=by
 have hX:=h.bx;have TF:=Z8 (h.mp.look k.1 false);obtain⟨v,hv,hrow,hor⟩:=h.look k.1;rw[hv] at TF;have hEl:(Zi m k.1).length<=1000:=Nat.le_trans (Qu m k.1) hl;have CP:=QM hrow (SC hm k.1) (by omega) k.2;rw[OI k,hh] at CP;generalize Zw (Zi m k.1) k.2=ct at *
 clear h hm hl hh hv hrow hor hEl;go_enter Tryz.func61,Tryz.ntmps61;go_upto_region 1 with fail;refine wl<|ZB (Z7 g 0) ZY<|wn ?_;simp only[pu];go_upto_region 3 with fail;refine wl<|YX (Z7 g 0) (Z7 g 0) (Z7 g 0)<|ZC rfl ⟨g,0,none⟩ (.map (some B)) (hX.ZM 0)<|ZQ (.string k.1) <|
  Za (v) (Yv 157 (.tmp 17) (.tmp 18) false rfl (.map (some B)) (.string k.1) v (by kernel_rfl) (by kernel_rfl) TF.out)<|ZQ (v)<|wn ?_
 simp only[pu];clear hX TF;go_upto_region 4 with fail;refine wl<|ZB (v) (ZV k.2)<|YD (.tuple #[Z9 ct,ZX]) (fun w'=>Below w.heap.size w w') (CP) (fun W1 hW1=>?_);have HB:=Z8 hW1;refine Gg (.tuple #[Z9 ct,ZX]) (Z9 ct) ZX (Z9 ct) ZX<|wn ?_;simp only[pu];clear CP hW1;go_upto_region 5 with fail;refine wl<|ZQ ZX<|wn ?_;simp only[pu];go_upto_region 6 with fail;refine wl<|ZQ ZY<|wn ?_;simp only[pu];go_wp2_with fail;go_ret;exact⟨rfl,HB.out⟩
theorem WR {w:World}{g B:Nat}{f:ByteArray->Option Value}{m:List Rw}(h:Ri w g B f m)(hm:DX m)(hl:m.length<=1000)(k:Ky)(hk:k.1.size<=1000000)(id:Int)(hh:XG m k=false){S:Nat->Prop}(hS:S=nN g B f){B0:Nat}(hB:∀ j,S j->B0<=j)(hw:B0<=w.heap.size):Calls Tryz.prog 61 #[Z7 g 0,.string k.1,ZV k.2,Z9 id] w fun e w'=>e=.returned ZX/\LJ g B0 S (Rk m k id) w w':=by
 have hX:=h.bx;have TF:=Z8 (h.mp.look k.1 false);obtain⟨v,hv,hrow,hor⟩:=h.look k.1;rw[hv] at TF;have hEl:(Zi m k.1).length<=1000:=Nat.le_trans (Qu m k.1) hl;have CP:=QM hrow (SC hm k.1) (by omega) k.2;rw[OI k,hh] at CP;have Eu:=QB hm hh id;have hvg:v.ownBlock≠some g:=fun e=>hor.elim (fun h1=>h.ng h1 e) fun h1=>RX h1 e;have hvB:v.ownBlock≠some B:=fun e=>hor.elim (fun h1=>h.nB h1 e) fun h1=>RX h1 e;have HVB:=Z8 hvB;have HVG:=Z8 hvg;have hct:=cnt_le (Zi m k.1) k.2;have Gv:Hid (∀ W v',Bx W g #[.map (some B),Z9 (m.length+1:Nat)] 159->Mf W B (XC f k.1 (NI (Zi (Rk m k id) k.1) v'))->Zz W 0 v' (Zi (Rk m k id) k.1)->(v'.ownBlock=v.ownBlock∨∃ j,w.heap.size<=j/\v'.ownBlock=some j)->ZL 0 (fun j=>j=g∨j=B∨v.ownBlock=some j) w W->LJ g B0 S (Rk m k id) w W):=Z8 fun W v' h1 h2 h3 h4 h5=>h.upd hor (by rw[Eu.len]; exact h1) h2 h3 Eu.oth h4 h5 hS hB hw;have hown:=Eu.own;generalize Zw (Zi m k.1) k.2=ct at *
 obtain⟨E,hE⟩:=ZR (Zi m k.1);obtain⟨E2,hE2⟩:=ZR (Zi (Rk m k id) k.1);rw[hE,hE2] at hown;rw[hE] at hrow hEl hct;rw[hE2] at Gv;generalize Rk m k id=m2 at *
 have HM:=Z8 h.mp;have HOW:=Z8 hown.symm;have Oc:Hid (m.length<=1000):=Z8 hl;obtain⟨ln,hln⟩:=ZR m.length;rw[hln] at hX Gv Oc;clear h hm hl hh hv hor Eu hvg hvB hE hE2 hown hln hB hw hS;go_enter Tryz.func61,Tryz.ntmps61;go_upto_region 1 with fail;refine wl<|ZB (Z7 g 0) ZY<|wn ?_;simp only[pu];go_upto_region 3 with fail;refine wl<|YX (Z7 g 0) (Z7 g 0) (Z7 g 0)<|ZC rfl ⟨g,0,none⟩ (.map (some B)) (hX.ZM 0)<|ZQ (.string k.1) <|
  Za (v) (Yv 157 (.tmp 17) (.tmp 18) false rfl (.map (some B)) (.string k.1) v (by kernel_rfl) (by kernel_rfl) TF.out)<|ZQ (v)<|wn ?_
 simp only[pu];clear TF;go_upto_region 4 with fail;refine wl<|ZB (v) (ZV k.2)<|YD (.tuple #[Z9 ct,ZY]) (fun w'=>Below w.heap.size w w') (CP) (fun W1 hW1=>?_);refine Gg (.tuple #[Z9 ct,ZY]) (Z9 ct) ZY (Z9 ct) ZY<|wn ?_;simp only[pu];clear CP;go_upto_region 5 with fail;refine wl<|ZQ ZY<|wn ?_;simp only[pu];have hX1:=hX.below hX.lt hW1;have hM1:=HM.out.same (hW1.block B HM.out.lt);have hr1:Zz W1 0 v E:=hrow.below hW1;have hne:=hr1.ne;obtain⟨W2,hW2⟩:=ZR (W1.alloc (.cells (ZO (k.2,id)) 168));have hb2:Below W1.heap.size W1 W2:=by rw[<- hW2]; exact(Below.refl _ W1).alloc (Nat.le_refl _) _
 have hq:Bx W2 W1.heap.size (ZO (k.2,id)) 168:=by rw[<- hW2]; exact heap_alloc_last W1 _
 have hbd:(Instr.buildSlice 132 1 #[(0,.agg (ZO (k.2,id)))]).run Tryz.prog W1=.ok (.slice (some ⟨W1.heap.size,0,none⟩) 1 1) W2:=by rw[<- hW2]; exact KF (k.2,id) W1
 have CI:=qI (hr1.below hb2) hct (by omega) (k.2,id) hq hne;rw[HOW.out] at CI;have hX2:=hX1.below hX1.lt hb2;have hM2:=hM1.same (hb2.block B hM1.lt);have HC2:Hid (ZL 0 (fun j=>j=g∨j=B∨v.ownBlock=some j) w W2):=Z8 ((WJ hW1).trans' (WJ hb2));have HSZ:Hid (w.heap.size<=W2.heap.size):=Z8 (Nat.le_trans hW1.size hb2.size);obtain⟨gq,hgq⟩:=ZR W1.heap.size;rw[hgq] at hbd CI;clear hX hrow hr1 hne hb2 hq hX1 hM1 hW1 hW2 HM HOW hgq hEl hct;go_upto_region 7 with fail;refine wl<|Ia (Z7 g 0) (.string k.1) (v) (Z9 ct) (ZV k.2) (Z9 id)<|ZQ (.agg #[ZV k.2,Z9 id]) ?_;refine Zm (by kernel_rfl) (some 34) rfl 132 1 #[(0,.tmp 33)] rfl #[(0,.agg (ZO (k.2,id)))] (by kernel_rfl) (.slice (some ⟨gq,0,none⟩) 1 1) _ hbd ?_;clear hbd;refine XQ (fun u w'=>Zz w' 0 u E2/\W2.grownBy w' v.ownBlock/\(u.ownBlock=v.ownBlock∨∃ j,W2.heap.size<=j/\u.ownBlock=some j)) CI (fun v' W3 hq3=>?_);obtain⟨hr3,hg3,qH⟩:=hq3;have Zr:Bx W3 g #[.map (some B),Z9 ln] 159:=(hg3.5 g hX2.lt (Ne.symm HVG.out)).trans hX2;have Gx:=hM2.same (hg3.5 B hM2.lt (Ne.symm HVB.out));have HC3:=Z8 (HC2.out.trans' (XR (Q:=fun j=>j=g∨j=B∨v.ownBlock=some j) hg3 fun j hj=>.inr (.inr hj)));have HAT:Hid (v'.ownBlock=v.ownBlock∨∃ j,w.heap.size<=j/\v'.ownBlock=some j):=Z8 (qH.imp (fun h=>h) fun⟨j,h1,h2⟩=>⟨j,Nat.le_trans HSZ.out h1,h2⟩);have JL:Hid (v'.ownBlock≠some B/\v'.ownBlock≠some g):=Z8 ⟨fun e=>by obtain⟨es,c,h1⟩:=Gx.map; exact NH hr3 e h1,fun e=>row_ne hr3 e Zr (by decide)⟩;have CU:=dM Zr Gx k.1 hk hr3;have BI:=Z8 hr3;clear hg3 qH hr3 hX2 hM2 HC2 CI HSZ;refine YD (.tuple #[]) (fun w'=>Mf w' B (XC f k.1 (NI E2 v'))/\W3.grownBy w' (some B)) CU (fun W4 hq4=>?_);obtain⟨jw,hg4⟩:=hq4;have Xu:Bx W4 g #[.map (some B),Z9 ln] 159:=(hg4.5 g Zr.lt (by intro e; cases e; obtain⟨es,c,h1⟩:=Gx.map; unfold Bx at Zr; rw[h1] at Zr; cases Zr)).trans Zr;have hr4:Zz W4 0 v' E2:=XU BI.out fun j hj=>hg4.5 j (BI.out.lt j hj).2 fun e=>JL.out.1 (by rw[hj,e]);have HC4:=Z8 (HC3.out.trans' (XR (Q:=fun j=>j=g∨j=B∨v.ownBlock=some j) hg4 fun j hj=>.inr (.inl (by cases hj; rfl))));obtain⟨W5,hst5,Zc,VN⟩:=Xo (i:=1) (v:=Z9 (ln+1:Nat)) (ty:=3) #[.map (some B),Z9 (ln+1:Nat)] Xu (by simp) rfl rfl (by kernel_rfl);have fM:Zz W5 0 v' E2:=XU hr4 fun j hj=>VN.2 j (hr4.lt j hj).2 fun e=>JL.out.2 (by rw[hj,e]);have fK:=jw.same (VN.2 B jw.lt fun e=>by obtain⟨es,c,h1⟩:=jw.map; unfold Bx at Xu; rw[<- e,h1] at Xu; cases Xu);have HC5:=HC4.out.trans' (Oi (Q:=fun j=>j=g∨j=B∨v.ownBlock=some j) VN (.inl rfl));have HE:=Z8 (Gv.out W5 v' Zc fK fM HAT.out HC5);clear hg4 hr4 HC4 Zc VN fM fK HC5 jw Zr Gx HC3 JL HAT CU BI Gv;simp only[pu];apply wpList_nil;go_upto_region 8 with fail;refine wl<|YX (Z7 g 0) (Z7 g 0) (Z7 g 1)<|ZC rfl ⟨g,1,none⟩ (Z9 ln) (Xu.ZM 1)<|Za (Z9 (ln+1:Nat)) (add_one rfl ln (by have:=Oc.out; omega) (by kernel_rfl) _) <|
  ZB (Z7 g 0) (Z7 g 1)<|Yb rfl (hst5)<|wn ?_
 simp only[pu];clear hst5 Xu HVB HVG Oc;go_upto_region 9 with fail;refine wl<|ZQ ZX<|wn ?_;simp only[pu];go_wp2_with fail;go_ret;exact⟨rfl,HE.out⟩
theorem G7 {w:World}{g B:Nat}{f:ByteArray->Option Value}{m:List Rw}(h:Ri w g B f m)(hm:DX m)(hl:m.length<=1000)(k:Ky)(hh:XG m k=false):Calls Tryz.prog 67 #[Z7 g 0,.string k.1,ZV k.2] w fun e w'=>e=.returned ZY/\Below w.heap.size w w':=by
 have CL:=zK h k.1;obtain⟨v,hv,hrow,hor⟩:=h.look k.1;rw[hv] at CL;have hEl:(Zi m k.1).length<=1000:=Nat.le_trans (Qu m k.1) hl;have CP:=QM hrow (SC hm k.1) (by omega) k.2;rw[OI k,hh] at CP;generalize Zw (Zi m k.1) k.2=ct at *
 clear h hm hl hh hv hrow hor hEl;go_enter Tryz.func67,Tryz.ntmps67;go_upto_region 1 with fail;refine wl<|ZB (Z7 g 0) (.string k.1)<|YD (v) (fun w'=>w=w') (CL) (fun V9 XZ=>?_);subst XZ;refine ZQ (v)<|wn ?_;simp only[pu];clear CL;go_upto_region 2 with fail;refine wl<|ZB (v) (ZV k.2)<|YD (.tuple #[Z9 ct,ZY]) (fun w'=>Below w.heap.size w w') (CP) (fun W1 hW1=>?_);have HB:=Z8 hW1;refine Gg (.tuple #[Z9 ct,ZY]) (Z9 ct) ZY (Z9 ct) ZY<|wn ?_;simp only[pu];clear CP hW1;go_upto_region 3 with fail;refine wl<|ZB ZY ZX<|wn ?_;simp only[pu];go_upto_region 4 with fail;refine wl<|ZQ ZY<|wn ?_;simp only[pu];go_wp2_with fail;go_ret;exact⟨rfl,HB.out⟩
theorem G6 {w:World}{g B:Nat}{f:ByteArray->Option Value}{m:List Rw}(h:Ri w g B f m)(hm:DX m)(hl:m.length<=1000)(k:Ky)(hk:k.1.size<=1000000)(hh:XG m k=true){S:Nat->Prop}(hS:S=nN g B f){B0:Nat}(hB:∀ j,S j->B0<=j)(hw:B0<=w.heap.size):Calls Tryz.prog 67 #[Z7 g 0,.string k.1,ZV k.2] w fun e w'=>e=.returned ZX/\LJ g B0 S (U0 k m) w w':=by
 have hX:=h.bx;have CL:=zK h k.1;obtain⟨v,hv,hrow,hor⟩:=h.look k.1;rw[hv] at CL;have hEl:(Zi m k.1).length<=1000:=Nat.le_trans (Qu m k.1) hl;have CP:=QM hrow (SC hm k.1) (by omega) k.2;rw[OI k,hh] at CP;have Eu:=WQ hm hh;have hvg:v.ownBlock≠some g:=fun e=>hor.elim (fun h1=>h.ng h1 e) fun h1=>RX h1 e;have hvB:v.ownBlock≠some B:=fun e=>hor.elim (fun h1=>h.nB h1 e) fun h1=>RX h1 e;have HVB:=Z8 hvB;have HVG:=Z8 hvg;have hct:=Eu.lt;have hlen:=Eu.len;have Gv:Hid (∀ W v',Bx W g #[.map (some B),Z9 ((m.length:Int)-1)] 159->Mf W B (XC f k.1 (NI (Zi (U0 k m) k.1) v'))->Zz W 0 v' (Zi (U0 k m) k.1)->(v'.ownBlock=v.ownBlock∨∃ j,w.heap.size<=j/\v'.ownBlock=some j)->ZL 0 (fun j=>j=g∨j=B∨v.ownBlock=some j) w W->LJ g B0 S (U0 k m) w W):=Z8 fun W v' h1 h2 h3 h4 h5=>h.upd hor (by rw[show((U0 k m).length:Int)=(m.length:Int)-1 by omega]; exact h1) h2 h3 Eu.oth h4 h5 hS hB hw;have hown:=Eu.own;generalize Zw (Zi m k.1) k.2=ct at *
 obtain⟨E,hE⟩:=ZR (Zi m k.1);obtain⟨E2,hE2⟩:=ZR (Zi (U0 k m) k.1);rw[hE,hE2] at hown;rw[hE] at hrow hEl hct;rw[hE2] at Gv;generalize U0 k m=m2 at *
 have HM:=Z8 h.mp;have HOW:=Z8 hown.symm;have Oc:Hid (m.length<=1000):=Z8 hl;obtain⟨ln,hln⟩:=ZR m.length;rw[hln] at hX Gv Oc;clear h hm hl hh hv hor Eu hvg hvB hE hE2 hown hln hB hw hS hlen;go_enter Tryz.func67,Tryz.ntmps67;go_upto_region 1 with fail;refine wl<|ZB (Z7 g 0) (.string k.1)<|YD (v) (fun w'=>w=w') (CL) (fun V9 XZ=>?_);subst XZ;refine ZQ (v)<|wn ?_;simp only[pu];clear CL;go_upto_region 2 with fail;refine wl<|ZB (v) (ZV k.2)<|YD (.tuple #[Z9 ct,ZX]) (fun w'=>Below w.heap.size w w') (CP) (fun W2 hW2=>?_);refine Gg (.tuple #[Z9 ct,ZX]) (Z9 ct) ZX (Z9 ct) ZX<|wn ?_;simp only[pu];clear CP;go_upto_region 3 with fail;refine wl<|ZB ZX ZY<|wn ?_;simp only[pu];have hX2:=hX.below hX.lt hW2;have hM2:=HM.out.same (hW2.block B HM.out.lt);have CI:=qG (hrow.below hW2) hct (by omega);rw[HOW.out] at CI;have HC2:Hid (ZL 0 (fun j=>j=g∨j=B∨v.ownBlock=some j) w W2):=Z8 (WJ hW2);have HSZ:Hid (w.heap.size<=W2.heap.size):=Z8 hW2.size;have HCT:Hid (ct<=1000):=Z8 (by omega);clear hX hrow hW2 HM HOW hEl hct;go_upto_region 5 with fail;refine wl<|Gg (Z7 g 0) (.string k.1) (v) (Z9 ct) (Z9 ct)<|Za (Z9 (ct+1:Nat)) (add_one rfl ct (by have:=HCT.out; omega) (by kernel_rfl) _) <|
  XQ (fun u w'=>Zz w' 0 u E2/\W2.grownBy w' v.ownBlock/\(u.ownBlock=v.ownBlock∨∃ j,W2.heap.size<=j/\u.ownBlock=some j)) CI (fun v' W3 hq3=>?_)
 obtain⟨hr3,hg3,qH⟩:=hq3;have Zr:Bx W3 g #[.map (some B),Z9 ln] 159:=(hg3.5 g hX2.lt (Ne.symm HVG.out)).trans hX2;have Gx:=hM2.same (hg3.5 B hM2.lt (Ne.symm HVB.out));have HC3:=Z8 (HC2.out.trans' (XR (Q:=fun j=>j=g∨j=B∨v.ownBlock=some j) hg3 fun j hj=>.inr (.inr hj)));have HAT:Hid (v'.ownBlock=v.ownBlock∨∃ j,w.heap.size<=j/\v'.ownBlock=some j):=Z8 (qH.imp (fun h=>h) fun⟨j,h1,h2⟩=>⟨j,Nat.le_trans HSZ.out h1,h2⟩);have JL:Hid (v'.ownBlock≠some B/\v'.ownBlock≠some g):=Z8 ⟨fun e=>by obtain⟨es,c,h1⟩:=Gx.map; exact NH hr3 e h1,fun e=>row_ne hr3 e Zr (by decide)⟩;have CU:=dM Zr Gx k.1 hk hr3;have BI:=Z8 hr3;clear hg3 qH hr3 hX2 hM2 HC2 CI HSZ;refine YD (.tuple #[]) (fun w'=>Mf w' B (XC f k.1 (NI E2 v'))/\W3.grownBy w' (some B)) CU (fun W4 hq4=>?_);obtain⟨jw,hg4⟩:=hq4;have Xu:Bx W4 g #[.map (some B),Z9 ln] 159:=(hg4.5 g Zr.lt (by intro e; cases e; obtain⟨es,c,h1⟩:=Gx.map; unfold Bx at Zr; rw[h1] at Zr; cases Zr)).trans Zr;have hr4:Zz W4 0 v' E2:=XU BI.out fun j hj=>hg4.5 j (BI.out.lt j hj).2 fun e=>JL.out.1 (by rw[hj,e]);have HC4:=Z8 (HC3.out.trans' (XR (Q:=fun j=>j=g∨j=B∨v.ownBlock=some j) hg4 fun j hj=>.inr (.inl (by cases hj; rfl))));obtain⟨W5,hst5,Zc,VN⟩:=Xo (i:=1) (v:=Z9 ((ln:Int)-1)) (ty:=3) #[.map (some B),Z9 ((ln:Int)-1)] Xu (by simp) rfl rfl (by kernel_rfl);have fM:Zz W5 0 v' E2:=XU hr4 fun j hj=>VN.2 j (hr4.lt j hj).2 fun e=>JL.out.2 (by rw[hj,e]);have fK:=jw.same (VN.2 B jw.lt fun e=>by obtain⟨es,c,h1⟩:=jw.map; unfold Bx at Xu; rw[<- e,h1] at Xu; cases Xu);have HC5:=HC4.out.trans' (Oi (Q:=fun j=>j=g∨j=B∨v.ownBlock=some j) VN (.inl rfl));have HE:=Z8 (Gv.out W5 v' Zc fK fM HAT.out HC5);clear hg4 hr4 HC4 Zc VN fM fK HC5 jw Zr Gx HC3 JL HAT CU BI Gv;simp only[pu];apply wpList_nil;go_upto_region 6 with fail;refine wl<|YX (Z7 g 0) (Z7 g 0) (Z7 g 1)<|ZC rfl ⟨g,1,none⟩ (Z9 ln) (Xu.ZM 1) <|
  Yd (Z9 ((ln:Int)-1)) (Tv rfl ln 1 (by have:=Oc.out; omega))<|ZB (Z7 g 0) (Z7 g 1)<|Yb rfl (hst5)<|wn ?_
 simp only[pu];clear hst5 Xu HVB HVG Oc HCT;go_upto_region 7 with fail;refine wl<|ZQ ZX<|wn ?_;simp only[pu];go_wp2_with fail;go_ret;exact⟨rfl,HE.out⟩
theorem TV.upd {w w':World}{g B0:Nat}{S:Nat->Prop}{m:List Rw}(h:TV w g S m)(hb:Below w.heap.size w w')(hw:B0<=w.heap.size):LJ g B0 S m w w':=⟨S,h.below hb,fun k hk=>.inl hk,ZL.of_below hb hw⟩
theorem FM {w:World}{g:Nat}{S:Nat->Prop}{m:List Rw}(h:TV w g S m)(hm:DX m)(hl:m.length<=1000)(k:Ky)(hk:k.1.size<=1000000)(id:Int){B0:Nat}(hB:∀ j,S j->B0<=j)(hw:B0<=w.heap.size):Calls Tryz.prog 61 #[Z7 g 0,.string k.1,ZV k.2,Z9 id] w fun e w'=>e=.returned (.bool (!XG m k))/\LJ g B0 S (Rk m k id) w w':=by
 have h0:=h;obtain⟨B,f,h1,hS⟩:=h;cases hh:XG m k with
 | true=>exact(G8 h1 hm hl k id hh).mono fun e w' z=>⟨z.1,by rw[KJ hh]; exact h0.upd z.2 hw⟩
 | false=>exact WR h1 hm hl k hk id hh hS hB hw
theorem FN {w:World}{g:Nat}{S:Nat->Prop}{m:List Rw}(h:TV w g S m)(hm:DX m)(hl:m.length<=1000)(k:Ky)(hk:k.1.size<=1000000){B0:Nat}(hB:∀ j,S j->B0<=j)(hw:B0<=w.heap.size):Calls Tryz.prog 67 #[Z7 g 0,.string k.1,ZV k.2] w fun e w'=>e=.returned (.bool (XG m k))/\LJ g B0 S (U0 k m) w w':=by
 have h0:=h;obtain⟨B,f,h1,hS⟩:=h;cases hh:XG m k with
 | false=>exact(G7 h1 hm hl k hh).mono fun e w' z=>⟨z.1,by rw[PL hh]; exact h0.upd z.2 hw⟩
 | true=>exact G6 h1 hm hl k hk hh hS hB hw
theorem AL (w:World)(n:Nat)(hn:n<=100000):∃ W1,(Instr.makeSlice 22 (Z9 0) (Z9 (n:Int))).run Tryz.prog w=.ok (.slice (some ⟨w.heap.size,0,none⟩) 0 n) W1/\YB W1 w.heap.size (.slice (some ⟨w.heap.size,0,none⟩) 0 n) []/\Below w.heap.size w W1:=by
 obtain⟨i0,hi,hz0,hz1,hz2⟩:=info_parts OB;have h:=run_make (P:=Tryz.prog) w 22 3 i0 (Z9 0) Tryz.underlying22 hi hz0 .i64 .i64 0 (n:Int) (by omega) (by omega) (by rw[hz2]; omega) (by omega);refine⟨_,h.trans rfl,?_,(Below.refl _ w).alloc (Nat.le_refl _) _⟩;have h2:=TB w 3 1 0 n (madeCells (Value.int .i64 0).cells (((n:Int)).toNat * i0.size)) (by rw[size_madeCells,hz1]; simp) (Nat.zero_le _) (by unfold maxLen; omega);rw[Nat.zero_mul,List.take_zero] at h2;exact h2
theorem vU {P:Program}{ρ:Operand->Value}{o:Oper}{x y:Operand}{w w2:World}{ty:TypeId}{vx vy v:Value}(ho:o.op=.makeSlice ty x y)(hs:(Instr.makeSlice ty vx vy).run P w=.ok v w2)(hx:ρ x=vx)(hy:ρ y=vy):(execOp ρ o).run P w=.ok (.value v) w2:=by
 unfold execOp;simp only[ho,hx,hy,Sem.run_bind,hs];rfl
theorem zN {ρ:Operand->Value}{o:Oper}{x y:Operand}(ho:o.op=.binOp .sub 3 x y 3)(a b:Nat)(h:a+b<=1000000)(hx:ρ x=Z9 ((a+b:Nat):Int))(hy:ρ y=Z9 a)(w:World):(execOp ρ o).run Tryz.prog w=.ok (.value (Z9 b)) w:=by
 have:=Tv ho ((a+b:Nat):Int) a (by omega) hx hy w;rwa [show((a+b:Nat):Int)-(a:Int)=(b:Int) by omega] at this
theorem zM (a:Option Addr)(n c i j:Nat)(w:World)(h2:i+j<=c):(Instr.slice 132 (.slice a n c) (some (Z9 (i:Int))) (some (Z9 ((i+j:Nat):Int))) none).run Tryz.prog w=.ok (.slice (Zb 2 a c i) j (c-i)) w:=by
 have h:=RY a n c i (i+j) w (by omega) h2;rwa [Nat.add_sub_cancel_left] at h
theorem qN {E:List Eo}{i:Nat}(hi:i<E.length):U5 (E.take (i+1))=U5 (E.take i)++[(Xy E i).2]:=by
 unfold U5 Xy;rw[List.take_add_one,List.getElem?_eq_getElem hi,Option.toList_some,List.map_append,getD_lt E i VB hi];rfl
theorem zL {E:List Eo}(hs:Ew E){q:Int}{ct:Nat}(h:∀ e∈E.drop ct,q<=e.1):∀ j,ct+j<E.length->q+j<=(Xy E (ct+j)).1
 | 0,hj=>by
  have:Xy E (ct+0)∈E.drop ct:=by
   unfold Xy;rw[getD_lt E (ct+0) VB hj];exact List.mem_drop_iff_getElem.2 ⟨0,by omega,rfl⟩
  have:=h _ this;simpa using this
 | j+1,hj=>by
  have h1:=zL hs h j (by omega);have h2:=of_decide_eq_true (hs (ct+j) (ct+(j+1)) (by omega) hj);omega
theorem xP {E:List Eo}{i:Nat}{q:Int}(hi:i<E.length):Tq (E.drop i) q=if (Xy E i).1=q then Tq (E.drop (i+1)) (q+1)+1 else 0:=by
 unfold Xy;rw[getD_lt E i VB hi,List.drop_eq_getElem_cons hi,Tq]
theorem qM {E:List Eo}{i:Nat}{q:Int}(hi:E.length<=i):Tq (E.drop i) q=0:=by
 rw[List.drop_of_length_le hi]; rfl
theorem dN {w:World}{a:Option Addr}{c:Nat}{E:List Eo}(hR:Cs w a (encs E))(hl:E.length<=10000):Calls Tryz.prog 76 #[.slice a E.length c] w (JK w (U5 E)):=by
 have O5:Hid (∀ V,Below w.heap.size w V->∀ i,i<E.length->∃ b off,a=some ⟨b,off,none⟩/\V.rangeAt b (off+i*2) (Yc (Xy E i))):=Z8 fun V hV i hi=>by
  obtain⟨b,off,h1,-,h2⟩:=QN (hR.below hV) hi;exact⟨b,off,h1,h2⟩
 have HST:Hid (∀ i,i<E.length->U5 (E.take (i+1))=U5 (E.take i)++[(Xy E i).2]):=Z8 fun i hi=>qN hi;have O6:Hid (∀ i,(U5 (E.take i)).length<=10000):=Z8 fun i=>by
  unfold U5;rw[List.length_map,List.length_take]; omega
 have XD:Hid (∀ V v,Below w.heap.size w V->YB V w.heap.size v (U5 (E.take E.length))->JK w (U5 E) (.returned v) V):=Z8 fun V v hV h=>⟨v,rfl,by rw[List.take_length] at h; exact h,hV⟩;obtain⟨PO,Yi⟩:=ZR (JK w (U5 E));rw[Yi] at XD ⊢;obtain⟨n,hn⟩:=ZR E.length;rw[hn] at O5 HST XD hl ⊢;obtain⟨W1,hmk,hr1,hb1⟩:=AL w n (by omega);have HR1:=Z8 hr1;have HB1:=Z8 hb1;clear hR hn Yi hr1 hb1;go_enter Tryz.func76,Tryz.ntmps76;go_upto_region 1 with fail;refine wl<|ZB (.slice a n c) (Z9 n) ?_;refine Vd (by kernel_rfl) (some 8) rfl (.slice (some ⟨w.heap.size,0,none⟩) 0 n) W1 (vU rfl hmk (by kernel_rfl) (by kernel_rfl)) ?_;refine ZQ (.slice (some ⟨w.heap.size,0,none⟩) 0 n)<|wn ?_;simp only[pu];clear hmk;go_upto_region 2 with fail;refine wl<|YX (.slice a n c) (Z9 n) (Z9 0)<|wn ?_;simp only[pu];go_wp2_with fail;go_loopg [3,11] n (fun gg s3 s11 wx=>∃ (i:Nat) (v:Value),s11=Z9 i/\s3=v/\i<=n/\gg+i=n/\Hid (YB wx w.heap.size v (U5 (E.take i)))/\Hid (Below w.heap.size w wx))
 case atStart=>exact⟨0,_,rfl,rfl,by omega,by omega,HR1,HB1⟩
 case round=>
  obtain⟨i,v,rfl,hv,hin,hg,HP,HR⟩:=hrel;obtain rfl:=hv.symm;have WH:Hid (gk+i=n):=Z8 hg;clear hg HR1 HB1;by_cases hlt:i<n
  ·obtain⟨b,off,hbb,hrg⟩:=O5.out wr HR.out i hlt;obtain rfl:=hbb;have hST:=HST.out i hlt;obtain⟨x,hx⟩:=ZR (Xy E i);rw[hx] at hrg hST;have FX:=Z8 hST;obtain⟨V2,hst2,hb2,hX2⟩:=Zk (c:=ZO VB) (c':=ZO x) (ty:=168) wr rfl (YW x) (by kernel_rfl);have HR2:Hid (Below w.heap.size w V2):=Z8 (HR.out.trans (hb2.mono HR.out.size));have HP2:=Z8 (HP.out.below hb2);clear hST hx;go_upto_region 3 with fail;refine wl<|Zg (ZG rfl (i) (n) dT)<|wn ?_;simp only[pu];go_upto_region 4 with fail;refine wl<|Za (Z7 b (off+i*2)) (Zo b off n c i hlt _ _ _ rfl (by kernel_rfl) (by kernel_rfl))<|ZC rfl ⟨b,off+i*2,none⟩ (.agg (ZO x)) (ZE hrg) ?_;refine Zj rfl (some 5) rfl (Z7 wr.heap.size 0) (wr.alloc (.cells (ZO VB) 168)) (by kernel_rfl) ?_;refine Yb rfl (hst2)<|wn ?_;obtain⟨g5,hg5⟩:=ZR wr.heap.size;rw[hg5] at hX2 ⊢;clear hst2 hb2 hg5 hrg HR HP;have MW:Below V2.heap.size V2 (V2.alloc (.cells #[Z9 (x.2)] 3)):=(Below.refl _ V2).alloc (Nat.le_refl _) _;have yX:Bx (V2.alloc (.cells #[Z9 (x.2)] 3)) V2.heap.size #[Z9 (x.2)] 3:=heap_alloc_last V2 _;obtain⟨v6,W6,Us,Xj,hb6,-,-⟩:=OU (YB.below HP2.out MW) (Nat.le_trans (HR2.out.size) MW.size) (some ⟨V2.heap.size,0,none⟩) 1 1 [x.2] (Cs.block (cs:=ZJ [x.2]) yX) rfl (by have:=O6.out i; omega) (by omega);have qL:Below w.heap.size V2 W6:=(MW.mono (HR2.out.size)).trans hb6;go_upto_region 5 with fail;refine wl<|ZB (v) (Z7 g5 1)<|ZC rfl ⟨g5,1,none⟩ (Z9 x.2) (hX2.ZM 1) ?_;refine Zm (by kernel_rfl) (some 18) rfl 22 1 #[(0,.tmp 17)] rfl #[(0,Z9 (x.2))] (by kernel_rfl) (.slice (some ⟨V2.heap.size,0,none⟩) 1 1) _ (MV (x.2) V2) ?_;refine YU rfl (some 19) rfl 22 rfl (.tmp 15) (.tmp 18) 22 rfl (v) (.slice (some ⟨V2.heap.size,0,none⟩) 1 1) (v6) W6 (by kernel_rfl) (by kernel_rfl) Us ?_;refine ZQ (v6)<|wn ?_;simp only[pu];have mM:=Z8 (HR2.out.trans qL);have DF:Hid (YB W6 w.heap.size v6 (U5 (E.take (i+1)))):=Z8 (by rw[FX.out]; exact Xj);clear Us Xj hb6 qL MW yX HP2 HR2 hX2 FX;go_upto_region 6 with fail;refine wl<|Za (Z9 (i+1:Nat)) (add_one rfl i (by omega) (by kernel_rfl) _)<|ZQ (Z9 (i+1:Nat))<|wn ?_;simp only[pu];go_wp2_with fail;go_roundg (n-(i+1))
   case measure=>have:=WH.out; omega
   case rel=>exact⟨i+1,v6,rfl,rfl,by omega,by omega,DF,mM⟩
  ·obtain rfl:i=n:=(by omega);go_upto_region 3 with fail;refine wl<|Zg (ZG rfl (i) (i) dF)<|wn ?_;simp only[pu];have HE:=Z8 (XD.out wr v HR.out HP.out);clear HP HR XD HST O5;go_upto_region 7 with fail;refine wl<|ZB (v) (v)<|wn ?_;simp only[pu];go_wp2_with fail;exact HE.out
theorem xO {w:World}{p v:Value}{n:ByteArray}{E:List Eo}(CL:Calls Tryz.prog 77 #[p,.string n] w fun e w'=>e=.returned v/\w=w')(h:Zz w 0 v E)(hl:E.length<=10000):Calls Tryz.prog 44 #[p,.string n] w (JK w (U5 E)):=by
 obtain⟨a,c,rfl,hcs,-⟩:=h.cs;have CI:=dN (c:=c) hcs hl;obtain⟨k,hk⟩:=ZR E.length;rw[hk] at CL CI;obtain⟨PO,Yi⟩:=ZR (JK w (U5 E));have HPO:Hid (∀ e w',PO e w'->∃ v,e=.returned v/\PO (.returned v) w'):=Z8 (by rw[<- Yi]; rintro e w' ⟨v,rfl,h1⟩; exact⟨v,rfl,v,rfl,h1⟩);rw[Yi] at CI ⊢;clear Yi h hl hcs hk;go_enter Tryz.func44,Tryz.ntmps44;go_upto_region 1 with fail;refine wl<|ZB (p) (.string n)<|YD (.slice a k c) (fun w'=>w=w') (CL) (fun V9 XZ=>?_);subst XZ;refine XQ (fun u w'=>PO (.returned u) w') (CI.mono fun e w' z=>by obtain⟨u,h1,h2⟩:=HPO.out e w' z; exact⟨u,h1,h2⟩) (fun v9 V9 h9=>?_);have HE:=Z8 h9;refine ZQ (v9)<|wn ?_;simp only[pu];clear CI h9 HPO CL;go_wp2_with fail;exact HE.out
theorem qK {w:World}{p v:Value}{n:ByteArray}{E:List Eo}(CL:Calls Tryz.prog 77 #[p,.string n] w fun e w'=>e=.returned v/\w=w')(h:Zz w 0 v E)(hs:UQ E)(hw:∀ e∈E,W64 e.1)(hl:E.length<=10000){q:Int}(hq:W64 q):Calls Tryz.prog 85 #[p,.string n,ZV q] w (JK w (Nj E q)):=by
 have CP:=QM h hs (by omega) q;obtain⟨a,c,rfl,hcs,hcc⟩:=h.cs;obtain⟨-,hdr⟩:=Le (q:=q) hs;have hcl:=cnt_le E q;have hrl:=Ik (E.drop (Zw E q)) q;rw[List.length_drop] at hrl;have qJ:Hid (∀ j,Zw E q+j<E.length->q+j<=(Xy E (Zw E q+j)).1/\(Xy E (Zw E q+j)).1<=18446744073709551615):=Z8 fun j hj=>⟨zL (jA hs) hdr j hj,(hw _ (MF hj)).2⟩;have nO:Hid (∀ i r,i<E.length->Tq (E.drop i) r=if (Xy E i).1=r then Tq (E.drop (i+1)) (r+1)+1 else 0):=Z8 fun i r hi=>xP hi;have HRE:Hid (∀ i r,E.length<=i->Tq (E.drop i) r=0):=Z8 fun i r hi=>qM hi;have O5:Hid (∀ V,Below w.heap.size w V->∀ i,i<E.length->∃ b off,a=some ⟨b,off,none⟩/\V.rangeAt b (off+i*2) (Yc (Xy E i))):=Z8 fun V hV i hi=>by
  obtain⟨b,off,h1,-,h2⟩:=QN (hcs.below hV) hi;exact⟨b,off,h1,h2⟩
 have HID:Hid (∀ V,Below w.heap.size w V->Calls Tryz.prog 76 #[.slice (Zb 2 a c (Zw E q)) (Tq (E.drop (Zw E q)) q) (c-Zw E q)] V (JK V (Nj E q))):=Z8 fun V hV=>by
  have h1:=((hcs.below hV).from 2 c (Zw E q) (by rw[YJ]; omega)).take (Tq (E.drop (Zw E q)) q*2);rw[Wy,WA] at h1;have h2:=dN (c:=c-Zw E q) h1 (by rw[List.length_take,List.length_drop]; omega);rw[List.length_take,List.length_drop,Nat.min_eq_left hrl] at h2;exact h2
 have XD:Hid (∀ V V' e,Below w.heap.size w V->JK V (Nj E q) e V'->∃ u,e=.returned u/\JK w (Nj E q) (.returned u) V'):=Z8 fun V V' e hV z=>by
  obtain⟨u,rfl,h1,h2⟩:=z;exact⟨u,rfl,u,rfl,own_base h1 hV.size,hV.trans (h2.mono hV.size)⟩
 obtain⟨PO,Yi⟩:=ZR (JK w (Nj E q));rw[Yi] at XD ⊢;generalize Vm E q=hb at *
 obtain⟨ct,hct⟩:=ZR (Zw E q);rw[hct] at CP qJ HID hcl hrl;obtain⟨R,hR⟩:=ZR (Tq (E.drop ct) q);rw[hR] at HID;rw[hR] at hrl;have HR0:Hid (R=0+Tq (E.drop (ct+0)) (q+(0:Nat))):=Z8 (by rw[<- hR]; simp);generalize Nj E q=X at *
 obtain⟨k,hk⟩:=ZR E.length;rw[hk] at CL CP O5 qJ nO HRE hcl hrl hl hcc;have HQ:=Z8 hq;clear Yi h hcs hk hs hw hdr hct hR hq;go_enter Tryz.func85,Tryz.ntmps85;go_upto_region 1 with fail;refine wl<|ZB (p) (.string n)<|YD (.slice a k c) (fun w'=>w=w') (CL) (fun V9 XZ=>?_);subst XZ;refine ZQ (.slice a k c)<|wn ?_;simp only[pu];clear CL;go_upto_region 2 with fail;refine wl<|ZB (.slice a k c) (ZV q)<|YD (.tuple #[Z9 ct,.bool hb]) (fun w'=>Below w.heap.size w w') (CP) (fun W1 hW1=>?_);have HB:=Z8 hW1;refine Gg (.tuple #[Z9 ct,.bool hb]) (Z9 ct) (.bool hb) (Z9 ct) (.bool hb)<|wn ?_;simp only[pu];clear CP hW1;go_upto_region 3 with fail;refine wl<|ZB (Z9 ct) (Z9 ct)<|wn ?_;simp only[pu];go_wp2_with fail;go_loopg [10] (k-ct) (fun gg s10 wx=>∃ (j:Nat),s10=Z9 (ct+j:Nat)/\ct+j<=k/\gg+(ct+j)=k/\Hid (R=j+Tq (E.drop (ct+j)) (q+j))/\Hid (Below w.heap.size w wx))
 case atStart=>exact⟨0,rfl,by omega,by omega,HR0,HB⟩
 case round=>
  obtain⟨j,rfl,hjn,hg,HRJ,HR⟩:=hrel;have WH:Hid (gk+(ct+j)=k):=Z8 hg;clear hg HR0 HB;by_cases hlt:ct+j<k
  ·obtain⟨b,off,hbb,hrg⟩:=O5.out wr HR.out (ct+j) hlt;obtain rfl:=hbb;obtain⟨ha1,ha2⟩:=qJ.out j hlt;have hrs:=nO.out (ct+j) (q+j) hlt;have hrj:=HRJ.out;rw[hrs] at hrj;obtain⟨y,hy⟩:=ZR (Xy E (ct+j));rw[hy] at hrg ha1 ha2 hrj;have hq:=HQ.out;have hwr:IntKind.u64.wrap (q+j)=q+j:=(by rw[IntKind.wrap_u64]; have:=hq.1; omega);have HWR:=Z8 hwr;clear hrs hy hwr hq;by_cases wV:y.1=q+j
   ·go_upto_region 4 with fail;refine wl<|YX (Z9 (ct+j:Nat)) (.slice (some ⟨b,off,none⟩) k c) (Z9 k)<|Zg (ZG rfl ((ct+j:Nat)) (k) dT) <|
     YX ZX (.slice (some ⟨b,off,none⟩) k c) (Z9 (ct+j:Nat))<|Za (Z7 b (off+(ct+j)*2)) (Zo b off k c (ct+j) hlt _ _ _ rfl (by kernel_rfl) (by kernel_rfl))<|ZQ (Z7 b (off+(ct+j)*2)) <|
     ZC rfl ⟨b,off+(ct+j)*2,none⟩ (ZV y.1) (ZN hrg (j:=0) rfl (by kernel_rfl))<|YX (ZV q) (Z9 (ct+j:Nat)) (Z9 ct)<|Yd (Z9 j) (zN rfl ct j (by omega)) <|
     Za (ZV j) (Ug rfl j (by omega) (by omega) (by kernel_rfl) _)<|Yd (ZV (IntKind.u64.wrap (q+j))) (fA rfl q j) <|
     Yd ZX (Uo rfl y.1 (IntKind.u64.wrap (q+j)) (by rw[HWR.out]; exact decide_eq_true wV))<|ZQ ZX<|wn ?_
    simp only[pu];rw[if_pos wV] at hrj;have HR3:Hid (R=(j+1)+Tq (E.drop (ct+(j+1))) (q+(j+1:Nat))):=Z8 (by rw[show ct+(j+1)=ct+j+1 by omega,show q+((j+1:Nat):Int)=q+j+1 by omega]; omega);clear hrj wV hrg ha1 ha2 HRJ HWR;go_upto_region 5 with fail;refine wl<|ZQ (Z9 (ct+j:Nat))<|Za (Z9 (ct+(j+1):Nat)) (add_one rfl (ct+j) (by omega) (by kernel_rfl) _)<|ZQ (Z9 (ct+(j+1):Nat))<|wn ?_;simp only[pu];go_wp2_with fail;go_roundg (k-(ct+(j+1)))
    case measure=>have:=WH.out; omega
    case rel=>exact⟨j+1,rfl,by omega,by omega,HR3,HR⟩
   ·go_upto_region 4 with fail;refine wl<|YX (Z9 (ct+j:Nat)) (.slice (some ⟨b,off,none⟩) k c) (Z9 k)<|Zg (ZG rfl ((ct+j:Nat)) (k) dT) <|
     YX ZX (.slice (some ⟨b,off,none⟩) k c) (Z9 (ct+j:Nat))<|Za (Z7 b (off+(ct+j)*2)) (Zo b off k c (ct+j) hlt _ _ _ rfl (by kernel_rfl) (by kernel_rfl))<|ZQ (Z7 b (off+(ct+j)*2)) <|
     ZC rfl ⟨b,off+(ct+j)*2,none⟩ (ZV y.1) (ZN hrg (j:=0) rfl (by kernel_rfl))<|YX (ZV q) (Z9 (ct+j:Nat)) (Z9 ct)<|Yd (Z9 j) (zN rfl ct j (by omega)) <|
     Za (ZV j) (Ug rfl j (by omega) (by omega) (by kernel_rfl) _)<|Yd (ZV (IntKind.u64.wrap (q+j))) (fA rfl q j) <|
     Yd ZY (Uo rfl y.1 (IntKind.u64.wrap (q+j)) (by rw[HWR.out]; exact decide_eq_false wV))<|ZQ ZY<|wn ?_
    simp only[pu];rw[if_neg wV,Nat.add_zero] at hrj;have hRj:R=j:=hrj;clear hrj wV hrg ha1 ha2 HWR;subst hRj;have CI:=HID.out wr HR.out;clear HID qJ nO HRE O5 HRJ;go_upto_region 6 with fail;refine wl<|YX (.slice (some ⟨b,off,none⟩) k c) (Z9 ct) (Z9 (ct+R:Nat))<|Za (.slice (Zb 2 (some ⟨b,off,none⟩) c ct) R (c-ct)) (SN rfl (zM (some ⟨b,off,none⟩) k c ct R _ (by omega)) (by kernel_rfl) (by kernel_rfl) (by kernel_rfl)) <|
     XQ (fun u w'=>PO (.returned u) w') (CI.mono fun e w' z=>by obtain⟨u,h1,h2⟩:=XD.out wr w' e HR.out z; exact⟨u,h1,h2⟩) (fun v9 V9 h9=>?_)
    have HE:=Z8 h9;refine ZQ (v9)<|wn ?_;simp only[pu];clear CI h9 XD HR;go_wp2_with fail;exact HE.out
  ·go_upto_region 4 with fail;refine wl<|YX (Z9 (ct+j:Nat)) (.slice a k c) (Z9 k)<|Zg (ZG rfl ((ct+j:Nat)) (k) dF)<|Ia ZY undef undef undef undef undef<|Ia undef undef undef undef undef undef <|
    ZB undef ZY<|wn ?_
   simp only[pu];have hRj:R=j:=(by have:=HRJ.out; rw[HRE.out (ct+j) _ (by omega)] at this; exact this);subst hRj;have CI:=HID.out wr HR.out;clear HID qJ nO HRE O5 HRJ;go_upto_region 6 with fail;refine wl<|YX (.slice a k c) (Z9 ct) (Z9 (ct+R:Nat))<|Za (.slice (Zb 2 a c ct) R (c-ct)) (SN rfl (zM a k c ct R _ (by omega)) (by kernel_rfl) (by kernel_rfl) (by kernel_rfl)) <|
    XQ (fun u w'=>PO (.returned u) w') (CI.mono fun e w' z=>by obtain⟨u,h1,h2⟩:=XD.out wr w' e HR.out z; exact⟨u,h1,h2⟩) (fun v9 V9 h9=>?_)
   have HE:=Z8 h9;refine ZQ (v9)<|wn ?_;simp only[pu];clear CI h9 XD HR;go_wp2_with fail;exact HE.out
theorem aT {w:World}{g:Nat}{S:Nat->Prop}{m:List Rw}(h:TV w g S m)(hl:m.length<=1000)(n:ByteArray):Calls Tryz.prog 44 #[Z7 g 0,.string n] w (JK w (U5 (Zi m n))):=by
 obtain⟨B,f,h,-⟩:=h;obtain⟨v,hv,hrow,-⟩:=h.look n;exact xO (by rw[<- hv]; exact zK h n) hrow (by have:=Qu m n; omega)
theorem al7 {w:World}{g:Nat}{S:Nat->Prop}{m:List Rw}(h:TV w g S m)(hm:DX m)(hw:RwW m)(hl:m.length<=1000)(n:ByteArray){q:Int}(hq:W64 q):Calls Tryz.prog 85 #[Z7 g 0,.string n,ZV q] w (JK w (Nj (Zi m n) q)):=by
 obtain⟨B,f,h,-⟩:=h;obtain⟨v,hv,hrow,-⟩:=h.look n;exact qK (by rw[<- hv]; exact zK h n) hrow (SC hm n) (fun e he=>hw _ (Ox.1 he)) (by have:=Qu m n; omega) hq
end Go.Proofs.YtnelmomagdcmnaaGreat.Sd
namespace Go.Proofs.YtnelmomagdcmnaaGreat.Ex
open Go.RowKit
section
variable {V0 V V2 : World} {k : Wt} {L1 L2 L3 : List Wt} {b0 b1 b2 b3 bk : Bool} {x0 x1 x2 x3 xk v : Value}
end
section
variable {M : List Wt} {k : Int} {i : Nat}
end
def JK (w:World)(L:List Int)(e:Ending)(w':World):Prop:=∃ v,e=.returned v/\YB w' w.heap.size v L/\Below w.heap.size w w'
def ItW (m:List Wt):Prop:=∀ x∈m,I64 x.2.1/\I64 x.2.2
theorem NW (w:World)(B e s:Nat):w.ownsRow B e s (.slice none 0 0) 0 []:=⟨by simp,.inl ⟨rfl,rfl⟩⟩
theorem CJ {a b:Int}(ha:I64 a)(hb:I64 b)(h:b<a):IntKind.u64.wrap (IntKind.u64.wrap a-IntKind.u64.wrap b)=a-b:=by
 obtain⟨h1,h2⟩:=ha;obtain⟨h3,h4⟩:=hb;rw[IntKind.wrap_u64,IntKind.wrap_u64,IntKind.wrap_u64];omega
theorem uw {a:Int}(h:0<=a)(ha:I64 a):IntKind.u64.wrap a=a:=by
 obtain⟨h1,h2⟩:=ha;rw[IntKind.wrap_u64];omega
section
variable {ρ : Operand -> Value} {o : Oper} {x y : Operand}
theorem cvU (ho:o.op=.convert 3 185 x)(a:Int)(hx:ρ x=Z9 a)(w:World):(execOp ρ o).run Tryz.prog w=.ok (.value (ZV (IntKind.u64.wrap a))) w:=by
 unfold execOp;go_simp
theorem sbU (ho:o.op=.binOp .sub 185 x y 185)(a b:Int)(hx:ρ x=ZV a)(hy:ρ y=ZV b)(w:World):(execOp ρ o).run Tryz.prog w=.ok (.value (ZV (IntKind.u64.wrap (a-b)))) w:=by
 unfold execOp;go_simp
theorem gtU (ho:o.op=.binOp .gtr 185 x y 185)(a b:Int){t:Bool}(ht:decide (b<a)=t)(hx:ρ x=ZV a)(hy:ρ y=ZV b)(w:World):(execOp ρ o).run Tryz.prog w=.ok (.value (.bool t)) w:=by
 rw[<- ht];unfold execOp;go_simp
end
section
variable {ρ : Operand -> Value} {o : Oper} {x y : Operand}
end
end Go.Proofs.YtnelmomagdcmnaaGreat.Ex
namespace Go.Proofs.YtnelmomagdcmnaaGreat.Ex
attribute [local irreducible] wpList wpQuiet
open Go.RowKit
section
variable {P : Program} {o : Oper} {a : Act} {w w2 : World}
theorem Yv (ty:TypeId)(x y:Operand)(b:Bool)(ho:o.op=.lookup ty x y b)(vx vy v:Value)(hx:a.eval x=vx)(hy:a.eval y=vy)(hr:(Instr.lookup ty vx vy b).run P w=.ok v w):(execOp a.eval o).run P w=.ok (.value v) w:=by
 unfold execOp;simp only[ho,hx,hy,Sem.run_bind,hr];rfl
theorem SI (ty:TypeId)(x y z:Operand)(ho:o.op=.mapUpdate ty x y z)(vx vy vz:Value)(hx:a.eval x=vx)(hy:a.eval y=vy)(hz:a.eval z=vz)(hr:(Instr.mapUpdate ty vx vy vz).run P w=.ok () w2):(execOp a.eval o).run P w=.ok .skip w2:=by
 unfold execOp;simp only[ho,hx,hy,hz,Sem.run_bind,hr];rfl
theorem SK (ty:TypeId)(ho:o.op=.makeMap ty none):(execOp a.eval o).run P w=.ok (.value (.map (some w.heap.size))) (w.alloc (.map #[] 0)):=by
 unfold execOp;simp only[ho];rfl
theorem NJ (x y:Operand)(t u:TypeId)(ho:o.op=.call { callee:=.builtin .delete,args:=#[x,y],argTypes:=#[t,u] })(vx vy v:Value)(hx:a.eval x=vx)(hy:a.eval y=vy)(hr:(Builtin.delete_ #[t,u] o.type #[vx,vy]).run P w=.ok v w2):(execOp a.eval o).run P w=.ok (.value v) w2:=by
 unfold execOp;simp only[ho,resolve,invoke,builtin,Sem.run_bind,Sem.run_pure,Result.andThen_ok,List.map_toArray,List.map_cons,List.map_nil,hx,hy,hr]
end
theorem UU {P:Program}{ops:Array Oper}{rest:List Oper}{o:Oper}{a:Act}{w:World}{Q:Exit->Act->World->Prop}(hw:Region.wanted o (yielded ops a.tmps)=true)(hd:o.dst=none)(w2:World)(hr:(execOp a.eval o).run P w=.ok .skip w2)(k:wpList P ops Q rest a w2):wpList P ops Q (o::rest) a w:=by
 apply wpList_step;intro K hK;rw[if_pos hw,Oper.wp,hr];refine hK _ _ ?_;rw[hd];exact k
theorem Xg {α β:Type}(f:α->β)(g:α->α)(g':β->β)(h:∀ x,f (g x)=g' (f x)):∀ (l:List α) (i:Nat),(l.modify i g).map f=(l.map f).modify i g'
 | [],i=>by cases i <;> rfl
 | x::r,0=>by simp[List.modify_cons,h]
 | x::r,i+1=>by simp[List.modify_cons,Xg f g g' h r i]
theorem Uz {α:Type}(l:List α)(i:Nat)(x:α)(g:α->α)(h:l[i]?=some x):l.modify i g=l.set i (g x):=by
 apply List.ext_getElem?;intro j;rw[List.getElem?_modify,List.getElem?_set];by_cases hj:i=j
 ·subst hj;obtain⟨hl,hv⟩:=List.getElem?_eq_some_iff.1 h;simp[hl,hv]
 ·simp[hj]
def XC (f:Int->Option Value)(x:Int)(v:Option Value):Int->Option Value:=fun y=>if y=x then v else f y
def Mi (w:World)(B:Nat)(L:List (Int×Value)):Prop:=
 ∃ es clock,w.heap[B]?=some (.map es clock)/\es.toList.map (fun e=>(e.key,e.val))=L.map (fun x=>(Value.int .i64 x.1,x.2))
def Y3 (x:Int):List (Int×Value)->Nat->Option (Nat×Value)
 | [],_=>none
 | p::r,i=>if p.1=x then some (i,p.2) else Y3 x r (i+1)
theorem YI {x:Int}:∀ {L:List (Int×Value)} {i j:Nat} {v:Value},Y3 x L i=some (j,v)->∃ k,j=i+k/\k<L.length/\L[k]?=some (x,v)
 | [],i,j,v,h=>by cases h
 | p::r,i,j,v,h=>by
  unfold Y3 at h;by_cases hp:p.1=x
  ·rw[if_pos hp] at h;simp only[Option.some.injEq,Prod.mk.injEq] at h;exact⟨0,by omega,by simp,by simp[<- hp,<- h.2]⟩
  ·rw[if_neg hp] at h;obtain⟨k,h1,h2,h3⟩:=YI h;exact⟨k+1,by omega,by simpa using h2,by simpa using h3⟩
theorem Yx {x:Int}:∀ {L:List (Int×Value)} {i:Nat},Y3 x L i=none↔∀ p∈L,p.1≠x
 | [],i=>by simp[Y3]
 | p::r,i=>by
  unfold Y3;by_cases hp:p.1=x
  ·simp[hp]
  ·rw[if_neg hp,Yx];simp[hp]
def Ue (L:List (Int×Value))(x:Int):Option Value:=(Y3 x L 0).map (·.2)
theorem Wv (x:Int):∀ (L:List (Int×Value)) (i j:Nat),(Y3 x L i).map (·.2)=(Y3 x L j).map (·.2)
 | [],i,j=>rfl
 | p::r,i,j=>by
  unfold Y3
  split
  ·rfl
  ·exact Wv x r _ _
theorem Zt (p:Int×Value)(r:List (Int×Value))(x:Int):Ue (p::r) x=if p.1=x then some p.2 else Ue r x:=by
 unfold Ue;rw[Y3]
 split
 ·rfl
 ·exact Wv x r _ _
theorem Ud (x:Int)(p:Int×Value):∀ (L:List (Int×Value)),(∀ q∈L,q.1≠p.1)->Ue (L++[p]) x=if x=p.1 then some p.2 else Ue L x
 | [],_=>by
  rw[List.nil_append,Zt];by_cases h:p.1=x
  ·rw[if_pos h,if_pos h.symm]
  ·rw[if_neg h,if_neg (fun e=>h e.symm)]
 | q::r,hq=>by
  have h1:=hq q (by simp);rw[List.cons_append,Zt,Ud x p r (fun z hz=>hq z (by simp[hz])),Zt];by_cases h:q.1=x
  ·rw[if_pos h,if_neg (fun e=>h1 (h.trans e)),if_pos h]
  ·rw[if_neg h,if_neg h]
theorem Uc (x k:Int)(v u:Value):∀ (L:List (Int×Value)) (j:Nat),L[j]?=some (k,u)->(L.map (·.1)).Nodup->Ue (L.set j (k,v)) x=if x=k then some v else Ue L x
 | [],j,h,_=>by simp at h
 | p::r,0,h,hn=>by
  simp only[List.getElem?_cons_zero,Option.some.injEq] at h;subst h;rw[List.set_cons_zero,Zt,Zt];by_cases h:k=x
  ·rw[if_pos h,if_pos h.symm]
  ·rw[if_neg h,if_neg (fun e=>h e.symm),if_neg h]
 | p::r,j+1,h,hn=>by
  rw[List.getElem?_cons_succ] at h;rw[List.map_cons,List.nodup_cons] at hn;have hpk:p.1≠k:=fun e=>hn.1 (by rw[e]; exact List.mem_map.2 ⟨(k,u),List.mem_of_getElem? h,rfl⟩);rw[List.set_cons_succ,Zt,Uc x k v u r j h hn.2,Zt];by_cases h1:p.1=x
  ·rw[if_pos h1,if_neg (fun e=>hpk (h1.trans e)),if_pos h1]
  ·rw[if_neg h1,if_neg h1]
theorem Vk {L:List (Int×Value)}{x:Int}(h:∀ p∈L,p.1≠x):Ue L x=none:=by
 unfold Ue;rw[Yx.2 h];rfl
theorem Ub (x k:Int)(u:Value):∀ (L:List (Int×Value)) (j:Nat),L[j]?=some (k,u)->(L.map (·.1)).Nodup->Ue (L.eraseIdx j) x=if x=k then none else Ue L x
 | [],j,h,_=>by simp at h
 | p::r,0,h,hn=>by
  simp only[List.getElem?_cons_zero,Option.some.injEq] at h;subst h;rw[List.map_cons,List.nodup_cons] at hn;rw[List.eraseIdx_cons_zero,Zt];by_cases h:k=x
  ·rw[if_pos h.symm];exact Vk fun q hq e=>hn.1 (List.mem_map.2 ⟨q,hq,e.trans h.symm⟩)
  ·rw[if_neg (fun e=>h e.symm),if_neg h]
 | p::r,j+1,h,hn=>by
  rw[List.getElem?_cons_succ] at h;rw[List.map_cons,List.nodup_cons] at hn;have hpk:p.1≠k:=fun e=>hn.1 (by rw[e]; exact List.mem_map.2 ⟨(k,u),List.mem_of_getElem? h,rfl⟩);rw[List.eraseIdx_cons_succ,Zt,Ub x k u r j h hn.2,Zt];by_cases h1:p.1=x
  ·rw[if_pos h1,if_neg (fun e=>hpk (h1.trans e)),if_pos h1]
  ·rw[if_neg h1,if_neg h1]
theorem YZ (w:World)(b:Bool)(x:Int):(Instr.checkKey b 10000 3 (Z9 x)).run Tryz.prog w=.ok () w:=by
 rw[show(10000:Nat)=9999+1 from rfl,Instr.checkKey];simp[run_underlying Tryz.underlying3]
theorem Vj (x:Int):∀ (es:List MapEntry) (L:List (Int×Value)) (i:Nat),es.map (fun e=>(e.key,e.val))=L.map (fun x=>(Value.int .i64 x.1,x.2)) ->
  Instr.findNow (TypeDesc.int .i64) (Z9 x) es i=some ((Y3 x L i).map fun p=>(p.1,p.2))
 | [],[],i,_=>by simp[Instr.findNow,Y3]
 | [],_::_,i,h=>by simp at h
 | _::_,[],i,h=>by simp at h
 | e::es,p::L,i,h=>by
  simp only[List.map_cons,List.cons.injEq,Prod.mk.injEq] at h;obtain⟨⟨h1,h2⟩,h3⟩:=h;have ih:=Vj x es L (i+1) h3;unfold Y3;rw[Instr.findNow,h1];simp only[Instr.sameNow];by_cases hx:p.1=x
  ·have:(x == p.1)=true:=(by simp[hx]);simp[this,hx,h2]
  ·have:(x == p.1)=false:=(by simpa using fun h=>hx h.symm);simp[this,hx,ih]
theorem XV (w:World)(x:Int)(es:List MapEntry)(L:List (Int×Value))(h:es.map (fun e=>(e.key,e.val))=L.map (fun x=>(Value.int .i64 x.1,x.2))) :
  (Instr.findKey 3 (Z9 x) es).run Tryz.prog w=.ok ((Y3 x L 0).map fun p=>(p.1,p.2)) w:=by
 simp[Instr.findKey,run_underlying Tryz.underlying3,Vj x es L 0 h]
def BM (o:Option Value)(b:Bool):Value:=
 match o with
 | some v=>if b then .tuple #[v,ZX] else v
 | none=>if b then .tuple #[.agg #[Z9 0,Z9 0],ZY] else .agg #[Z9 0,Z9 0]
theorem Ol {w:World}{B:Nat}{L:List (Int×Value)}(h:Mi w B L)(x:Int)(b:Bool):(Instr.lookup 134 (.map (some B)) (Z9 x) b).run Tryz.prog w=.ok (BM (Ue L x) b) w:=by
 obtain⟨es,c,hb,he⟩:=h;have hu:(Go.underlying 134).run Tryz.prog w=.ok (.map 3 170) w:=run_underlying (by kernel_rfl) w;have hz:(zeroValue 170).run Tryz.prog w=.ok (.agg #[Z9 0,Z9 0]) w:=by kernel_rfl
 have hr:=XV w x es.toList L he;unfold BM Ue;cases hf:Y3 x L 0 with
 | none=>
  rw[hf] at hr;cases b <;> simp[Instr.lookup,hu,MapKept.run_getObj_map hb,YZ w _ x,hr,hz,Result.andThen]
 | some p=>
  rw[hf] at hr;cases b <;> simp[Instr.lookup,hu,MapKept.run_getObj_map hb,YZ w _ x,hr,hz,Result.andThen]
theorem J9 {w:World}{B:Nat}{L:List (Int×Value)}(h:Mi w B L)(x:Int)(v:Value)(hn:Y3 x L 0=none) :
  ∃ w',(Instr.mapUpdate 134 (.map (some B)) (Z9 x) v).run Tryz.prog w=.ok () w'/\Mi w' B (L++[(x,v)])/\w'.heap.size=w.heap.size/\w.grownBy w' (some B):=by
 obtain⟨es,c,hb,he⟩:=h;have hu:(Go.underlying 134).run Tryz.prog w=.ok (.map 3 170) w:=run_underlying (by kernel_rfl) w;have hr:=XV w x es.toList L he;rw[hn] at hr;have hlt:B<w.heap.size:=(Array.getElem?_eq_some_iff.1 hb).1;refine⟨{ w with heap:=w.heap.setIfInBounds B (.map (es.push { key:=Z9 x,val:=v,born:=c }) (c+1)) },
  by simp[Instr.mapUpdate,hu,MapKept.run_getObj_map hb,YZ w _ x,hr,MapKept.run_setObj_map _ hb,Result.andThen],⟨_,_,by simp[hlt]; exact⟨rfl,rfl⟩,by simp[he]⟩,by simp,rfl,rfl,rfl,by simp,fun i _ hi=>?_⟩
 have hne:B≠i:=fun e=>hi (by rw[e]);simp[Array.getElem?_setIfInBounds_ne hne]
theorem J8 {w:World}{B:Nat}{L:List (Int×Value)}(h:Mi w B L)(x:Int)(v u:Value)(j:Nat)(hn:Y3 x L 0=some (j,u)) :
  ∃ w',(Instr.mapUpdate 134 (.map (some B)) (Z9 x) v).run Tryz.prog w=.ok () w'/\Mi w' B (L.set j (x,v))/\w'.heap.size=w.heap.size/\w.grownBy w' (some B):=by
 obtain⟨es,c,hb,he⟩:=h;have hu:(Go.underlying 134).run Tryz.prog w=.ok (.map 3 170) w:=run_underlying (by kernel_rfl) w;have hr:=XV w x es.toList L he;rw[hn] at hr;have hlt:B<w.heap.size:=(Array.getElem?_eq_some_iff.1 hb).1;obtain⟨k,hj,hkl,hg⟩:=YI hn;obtain rfl:j=k:=by omega
 have hlen:es.size=L.length:=by
  have:=congrArg List.length he;simpa using this
 have hes:j<es.size:=by omega
 have hkey:es[j].key=Z9 x:=by
  have h1:=congrArg (fun l=>l[j]?) he;simp only[List.getElem?_map,hg,Array.getElem?_toList,Array.getElem?_eq_getElem hes,Option.map_some,Option.some.injEq,Prod.mk.injEq] at h1;exact h1.1
 have hsb:Instr.sameBits 10000 (Z9 x) (Z9 x)=true:=by
  rw[show(10000:Nat)=9999+1 from rfl];simp[Instr.sameBits]
 have hst:(Instr.keyThatStays (((es[j]?).map (·.key)).getD (Z9 x)) (Z9 x)).run Tryz.prog w=.ok (Z9 x) w:=by
  simp only[Array.getElem?_eq_getElem hes,Option.map_some,Option.getD_some,hkey,Instr.keyThatStays,hsb,if_true];rfl
 refine⟨{ w with heap:=w.heap.setIfInBounds B (.map (es.modify j fun e=>{ e with key:=Z9 x,val:=v }) c) },
  by simp only[Instr.mapUpdate,Sem.run_bind,hu,MapKept.run_getObj_map hb,YZ w _ x,hr,Option.map_some,hst,MapKept.run_setObj_map _ hb,Result.andThen],⟨_,_,by simp[hlt]; exact⟨rfl,rfl⟩,?_⟩,by simp,rfl,rfl,rfl,by simp,fun i _ hi=>?_⟩
 ·rw[Array.toList_modify,Xg (fun e:MapEntry=>(e.key,e.val)) _ (fun _=>(Value.int .i64 x,v)) (fun _=>rfl),he,
   Uz _ j (Value.int .i64 x,u) _ (by simp[hg]),List.map_set]
 ·have hne:B≠i:=fun e=>hi (by rw[e]);simp[Array.getElem?_setIfInBounds_ne hne]
theorem YF {α β:Type}(f:α->β):∀ (l:List α) (i:Nat),(l.eraseIdx i).map f=(l.map f).eraseIdx i
 | [],i=>by simp
 | x::r,0=>by simp
 | x::r,i+1=>by simp[YF f r i]
theorem J7 {w:World}{B:Nat}{L:List (Int×Value)}(h:Mi w B L)(x:Int)(ty:TypeId) :
  ∃ w',(Builtin.delete_ #[134,3] ty #[.map (some B),Z9 x]).run Tryz.prog w=.ok (.tuple #[]) w'/\Mi w' B (match Y3 x L 0 with | some (j,_)=>L.eraseIdx j | none=>L)/\w'.heap.size=w.heap.size/\w.grownBy w' (some B):=by
 obtain⟨es,c,hb,he⟩:=h;have hu:(Go.underlying 134).run Tryz.prog w=.ok (.map 3 170) w:=run_underlying (by kernel_rfl) w;have hr:=XV w x es.toList L he;have hlt:B<w.heap.size:=(Array.getElem?_eq_some_iff.1 hb).1;have hg:∀ o:Obj,w.grownBy { w with heap:=w.heap.setIfInBounds B o } (some B):=fun o=>⟨rfl,rfl,rfl,by simp,fun i _ hi=>by
  have hne:B≠i:=fun e=>hi (by rw[e]);simp[Array.getElem?_setIfInBounds_ne hne]⟩
 cases hf:Y3 x L 0 with
 | none=>
  rw[hf] at hr;exact⟨{ w with heap:=w.heap.setIfInBounds B (.map es c) },by simp[Builtin.delete_,hu,MapKept.run_getObj_map hb,YZ w _ x,hr,MapKept.run_setObj_map _ hb,Result.andThen],⟨es,c,by simp[hlt],he⟩,by simp,hg _⟩
 | some p=>
  rw[hf] at hr;obtain⟨k,hj,hkl,-⟩:=YI (show Y3 x L 0=some (p.1,p.2) from hf);have hlen:es.size=L.length:=by
   have:=congrArg List.length he;simpa using this
  refine⟨{ w with heap:=w.heap.setIfInBounds B (.map (es.eraseIdxIfInBounds p.1) c) },by simp[Builtin.delete_,hu,MapKept.run_getObj_map hb,YZ w _ x,hr,MapKept.run_setObj_map _ hb,Result.andThen],⟨es.eraseIdxIfInBounds p.1,c,by simp[hlt],?_⟩,by simp,hg _⟩;have hin:p.1<es.size:=by omega
  show(es.eraseIdxIfInBounds p.1).toList.map _=(L.eraseIdx p.1).map _;rw[Array.eraseIdxIfInBounds,dif_pos hin,Array.toList_eraseIdx,YF,he,YF]
def Mf (w:World)(B:Nat)(f:Int->Option Value):Prop:=∃ L,Mi w B L/\(L.map (·.1)).Nodup/\∀ x,Ue L x=f x
theorem Mf.lt {w:World}{B:Nat}{f:Int->Option Value}(h:Mf w B f):B<w.heap.size:=by
 obtain⟨L,⟨es,c,h1,-⟩,-⟩:=h;exact(Array.getElem?_eq_some_iff.1 h1).1
theorem Mf.same {w w':World}{B:Nat}{f:Int->Option Value}(h:Mf w B f)(hs:w'.heap[B]?=w.heap[B]?):Mf w' B f:=by
 obtain⟨L,⟨es,c,h1,h2⟩,h3⟩:=h;exact⟨L,⟨es,c,hs.trans h1,h2⟩,h3⟩
theorem Mf.new (w:World):Mf (w.alloc (.map #[] 0)) w.heap.size fun _=>none:=⟨[],⟨#[],0,heap_alloc_last w _,rfl⟩,by simp,fun _=>rfl⟩
theorem Mf.look {w:World}{B:Nat}{f:Int->Option Value}(h:Mf w B f)(x:Int)(b:Bool):(Instr.lookup 134 (.map (some B)) (Z9 x) b).run Tryz.prog w=.ok (BM (f x) b) w:=by
 obtain⟨L,h1,-,h3⟩:=h;rw[<- h3 x];exact Ol h1 x b
theorem Mf.put {w:World}{B:Nat}{f:Int->Option Value}(h:Mf w B f)(x:Int)(v:Value) :
  ∃ w',(Instr.mapUpdate 134 (.map (some B)) (Z9 x) v).run Tryz.prog w=.ok () w'/\Mf w' B (XC f x (some v))/\w'.heap.size=w.heap.size/\w.grownBy w' (some B):=by
 obtain⟨L,h1,h2,h3⟩:=h;cases hf:Y3 x L 0 with
 | none=>
  have hno:=Yx.1 hf;obtain⟨w',hr,hm,hz,hg⟩:=J9 h1 x v hf;refine⟨w',hr,⟨_,hm,?_,fun y=>?_⟩,hz,hg⟩
  ·rw[List.map_append,List.nodup_append];refine⟨h2,by simp,fun a ha b hb e=>?_⟩;obtain⟨q,hq,rfl⟩:=List.mem_map.1 ha;simp only[List.map_cons,List.map_nil,List.mem_singleton] at hb;exact hno q hq (e.trans hb)
  ·rw[Ud y (x,v) L hno,h3 y];rfl
 | some p=>
  obtain⟨w',hr,hm,hz,hg⟩:=J8 h1 x v p.2 p.1 hf;obtain⟨k,hj,hkl,hgt⟩:=YI (show Y3 x L 0=some (p.1,p.2) from hf);have hk:p.1=k:=by omega
  rw[<- hk] at hgt;refine⟨w',hr,⟨_,hm,?_,fun y=>?_⟩,hz,hg⟩
  ·have e:(L.set p.1 (x,v)).map (·.1)=L.map (·.1):=by
    rw[List.map_set];apply List.ext_getElem?;intro i;rw[List.getElem?_set];by_cases hi:p.1=i
    ·subst hi;simp[hgt];omega
    ·rw[if_neg hi]
   rw[e];exact h2
  ·rw[Uc y x v p.2 L p.1 hgt h2,h3 y];rfl
theorem Mf.del {w:World}{B:Nat}{f:Int->Option Value}(h:Mf w B f)(x:Int)(ty:TypeId) :
  ∃ w',(Builtin.delete_ #[134,3] ty #[.map (some B),Z9 x]).run Tryz.prog w=.ok (.tuple #[]) w'/\Mf w' B (XC f x none)/\w'.heap.size=w.heap.size/\w.grownBy w' (some B):=by
 obtain⟨L,h1,h2,h3⟩:=h;obtain⟨w',hr,hm,hz,hg⟩:=J7 h1 x ty;refine⟨w',hr,?_,hz,hg⟩;cases hf:Y3 x L 0 with
 | none=>
  rw[hf] at hm;refine⟨L,hm,h2,fun y=>?_⟩;rw[h3 y];unfold XC;by_cases e:y=x
  ·rw[if_pos e,e,<- h3 x];exact Vk (Yx.1 hf)
  ·rw[if_neg e]
 | some p=>
  rw[hf] at hm;obtain⟨k,hj,hkl,hgt⟩:=YI (show Y3 x L 0=some (p.1,p.2) from hf);have hk:p.1=k:=by omega
  rw[<- hk] at hgt;refine⟨_,hm,?_,fun y=>?_⟩
  ·rw[YF];exact h2.sublist (List.eraseIdx_sublist _ _)
  ·rw[Ub y x p.2 L p.1 hgt h2,h3 y];rfl
theorem Mf.map {w:World}{B:Nat}{f:Int->Option Value}(h:Mf w B f):∃ es c,w.heap[B]?=some (.map es c):=by
 obtain⟨L,⟨es,c,h1,-⟩,-⟩:=h;exact⟨es,c,h1⟩
def Jc (p:Int×Int):Value:=.agg #[Z9 p.1,Z9 p.2]
def BA (m:List Wt):Int->Option Value:=fun k=>(RG m k).map Jc
theorem jl {m m2:List Wt}{z:Wt}(h:uI m m2 z):XC (BA m) z.1 (some (Jc z.2))=BA m2:=by
 funext k
 unfold XC BA;rw[h.get k];by_cases hk:k=z.1
 ·rw[if_pos hk,if_pos hk]; rfl
 ·rw[if_neg hk,if_neg hk]
theorem ji {m m2:List Wt}{k:Int}(h:Dw m m2 k):XC (BA m) k none=BA m2:=by
 funext j
 unfold XC BA;rw[h.get j];by_cases hk:j=k
 ·rw[if_pos hk,if_pos hk]; rfl
 ·rw[if_neg hk,if_neg hk]
end Go.Proofs.YtnelmomagdcmnaaGreat.Ex
