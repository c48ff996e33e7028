/-
  Texts joined.
-/
import Derived.Test.YtnelmomagdcmnaaGreatD17
set_option maxRecDepth 100000
set_option maxHeartbeats 8000000
set_option linter.unusedSimpArgs false
set_option linter.unusedVariables false
namespace Go.Proofs.YtnelmomagdcmnaaGreat
open Go.RowKit
theorem XB.inn {w:World}{g:Nat}{S:Nat->Prop}{m:Sm}(h:Sl.XB w g S m):∀ k,S k->k<w.heap.size:=by
 obtain⟨a,c,T,fr,h1,-,rfl⟩:=h;exact h1.inn
theorem XB.same {w w':World}{g:Nat}{S:Nat->Prop}{m:Sm}(h:Sl.XB w g S m)(hs:∀ k,S k->w'.heap[k]?=w.heap[k]?):Sl.XB w' g S m:=by
 obtain⟨a,c,T,fr,h1,h2,rfl⟩:=h;exact⟨a,c,T,fr,h1.same hs,h2,rfl⟩
structure Pd where
 Bp:Nat
 Bk:Nat
 gs:Nat
 gh:Nat
 gi:Nat
 gq:Nat
structure Ps where
 Ss:Nat->Prop
 Sh:Nat->Prop
 Si:Nat->Prop
 Sq:Nat->Prop
abbrev O8 (c:List Int)(u:Nat)(d:Pd):Array Value:=#[Z9 (c.getD 0 0),Z9 (c.getD 1 0),Z9 (c.getD 2 0),Z9 (c.getD 3 0),Z9 (c.getD 4 0),Z9 (c.getD 5 0),.bool (decide (c.getD 6 0=1)),Z9 (c.getD 7 0),Z9 (c.getD 8 0),ZY (c.getD 9 0),Z9 (c.getD 10 0),Z9 (c.getD 11 0),Z9 u,.map (some d.Bp),.map (some d.Bk),Z7 d.gs 0,Z7 d.gh 0,Z7 d.gi 0,Z7 d.gq 0]
def Pp (g:Nat)(d:Pd)(s:Ps):Nat->Nat->Prop
 | 0,k=>k=g
 | 1,k=>k=d.Bp
 | 2,k=>k=d.Bk
 | 3,k=>s.Ss k
 | 4,k=>s.Sh k
 | 5,k=>s.Si k
 | 6,k=>s.Sq k
 | _,_=>False
structure Pq (w:World)(g:Nat)(d:Pd)(s:Ps)(c:List Int)(u:Nat)(m:Sm)(M:List Hp.It)(R:List Sd.Rw)(Lp Lk:List El)(W:List Ex.Wt):Prop where
 bx:Bx w g (O8 c u d) 95
 pl:MQ w d.Bp Lp
 ky:O9 w d.Bk Lk
 st:Sl.XB w d.gs s.Ss m
 hp:Hp.Vh w d.gh s.Sh M
 sn:Sd.VK w d.gi s.Si R
 ex:Ex.VT w d.gq s.Sq (c.getD 4 0) (c.getD 5 0) W
 Um:∀ i j k,Pp g d s i k->Pp g d s j k->i=j
structure Xn (B g:Nat)(d:Pd)(s:Ps)(w:World)(s':Ps)(w':World):Prop where
 sub:∀ i k,Pp g d s' i k->Pp g d s i k∨w.heap.size<=k
 but:ZP B (fun k=>∃ i,Pp g d s i k) w w'
theorem ZP.sub {B:Nat}{S S2:Nat->Prop}{w w':World}(h:ZP B S w w')(hs:∀ k,S k->S2 k):ZP B S2 w w':=⟨h.1,fun k hk hn=>h.2 k hk fun q=>hn (hs k q)⟩
theorem Xn.below {B g:Nat}{d:Pd}{s:Ps}{w w':World}(hb:Below w.heap.size w w')(hB:B<=w.heap.size):Xn B g d s w s w':=⟨fun _ _ h=>.inl h,ZP.of_below hb hB⟩
theorem Xn.tr {B g:Nat}{d:Pd}{s s1 s2:Ps}{w w1 w2:World}(h:Xn B g d s w s1 w1)(k:Xn B g d s1 w1 s2 w2):Xn B g d s w s2 w2:=by
 have hz:=h.but.1.size;refine⟨fun i x hx=>?_,h.but.trans k.but fun x hx=>?_⟩
 ·rcases k.sub i x hx with h1 | h1
  ·exact h.sub i x h1
  ·exact .inr (by omega)
 ·obtain⟨i,hi⟩:=hx;rcases h.sub i x hi with h1 | h1
  ·exact .inl ⟨i,h1⟩
  ·exact .inr h1
theorem Oi {P P':Nat->Nat->Prop}{i n:Nat}(Um:∀ a b k,P a k->P b k->a=b)(inn:∀ a k,P a k->k<n)(h:∀ a k,P' a k->P a k∨(a=i/\n<=k)):∀ a b k,P' a k->P' b k->a=b:=fun a b k ha hb=>by
 rcases h a k ha with h1 | ⟨h1,h2⟩ <;> rcases h b k hb with h3 | ⟨h3,h4⟩
 ·exact Um a b k h1 h3
 ·have:=inn a k h1; omega
 ·have:=inn b k h3; omega
 ·rw[h1,h3]
section
variable {w w' : World} {g u : Nat} {d : Pd} {s : Ps} {c : List Int} {m : Sm} {M : List Hp.It} {R : List Sd.Rw} {Lp Lk : List El} {W : List Ex.Wt}
theorem Pq.inn (h:Pq w g d s c u m M R Lp Lk W):∀ i k,Pp g d s i k->k<w.heap.size
 | 0,k,hk=>by
  have e:k=g:=hk;rw[e]; exact h.bx.lt
 | 1,k,hk=>by
  have e:k=d.Bp:=hk;rw[e]; exact h.pl.lt
 | 2,k,hk=>by
  have e:k=d.Bk:=hk;rw[e]; exact h.ky.lt
 | 3,k,hk=>XB.inn h.st k hk
 | 4,k,hk=>h.hp.inn k hk
 | 5,k,hk=>h.sn.inn k hk
 | 6,k,hk=>h.ex.inn k hk
 | n+7,k,hk=>by cases hk
theorem Pq.same (h:Pq w g d s c u m M R Lp Lk W)(hs:∀ i k,Pp g d s i k->w'.heap[k]?=w.heap[k]?):Pq w' g d s c u m M R Lp Lk W:=
 ⟨(hs 0 g rfl).trans h.bx,h.pl.same (hs 1 d.Bp rfl),h.ky.same (hs 2 d.Bk rfl),XB.same h.st fun k hk=>hs 3 k hk,h.hp.same fun k hk=>hs 4 k hk,h.sn.same fun k hk=>hs 5 k hk,h.ex.same fun k hk=>hs 6 k hk,h.Um⟩
theorem Pq.below (h:Pq w g d s c u m M R Lp Lk W)(hb:Below w.heap.size w w'):Pq w' g d s c u m M R Lp Lk W:=h.same fun i k hk=>hb.block k (h.inn i k hk)
theorem Pq.keep (h:Pq w g d s c u m M R Lp Lk W){i B:Nat}(hb:ZP B (Pp g d s i) w w'):∀ j k,j≠i->Pp g d s j k->w'.heap[k]?=w.heap[k]?:=fun j k hj hk=>hb.2 k (h.inn j k hk) fun hi=>hj (h.Um j i k hk hi)
theorem WU {B i:Nat}(hb:ZP B (Pp g d s i) w w'):ZP B (fun k=>∃ i,Pp g d s i k) w w':=hb.sub fun k hk=>⟨i,hk⟩
theorem Pq.up3 (h:Pq w g d s c u m M R Lp Lk W){B:Nat}{m2:Sm}(hU:Sl.nI d.gs B s.Ss m2 w w'):∃ s',Pq w' g d s' c u m2 M R Lp Lk W/\Xn B g d s w s' w':=by
 obtain⟨S',h1,h2,h3⟩:=hU;have hb:ZP B (Pp g d s 3) w w':=h3;have hk:=h.keep hb;have hsub:∀ i k,Pp g d { s with Ss:=S' } i k->Pp g d s i k∨(i=3/\w.heap.size<=k):=fun i k hi=>by
  match i,hi with
  | 0,hi=>exact .inl hi
  | 1,hi=>exact .inl hi
  | 2,hi=>exact .inl hi
  | 3,hi=>exact(h2 k hi).imp id fun q=>⟨rfl,q⟩
  | 4,hi=>exact .inl hi
  | 5,hi=>exact .inl hi
  | 6,hi=>exact .inl hi
 exact⟨{ s with Ss:=S' },⟨(hk 0 g (by decide) rfl).trans h.bx,h.pl.same (hk 1 d.Bp (by decide) rfl),h.ky.same (hk 2 d.Bk (by decide) rfl),h1,h.hp.same fun k q=>hk 4 k (by decide) q,h.sn.same fun k q=>hk 5 k (by decide) q,h.ex.same fun k q=>hk 6 k (by decide) q,Oi h.Um h.inn hsub⟩,fun i k q=>(hsub i k q).imp id And.right,WU hb⟩
theorem Pq.up4 (h:Pq w g d s c u m M R Lp Lk W){B:Nat}{M2:List Hp.It}(hU:Hp.Bq Hp.Vh d.gh B s.Sh M2 w w'):∃ s',Pq w' g d s' c u m M2 R Lp Lk W/\Xn B g d s w s' w':=by
 obtain⟨S',h1,h2,h3⟩:=hU;have hb:ZP B (Pp g d s 4) w w':=h3;have hk:=h.keep hb;have hsub:∀ i k,Pp g d { s with Sh:=S' } i k->Pp g d s i k∨(i=4/\w.heap.size<=k):=fun i k hi=>by
  match i,hi with
  | 0,hi=>exact .inl hi
  | 1,hi=>exact .inl hi
  | 2,hi=>exact .inl hi
  | 3,hi=>exact .inl hi
  | 4,hi=>exact(h2 k hi).imp id fun q=>⟨rfl,q⟩
  | 5,hi=>exact .inl hi
  | 6,hi=>exact .inl hi
 exact⟨{ s with Sh:=S' },⟨(hk 0 g (by decide) rfl).trans h.bx,h.pl.same (hk 1 d.Bp (by decide) rfl),h.ky.same (hk 2 d.Bk (by decide) rfl),XB.same h.st fun k q=>hk 3 k (by decide) q,h1,h.sn.same fun k q=>hk 5 k (by decide) q,h.ex.same fun k q=>hk 6 k (by decide) q,Oi h.Um h.inn hsub⟩,fun i k q=>(hsub i k q).imp id And.right,WU hb⟩
theorem Pq.up5 (h:Pq w g d s c u m M R Lp Lk W){B:Nat}{R2:List Sd.Rw}(hU:Sd.Kq d.gi B s.Si R2 w w'):∃ s',Pq w' g d s' c u m M R2 Lp Lk W/\Xn B g d s w s' w':=by
 obtain⟨S',h1,h2,h3⟩:=hU;have hb:ZP B (Pp g d s 5) w w':=h3;have hk:=h.keep hb;have hsub:∀ i k,Pp g d { s with Si:=S' } i k->Pp g d s i k∨(i=5/\w.heap.size<=k):=fun i k hi=>by
  match i,hi with
  | 0,hi=>exact .inl hi
  | 1,hi=>exact .inl hi
  | 2,hi=>exact .inl hi
  | 3,hi=>exact .inl hi
  | 4,hi=>exact .inl hi
  | 5,hi=>exact(h2 k hi).imp id fun q=>⟨rfl,q⟩
  | 6,hi=>exact .inl hi
 exact⟨{ s with Si:=S' },⟨(hk 0 g (by decide) rfl).trans h.bx,h.pl.same (hk 1 d.Bp (by decide) rfl),h.ky.same (hk 2 d.Bk (by decide) rfl),XB.same h.st fun k q=>hk 3 k (by decide) q,h.hp.same fun k q=>hk 4 k (by decide) q,h1,h.ex.same fun k q=>hk 6 k (by decide) q,Oi h.Um h.inn hsub⟩,fun i k q=>(hsub i k q).imp id And.right,WU hb⟩
theorem Pq.up6 (h:Pq w g d s c u m M R Lp Lk W){B:Nat}{W2:List Ex.Wt}(hU:Ex.J9 d.gq B s.Sq (c.getD 4 0) (c.getD 5 0) W2 w w'):∃ s',Pq w' g d s' c u m M R Lp Lk W2/\Xn B g d s w s' w':=by
 obtain⟨S',h1,h2,h3⟩:=hU;have hb:ZP B (Pp g d s 6) w w':=h3;have hk:=h.keep hb;have hsub:∀ i k,Pp g d { s with Sq:=S' } i k->Pp g d s i k∨(i=6/\w.heap.size<=k):=fun i k hi=>by
  match i,hi with
  | 0,hi=>exact .inl hi
  | 1,hi=>exact .inl hi
  | 2,hi=>exact .inl hi
  | 3,hi=>exact .inl hi
  | 4,hi=>exact .inl hi
  | 5,hi=>exact .inl hi
  | 6,hi=>exact(h2 k hi).imp id fun q=>⟨rfl,q⟩
 exact⟨{ s with Sq:=S' },⟨(hk 0 g (by decide) rfl).trans h.bx,h.pl.same (hk 1 d.Bp (by decide) rfl),h.ky.same (hk 2 d.Bk (by decide) rfl),XB.same h.st fun k q=>hk 3 k (by decide) q,h.hp.same fun k q=>hk 4 k (by decide) q,h.sn.same fun k q=>hk 5 k (by decide) q,h1,Oi h.Um h.inn hsub⟩,fun i k q=>(hsub i k q).imp id And.right,WU hb⟩
theorem Ym {r B:Nat}(hg:w.grownBy w' (some r))(hr:r<w.heap.size)(hB:B<=r):ZP B (fun k=>k=r) w w':=
 ⟨(Below.refl _ w).grown hg (Nat.le_trans hB (Nat.le_of_lt hr)) (fun j hj=>by cases hj; exact hB),fun k hk hn=>hg.5 k hk (by simpa using hn)⟩
theorem Pq.up1 (h:Pq w g d s c u m M R Lp Lk W){B:Nat}{L2:List El}(hM:MQ w' d.Bp L2)(hg:w.grownBy w' (some d.Bp))(hB:∀ i k,Pp g d s i k->B<=k):Pq w' g d s c u m M R L2 Lk W/\Xn B g d s w s w':=by
 have hb:ZP B (Pp g d s 1) w w':=Ym hg h.pl.lt (hB 1 _ rfl);have hk:=h.keep hb;exact⟨⟨(hk 0 g (by decide) rfl).trans h.bx,hM,h.ky.same (hk 2 d.Bk (by decide) rfl),XB.same h.st fun k q=>hk 3 k (by decide) q,h.hp.same fun k q=>hk 4 k (by decide) q,h.sn.same fun k q=>hk 5 k (by decide) q,h.ex.same fun k q=>hk 6 k (by decide) q,h.Um⟩,fun _ _ q=>.inl q,WU hb⟩
theorem Pq.up2 (h:Pq w g d s c u m M R Lp Lk W){B:Nat}{L2:List El}(hM:O9 w' d.Bk L2)(hg:w.grownBy w' (some d.Bk))(hB:∀ i k,Pp g d s i k->B<=k):Pq w' g d s c u m M R Lp L2 W/\Xn B g d s w s w':=by
 have hb:ZP B (Pp g d s 2) w w':=Ym hg h.ky.lt (hB 2 _ rfl);have hk:=h.keep hb;exact⟨⟨(hk 0 g (by decide) rfl).trans h.bx,h.pl.same (hk 1 d.Bp (by decide) rfl),hM,XB.same h.st fun k q=>hk 3 k (by decide) q,h.hp.same fun k q=>hk 4 k (by decide) q,h.sn.same fun k q=>hk 5 k (by decide) q,h.ex.same fun k q=>hk 6 k (by decide) q,h.Um⟩,fun _ _ q=>.inl q,WU hb⟩
theorem Pq.up0 (h:Pq w g d s c u m M R Lp Lk W){B:Nat}(hB:∀ i k,Pp g d s i k->B<=k)(v:Nat):∃ V,(Instr.storeAt 3 (Z7 g 12) (Z9 v)).run Tryz.prog w=.ok () V/\Pq V g d s c v m M R Lp Lk W/\Xn B g d s w s V:=by
 obtain⟨V,h1,h2,h3⟩:=Xm (i:=12) (v:=Z9 (v:Int)) (ty:=3) (O8 c v d) h.bx (by simp) rfl rfl (by kernel_rfl);have hb:ZP B (Pp g d s 0) w V:=⟨h3.1.mono (hB 0 g rfl),fun k hk hn=>h3.2 k hk hn⟩;have hk:=h.keep hb;exact⟨V,h1,⟨h2,h.pl.same (hk 1 d.Bp (by decide) rfl),h.ky.same (hk 2 d.Bk (by decide) rfl),XB.same h.st fun k q=>hk 3 k (by decide) q,h.hp.same fun k q=>hk 4 k (by decide) q,h.sn.same fun k q=>hk 5 k (by decide) q,h.ex.same fun k q=>hk 6 k (by decide) q,h.Um⟩,fun _ _ q=>.inl q,WU hb⟩
theorem Xn.low {B:Nat}{s':Ps}(h:Xn B g d s w s' w')(hB:∀ i k,Pp g d s i k->B<=k)(hw:B<=w.heap.size):(∀ i k,Pp g d s' i k->B<=k)/\B<=w'.heap.size:=
 ⟨fun i k q=>(h.sub i k q).elim (hB i k) (fun h1=>Nat.le_trans hw h1),Nat.le_trans hw h.but.1.size⟩
end
structure QZ (c:List Int):Prop where
 mt:1<=c.getD 0 0/\c.getD 0 0<=512
 mb:1<=c.getD 1 0/\c.getD 1 0<=1048576
 tb:0<=c.getD 4 0/\c.getD 4 0<=1073741824
 tt:0<=c.getD 5 0/\c.getD 5 0<=1073741824
 ok:Cg.PY c
 va:Cg.Ul c=0
theorem QZ.of {c:List Int}(ho:Cg.PY c)(hv:Cg.Ul c=0):QZ c:=by
 have key:∀ i,i<12->Cg.Ic c i:=fun i hi=>Classical.byContradiction fun h=>by rw[Cg.Jg hi h] at hv; cases hv
 have get:∀ i,i<12->i≠9->Cg.XM.getD i 0<=c.getD i 0/\c.getD i 0<=Cg.QO.getD i 0:=fun i hi h9=>(key i hi).elim (fun e=>absurd e h9) id;exact⟨get 0 (by decide) (by decide),get 1 (by decide) (by decide),get 4 (by decide) (by decide),get 5 (by decide) (by decide),ho,hv⟩
def qH (c:List Int):List Int:=if Cg.Ul c=0 then c else Cg.Vd
theorem QZ.dflt:QZ Cg.Vd:=QZ.of (by refine⟨rfl,.inl rfl,by decide,by decide,?_⟩; decide) (by decide)
theorem vC {c:List Int}(h:QZ c):qH c=c:=if_pos h.va
theorem QZ.mo {c:List Int}(h:QZ c):((newS (c.getD 0 0)).mo:Int)=c.getD 0 0:=by
 have:=h.mt;show((J8 (c.getD 0 0):Nat):Int)=_;unfold J8;omega
def Ib (w:World)(g:Nat)(S:Nat->Prop)(c:List Int)(u:Nat)(L:List El):Prop:=∃ d s m M R,Pq w g d s c u m M R L L (L.map Ox)/\PI c u m M R L/\QZ c/\∀ k,S k↔∃ i,Pp g d s i k
def YC (w:World)(g:Nat)(S:Nat->Prop)(c:List Int)(u:Nat)(E:List En):Prop:=∃ v L,v<=u/\eL L=E/\Ib w g S c v L
def PX (g B:Nat)(S:Nat->Prop)(c:List Int)(u:Nat)(E:List En)(w w':World):Prop:=∃ S',YC w' g S' c u E/\(∀ k,S' k->S k∨w.heap.size<=k)/\ZP B S w w'
section
variable {w w' : World} {g u : Nat} {S : Nat -> Prop} {c : List Int} {L : List El} {E : List En}
theorem Ib.inn (h:Ib w g S c u L):∀ k,S k->k<w.heap.size:=fun k hk=>by
 obtain⟨d,s,m,M,R,h1,-,-,h4⟩:=h;obtain⟨i,hi⟩:=(h4 k).1 hk;exact h1.inn i k hi
theorem Ib.same (h:Ib w g S c u L)(hs:∀ k,S k->w'.heap[k]?=w.heap[k]?):Ib w' g S c u L:=by
 obtain⟨d,s,m,M,R,h1,h2,h3,h4⟩:=h;exact⟨d,s,m,M,R,h1.same fun i k hk=>hs k ((h4 k).2 ⟨i,hk⟩),h2,h3,h4⟩
theorem YC.inn (h:YC w g S c u E):∀ k,S k->k<w.heap.size:=by
 obtain⟨v,L,-,-,h⟩:=h;exact h.inn
theorem YC.same (h:YC w g S c u E)(hs:∀ k,S k->w'.heap[k]?=w.heap[k]?):YC w' g S c u E:=by
 obtain⟨v,L,h1,h2,h⟩:=h;exact⟨v,L,h1,h2,h.same hs⟩
theorem YC.below (h:YC w g S c u E)(hb:Below w.heap.size w w'):YC w' g S c u E:=h.same fun k hk=>hb.block k (h.inn k hk)
theorem YC.mono (h:YC w g S c u E){v:Nat}(hv:u<=v):YC w g S c v E:=by
 obtain⟨x,L,h1,h2,h⟩:=h;exact⟨x,L,Nat.le_trans h1 hv,h2,h⟩
theorem YC.upd (h:YC w g S c u E)(hb:Below w.heap.size w w'){B:Nat}(hB:B<=w.heap.size):PX g B S c u E w w':=⟨S,h.below hb,fun k hk=>.inl hk,ZP.of_below hb hB⟩
theorem Xn.fin {B v:Nat}{d:Pd}{s s':Ps}{m:Sm}{M:List Hp.It}{R:List Sd.Rw}(hS:∀ k,S k↔∃ i,Pp g d s i k)(hs:Xn B g d s w s' w')(h1:Pq w' g d s' c v m M R L L (L.map Ox))(h2:PI c v m M R L)(h3:QZ c)(hv:v<=u):PX g B S c u (eL L) w w':=
 ⟨fun k=>∃ i,Pp g d s' i k,⟨v,L,hv,rfl,d,s',m,M,R,h1,h2,h3,fun k=>Iff.rfl⟩,fun k ⟨i,hi⟩=>(hs.sub i k hi).imp (fun q=>(hS k).2 ⟨i,q⟩) id,hs.but.sub fun k q=>(hS k).2 q⟩
end
end Go.Proofs.YtnelmomagdcmnaaGreat
namespace Go.Proofs.YtnelmomagdcmnaaGreat
attribute [local irreducible] wpList wpQuiet
open Go.RowKit
structure P5 (W W1 W2:World)(bA bS:Bool)(V:World):Prop where
 o:bS=true->bA=true
 is:V=bif bA then (bif bS then W2 else W1) else W.drew
 bel:Below W.heap.size W V
section
variable {W W1 W2 V : World} {bA bS : Bool}
theorem P5.start (W W1 W2:World):P5 W W1 W2 false false W.drew:=⟨fun h=>(by cases h),rfl,(Below.refl _ W).drew⟩
theorem P5.nA (h:P5 W W1 W2 false bS V):bS=false/\V=W.drew:=⟨SY h.o rfl,h.is⟩
theorem P5.sA (h:P5 W W1 W2 false false V)(hb:Below W.heap.size W W1):P5 W W1 W2 true false W1:=⟨fun _=>rfl,rfl,hb⟩
theorem P5.nS (h:P5 W W1 W2 true false V):V=W1:=h.is
theorem P5.sS (h:P5 W W1 W2 true false V)(hb:Below W.heap.size W W2):P5 W W1 W2 true true W2:=⟨fun _=>rfl,rfl,hb⟩
theorem P5.fin (h:P5 W W1 W2 true true V):V=W2:=h.is
end
theorem yc {w:World}{g:Nat}{S:Nat->Prop}{m:Sm}(h:Sl.XB w g S m):Calls Tryz.prog 50 #[Z7 g 0] w fun e w'=>e=.returned (Z9 (YO m.P))/\w=w':=by
 obtain⟨a,c,T,fr,h1,-,-⟩:=h;exact Sl.q_len h1.bx
theorem xZ {w:World}{g:Nat}{S:Nat->Prop}{m:Sm}(h:Sl.XB w g S m):Calls Tryz.prog 51 #[Z7 g 0] w fun e w'=>e=.returned (Z9 (Xw m.P))/\w=w':=by
 obtain⟨a,c,T,fr,h1,-,-⟩:=h;exact Sl.nK h1.bx
theorem FN {w:World}{g t:Nat}{x:El}(h:Bx w g (Uw x) t):(Instr.loadAt 104 (Z7 g 0)).run Tryz.prog w=.ok (.agg (hnA x.h)) w:=
 UU (x:=x.h) (fun j v hv=>(ZV (cs:=hnl x.h++[Z9 x.n]) h) j v (by rw[List.getElem?_append_left (List.getElem?_eq_some_iff.1 hv).1]; exact hv))
theorem vJ {w:World}{g u:Nat}{d:Pd}{s:Ps}{c:List Int}{m:Sm}{M:List Hp.It}{R:List Sd.Rw}{L:List El}{W:List Ex.Wt}(h:Pq w g d s c u m M R L L W)(hi:PI c u m M R L):Calls Tryz.prog 24 #[Z7 g 0] w fun e w'=>e=.returned (Z9 ((eL L).length:Nat))/\w=w':=by
 have hX:=h.bx;have CS:=yc h.st;rw[hi.cnt,<- SQ] at CS;obtain⟨n,hn⟩:=ZR ((eL L).length);rw[hn] at CS ⊢;clear h hi hn;go_enter Tryz.func24,Tryz.ntmps24;go_upto_region 1 with fail;refine wl<|ZA (Z7 g 0) ZW<|wn ?_;simp only[pu];go_upto_region 3 with fail;refine wl<|YU (Z7 g 0) (Z7 g 0) (Z7 g 15)<|Zq rfl ⟨g,15,none⟩ (Z7 d.gs 0) ((hX).ZL 15)<|Yd (Z9 n) (fun w'=>w=w') (CS) (fun V9 X9=>?_);subst X9;refine ZN (Z9 n)<|wn ?_;simp only[pu];clear hX CS;go_wp2_with fail;go_ret;exact⟨rfl,rfl⟩
theorem vI (w:World):Calls Tryz.prog 24 #[.pointer none] w fun e w'=>e=.returned (Z9 0)/\w=w':=by
 go_enter Tryz.func24,Tryz.ntmps24;go_upto_region 1 with fail;refine wl<|ZA (.pointer none) ZT<|wn ?_;simp only[pu];go_upto_region 2 with fail;refine wl<|ZN (Z9 0)<|wn ?_;simp only[pu];go_wp2_with fail;go_ret;exact⟨rfl,rfl⟩
theorem vG {w:World}{g u:Nat}{d:Pd}{s:Ps}{c:List Int}{m:Sm}{M:List Hp.It}{R:List Sd.Rw}{L:List El}{W:List Ex.Wt}(h:Pq w g d s c u m M R L L W)(hi:PI c u m M R L):Calls Tryz.prog 25 #[Z7 g 0] w fun e w'=>e=.returned (Z9 (WX (eL L):Nat))/\w=w':=by
 have hX:=h.bx;have CS:=xZ h.st;rw[hi.nN] at CS;obtain⟨n,hn⟩:=ZR (WX (eL L));rw[hn] at CS ⊢;clear h hi hn;go_enter Tryz.func25,Tryz.ntmps25;go_upto_region 1 with fail;refine wl<|ZA (Z7 g 0) ZW<|wn ?_;simp only[pu];go_upto_region 3 with fail;refine wl<|YU (Z7 g 0) (Z7 g 0) (Z7 g 15)<|Zq rfl ⟨g,15,none⟩ (Z7 d.gs 0) ((hX).ZL 15)<|Yd (Z9 n) (fun w'=>w=w') (CS) (fun V9 X9=>?_);subst X9;refine ZN (Z9 n)<|wn ?_;simp only[pu];clear hX CS;go_wp2_with fail;go_ret;exact⟨rfl,rfl⟩
theorem vF (w:World):Calls Tryz.prog 25 #[.pointer none] w fun e w'=>e=.returned (Z9 0)/\w=w':=by
 go_enter Tryz.func25,Tryz.ntmps25;go_upto_region 1 with fail;refine wl<|ZA (.pointer none) ZT<|wn ?_;simp only[pu];go_upto_region 2 with fail;refine wl<|ZN (Z9 0)<|wn ?_;simp only[pu];go_wp2_with fail;go_ret;exact⟨rfl,rfl⟩
theorem YC.fH {w:World}{g u:Nat}{S:Nat->Prop}{c:List Int}{E:List En}(h:YC w g S c u E):Calls Tryz.prog 24 #[Z7 g 0] w fun e w'=>e=.returned (Z9 E.length)/\w=w':=by
 obtain⟨v,L,-,rfl,d,s,m,M,R,h1,h2,-⟩:=h;exact vJ h1 h2
theorem YC.fG {w:World}{g u:Nat}{S:Nat->Prop}{c:List Int}{E:List En}(h:YC w g S c u E):Calls Tryz.prog 25 #[Z7 g 0] w fun e w'=>e=.returned (Z9 (WX E))/\w=w':=by
 obtain⟨v,L,-,rfl,d,s,m,M,R,h1,h2,-⟩:=h;exact vG h1 h2
structure KG (g4:Nat)(E:En)(b6 b7 b9:Bool)(x y:Value)(W V:World):Prop where
 but:But g4 W V
 o7:b7=true->b6=true
 o9:b9=true->b7=true
 b4:∃ cs,cs.size=41/\Bx V g4 cs 52
 cl:b6=true->∃ d,x=.tuple #[.agg (ZQ E d),ZT]/\XT V W.heap.size E d/\(b7=true->y=.agg (ZQ E d))/\(b9=true->Bx V g4 (ZQ E d) 52)
section
variable {g4 : Nat} {E : En} {b6 b7 b9 : Bool} {x y : Value} {W V V2 : World} {d : Ad}
theorem XT.base {w:World}{B B2:Nat}{e:En}{d:Ad}(h:XT w B e d)(hB:B2<=B):XT w B2 e d:=⟨own_base h.r hB,own_base h.p hB⟩
theorem XT.but {w w':World}{B g:Nat}{e:En}{d:Ad}(h:XT w B e d)(hb:But g w w')(hg:g<B):XT w' B e d:=
 ⟨Zo h.r hb fun y hy=>by have:=(h.r.lt y.block (by rw[hy]; rfl)).1; omega,Zo h.p hb fun y hy=>by have:=(h.p.lt y.block (by rw[hy]; rfl)).1; omega⟩
theorem KG.start (x y:Value)(h:Bx W g4 (ZQ Zf YW) 52):KG g4 E false false false x y W W.drew:=⟨⟨(Below.refl _ W).drew,fun _ _ _=>rfl⟩,(fun e=>nomatch e),(fun e=>nomatch e),⟨_,rfl,h.below h.lt ((Below.refl _ W).drew)⟩,(fun e=>nomatch e)⟩
theorem KG.n6 (h:KG g4 E false b7 b9 x y W V):b7=false/\b9=false:=by
 obtain rfl:=SY h.o7 rfl;obtain rfl:=SY h.o9 rfl;exact⟨rfl,rfl⟩
theorem KG.s6 (h:KG g4 E false false false x y W V)(hw:XT V2 V.heap.size E d)(hb:Below V.heap.size V V2):KG g4 E true false false (.tuple #[.agg (ZQ E d),ZT]) y W V2:=by
 obtain⟨cs,hz,h4⟩:=h.b4;exact⟨h.but.trans (But.of_below hb (Nat.le_of_lt h4.lt)),fun _=>rfl,(fun e=>nomatch e),⟨cs,hz,h4.below h4.lt hb⟩,fun _=>⟨d,rfl,hw.base h.but.1.size,(fun e=>nomatch e),(fun e=>nomatch e)⟩⟩
theorem KG.n7 (h:KG g4 E true false b9 x y W V):b9=false:=SY h.o9 rfl
theorem KG.v7 (h:KG g4 E true b7 b9 x y W V):∃ d,x=.tuple #[.agg (ZQ E d),ZT]:=by
 obtain⟨d,e1,-⟩:=h.cl rfl;exact⟨d,e1⟩
theorem KG.s7 (h:KG g4 E true false false (.tuple #[.agg (ZQ E d),ZT]) y W V):KG g4 E true true false (.tuple #[.agg (ZQ E d),ZT]) (.agg (ZQ E d)) W V:=by
 obtain⟨d2,e1,h1,-,-⟩:=h.cl rfl;refine { h with o7:=fun _=>rfl,o9:=(fun e=>nomatch e),cl:=fun _=>⟨d2,e1,h1,fun _=>?_,(fun e=>nomatch e)⟩ };simp only[Value.tuple.injEq,Array.mk.injEq,List.cons.injEq] at e1;exact e1.1
theorem KG.s9 (h:KG g4 E true true false x y W V)(hg:g4<W.heap.size):∃ V2,(Instr.storeAt 52 (Z7 g4 0) y).run Tryz.prog V=.ok () V2/\KG g4 E true true true x y W V2:=by
 obtain⟨d,e1,h1,h3,-⟩:=h.cl rfl;obtain⟨cs,hz,h4⟩:=h.b4;obtain⟨V2,hst,hX,hbt⟩:=st_all (cs':=ZQ E d) (ty:=52) h4 (by rw[hz]; rfl) (Y3 E d) (by kernel_rfl);exact⟨V2,by rw[h3 rfl]; exact hst,h.but.trans hbt,fun _=>rfl,fun _=>rfl,⟨_,rfl,hX⟩,fun _=>⟨d,e1,h1.but hbt hg,fun _=>h3 rfl,fun _=>hX⟩⟩
end
theorem oM {w:World}{g u:Nat}{d:Pd}{s:Ps}{c:List Int}{m:Sm}{M:List Hp.It}{R:List Sd.Rw}{L:List El}{W:List Ex.Wt}(h:Pq w g d s c u m M R L L W)(hi:PI c u m M R L)(k:Nat->Int)(hf:Ve k L=none):Calls Tryz.prog 21 #[Z7 g 0,.agg (Y4 k)] w fun e w'=>e=.returned (.tuple #[.agg (ZQ Zf YW),ZW])/\Below w.heap.size w w':=by
 have RJ:Hid (∀ U,Below w.heap.size w U->Bx U g (O8 c u d) 95):=Z8 fun U hU=>(h.below hU).bx;have Ux:Hid (∀ U,Below w.heap.size w U->(Instr.lookup 89 (.map (some d.Bp)) (.agg (Y4 k)) true).run Tryz.prog U=.ok (.tuple #[.agg Ru,ZW]) U):=Z8 fun U hU=>by
  have:=(h.below hU).pl.look k true;rw[hf] at this;exact this
 clear h hi hf;go_enter Tryz.func21,Tryz.ntmps21;go_upto_region 1 with fail;change Code.wp _ _ _ _ ((w.alloc (.cells (Y4 k) 38)).alloc (.cells (ZQ Zf YW) 52));have Zn:Below w.heap.size w (w.alloc (.cells (Y4 k) 38)):=(Below.refl _ w).alloc (Nat.le_refl _) _;have Ze:Bx (w.alloc (.cells (Y4 k) 38)) w.heap.size (Y4 k) 38:=heap_alloc_last w _;have Yq:(w.alloc (.cells (Y4 k) 38)).heap.size=w.heap.size+1:=by simp
 generalize w.alloc (.cells (Y4 k) 38)=Yw at *
 have WV:Below w.heap.size w (Yw.alloc (.cells (ZQ Zf YW) 52)):=Zn.alloc Zn.size _;have Ze:=Ze.below Ze.lt ((Below.refl _ Yw).alloc (Nat.le_refl _) (.cells (ZQ Zf YW) 52));have VH:Bx (Yw.alloc (.cells (ZQ Zf YW) 52)) Yw.heap.size (ZQ Zf YW) 52:=heap_alloc_last Yw _;have Uj:(Yw.alloc (.cells (ZQ Zf YW) 52)).heap.size=Yw.heap.size+1:=by simp
 generalize Yw.alloc (.cells (ZQ Zf YW) 52)=W at *
 obtain⟨g3,hg3⟩:=ZR w.heap.size;rw[hg3] at Ze;obtain⟨g4,hg4⟩:=ZR Yw.heap.size;rw[hg4] at VH;have hq1:w.heap.size+1=g4:=by omega
 have WG:Hid (g3=w.heap.size+0/\g4=w.heap.size+1/\W.heap.size=w.heap.size+2):=Z8 ⟨by omega,by omega,by omega⟩;have HB:=Z8 WV;simp only[hg3];try simp only[show g3+1=g4 by omega]
 clear Zn Yq hg3 WV Uj hg4 hq1;refine wl<|ZA (Z7 g 0) ZW<|wn ?_;simp only[pu];go_upto_region 3 with fail;obtain⟨V2,YB,Yi,U9⟩:=YQ (c:=#[Z9 0,Z9 0,Z9 0]) (c':=Ru) (ty:=106) W.drew rfl (by kernel_rfl) (by kernel_rfl);have Yi:Below W.heap.size W V2:=((Below.refl _ W).drew).trans Yi;have h0:=P5.start W (W.drew.alloc (.cells (#[Z9 0,Z9 0,Z9 0]) 106)) V2;refine ZI (fun listed Zr V=>∃ b0 b1 b2 b3 b4 b5 b6 b7 b8 b9 b10 b11:Bool,listed=#[b0,b1,b2,b3,b4,b5,b6,b7,b8,b9,b10,b11]/\Zr={ tmps:=#[Z7 g 0,.agg (Y4 k),undef,Z7 g3 0,Z7 g4 0,ZW,(cond b9 (Z7 W.drew.heap.size 0) undef),(cond b11 ZW undef),Z7 g 0,ZW,undef,(cond b6 (.tuple #[.agg Ru,ZW]) undef),(cond b0 (Z7 g 0) undef),(cond b1 (Z7 g 0) undef),(cond b2 (Z7 g 13) undef),(cond b3 (.map (some d.Bp)) undef),(cond b4 (.agg (Y4 k)) undef),(cond b5 (.tuple #[.agg Ru,ZW]) undef),(cond b7 (.agg Ru) undef),(cond b8 ZW undef),undef,undef,undef,undef,undef,undef,undef,undef,undef,undef,undef,undef],defers:=[] }/\P5 W (W.drew.alloc (.cells (#[Z9 0,Z9 0,Z9 0]) 106)) V2 b9 b10 V) (by kernel_rfl) (by kernel_rfl) ?_ ?_ ?_
 ·exact⟨_,_,_,_,_,_,_,_,_,_,_,_,rfl,rfl,h0⟩
 ·intro i9 listed Zr V hi9 hr hJ;obtain⟨b0,b1,b2,b3,b4,b5,b6,b7,b8,b9,b10,b11,rfl,rfl,hF⟩:=hJ;have hi2:i9<12:=hi9;have hi3:i9=0∨i9=1∨i9=2∨i9=3∨i9=4∨i9=5∨i9=6∨i9=7∨i9=8∨i9=9∨i9=10∨i9=11:=by omega
  rcases hi3 with rfl | rfl | rfl | rfl | rfl | rfl | rfl | rfl | rfl | rfl | rfl | rfl
  ·obtain rfl:b0=false:=Z5 hr;refine ZX rfl (by kernel_rfl) (some 12) rfl (Z7 g 0) V (by kernel_rfl) ?_;exact⟨_,_,_,_,_,_,_,_,_,_,_,_,rfl,rfl,hF⟩
  ·obtain rfl:b1=false:=Z5 hr;obtain rfl:b0=true:=Z4 hr 0;refine ZX rfl (by kernel_rfl) (some 13) rfl (Z7 g 0) V (by kernel_rfl) ?_;exact⟨_,_,_,_,_,_,_,_,_,_,_,_,rfl,rfl,hF⟩
  ·obtain rfl:b2=false:=Z5 hr;obtain rfl:b1=true:=Z4 hr 1;refine ZX rfl (by kernel_rfl) (some 14) rfl (Z7 g 13) V (by kernel_rfl) ?_;exact⟨_,_,_,_,_,_,_,_,_,_,_,_,rfl,rfl,hF⟩
  ·obtain rfl:b3=false:=Z5 hr;obtain rfl:b2=true:=Z4 hr 2;refine ZJ rfl (by kernel_rfl) (some 15) rfl 89 (.tmp 14) rfl ⟨g,13,none⟩ (.map (some d.Bp)) (by kernel_rfl) ((RJ.out V (HB.out.trans (hF.bel.mono HB.out.size))).ZL 13) ?_;exact⟨_,_,_,_,_,_,_,_,_,_,_,_,rfl,rfl,hF⟩
  ·obtain rfl:b4=false:=Z5 hr;refine ZJ rfl (by kernel_rfl) (some 16) rfl 38 (.tmp 3) rfl ⟨g3,0,none⟩ (.agg (Y4 k)) (by kernel_rfl) (Ov (Ze.below Ze.lt hF.bel)) ?_;exact⟨_,_,_,_,_,_,_,_,_,_,_,_,rfl,rfl,hF⟩
  ·obtain rfl:b5=false:=Z5 hr;obtain rfl:b3=true:=Z4 hr 3;obtain rfl:b4=true:=Z4 hr 4;refine ZX rfl (by kernel_rfl) (some 17) rfl (.tuple #[.agg Ru,ZW]) V (Ex.Yy 89 (.tmp 15) (.tmp 16) true rfl (.map (some d.Bp)) (.agg (Y4 k)) _ (by kernel_rfl) (by kernel_rfl) (Ux.out V (HB.out.trans (hF.bel.mono HB.out.size)))) ?_;exact⟨_,_,_,_,_,_,_,_,_,_,_,_,rfl,rfl,hF⟩
  ·obtain rfl:b6=false:=Z5 hr;obtain rfl:b5=true:=Z4 hr 5;refine ZX rfl (by kernel_rfl) (some 11) rfl (.tuple #[.agg Ru,ZW]) V (by kernel_rfl) ?_;exact⟨_,_,_,_,_,_,_,_,_,_,_,_,rfl,rfl,hF⟩
  ·obtain rfl:b7=false:=Z5 hr;obtain rfl:b6=true:=Z4 hr 6;refine ZX rfl (by kernel_rfl) (some 18) rfl (.agg Ru) V (by kernel_rfl) ?_;exact⟨_,_,_,_,_,_,_,_,_,_,_,_,rfl,rfl,hF⟩
  ·obtain rfl:b8=false:=Z5 hr;obtain rfl:b6=true:=Z4 hr 6;refine ZX rfl (by kernel_rfl) (some 19) rfl ZW V (by kernel_rfl) ?_;exact⟨_,_,_,_,_,_,_,_,_,_,_,_,rfl,rfl,hF⟩
  ·obtain rfl:b9=false:=Z5 hr;obtain⟨rfl,rfl⟩:=hF.nA;refine ZX rfl (by kernel_rfl) (some 6) rfl (Z7 W.drew.heap.size 0) (W.drew.alloc (.cells (#[Z9 0,Z9 0,Z9 0]) 106)) (by kernel_rfl) ?_;exact⟨_,_,_,_,_,_,_,_,_,_,_,_,rfl,rfl,hF.sA (((Below.refl _ W).drew).alloc (Nat.le_refl _) _)⟩
  ·obtain rfl:b10=false:=Z5 hr;obtain rfl:b7=true:=Z4 hr 7;obtain rfl:b9=true:=Z4 hr 9;obtain rfl:=hF.nS;refine Zb rfl (by kernel_rfl) rfl 106 (.tmp 6) (.tmp 18) rfl (Z7 W.drew.heap.size 0) (.agg (Ru)) (by kernel_rfl) (by kernel_rfl) V2 YB ?_;exact⟨_,_,_,_,_,_,_,_,_,_,_,_,rfl,rfl,hF.sS Yi⟩
  ·obtain rfl:b11=false:=Z5 hr;obtain rfl:b8=true:=Z4 hr 8;refine ZX rfl (by kernel_rfl) (some 7) rfl ZW V (by kernel_rfl) ?_;exact⟨_,_,_,_,_,_,_,_,_,_,_,_,rfl,rfl,hF⟩
 ·intro Zr V hJ;obtain⟨b0,b1,b2,b3,b4,b5,b6,b7,b8,b9,b10,b11,he,rfl,hF⟩:=hJ;have he:(#[true,true,true,true,true,true,true,true,true,true,true,true]:Array Bool)=#[b0,b1,b2,b3,b4,b5,b6,b7,b8,b9,b10,b11]:=he;simp only[Array.mk.injEq,List.cons.injEq,and_true] at he;obtain⟨rfl,rfl,rfl,rfl,rfl,rfl,rfl,rfl,rfl,rfl,rfl,rfl⟩:=he;simp only[cond_true];obtain rfl:=hF.fin.symm;clear hF h0 YB;obtain⟨g6,SN⟩:=ZR W.drew.heap.size;rw[SN] at U9;simp only[SN];have dX:W.heap.size<=g6:=by rw[<- SN]; exact Nat.le_refl _
  clear SN;go_upto_region 4 with fail;refine wl<|ZA ZW ZT<|wn ?_;simp only[pu];obtain⟨V3,hst3,xW,XA⟩:=st_all (cs':=ZQ Zf YW) (ty:=52) (VH.below VH.lt Yi) rfl (Y3 _ _) (by kernel_rfl);have HE:Hid (Below w.heap.size w V3):=Z8 ((HB.out.trans (Yi.mono HB.out.size)).trans (XA.1.mono (by have:=WG.out; omega)));clear XA Yi Ze VH U9;go_upto_region 5 with fail;refine wl<|ZN (.agg (ZQ Zf YW))<|WC rfl (hst3)<|ZN ZW<|wn ?_;simp only[pu];go_wp2_with fail;exact bodyPost_ret (XI rfl (by kernel_rfl) (ZC (ZV xW)) (by kernel_rfl)) rfl ⟨rfl,HE.out⟩
theorem Gg {w:World}{g u:Nat}{d:Pd}{s:Ps}{c:List Int}{m:Sm}{M:List Hp.It}{R:List Sd.Rw}{L:List El}{W:List Ex.Wt}(h:Pq w g d s c u m M R L L W)(hi:PI c u m M R L)(k:Nat->Int){x:El}(hf:Ve k L=some x):Calls Tryz.prog 21 #[Z7 g 0,.agg (Y4 k)] w fun e w'=>∃ d2,e=.returned (.tuple #[.agg (ZQ x.e d2),ZT])/\XT w' w.heap.size x.e d2/\Below w.heap.size w w':=by
 have RJ:Hid (∀ U,Below w.heap.size w U->Bx U g (O8 c u d) 95):=Z8 fun U hU=>(h.below hU).bx;have Ux:Hid (∀ U,Below w.heap.size w U->(Instr.lookup 89 (.map (some d.Bp)) (.agg (Y4 k)) true).run Tryz.prog U=.ok (.tuple #[.agg (Uw x),ZT]) U):=Z8 fun U hU=>by
  have:=(h.below hU).pl.look k true;rw[hf] at this;exact this
 have HST:Hid (∀ U,Below w.heap.size w U->Calls Tryz.prog 47 #[Z7 d.gs 0,.agg (hnA x.h)] U fun r w'=>∃ d2,r=.returned (.tuple #[.agg (ZQ x.e d2),ZT])/\XT w' U.heap.size x.e d2/\Below U.heap.size U w'):=Z8 fun U hU=>by
  have h1:=Sl.nJ x.h (h.below hU).st hi.wm;have h2:=hi.st.v x (SI hf).1;rw[h2.1,h2.2] at h1;exact h1
 have fB:Hid (g<w.heap.size):=Z8 h.bx.lt;clear h hi hf;go_enter Tryz.func21,Tryz.ntmps21;go_upto_region 1 with fail;change Code.wp _ _ _ _ ((w.alloc (.cells (Y4 k) 38)).alloc (.cells (ZQ Zf YW) 52));have Zn:Below w.heap.size w (w.alloc (.cells (Y4 k) 38)):=(Below.refl _ w).alloc (Nat.le_refl _) _;have Ze:Bx (w.alloc (.cells (Y4 k) 38)) w.heap.size (Y4 k) 38:=heap_alloc_last w _;have Yq:(w.alloc (.cells (Y4 k) 38)).heap.size=w.heap.size+1:=by simp
 generalize w.alloc (.cells (Y4 k) 38)=Yw at *
 have WV:Below w.heap.size w (Yw.alloc (.cells (ZQ Zf YW) 52)):=Zn.alloc Zn.size _;have Ze:=Ze.below Ze.lt ((Below.refl _ Yw).alloc (Nat.le_refl _) (.cells (ZQ Zf YW) 52));have VH:Bx (Yw.alloc (.cells (ZQ Zf YW) 52)) Yw.heap.size (ZQ Zf YW) 52:=heap_alloc_last Yw _;have Uj:(Yw.alloc (.cells (ZQ Zf YW) 52)).heap.size=Yw.heap.size+1:=by simp
 generalize Yw.alloc (.cells (ZQ Zf YW) 52)=W at *
 obtain⟨g3,hg3⟩:=ZR w.heap.size;rw[hg3] at Ze;obtain⟨g4,hg4⟩:=ZR Yw.heap.size;rw[hg4] at VH;have hq1:w.heap.size+1=g4:=by omega
 have WG:Hid (g3=w.heap.size+0/\g4=w.heap.size+1/\W.heap.size=w.heap.size+2):=Z8 ⟨by omega,by omega,by omega⟩;have HB:=Z8 WV;simp only[hg3];try simp only[show g3+1=g4 by omega]
 clear Zn Yq hg3 WV Uj hg4 hq1;refine wl<|ZA (Z7 g 0) ZW<|wn ?_;simp only[pu];go_upto_region 3 with fail;obtain⟨V2,YB,Yi,U9⟩:=YQ (c:=#[Z9 0,Z9 0,Z9 0]) (c':=Uw x) (ty:=106) W.drew rfl (by kernel_rfl) (by kernel_rfl);have Yi:Below W.heap.size W V2:=((Below.refl _ W).drew).trans Yi;have h0:=P5.start W (W.drew.alloc (.cells (#[Z9 0,Z9 0,Z9 0]) 106)) V2;refine ZI (fun listed Zr V=>∃ b0 b1 b2 b3 b4 b5 b6 b7 b8 b9 b10 b11:Bool,listed=#[b0,b1,b2,b3,b4,b5,b6,b7,b8,b9,b10,b11]/\Zr={ tmps:=#[Z7 g 0,.agg (Y4 k),undef,Z7 g3 0,Z7 g4 0,ZW,(cond b9 (Z7 W.drew.heap.size 0) undef),(cond b11 ZT undef),Z7 g 0,ZW,undef,(cond b6 (.tuple #[.agg (Uw x),ZT]) undef),(cond b0 (Z7 g 0) undef),(cond b1 (Z7 g 0) undef),(cond b2 (Z7 g 13) undef),(cond b3 (.map (some d.Bp)) undef),(cond b4 (.agg (Y4 k)) undef),(cond b5 (.tuple #[.agg (Uw x),ZT]) undef),(cond b7 (.agg (Uw x)) undef),(cond b8 ZT undef),undef,undef,undef,undef,undef,undef,undef,undef,undef,undef,undef,undef],defers:=[] }/\P5 W (W.drew.alloc (.cells (#[Z9 0,Z9 0,Z9 0]) 106)) V2 b9 b10 V) (by kernel_rfl) (by kernel_rfl) ?_ ?_ ?_
 ·exact⟨_,_,_,_,_,_,_,_,_,_,_,_,rfl,rfl,h0⟩
 ·intro i9 listed Zr V hi9 hr hJ;obtain⟨b0,b1,b2,b3,b4,b5,b6,b7,b8,b9,b10,b11,rfl,rfl,hF⟩:=hJ;have hi2:i9<12:=hi9;have hi3:i9=0∨i9=1∨i9=2∨i9=3∨i9=4∨i9=5∨i9=6∨i9=7∨i9=8∨i9=9∨i9=10∨i9=11:=by omega
  rcases hi3 with rfl | rfl | rfl | rfl | rfl | rfl | rfl | rfl | rfl | rfl | rfl | rfl
  ·obtain rfl:b0=false:=Z5 hr;refine ZX rfl (by kernel_rfl) (some 12) rfl (Z7 g 0) V (by kernel_rfl) ?_;exact⟨_,_,_,_,_,_,_,_,_,_,_,_,rfl,rfl,hF⟩
  ·obtain rfl:b1=false:=Z5 hr;obtain rfl:b0=true:=Z4 hr 0;refine ZX rfl (by kernel_rfl) (some 13) rfl (Z7 g 0) V (by kernel_rfl) ?_;exact⟨_,_,_,_,_,_,_,_,_,_,_,_,rfl,rfl,hF⟩
  ·obtain rfl:b2=false:=Z5 hr;obtain rfl:b1=true:=Z4 hr 1;refine ZX rfl (by kernel_rfl) (some 14) rfl (Z7 g 13) V (by kernel_rfl) ?_;exact⟨_,_,_,_,_,_,_,_,_,_,_,_,rfl,rfl,hF⟩
  ·obtain rfl:b3=false:=Z5 hr;obtain rfl:b2=true:=Z4 hr 2;refine ZJ rfl (by kernel_rfl) (some 15) rfl 89 (.tmp 14) rfl ⟨g,13,none⟩ (.map (some d.Bp)) (by kernel_rfl) ((RJ.out V (HB.out.trans (hF.bel.mono HB.out.size))).ZL 13) ?_;exact⟨_,_,_,_,_,_,_,_,_,_,_,_,rfl,rfl,hF⟩
  ·obtain rfl:b4=false:=Z5 hr;refine ZJ rfl (by kernel_rfl) (some 16) rfl 38 (.tmp 3) rfl ⟨g3,0,none⟩ (.agg (Y4 k)) (by kernel_rfl) (Ov (Ze.below Ze.lt hF.bel)) ?_;exact⟨_,_,_,_,_,_,_,_,_,_,_,_,rfl,rfl,hF⟩
  ·obtain rfl:b5=false:=Z5 hr;obtain rfl:b3=true:=Z4 hr 3;obtain rfl:b4=true:=Z4 hr 4;refine ZX rfl (by kernel_rfl) (some 17) rfl (.tuple #[.agg (Uw x),ZT]) V (Ex.Yy 89 (.tmp 15) (.tmp 16) true rfl (.map (some d.Bp)) (.agg (Y4 k)) _ (by kernel_rfl) (by kernel_rfl) (Ux.out V (HB.out.trans (hF.bel.mono HB.out.size)))) ?_;exact⟨_,_,_,_,_,_,_,_,_,_,_,_,rfl,rfl,hF⟩
  ·obtain rfl:b6=false:=Z5 hr;obtain rfl:b5=true:=Z4 hr 5;refine ZX rfl (by kernel_rfl) (some 11) rfl (.tuple #[.agg (Uw x),ZT]) V (by kernel_rfl) ?_;exact⟨_,_,_,_,_,_,_,_,_,_,_,_,rfl,rfl,hF⟩
  ·obtain rfl:b7=false:=Z5 hr;obtain rfl:b6=true:=Z4 hr 6;refine ZX rfl (by kernel_rfl) (some 18) rfl (.agg (Uw x)) V (by kernel_rfl) ?_;exact⟨_,_,_,_,_,_,_,_,_,_,_,_,rfl,rfl,hF⟩
  ·obtain rfl:b8=false:=Z5 hr;obtain rfl:b6=true:=Z4 hr 6;refine ZX rfl (by kernel_rfl) (some 19) rfl ZT V (by kernel_rfl) ?_;exact⟨_,_,_,_,_,_,_,_,_,_,_,_,rfl,rfl,hF⟩
  ·obtain rfl:b9=false:=Z5 hr;obtain⟨rfl,rfl⟩:=hF.nA;refine ZX rfl (by kernel_rfl) (some 6) rfl (Z7 W.drew.heap.size 0) (W.drew.alloc (.cells (#[Z9 0,Z9 0,Z9 0]) 106)) (by kernel_rfl) ?_;exact⟨_,_,_,_,_,_,_,_,_,_,_,_,rfl,rfl,hF.sA (((Below.refl _ W).drew).alloc (Nat.le_refl _) _)⟩
  ·obtain rfl:b10=false:=Z5 hr;obtain rfl:b7=true:=Z4 hr 7;obtain rfl:b9=true:=Z4 hr 9;obtain rfl:=hF.nS;refine Zb rfl (by kernel_rfl) rfl 106 (.tmp 6) (.tmp 18) rfl (Z7 W.drew.heap.size 0) (.agg (Uw x)) (by kernel_rfl) (by kernel_rfl) V2 YB ?_;exact⟨_,_,_,_,_,_,_,_,_,_,_,_,rfl,rfl,hF.sS Yi⟩
  ·obtain rfl:b11=false:=Z5 hr;obtain rfl:b8=true:=Z4 hr 8;refine ZX rfl (by kernel_rfl) (some 7) rfl ZT V (by kernel_rfl) ?_;exact⟨_,_,_,_,_,_,_,_,_,_,_,_,rfl,rfl,hF⟩
 ·intro Zr V hJ;obtain⟨b0,b1,b2,b3,b4,b5,b6,b7,b8,b9,b10,b11,he,rfl,hF⟩:=hJ;have he:(#[true,true,true,true,true,true,true,true,true,true,true,true]:Array Bool)=#[b0,b1,b2,b3,b4,b5,b6,b7,b8,b9,b10,b11]:=he;simp only[Array.mk.injEq,List.cons.injEq,and_true] at he;obtain⟨rfl,rfl,rfl,rfl,rfl,rfl,rfl,rfl,rfl,rfl,rfl,rfl⟩:=he;simp only[cond_true];obtain rfl:=hF.fin.symm;clear hF h0 YB;obtain⟨g6,SN⟩:=ZR W.drew.heap.size;rw[SN] at U9;simp only[SN];have dX:W.heap.size<=g6:=by rw[<- SN]; exact Nat.le_refl _
  clear SN;go_upto_region 4 with fail;refine wl<|ZA ZT ZW<|wn ?_;simp only[pu];have SK:=Z8 (HB.out.trans (Yi.mono HB.out.size));have h4:=VH.below VH.lt Yi;have h0:=KG.start (E:=x.e) undef undef h4;have H4:Hid (g4<V2.heap.size/\g6≠g4/\w.heap.size<=g4):=Z8 ⟨h4.lt,by have:=WG.out; omega,by have:=WG.out; omega⟩;have O5:=Z8 U9;clear Yi Ze VH U9 h4 Ux;go_upto_region 6 with fail;refine ZI (fun listed Zr V=>∃ b0 b1 b2 b3 b4 b5 b6 b7 b8 b9 b10:Bool,∃ x29 x30:Value,listed=#[b0,b1,b2,b3,b4,b5,b6,b7,b8,b9,b10]/\Zr={ tmps:=#[Z7 g 0,.agg (Y4 k),undef,Z7 g3 0,Z7 g4 0,(cond b10 ZT ZW),Z7 g6 0,ZT,Z7 g 0,ZW,undef,.tuple #[.agg (Uw x),ZT],Z7 g 0,Z7 g 0,Z7 g 13,.map (some d.Bp),.agg (Y4 k),.tuple #[.agg (Uw x),ZT],.agg (Uw x),ZT,ZT,ZW,undef,(cond b0 (Z7 g 0) undef),(cond b1 (Z7 g 0) undef),(cond b2 (Z7 g 15) undef),(cond b3 (Z7 d.gs 0) undef),(cond b4 (Z7 g6 0) undef),(cond b5 (.agg (hnA x.h)) undef),x29,x30,(cond b8 ZT undef)],defers:=[] }/\KG g4 x.e b6 b7 b9 x29 x30 V2 V) (by kernel_rfl) (by kernel_rfl) ?_ ?_ ?_
  ·exact⟨_,_,_,_,_,_,_,_,_,_,_,_,_,rfl,rfl,h0⟩
  ·intro i9 listed Zr V hi9 hr hJ;obtain⟨b0,b1,b2,b3,b4,b5,b6,b7,b8,b9,b10,x29,x30,rfl,rfl,hF⟩:=hJ;have hi2:i9<11:=hi9;have hi3:i9=0∨i9=1∨i9=2∨i9=3∨i9=4∨i9=5∨i9=6∨i9=7∨i9=8∨i9=9∨i9=10:=(by omega);rcases hi3 with rfl | rfl | rfl | rfl | rfl | rfl | rfl | rfl | rfl | rfl | rfl
   ·obtain rfl:b0=false:=Z5 hr;refine ZX rfl (by kernel_rfl) (some 23) rfl (Z7 g 0) V (by kernel_rfl) ?_;exact⟨_,_,_,_,_,_,_,_,_,_,_,_,_,rfl,rfl,hF⟩
   ·obtain rfl:b1=false:=Z5 hr;obtain rfl:b0=true:=Z4 hr 0;refine ZX rfl (by kernel_rfl) (some 24) rfl (Z7 g 0) V (by kernel_rfl) ?_;exact⟨_,_,_,_,_,_,_,_,_,_,_,_,_,rfl,rfl,hF⟩
   ·obtain rfl:b2=false:=Z5 hr;obtain rfl:b1=true:=Z4 hr 1;refine ZX rfl (by kernel_rfl) (some 25) rfl (Z7 g 15) V (by kernel_rfl) ?_;exact⟨_,_,_,_,_,_,_,_,_,_,_,_,_,rfl,rfl,hF⟩
   ·obtain rfl:b3=false:=Z5 hr;obtain rfl:b2=true:=Z4 hr 2;refine ZJ rfl (by kernel_rfl) (some 26) rfl 90 (.tmp 25) rfl ⟨g,15,none⟩ (Z7 d.gs 0) (by kernel_rfl) (((RJ.out V2 SK.out).but hF.but (by have:=H4.out; have:=fB.out; omega)).ZL 15) ?_;exact⟨_,_,_,_,_,_,_,_,_,_,_,_,_,rfl,rfl,hF⟩
   ·obtain rfl:b4=false:=Z5 hr;refine ZX rfl (by kernel_rfl) (some 27) rfl (Z7 g6 0) V (by kernel_rfl) ?_;exact⟨_,_,_,_,_,_,_,_,_,_,_,_,_,rfl,rfl,hF⟩
   ·obtain rfl:b5=false:=Z5 hr;obtain rfl:b4=true:=Z4 hr 4;refine ZJ rfl (by kernel_rfl) (some 28) rfl 104 (.tmp 27) rfl ⟨g6,0,none⟩ (.agg (hnA x.h)) (by kernel_rfl) (FN (O5.out.but hF.but H4.out.2.1)) ?_;exact⟨_,_,_,_,_,_,_,_,_,_,_,_,_,rfl,rfl,hF⟩
   ·obtain rfl:b6=false:=Z5 hr;obtain rfl:b3=true:=Z4 hr 3;obtain rfl:b5=true:=Z4 hr 5;obtain⟨rfl,rfl⟩:=hF.n6;refine YX rfl (by kernel_rfl) (some 29) rfl 47 #[Z7 d.gs 0,.agg (hnA x.h)] (by kernel_rfl) ((HST.out V (SK.out.trans (hF.but.1.mono H4.out.2.2))).mono ?_);rintro e9 V9 ⟨d9,rfl,vU,Yi⟩;exact⟨_,rfl,_,_,_,_,_,_,_,_,_,_,_,_,_,rfl,rfl,hF.s6 vU Yi⟩
   ·obtain rfl:b7=false:=Z5 hr;obtain rfl:b6=true:=Z4 hr 6;obtain rfl:=hF.n7;obtain⟨d9,rfl⟩:=hF.v7;refine ZX rfl (by kernel_rfl) (some 30) rfl (.agg (ZQ x.e d9)) V (by kernel_rfl) ?_;exact⟨_,_,_,_,_,_,_,_,_,_,_,_,_,rfl,rfl,hF.s7⟩
   ·obtain rfl:b8=false:=Z5 hr;obtain rfl:b6=true:=Z4 hr 6;obtain⟨d9,rfl⟩:=hF.v7;refine ZX rfl (by kernel_rfl) (some 31) rfl ZT V (by kernel_rfl) ?_;exact⟨_,_,_,_,_,_,_,_,_,_,_,_,_,rfl,rfl,hF⟩
   ·obtain rfl:b9=false:=Z5 hr;obtain rfl:b7=true:=Z4 hr 7;obtain rfl:=hF.o7 rfl;obtain⟨V9,YB,PU⟩:=hF.s9 H4.out.1;refine Zb rfl (by kernel_rfl) rfl 52 (.tmp 4) (.tmp 30) rfl (Z7 g4 0) x30 (by kernel_rfl) (by kernel_rfl) V9 YB ?_;exact⟨_,_,_,_,_,_,_,_,_,_,_,_,_,rfl,rfl,PU⟩
   ·obtain rfl:b10=false:=Z5 hr;obtain rfl:b8=true:=Z4 hr 8;refine ZX rfl (by kernel_rfl) (some 5) rfl ZT V (by kernel_rfl) ?_;exact⟨_,_,_,_,_,_,_,_,_,_,_,_,_,rfl,rfl,hF⟩
  ·intro Zr V hJ;obtain⟨b0,b1,b2,b3,b4,b5,b6,b7,b8,b9,b10,x29,x30,he,rfl,hF⟩:=hJ;have he:(#[true,true,true,true,true,true,true,true,true,true,true]:Array Bool)=#[b0,b1,b2,b3,b4,b5,b6,b7,b8,b9,b10]:=he;simp only[Array.mk.injEq,List.cons.injEq,and_true] at he;obtain⟨rfl,rfl,rfl,rfl,rfl,rfl,rfl,rfl,rfl,rfl,rfl⟩:=he;simp only[cond_true];obtain⟨d9,hx9,vU,-,xW⟩:=hF.cl rfl;have HE:Hid (XT V w.heap.size x.e d9/\Below w.heap.size w V):=Z8 ⟨vU.base SK.out.size,SK.out.trans (hF.but.1.mono H4.out.2.2)⟩;have dW:=xW rfl;clear hF h0 vU;go_wp2_with fail;exact bodyPost_ret (XI rfl (by kernel_rfl) (ZC (ZV dW)) (by kernel_rfl)) rfl ⟨d9,rfl,HE.out⟩
theorem Gi (k:Nat->Int)(w:World):Calls Tryz.prog 21 #[.pointer none,.agg (Y4 k)] w fun e w'=>e=.returned (.tuple #[.agg (ZQ Zf YW),ZW])/\Below w.heap.size w w':=by
 go_enter Tryz.func21,Tryz.ntmps21;go_upto_region 1 with fail;change Code.wp _ _ _ _ ((w.alloc (.cells (Y4 k) 38)).alloc (.cells (ZQ Zf YW) 52));have Zn:Below w.heap.size w (w.alloc (.cells (Y4 k) 38)):=(Below.refl _ w).alloc (Nat.le_refl _) _;have Ze:Bx (w.alloc (.cells (Y4 k) 38)) w.heap.size (Y4 k) 38:=heap_alloc_last w _;have Yq:(w.alloc (.cells (Y4 k) 38)).heap.size=w.heap.size+1:=by simp
 generalize w.alloc (.cells (Y4 k) 38)=Yw at *
 have WV:Below w.heap.size w (Yw.alloc (.cells (ZQ Zf YW) 52)):=Zn.alloc Zn.size _;have Ze:=Ze.below Ze.lt ((Below.refl _ Yw).alloc (Nat.le_refl _) (.cells (ZQ Zf YW) 52));have VH:Bx (Yw.alloc (.cells (ZQ Zf YW) 52)) Yw.heap.size (ZQ Zf YW) 52:=heap_alloc_last Yw _;have Uj:(Yw.alloc (.cells (ZQ Zf YW) 52)).heap.size=Yw.heap.size+1:=by simp
 generalize Yw.alloc (.cells (ZQ Zf YW) 52)=W at *
 obtain⟨g3,hg3⟩:=ZR w.heap.size;rw[hg3] at Ze;obtain⟨g4,hg4⟩:=ZR Yw.heap.size;rw[hg4] at VH;have hq1:w.heap.size+1=g4:=by omega
 have WG:Hid (g3=w.heap.size+0/\g4=w.heap.size+1/\W.heap.size=w.heap.size+2):=Z8 ⟨by omega,by omega,by omega⟩;have HB:=Z8 WV;simp only[hg3];try simp only[show g3+1=g4 by omega]
 clear Zn Yq hg3 WV Uj hg4 hq1;refine wl<|ZA (.pointer none) ZT<|wn ?_;simp only[pu];obtain⟨V3,hst3,xW,XA⟩:=st_all (cs':=ZQ Zf YW) (ty:=52) VH rfl (Y3 _ _) (by kernel_rfl);have HE:Hid (Below w.heap.size w V3):=Z8 (HB.out.trans (XA.1.mono (by have:=WG.out; omega)));clear XA Ze VH;go_upto_region 2 with fail;refine wl<|ZN (.agg (ZQ Zf YW))<|WC rfl (hst3)<|ZN ZW<|wn ?_;simp only[pu];go_wp2_with fail;exact bodyPost_ret (XI rfl (by kernel_rfl) (ZC (ZV xW)) (by kernel_rfl)) rfl ⟨rfl,HE.out⟩
end Go.Proofs.YtnelmomagdcmnaaGreat
