/-
  Texts joined.
-/
import Derived.Test.YtnelmomagdcmnaaGreatD20
set_option maxRecDepth 100000
set_option maxHeartbeats 8000000
set_option linter.unusedSimpArgs false
set_option linter.unusedVariables false
namespace Go.Proofs.YtnelmomagdcmnaaGreat
attribute [local irreducible] wpList wpQuiet
open Go.RowKit
def Uc (b1 b2 b3 b4 b5 b6:Bool):Nat->Bool
 | 1=>b1
 | 2=>b2
 | 3=>b3
 | 4=>b4
 | 5=>b5
 | 6=>b6
 | _=>false
theorem Gf:∀ i,Uc false false false false false false i=true->False
 | 0,q=>by cases q
 | 1,q=>by cases q
 | 2,q=>by cases q
 | 3,q=>by cases q
 | 4,q=>by cases q
 | 5,q=>by cases q
 | 6,q=>by cases q
 | m+7,q=>by cases q
structure Un (W:World)(c:List Int)(f:Nat->Bool)(d:Pd)(s:Ps)(V:World):Prop where
 p1:f 1=true->MQ V d.Bp []
 p2:f 2=true->O9 V d.Bk []
 p3:f 3=true->Sl.XB V d.gs s.Ss (newS (c.getD 0 0))
 p4:f 4=true->Hp.Vh V d.gh s.Sh []
 p5:f 5=true->Sd.VK V d.gi s.Si []
 p6:f 6=true->Ex.VT V d.gq s.Sq (c.getD 4 0) (c.getD 5 0) []
 rng:∀ i k,f i=true->Pp 0 d s i k->W.heap.size<=k/\k<V.heap.size
 Um:∀ i j k,f i=true->f j=true->Pp 0 d s i k->Pp 0 d s j k->i=j
theorem Un.low {W V V2:World}{c:List Int}{f:Nat->Bool}{d:Pd}{s:Ps}(h:Un W c f d s V)(hb:Below V.heap.size V V2):Un W c f d s V2:=
 ⟨fun q=>(h.p1 q).same (hb.block _ (h.rng 1 _ q rfl).2),fun q=>(h.p2 q).same (hb.block _ (h.rng 2 _ q rfl).2),fun q=>XB.same (h.p3 q) fun k hk=>hb.block k (h.rng 3 k q hk).2,fun q=>(h.p4 q).same fun k hk=>hb.block k (h.rng 4 k q hk).2,fun q=>(h.p5 q).same fun k hk=>hb.block k (h.rng 5 k q hk).2,fun q=>(h.p6 q).same fun k hk=>hb.block k (h.rng 6 k q hk).2,fun i k q hk=>⟨(h.rng i k q hk).1,Nat.lt_of_lt_of_le (h.rng i k q hk).2 hb.size⟩,h.Um⟩
theorem Un.join {W V V2:World}{f f2:Nat->Bool}{d d2:Pd}{s s2:Ps}{n:Nat}(rng:∀ i k,f i=true->Pp 0 d s i k->W.heap.size<=k/\k<V.heap.size)(Um:∀ i j k,f i=true->f j=true->Pp 0 d s i k->Pp 0 d s j k->i=j)(hW:W.heap.size<=V.heap.size)(hV:V.heap.size<=V2.heap.size)
  (key:∀ i k,f2 i=true->Pp 0 d2 s2 i k->(i=n/\V.heap.size<=k/\k<V2.heap.size)∨(f i=true/\Pp 0 d s i k)):(∀ i k,f2 i=true->Pp 0 d2 s2 i k->W.heap.size<=k/\k<V2.heap.size)/\∀ i j k,f2 i=true->f2 j=true->Pp 0 d2 s2 i k->Pp 0 d2 s2 j k->i=j:=by
 refine⟨fun i k q hk=>?_,fun i j k q1 q2 h1 h2=>?_⟩
 ·rcases key i k q hk with⟨-,h1,h2⟩ | ⟨h1,h2⟩
  ·omega
  ·have:=rng i k h1 h2; omega
 ·rcases key i k q1 h1 with⟨e1,a1,-⟩ | ⟨a1,a2⟩ <;> rcases key j k q2 h2 with⟨e2,b1,-⟩ | ⟨b1,b2⟩
  ·rw[e1,e2]
  ·have:=rng j k b1 b2; omega
  ·have:=rng i k a1 a2; omega
  ·exact Um i j k a1 b1 a2 b2
section
variable {W V V2 : World} {c : List Int} {b1 b2 b3 b4 b5 b6 : Bool} {d : Pd} {s : Ps}
theorem Un.a1 (h:Un W c (Uc false b2 b3 b4 b5 b6) d s V)(hb:Below V.heap.size V V2)(hW:W.heap.size<=V.heap.size){B:Nat}(hp:MQ V2 B [])(hl:V.heap.size<=B/\B<V2.heap.size):Un W c (Uc true b2 b3 b4 b5 b6) { d with Bp:=B } (s) V2:=by
 have hlow:=h.low hb;have key:∀ i k,Uc true b2 b3 b4 b5 b6 i=true->Pp 0 { d with Bp:=B } (s) i k->(i=1/\V.heap.size<=k/\k<V2.heap.size)∨(Uc false b2 b3 b4 b5 b6 i=true/\Pp 0 d s i k):=fun i k q hk=>by
  match i,q,hk with
  | 1,q,hk=>exact .inl ⟨rfl,by have e:k=B:=hk; rw[e]; exact hl⟩
  | 2,q,hk=>exact .inr ⟨q,hk⟩
  | 3,q,hk=>exact .inr ⟨q,hk⟩
  | 4,q,hk=>exact .inr ⟨q,hk⟩
  | 5,q,hk=>exact .inr ⟨q,hk⟩
  | 6,q,hk=>exact .inr ⟨q,hk⟩
  | 0,q,hk=>cases q
  | m+7,q,hk=>cases q
 obtain⟨h1,h2⟩:=Un.join h.rng h.Um hW hb.size key;exact⟨fun _=>hp,fun q=>hlow.p2 q,fun q=>hlow.p3 q,fun q=>hlow.p4 q,fun q=>hlow.p5 q,fun q=>hlow.p6 q,h1,h2⟩
theorem Un.a2 (h:Un W c (Uc b1 false b3 b4 b5 b6) d s V)(hb:Below V.heap.size V V2)(hW:W.heap.size<=V.heap.size){B:Nat}(hp:O9 V2 B [])(hl:V.heap.size<=B/\B<V2.heap.size):Un W c (Uc b1 true b3 b4 b5 b6) { d with Bk:=B } (s) V2:=by
 have hlow:=h.low hb;have key:∀ i k,Uc b1 true b3 b4 b5 b6 i=true->Pp 0 { d with Bk:=B } (s) i k->(i=2/\V.heap.size<=k/\k<V2.heap.size)∨(Uc b1 false b3 b4 b5 b6 i=true/\Pp 0 d s i k):=fun i k q hk=>by
  match i,q,hk with
  | 1,q,hk=>exact .inr ⟨q,hk⟩
  | 2,q,hk=>exact .inl ⟨rfl,by have e:k=B:=hk; rw[e]; exact hl⟩
  | 3,q,hk=>exact .inr ⟨q,hk⟩
  | 4,q,hk=>exact .inr ⟨q,hk⟩
  | 5,q,hk=>exact .inr ⟨q,hk⟩
  | 6,q,hk=>exact .inr ⟨q,hk⟩
  | 0,q,hk=>cases q
  | m+7,q,hk=>cases q
 obtain⟨h1,h2⟩:=Un.join h.rng h.Um hW hb.size key;exact⟨fun q=>hlow.p1 q,fun _=>hp,fun q=>hlow.p3 q,fun q=>hlow.p4 q,fun q=>hlow.p5 q,fun q=>hlow.p6 q,h1,h2⟩
theorem Un.a3 (h:Un W c (Uc b1 b2 false b4 b5 b6) d s V)(hb:Below V.heap.size V V2)(hW:W.heap.size<=V.heap.size){g:Nat}{S:Nat->Prop}(hp:Sl.XB V2 g S (newS (c.getD 0 0)))(hl:∀ k,S k->V.heap.size<=k/\k<V2.heap.size):Un W c (Uc b1 b2 true b4 b5 b6) { d with gs:=g } ({ s with Ss:=S }) V2:=by
 have hlow:=h.low hb;have key:∀ i k,Uc b1 b2 true b4 b5 b6 i=true->Pp 0 { d with gs:=g } ({ s with Ss:=S }) i k->(i=3/\V.heap.size<=k/\k<V2.heap.size)∨(Uc b1 b2 false b4 b5 b6 i=true/\Pp 0 d s i k):=fun i k q hk=>by
  match i,q,hk with
  | 1,q,hk=>exact .inr ⟨q,hk⟩
  | 2,q,hk=>exact .inr ⟨q,hk⟩
  | 3,q,hk=>exact .inl ⟨rfl,hl k hk⟩
  | 4,q,hk=>exact .inr ⟨q,hk⟩
  | 5,q,hk=>exact .inr ⟨q,hk⟩
  | 6,q,hk=>exact .inr ⟨q,hk⟩
  | 0,q,hk=>cases q
  | m+7,q,hk=>cases q
 obtain⟨h1,h2⟩:=Un.join h.rng h.Um hW hb.size key;exact⟨fun q=>hlow.p1 q,fun q=>hlow.p2 q,fun _=>hp,fun q=>hlow.p4 q,fun q=>hlow.p5 q,fun q=>hlow.p6 q,h1,h2⟩
theorem Un.a4 (h:Un W c (Uc b1 b2 b3 false b5 b6) d s V)(hb:Below V.heap.size V V2)(hW:W.heap.size<=V.heap.size){g:Nat}{S:Nat->Prop}(hp:Hp.Vh V2 g S [])(hl:∀ k,S k->V.heap.size<=k/\k<V2.heap.size):Un W c (Uc b1 b2 b3 true b5 b6) { d with gh:=g } ({ s with Sh:=S }) V2:=by
 have hlow:=h.low hb;have key:∀ i k,Uc b1 b2 b3 true b5 b6 i=true->Pp 0 { d with gh:=g } ({ s with Sh:=S }) i k->(i=4/\V.heap.size<=k/\k<V2.heap.size)∨(Uc b1 b2 b3 false b5 b6 i=true/\Pp 0 d s i k):=fun i k q hk=>by
  match i,q,hk with
  | 1,q,hk=>exact .inr ⟨q,hk⟩
  | 2,q,hk=>exact .inr ⟨q,hk⟩
  | 3,q,hk=>exact .inr ⟨q,hk⟩
  | 4,q,hk=>exact .inl ⟨rfl,hl k hk⟩
  | 5,q,hk=>exact .inr ⟨q,hk⟩
  | 6,q,hk=>exact .inr ⟨q,hk⟩
  | 0,q,hk=>cases q
  | m+7,q,hk=>cases q
 obtain⟨h1,h2⟩:=Un.join h.rng h.Um hW hb.size key;exact⟨fun q=>hlow.p1 q,fun q=>hlow.p2 q,fun q=>hlow.p3 q,fun _=>hp,fun q=>hlow.p5 q,fun q=>hlow.p6 q,h1,h2⟩
theorem Un.a5 (h:Un W c (Uc b1 b2 b3 b4 false b6) d s V)(hb:Below V.heap.size V V2)(hW:W.heap.size<=V.heap.size){g:Nat}{S:Nat->Prop}(hp:Sd.VK V2 g S [])(hl:∀ k,S k->V.heap.size<=k/\k<V2.heap.size):Un W c (Uc b1 b2 b3 b4 true b6) { d with gi:=g } ({ s with Si:=S }) V2:=by
 have hlow:=h.low hb;have key:∀ i k,Uc b1 b2 b3 b4 true b6 i=true->Pp 0 { d with gi:=g } ({ s with Si:=S }) i k->(i=5/\V.heap.size<=k/\k<V2.heap.size)∨(Uc b1 b2 b3 b4 false b6 i=true/\Pp 0 d s i k):=fun i k q hk=>by
  match i,q,hk with
  | 1,q,hk=>exact .inr ⟨q,hk⟩
  | 2,q,hk=>exact .inr ⟨q,hk⟩
  | 3,q,hk=>exact .inr ⟨q,hk⟩
  | 4,q,hk=>exact .inr ⟨q,hk⟩
  | 5,q,hk=>exact .inl ⟨rfl,hl k hk⟩
  | 6,q,hk=>exact .inr ⟨q,hk⟩
  | 0,q,hk=>cases q
  | m+7,q,hk=>cases q
 obtain⟨h1,h2⟩:=Un.join h.rng h.Um hW hb.size key;exact⟨fun q=>hlow.p1 q,fun q=>hlow.p2 q,fun q=>hlow.p3 q,fun q=>hlow.p4 q,fun _=>hp,fun q=>hlow.p6 q,h1,h2⟩
theorem Un.a6 (h:Un W c (Uc b1 b2 b3 b4 b5 false) d s V)(hb:Below V.heap.size V V2)(hW:W.heap.size<=V.heap.size){g:Nat}{S:Nat->Prop}(hp:Ex.VT V2 g S (c.getD 4 0) (c.getD 5 0) [])(hl:∀ k,S k->V.heap.size<=k/\k<V2.heap.size):Un W c (Uc b1 b2 b3 b4 b5 true) { d with gq:=g } ({ s with Sq:=S }) V2:=by
 have hlow:=h.low hb;have key:∀ i k,Uc b1 b2 b3 b4 b5 true i=true->Pp 0 { d with gq:=g } ({ s with Sq:=S }) i k->(i=6/\V.heap.size<=k/\k<V2.heap.size)∨(Uc b1 b2 b3 b4 b5 false i=true/\Pp 0 d s i k):=fun i k q hk=>by
  match i,q,hk with
  | 1,q,hk=>exact .inr ⟨q,hk⟩
  | 2,q,hk=>exact .inr ⟨q,hk⟩
  | 3,q,hk=>exact .inr ⟨q,hk⟩
  | 4,q,hk=>exact .inr ⟨q,hk⟩
  | 5,q,hk=>exact .inr ⟨q,hk⟩
  | 6,q,hk=>exact .inl ⟨rfl,hl k hk⟩
  | 0,q,hk=>cases q
  | m+7,q,hk=>cases q
 obtain⟨h1,h2⟩:=Un.join h.rng h.Um hW hb.size key;exact⟨fun q=>hlow.p1 q,fun q=>hlow.p2 q,fun q=>hlow.p3 q,fun q=>hlow.p4 q,fun q=>hlow.p5 q,fun _=>hp,h1,h2⟩
end
structure KN (W:World)(c:List Int)(b1 b2 b3 b4 b5 b6 b13 b14:Bool)(x1 x2 x3 x4 x5 x6 x13 x14:Value)(V:World):Prop where
 bel:Below W.heap.size W V
 o13:b13=true->b1=true/\b2=true/\b3=true/\b4=true/\b5=true/\b6=true
 o14:b14=true->b13=true
 ex:∃ d s,Un W c (Uc b1 b2 b3 b4 b5 b6) d s V/\(b1=true->x1=.map (some d.Bp))/\(b2=true->x2=.map (some d.Bk))/\(b3=true->x3=Z7 d.gs 0)/\(b4=true->x4=Z7 d.gh 0)/\(b5=true->x5=Z7 d.gi 0)/\(b6=true->x6=Z7 d.gq 0)/\(b13=true->x13=.agg (O8 c 0 d))/\(b14=true->∃ g,x14=Z7 g 0/\Bx V g (O8 c 0 d) 95/\W.heap.size<=g/\∀ i,1<=i->¬ Pp 0 d s i g)
section
variable {W V V2 : World} {c : List Int} {b1 b2 b3 b4 b5 b6 b13 b14 : Bool} {x1 x2 x3 x4 x5 x6 x13 x14 : Value}
theorem KN.start (W:World)(c:List Int)(x1 x2 x3 x4 x5 x6 x13 x14:Value):KN W c false false false false false false false false x1 x2 x3 x4 x5 x6 x13 x14 W.drew:=
 ⟨(Below.refl _ W).drew,fun h=>(by cases h),fun h=>h,⟨0,0,0,0,0,0⟩,⟨fun _=>False,fun _=>False,fun _=>False,fun _=>False⟩,⟨fun h=>(by cases h),fun h=>(by cases h),fun h=>(by cases h),fun h=>(by cases h),fun h=>(by cases h),fun h=>(by cases h),fun i k q=>(Gf i q).elim,fun i j k q=>(Gf i q).elim⟩,fun h=>(by cases h),fun h=>(by cases h),fun h=>(by cases h),fun h=>(by cases h),fun h=>(by cases h),fun h=>(by cases h),fun h=>(by cases h),fun h=>(by cases h)⟩
theorem KN.off (h:KN W c b1 b2 b3 b4 b5 b6 b13 b14 x1 x2 x3 x4 x5 x6 x13 x14 V)(hn:¬ (b1=true/\b2=true/\b3=true/\b4=true/\b5=true/\b6=true)):b13=false/\b14=false:=by
 have h1:b13=false:=by cases b13; rfl; exact absurd (h.o13 rfl) hn
 subst h1;exact⟨rfl,SY h.o14 rfl⟩
theorem KN.a1 (h:KN W c false b2 b3 b4 b5 b6 false false x1 x2 x3 x4 x5 x6 x13 x14 V):KN W c true b2 b3 b4 b5 b6 false false (.map (some V.heap.size)) x2 x3 x4 x5 x6 x13 x14 (V.alloc (.map #[] 0)):=by
 obtain⟨d,s,h1,e1,e2,e3,e4,e5,e6,-,-⟩:=h.ex;have hb:Below V.heap.size V (V.alloc (.map #[] 0)):=(Below.refl _ V).alloc (Nat.le_refl _) _;exact⟨h.bel.trans (hb.mono h.bel.size),fun h=>(by cases h),fun h=>h,_,_,h1.a1 hb h.bel.size (MQ.new V) ⟨Nat.le_refl _,by simp⟩,fun _=>rfl,e2,e3,e4,e5,e6,fun h=>(by cases h),fun h=>(by cases h)⟩
theorem KN.a2 (h:KN W c b1 false b3 b4 b5 b6 false false x1 x2 x3 x4 x5 x6 x13 x14 V):KN W c b1 true b3 b4 b5 b6 false false x1 (.map (some V.heap.size)) x3 x4 x5 x6 x13 x14 (V.alloc (.map #[] 0)):=by
 obtain⟨d,s,h1,e1,e2,e3,e4,e5,e6,-,-⟩:=h.ex;have hb:Below V.heap.size V (V.alloc (.map #[] 0)):=(Below.refl _ V).alloc (Nat.le_refl _) _;exact⟨h.bel.trans (hb.mono h.bel.size),fun h=>(by cases h),fun h=>h,_,_,h1.a2 hb h.bel.size (O9.new V) ⟨Nat.le_refl _,by simp⟩,e1,fun _=>rfl,e3,e4,e5,e6,fun h=>(by cases h),fun h=>(by cases h)⟩
theorem KN.a3 (h:KN W c b1 b2 false b4 b5 b6 false false x1 x2 x3 x4 x5 x6 x13 x14 V){g:Nat}{S:Nat->Prop}(hp:Sl.XB V2 g S (newS (c.getD 0 0)))(hl:∀ k,S k->V.heap.size<=k)(hb:Below V.heap.size V V2):KN W c b1 b2 true b4 b5 b6 false false x1 x2 (Z7 g 0) x4 x5 x6 x13 x14 V2:=by
 obtain⟨d,s,h1,e1,e2,e3,e4,e5,e6,-,-⟩:=h.ex;exact⟨h.bel.trans (hb.mono h.bel.size),fun h=>(by cases h),fun h=>h,_,_,h1.a3 hb h.bel.size hp (fun k hk=>⟨hl k hk,XB.inn hp k hk⟩),e1,e2,fun _=>rfl,e4,e5,e6,fun h=>(by cases h),fun h=>(by cases h)⟩
theorem KN.a4 (h:KN W c b1 b2 b3 false b5 b6 false false x1 x2 x3 x4 x5 x6 x13 x14 V){g:Nat}{S:Nat->Prop}(hp:Hp.Vh V2 g S [])(hl:∀ k,S k->V.heap.size<=k)(hb:Below V.heap.size V V2):KN W c b1 b2 b3 true b5 b6 false false x1 x2 x3 (Z7 g 0) x5 x6 x13 x14 V2:=by
 obtain⟨d,s,h1,e1,e2,e3,e4,e5,e6,-,-⟩:=h.ex;exact⟨h.bel.trans (hb.mono h.bel.size),fun h=>(by cases h),fun h=>h,_,_,h1.a4 hb h.bel.size hp (fun k hk=>⟨hl k hk,hp.inn k hk⟩),e1,e2,e3,fun _=>rfl,e5,e6,fun h=>(by cases h),fun h=>(by cases h)⟩
theorem KN.a5 (h:KN W c b1 b2 b3 b4 false b6 false false x1 x2 x3 x4 x5 x6 x13 x14 V){g:Nat}{S:Nat->Prop}(hp:Sd.VK V2 g S [])(hl:∀ k,S k->V.heap.size<=k)(hb:Below V.heap.size V V2):KN W c b1 b2 b3 b4 true b6 false false x1 x2 x3 x4 (Z7 g 0) x6 x13 x14 V2:=by
 obtain⟨d,s,h1,e1,e2,e3,e4,e5,e6,-,-⟩:=h.ex;exact⟨h.bel.trans (hb.mono h.bel.size),fun h=>(by cases h),fun h=>h,_,_,h1.a5 hb h.bel.size hp (fun k hk=>⟨hl k hk,hp.inn k hk⟩),e1,e2,e3,e4,fun _=>rfl,e6,fun h=>(by cases h),fun h=>(by cases h)⟩
theorem KN.a6 (h:KN W c b1 b2 b3 b4 b5 false false false x1 x2 x3 x4 x5 x6 x13 x14 V){g:Nat}{S:Nat->Prop}(hp:Ex.VT V2 g S (c.getD 4 0) (c.getD 5 0) [])(hl:∀ k,S k->V.heap.size<=k)(hb:Below V.heap.size V V2):KN W c b1 b2 b3 b4 b5 true false false x1 x2 x3 x4 x5 (Z7 g 0) x13 x14 V2:=by
 obtain⟨d,s,h1,e1,e2,e3,e4,e5,e6,-,-⟩:=h.ex;exact⟨h.bel.trans (hb.mono h.bel.size),fun h=>(by cases h),fun h=>h,_,_,h1.a6 hb h.bel.size hp (fun k hk=>⟨hl k hk,hp.inn k hk⟩),e1,e2,e3,e4,e5,fun _=>rfl,fun h=>(by cases h),fun h=>(by cases h)⟩
theorem KN.a13 (h:KN W c true true true true true true false false x1 x2 x3 x4 x5 x6 x13 x14 V):∃ d,x1=.map (some d.Bp)/\x2=.map (some d.Bk)/\x3=Z7 d.gs 0/\x4=Z7 d.gh 0/\x5=Z7 d.gi 0/\x6=Z7 d.gq 0/\KN W c true true true true true true true false x1 x2 x3 x4 x5 x6 (.agg (O8 c 0 d)) x14 V:=by
 obtain⟨d,s,h1,e1,e2,e3,e4,e5,e6,-,-⟩:=h.ex;exact⟨d,e1 rfl,e2 rfl,e3 rfl,e4 rfl,e5 rfl,e6 rfl,h.bel,fun _=>⟨rfl,rfl,rfl,rfl,rfl,rfl⟩,fun h=>(by cases h),d,s,h1,e1,e2,e3,e4,e5,e6,fun _=>rfl,fun h=>(by cases h)⟩
theorem KN.n14 (h:KN W c b1 b2 b3 b4 b5 b6 true b14 x1 x2 x3 x4 x5 x6 x13 x14 V):b1=true/\b2=true/\b3=true/\b4=true/\b5=true/\b6=true:=h.o13 rfl
theorem KN.a14 (h:KN W c true true true true true true true false x1 x2 x3 x4 x5 x6 x13 x14 V):∃ d,x13=.agg (O8 c 0 d)/\KN W c true true true true true true true true x1 x2 x3 x4 x5 x6 x13 (Z7 V.heap.size 0) (V.alloc (.cells (O8 c 0 d) 95)):=by
 obtain⟨d,s,h1,e1,e2,e3,e4,e5,e6,e7,-⟩:=h.ex;have hb:Below V.heap.size V (V.alloc (.cells (O8 c 0 d) 95)):=(Below.refl _ V).alloc (Nat.le_refl _) _;refine⟨d,e7 rfl,h.bel.trans (hb.mono h.bel.size),h.o13,fun _=>rfl,d,s,h1.low hb,e1,e2,e3,e4,e5,e6,e7,fun _=>⟨_,rfl,heap_alloc_last V _,h.bel.size,fun i hi q=>?_⟩⟩;have:Uc true true true true true true i=true:=by
  match i,hi,q with
  | 1,_,_=>rfl
  | 2,_,_=>rfl
  | 3,_,_=>rfl
  | 4,_,_=>rfl
  | 5,_,_=>rfl
  | 6,_,_=>rfl
  | m+7,_,q=>cases q
 exact Nat.lt_irrefl _ (h1.rng i _ this q).2
theorem Ub {d:Pd}{s:Ps}{g h:Nat}:∀ {i k:Nat},1<=i->Pp g d s i k->Pp h d s i k
 | 0,_,h1,_=>by omega
 | 1,_,_,q=>q
 | 2,_,_,q=>q
 | 3,_,_,q=>q
 | 4,_,_,q=>q
 | 5,_,_,q=>q
 | 6,_,_,q=>q
 | m+7,_,_,q=>q
theorem Kw {d:Pd}{s:Ps}{g:Nat}:∀ {i k:Nat},1<=i->Pp g d s i k->Uc true true true true true true i=true
 | 0,_,h1,_=>by omega
 | 1,_,_,q=>rfl
 | 2,_,_,q=>rfl
 | 3,_,_,q=>rfl
 | 4,_,_,q=>rfl
 | 5,_,_,q=>rfl
 | 6,_,_,q=>rfl
 | m+7,_,_,q=>by cases q
theorem Un.pool {d:Pd}{s:Ps}{g:Nat}(h:Un W c (Uc true true true true true true) d s V)(hX:Bx V g (O8 c 0 d) 95)(hg:W.heap.size<=g)(hn:∀ i,1<=i->¬ Pp 0 d s i g)(hc:QZ c):∃ S,YC V g S c 0 []/\∀ k,S k->W.heap.size<=k:=by
 have hdis:∀ i j k,Pp g d s i k->Pp g d s j k->i=j:=fun i j k h1 h2=>by
  rcases Nat.eq_zero_or_pos i with e1 | e1 <;> rcases Nat.eq_zero_or_pos j with e2 | e2
  ·rw[e1,e2]
  ·subst e1;have e:k=g:=h1;subst e;exact absurd (Ub e2 h2) (hn j e2)
  ·subst e2;have e:k=g:=h2;subst e;exact absurd (Ub e1 h1) (hn i e1)
  ·exact h.Um i j k (Kw e1 h1) (Kw e2 h2) (Ub e1 h1) (Ub e2 h2)
 refine⟨fun k=>∃ i,Pp g d s i k,⟨0,[],Nat.le_refl _,rfl,d,s,newS (c.getD 0 0),[],[],⟨hX,h.p1 rfl,h.p2 rfl,h.p3 rfl,h.p4 rfl,h.p5 rfl,h.p6 rfl,hdis⟩,PI.new c hc.mo (by have:=hc.mb; omega) 0,hc,fun k=>Iff.rfl⟩,fun k ⟨i,q⟩=>?_⟩;rcases Nat.eq_zero_or_pos i with e1 | e1
 ·subst e1;have e:k=g:=q;rw[e]; exact hg
 ·exact(h.rng i k (Kw e1 q) (Ub e1 q)).1
end
theorem Rx {w:World}{g k:Nat}{c:List Int}(h:Bx w g (XK c) k):(Instr.loadAt 25 (Z7 g 0)).run Tryz.prog w=.ok (.agg (XK c)) w:=run_loadAt_mid w g 0 25 (XK c).toList _ (ZV (cs:=(XK c).toList) h) Tryz.underlying25 rfl (by kernel_rfl)
def qE (w:World)(c:List Int)(e:Ending)(w':World):Prop:=∃ g S,e=.returned (Z7 g 0)/\YC w' g S c 0 []/\(∀ k,S k->w.heap.size<=k)/\Below w.heap.size w w'
theorem wu {c:List Int}(hc:Cg.PY c)(hv:Cg.Ul c=0)(w:World):Calls Tryz.prog 26 #[.agg (XK c)] w (qE w c):=by
 have HV:Hid (∀ U,Calls Tryz.prog 52 #[.agg (XK c)] U fun e w'=>e=.returned (Z9 0)/\Below U.heap.size U w'):=Z8 fun U=>by
  have:=Cg.Jj hc U;rw[hv] at this;exact this
 have iU:Hid (QZ c):=Z8 (QZ.of hc hv);obtain⟨PO,Yo⟩:=ZR (qE w c);have qC:=Z8 Yo;rw[Yo];clear hc hv Yo;go_enter Tryz.func26,Tryz.ntmps26;go_upto_region 1 with fail;change Code.wp _ _ _ _ (w.alloc (.cells (XK c) 25));have Zn:Below w.heap.size w (w.alloc (.cells (XK c) 25)):=(Below.refl _ w).alloc (Nat.le_refl _) _;have hX1:Bx (w.alloc (.cells (XK c) 25)) w.heap.size (XK c) 25:=heap_alloc_last w _;have Yq:(w.alloc (.cells (XK c) 25)).heap.size=w.heap.size+1:=by simp
 generalize w.alloc (.cells (XK c) 25)=W at *
 obtain⟨g1,hg1⟩:=ZR w.heap.size;rw[hg1] at hX1;have WG:Hid (g1=w.heap.size+0/\W.heap.size=w.heap.size+1):=Z8 ⟨by omega,by omega⟩;have HB:=Z8 Zn;simp only[hg1];clear Zn Yq hg1;refine wl<|Zq rfl ⟨g1,0,none⟩ (.agg (XK c)) (Rx hX1)<|Yd (Z9 0) (fun w'=>Below W.heap.size W w') (HV.out W) (fun V1 hV1=>?_);refine YF (QV rfl 0 0 (decide_eq_false (by decide)))<|wn ?_;simp only[pu];have Vk:=Z8 (HB.out.trans (hV1.mono HB.out.size));have hX1:=hX1.below hX1.lt hV1;clear hV1;have h0:=And.intro (KN.start V1 c undef undef undef undef undef undef undef undef) (fun h:false=true=>h);have O7:=Z8 hX1;clear hX1;go_upto_region 3 with fail;refine ZI (fun listed Zr V=>∃ b0 b1 b2 b3 b4 b5 b6 b7 b8 b9 b10 b11 b12 b13 b14 b15:Bool,∃ x8 x9 x12 x13 x14 x19 x20 x21:Value,listed=#[b0,b1,b2,b3,b4,b5,b6,b7,b8,b9,b10,b11,b12,b13,b14,b15]/\Zr={ tmps:=#[.agg (XK c),Z7 g1 0,(cond b15 (x21) (.pointer none)),.agg (XK c),Z9 0,ZW,undef,(cond b0 (.agg (XK c)) undef),x8,x9,(cond b3 (Z7 g1 0) undef),(cond b4 (Z9 (c.getD 0 0)) undef),x12,x13,x14,(cond b8 (Z7 g1 4) undef),(cond b9 (Z9 (c.getD 4 0)) undef),(cond b10 (Z7 g1 5) undef),(cond b11 (Z9 (c.getD 5 0)) undef),x19,x20,x21],defers:=[] }/\KN V1 c b1 b2 b5 b6 b7 b12 b13 b14 x8 x9 x12 x13 x14 x19 x20 x21 V/\(b15=true->b14=true)) (by kernel_rfl) (by kernel_rfl) ?_ ?_ ?_
 ·exact⟨_,_,_,_,_,_,_,_,_,_,_,_,_,_,_,_,_,_,_,_,_,_,_,_,rfl,rfl,h0⟩
 ·intro i9 listed Zr V hi9 hr hJ;obtain⟨b0,b1,b2,b3,b4,b5,b6,b7,b8,b9,b10,b11,b12,b13,b14,b15,x8,x9,x12,x13,x14,x19,x20,x21,rfl,rfl,hF⟩:=hJ;have hi2:i9<16:=hi9;have hi3:i9=0∨i9=1∨i9=2∨i9=3∨i9=4∨i9=5∨i9=6∨i9=7∨i9=8∨i9=9∨i9=10∨i9=11∨i9=12∨i9=13∨i9=14∨i9=15:=by omega
  rcases hi3 with rfl | rfl | rfl | rfl | rfl | rfl | rfl | rfl | rfl | rfl | rfl | rfl | rfl | rfl | rfl | rfl
  ·obtain rfl:b0=false:=Z5 hr;refine ZJ rfl (by kernel_rfl) (some 7) rfl 25 (.tmp 1) rfl ⟨g1,0,none⟩ (.agg (XK c)) (by kernel_rfl) (Rx (O7.out.below O7.out.lt hF.1.bel)) ?_;exact⟨_,_,_,_,_,_,_,_,_,_,_,_,_,_,_,_,_,_,_,_,_,_,_,_,rfl,rfl,hF⟩
  ·obtain rfl:b1=false:=Z5 hr;obtain⟨rfl,rfl⟩:=hF.1.off (fun h=>nomatch h.1);refine ZX rfl (by kernel_rfl) (some 8) rfl (.map (some V.heap.size)) (V.alloc (.map #[] 0)) (Ex.Vw 89 rfl) ?_;exact⟨_,_,_,_,_,_,_,_,_,_,_,_,_,_,_,_,_,_,_,_,_,_,_,_,rfl,rfl,hF.1.a1,hF.2⟩
  ·obtain rfl:b2=false:=Z5 hr;obtain⟨rfl,rfl⟩:=hF.1.off (fun h=>nomatch h.2.1);refine ZX rfl (by kernel_rfl) (some 9) rfl (.map (some V.heap.size)) (V.alloc (.map #[] 0)) (Ex.Vw 88 rfl) ?_;exact⟨_,_,_,_,_,_,_,_,_,_,_,_,_,_,_,_,_,_,_,_,_,_,_,_,rfl,rfl,hF.1.a2,hF.2⟩
  ·obtain rfl:b3=false:=Z5 hr;refine ZX rfl (by kernel_rfl) (some 10) rfl (Z7 g1 0) V (by kernel_rfl) ?_;exact⟨_,_,_,_,_,_,_,_,_,_,_,_,_,_,_,_,_,_,_,_,_,_,_,_,rfl,rfl,hF⟩
  ·obtain rfl:b4=false:=Z5 hr;obtain rfl:b3=true:=Z4 hr 3;refine ZJ rfl (by kernel_rfl) (some 11) rfl 3 (.tmp 10) rfl ⟨g1,0,none⟩ (Z9 (c.getD 0 0)) (by kernel_rfl) ((O7.out.below O7.out.lt hF.1.bel).ZL 0) ?_;exact⟨_,_,_,_,_,_,_,_,_,_,_,_,_,_,_,_,_,_,_,_,_,_,_,_,rfl,rfl,hF⟩
  ·obtain rfl:b5=false:=Z5 hr;obtain rfl:b4=true:=Z4 hr 4;obtain⟨rfl,rfl⟩:=hF.1.off (fun h=>nomatch h.2.2.1);refine YX rfl (by kernel_rfl) (some 12) rfl 54 #[Z9 (c.getD 0 0)] (by kernel_rfl) ((Sl.Uy (c.getD 0 0) V).mono ?_);rintro e9 V9 ⟨g9,S9,rfl,Kv,PV,Yi⟩;exact⟨_,rfl,_,_,_,_,_,_,_,_,_,_,_,_,_,_,_,_,_,_,_,_,_,_,_,_,rfl,rfl,hF.1.a3 Kv PV Yi,hF.2⟩
  ·obtain rfl:b6=false:=Z5 hr;obtain⟨rfl,rfl⟩:=hF.1.off (fun h=>nomatch h.2.2.2.1);refine YX rfl (by kernel_rfl) (some 13) rfl 55 #[] (by kernel_rfl) ((Hp.yj V).mono ?_);rintro e9 V9 ⟨g9,S9,rfl,Kv,PV,Yi⟩;exact⟨_,rfl,_,_,_,_,_,_,_,_,_,_,_,_,_,_,_,_,_,_,_,_,_,_,_,_,rfl,rfl,hF.1.a4 Kv PV Yi,hF.2⟩
  ·obtain rfl:b7=false:=Z5 hr;obtain⟨rfl,rfl⟩:=hF.1.off (fun h=>nomatch h.2.2.2.2.1);refine YX rfl (by kernel_rfl) (some 14) rfl 56 #[] (by kernel_rfl) ((Sd.Uy V).mono ?_);rintro e9 V9 ⟨g9,S9,rfl,Kv,PV,Yi⟩;exact⟨_,rfl,_,_,_,_,_,_,_,_,_,_,_,_,_,_,_,_,_,_,_,_,_,_,_,_,rfl,rfl,hF.1.a5 Kv PV Yi,hF.2⟩
  ·obtain rfl:b8=false:=Z5 hr;refine ZX rfl (by kernel_rfl) (some 15) rfl (Z7 g1 4) V (by kernel_rfl) ?_;exact⟨_,_,_,_,_,_,_,_,_,_,_,_,_,_,_,_,_,_,_,_,_,_,_,_,rfl,rfl,hF⟩
  ·obtain rfl:b9=false:=Z5 hr;obtain rfl:b8=true:=Z4 hr 8;refine ZJ rfl (by kernel_rfl) (some 16) rfl 3 (.tmp 15) rfl ⟨g1,4,none⟩ (Z9 (c.getD 4 0)) (by kernel_rfl) ((O7.out.below O7.out.lt hF.1.bel).ZL 4) ?_;exact⟨_,_,_,_,_,_,_,_,_,_,_,_,_,_,_,_,_,_,_,_,_,_,_,_,rfl,rfl,hF⟩
  ·obtain rfl:b10=false:=Z5 hr;refine ZX rfl (by kernel_rfl) (some 17) rfl (Z7 g1 5) V (by kernel_rfl) ?_;exact⟨_,_,_,_,_,_,_,_,_,_,_,_,_,_,_,_,_,_,_,_,_,_,_,_,rfl,rfl,hF⟩
  ·obtain rfl:b11=false:=Z5 hr;obtain rfl:b10=true:=Z4 hr 10;refine ZJ rfl (by kernel_rfl) (some 18) rfl 3 (.tmp 17) rfl ⟨g1,5,none⟩ (Z9 (c.getD 5 0)) (by kernel_rfl) ((O7.out.below O7.out.lt hF.1.bel).ZL 5) ?_;exact⟨_,_,_,_,_,_,_,_,_,_,_,_,_,_,_,_,_,_,_,_,_,_,_,_,rfl,rfl,hF⟩
  ·obtain rfl:b12=false:=Z5 hr;obtain rfl:b9=true:=Z4 hr 9;obtain rfl:b11=true:=Z4 hr 11;obtain⟨rfl,rfl⟩:=hF.1.off (fun h=>nomatch h.2.2.2.2.2);refine YX rfl (by kernel_rfl) (some 19) rfl 57 #[Z9 (c.getD 4 0),Z9 (c.getD 5 0)] (by kernel_rfl) ((Ex.Uy (c.getD 4 0) (c.getD 5 0) V).mono ?_);rintro e9 V9 ⟨g9,S9,rfl,Kv,PV,Yi⟩;exact⟨_,rfl,_,_,_,_,_,_,_,_,_,_,_,_,_,_,_,_,_,_,_,_,_,_,_,_,rfl,rfl,hF.1.a6 Kv PV Yi,hF.2⟩
  ·obtain rfl:b13=false:=Z5 hr;obtain rfl:b0=true:=Z4 hr 0;obtain rfl:b1=true:=Z4 hr 1;obtain rfl:b2=true:=Z4 hr 2;obtain rfl:b5=true:=Z4 hr 5;obtain rfl:b6=true:=Z4 hr 6;obtain rfl:b7=true:=Z4 hr 7;obtain rfl:b12=true:=Z4 hr 12;obtain rfl:=SY hF.1.o14 rfl;obtain⟨d9,rfl,rfl,rfl,rfl,rfl,rfl,PU⟩:=hF.1.a13;refine ZX rfl (by kernel_rfl) (some 20) rfl (.agg (O8 c 0 d9)) V (by kernel_rfl) ?_;exact⟨_,_,_,_,_,_,_,_,_,_,_,_,_,_,_,_,_,_,_,_,_,_,_,_,rfl,rfl,PU,hF.2⟩
  ·obtain rfl:b14=false:=Z5 hr;obtain rfl:b13=true:=Z4 hr 13;obtain rfl:=SY hF.2 rfl;obtain⟨rfl,rfl,rfl,rfl,rfl,rfl⟩:=hF.1.n14;obtain⟨d9,rfl,PU⟩:=hF.1.a14;refine ZX rfl (by kernel_rfl) (some 21) rfl (Z7 V.heap.size 0) (V.alloc (.cells (O8 c 0 d9) 95)) (by kernel_rfl) ?_;exact⟨_,_,_,_,_,_,_,_,_,_,_,_,_,_,_,_,_,_,_,_,_,_,_,_,rfl,rfl,PU,fun h=>nomatch h⟩
  ·obtain rfl:b15=false:=Z5 hr;obtain rfl:b14=true:=Z4 hr 14;refine ZX rfl (by kernel_rfl) (some 2) rfl (x21) V (by kernel_rfl) ?_;exact⟨_,_,_,_,_,_,_,_,_,_,_,_,_,_,_,_,_,_,_,_,_,_,_,_,rfl,rfl,hF.1,fun _=>rfl⟩
 ·intro Zr V hJ;obtain⟨b0,b1,b2,b3,b4,b5,b6,b7,b8,b9,b10,b11,b12,b13,b14,b15,x8,x9,x12,x13,x14,x19,x20,x21,he,rfl,hF⟩:=hJ;have he:(#[true,true,true,true,true,true,true,true,true,true,true,true,true,true,true,true]:Array Bool)=#[b0,b1,b2,b3,b4,b5,b6,b7,b8,b9,b10,b11,b12,b13,b14,b15]:=he;simp only[Array.mk.injEq,List.cons.injEq,and_true] at he;obtain⟨rfl,rfl,rfl,rfl,rfl,rfl,rfl,rfl,rfl,rfl,rfl,rfl,rfl,rfl,rfl,rfl⟩:=he;simp only[cond_true];obtain⟨d9,s9,hk9,-,-,-,-,-,-,-,h14⟩:=hF.1.ex;obtain⟨g9,rfl,oL,KJ,Ij⟩:=h14 rfl;obtain⟨S9,oK,PV⟩:=hk9.pool oL KJ Ij iU.out;have HE:Hid (PO (.returned (Z7 g9 0)) V):=Z8 (by rw[<- qC.out]; exact⟨g9,S9,rfl,oK,fun k hk=>Nat.le_trans Vk.out.size (PV k hk),Vk.out.trans (hF.1.bel.mono Vk.out.size)⟩);clear hF h0 hk9 h14 oL KJ Ij oK PV;go_wp2_with fail;exact HE.out
theorem wo {c:List Int}(hc:Cg.PY c)(hv:Cg.Ul c≠0)(w:World):Calls Tryz.prog 26 #[.agg (XK c)] w (qE w Cg.Vd):=by
 obtain⟨vv,hvv⟩:=ZR (Cg.Ul c);have HV:Hid (∀ U,Calls Tryz.prog 52 #[.agg (XK c)] U fun e w'=>e=.returned (Z9 vv)/\Below U.heap.size U w'):=Z8 fun U=>by
  have:=Cg.Jj hc U;rw[hvv] at this;exact this
 rw[hvv] at hv;have HVV:=Z8 hv;have HD:Hid (∀ U,Calls Tryz.prog 53 #[] U fun e w'=>e=.returned (.agg (XK Cg.Vd))/\Below U.heap.size U w'):=Z8 fun U=>Cg.Ii U;have iU:Hid (QZ Cg.Vd):=Z8 QZ.dflt;obtain⟨df,hdf⟩:=ZR Cg.Vd;rw[hdf] at HD iU ⊢;obtain⟨PO,Yo⟩:=ZR (qE w df);have qC:=Z8 Yo;rw[Yo];clear hc hv hvv hdf Yo;go_enter Tryz.func26,Tryz.ntmps26;go_upto_region 1 with fail;change Code.wp _ _ _ _ (w.alloc (.cells (XK c) 25));have Zn:Below w.heap.size w (w.alloc (.cells (XK c) 25)):=(Below.refl _ w).alloc (Nat.le_refl _) _;have hX1:Bx (w.alloc (.cells (XK c) 25)) w.heap.size (XK c) 25:=heap_alloc_last w _;have Yq:(w.alloc (.cells (XK c) 25)).heap.size=w.heap.size+1:=by simp
 generalize w.alloc (.cells (XK c) 25)=W at *
 obtain⟨g1,hg1⟩:=ZR w.heap.size;rw[hg1] at hX1;have WG:Hid (g1=w.heap.size+0/\W.heap.size=w.heap.size+1):=Z8 ⟨by omega,by omega⟩;have HB:=Z8 Zn;simp only[hg1];clear Zn Yq hg1;refine wl<|Zq rfl ⟨g1,0,none⟩ (.agg (XK c)) (Rx hX1)<|Yd (Z9 vv) (fun w'=>Below W.heap.size W w') (HV.out W) (fun V1 hV1=>?_);refine YF (QV rfl vv 0 (decide_eq_true HVV.out))<|wn ?_;simp only[pu];have HB1:=Z8 (HB.out.trans (hV1.mono HB.out.size));have hX1:=hX1.below hX1.lt hV1;clear hV1;go_upto_region 2 with fail;refine wl<|Yd (.agg (XK df)) (fun w'=>Below V1.heap.size V1 w') (HD.out V1) (fun V2 hV2=>?_);obtain⟨V3,hst3,oJ,XA⟩:=st_all (cs':=XK df) (ty:=25) (hX1.below hX1.lt hV2) rfl (by kernel_rfl) (by kernel_rfl);refine WC rfl (hst3)<|wn ?_;have Vk:Hid (Below w.heap.size w V3):=Z8 ((HB1.out.trans (hV2.mono HB1.out.size)).trans (XA.1.mono (by have:=WG.out; omega)));have hX1:=oJ;clear hV2 XA hst3 oJ;have h0:=And.intro (KN.start V3 df undef undef undef undef undef undef undef undef) (fun h:false=true=>h);have O7:=Z8 hX1;clear hX1;go_upto_region 3 with fail;refine ZI (fun listed Zr V=>∃ b0 b1 b2 b3 b4 b5 b6 b7 b8 b9 b10 b11 b12 b13 b14 b15:Bool,∃ x8 x9 x12 x13 x14 x19 x20 x21:Value,listed=#[b0,b1,b2,b3,b4,b5,b6,b7,b8,b9,b10,b11,b12,b13,b14,b15]/\Zr={ tmps:=#[.agg (XK c),Z7 g1 0,(cond b15 (x21) (.pointer none)),.agg (XK c),Z9 vv,ZT,.agg (XK df),(cond b0 (.agg (XK df)) undef),x8,x9,(cond b3 (Z7 g1 0) undef),(cond b4 (Z9 (df.getD 0 0)) undef),x12,x13,x14,(cond b8 (Z7 g1 4) undef),(cond b9 (Z9 (df.getD 4 0)) undef),(cond b10 (Z7 g1 5) undef),(cond b11 (Z9 (df.getD 5 0)) undef),x19,x20,x21],defers:=[] }/\KN V3 df b1 b2 b5 b6 b7 b12 b13 b14 x8 x9 x12 x13 x14 x19 x20 x21 V/\(b15=true->b14=true)) (by kernel_rfl) (by kernel_rfl) ?_ ?_ ?_
 ·exact⟨_,_,_,_,_,_,_,_,_,_,_,_,_,_,_,_,_,_,_,_,_,_,_,_,rfl,rfl,h0⟩
 ·intro i9 listed Zr V hi9 hr hJ;obtain⟨b0,b1,b2,b3,b4,b5,b6,b7,b8,b9,b10,b11,b12,b13,b14,b15,x8,x9,x12,x13,x14,x19,x20,x21,rfl,rfl,hF⟩:=hJ;have hi2:i9<16:=hi9;have hi3:i9=0∨i9=1∨i9=2∨i9=3∨i9=4∨i9=5∨i9=6∨i9=7∨i9=8∨i9=9∨i9=10∨i9=11∨i9=12∨i9=13∨i9=14∨i9=15:=by omega
  rcases hi3 with rfl | rfl | rfl | rfl | rfl | rfl | rfl | rfl | rfl | rfl | rfl | rfl | rfl | rfl | rfl | rfl
  ·obtain rfl:b0=false:=Z5 hr;refine ZJ rfl (by kernel_rfl) (some 7) rfl 25 (.tmp 1) rfl ⟨g1,0,none⟩ (.agg (XK df)) (by kernel_rfl) (Rx (O7.out.below O7.out.lt hF.1.bel)) ?_;exact⟨_,_,_,_,_,_,_,_,_,_,_,_,_,_,_,_,_,_,_,_,_,_,_,_,rfl,rfl,hF⟩
  ·obtain rfl:b1=false:=Z5 hr;obtain⟨rfl,rfl⟩:=hF.1.off (fun h=>nomatch h.1);refine ZX rfl (by kernel_rfl) (some 8) rfl (.map (some V.heap.size)) (V.alloc (.map #[] 0)) (Ex.Vw 89 rfl) ?_;exact⟨_,_,_,_,_,_,_,_,_,_,_,_,_,_,_,_,_,_,_,_,_,_,_,_,rfl,rfl,hF.1.a1,hF.2⟩
  ·obtain rfl:b2=false:=Z5 hr;obtain⟨rfl,rfl⟩:=hF.1.off (fun h=>nomatch h.2.1);refine ZX rfl (by kernel_rfl) (some 9) rfl (.map (some V.heap.size)) (V.alloc (.map #[] 0)) (Ex.Vw 88 rfl) ?_;exact⟨_,_,_,_,_,_,_,_,_,_,_,_,_,_,_,_,_,_,_,_,_,_,_,_,rfl,rfl,hF.1.a2,hF.2⟩
  ·obtain rfl:b3=false:=Z5 hr;refine ZX rfl (by kernel_rfl) (some 10) rfl (Z7 g1 0) V (by kernel_rfl) ?_;exact⟨_,_,_,_,_,_,_,_,_,_,_,_,_,_,_,_,_,_,_,_,_,_,_,_,rfl,rfl,hF⟩
  ·obtain rfl:b4=false:=Z5 hr;obtain rfl:b3=true:=Z4 hr 3;refine ZJ rfl (by kernel_rfl) (some 11) rfl 3 (.tmp 10) rfl ⟨g1,0,none⟩ (Z9 (df.getD 0 0)) (by kernel_rfl) ((O7.out.below O7.out.lt hF.1.bel).ZL 0) ?_;exact⟨_,_,_,_,_,_,_,_,_,_,_,_,_,_,_,_,_,_,_,_,_,_,_,_,rfl,rfl,hF⟩
  ·obtain rfl:b5=false:=Z5 hr;obtain rfl:b4=true:=Z4 hr 4;obtain⟨rfl,rfl⟩:=hF.1.off (fun h=>nomatch h.2.2.1);refine YX rfl (by kernel_rfl) (some 12) rfl 54 #[Z9 (df.getD 0 0)] (by kernel_rfl) ((Sl.Uy (df.getD 0 0) V).mono ?_);rintro e9 V9 ⟨g9,S9,rfl,Kv,PV,Yi⟩;exact⟨_,rfl,_,_,_,_,_,_,_,_,_,_,_,_,_,_,_,_,_,_,_,_,_,_,_,_,rfl,rfl,hF.1.a3 Kv PV Yi,hF.2⟩
  ·obtain rfl:b6=false:=Z5 hr;obtain⟨rfl,rfl⟩:=hF.1.off (fun h=>nomatch h.2.2.2.1);refine YX rfl (by kernel_rfl) (some 13) rfl 55 #[] (by kernel_rfl) ((Hp.yj V).mono ?_);rintro e9 V9 ⟨g9,S9,rfl,Kv,PV,Yi⟩;exact⟨_,rfl,_,_,_,_,_,_,_,_,_,_,_,_,_,_,_,_,_,_,_,_,_,_,_,_,rfl,rfl,hF.1.a4 Kv PV Yi,hF.2⟩
  ·obtain rfl:b7=false:=Z5 hr;obtain⟨rfl,rfl⟩:=hF.1.off (fun h=>nomatch h.2.2.2.2.1);refine YX rfl (by kernel_rfl) (some 14) rfl 56 #[] (by kernel_rfl) ((Sd.Uy V).mono ?_);rintro e9 V9 ⟨g9,S9,rfl,Kv,PV,Yi⟩;exact⟨_,rfl,_,_,_,_,_,_,_,_,_,_,_,_,_,_,_,_,_,_,_,_,_,_,_,_,rfl,rfl,hF.1.a5 Kv PV Yi,hF.2⟩
  ·obtain rfl:b8=false:=Z5 hr;refine ZX rfl (by kernel_rfl) (some 15) rfl (Z7 g1 4) V (by kernel_rfl) ?_;exact⟨_,_,_,_,_,_,_,_,_,_,_,_,_,_,_,_,_,_,_,_,_,_,_,_,rfl,rfl,hF⟩
  ·obtain rfl:b9=false:=Z5 hr;obtain rfl:b8=true:=Z4 hr 8;refine ZJ rfl (by kernel_rfl) (some 16) rfl 3 (.tmp 15) rfl ⟨g1,4,none⟩ (Z9 (df.getD 4 0)) (by kernel_rfl) ((O7.out.below O7.out.lt hF.1.bel).ZL 4) ?_;exact⟨_,_,_,_,_,_,_,_,_,_,_,_,_,_,_,_,_,_,_,_,_,_,_,_,rfl,rfl,hF⟩
  ·obtain rfl:b10=false:=Z5 hr;refine ZX rfl (by kernel_rfl) (some 17) rfl (Z7 g1 5) V (by kernel_rfl) ?_;exact⟨_,_,_,_,_,_,_,_,_,_,_,_,_,_,_,_,_,_,_,_,_,_,_,_,rfl,rfl,hF⟩
  ·obtain rfl:b11=false:=Z5 hr;obtain rfl:b10=true:=Z4 hr 10;refine ZJ rfl (by kernel_rfl) (some 18) rfl 3 (.tmp 17) rfl ⟨g1,5,none⟩ (Z9 (df.getD 5 0)) (by kernel_rfl) ((O7.out.below O7.out.lt hF.1.bel).ZL 5) ?_;exact⟨_,_,_,_,_,_,_,_,_,_,_,_,_,_,_,_,_,_,_,_,_,_,_,_,rfl,rfl,hF⟩
  ·obtain rfl:b12=false:=Z5 hr;obtain rfl:b9=true:=Z4 hr 9;obtain rfl:b11=true:=Z4 hr 11;obtain⟨rfl,rfl⟩:=hF.1.off (fun h=>nomatch h.2.2.2.2.2);refine YX rfl (by kernel_rfl) (some 19) rfl 57 #[Z9 (df.getD 4 0),Z9 (df.getD 5 0)] (by kernel_rfl) ((Ex.Uy (df.getD 4 0) (df.getD 5 0) V).mono ?_);rintro e9 V9 ⟨g9,S9,rfl,Kv,PV,Yi⟩;exact⟨_,rfl,_,_,_,_,_,_,_,_,_,_,_,_,_,_,_,_,_,_,_,_,_,_,_,_,rfl,rfl,hF.1.a6 Kv PV Yi,hF.2⟩
  ·obtain rfl:b13=false:=Z5 hr;obtain rfl:b0=true:=Z4 hr 0;obtain rfl:b1=true:=Z4 hr 1;obtain rfl:b2=true:=Z4 hr 2;obtain rfl:b5=true:=Z4 hr 5;obtain rfl:b6=true:=Z4 hr 6;obtain rfl:b7=true:=Z4 hr 7;obtain rfl:b12=true:=Z4 hr 12;obtain rfl:=SY hF.1.o14 rfl;obtain⟨d9,rfl,rfl,rfl,rfl,rfl,rfl,PU⟩:=hF.1.a13;refine ZX rfl (by kernel_rfl) (some 20) rfl (.agg (O8 df 0 d9)) V (by kernel_rfl) ?_;exact⟨_,_,_,_,_,_,_,_,_,_,_,_,_,_,_,_,_,_,_,_,_,_,_,_,rfl,rfl,PU,hF.2⟩
  ·obtain rfl:b14=false:=Z5 hr;obtain rfl:b13=true:=Z4 hr 13;obtain rfl:=SY hF.2 rfl;obtain⟨rfl,rfl,rfl,rfl,rfl,rfl⟩:=hF.1.n14;obtain⟨d9,rfl,PU⟩:=hF.1.a14;refine ZX rfl (by kernel_rfl) (some 21) rfl (Z7 V.heap.size 0) (V.alloc (.cells (O8 df 0 d9) 95)) (by kernel_rfl) ?_;exact⟨_,_,_,_,_,_,_,_,_,_,_,_,_,_,_,_,_,_,_,_,_,_,_,_,rfl,rfl,PU,fun h=>nomatch h⟩
  ·obtain rfl:b15=false:=Z5 hr;obtain rfl:b14=true:=Z4 hr 14;refine ZX rfl (by kernel_rfl) (some 2) rfl (x21) V (by kernel_rfl) ?_;exact⟨_,_,_,_,_,_,_,_,_,_,_,_,_,_,_,_,_,_,_,_,_,_,_,_,rfl,rfl,hF.1,fun _=>rfl⟩
 ·intro Zr V hJ;obtain⟨b0,b1,b2,b3,b4,b5,b6,b7,b8,b9,b10,b11,b12,b13,b14,b15,x8,x9,x12,x13,x14,x19,x20,x21,he,rfl,hF⟩:=hJ;have he:(#[true,true,true,true,true,true,true,true,true,true,true,true,true,true,true,true]:Array Bool)=#[b0,b1,b2,b3,b4,b5,b6,b7,b8,b9,b10,b11,b12,b13,b14,b15]:=he;simp only[Array.mk.injEq,List.cons.injEq,and_true] at he;obtain⟨rfl,rfl,rfl,rfl,rfl,rfl,rfl,rfl,rfl,rfl,rfl,rfl,rfl,rfl,rfl,rfl⟩:=he;simp only[cond_true];obtain⟨d9,s9,hk9,-,-,-,-,-,-,-,h14⟩:=hF.1.ex;obtain⟨g9,rfl,oL,KJ,Ij⟩:=h14 rfl;obtain⟨S9,oK,PV⟩:=hk9.pool oL KJ Ij iU.out;have HE:Hid (PO (.returned (Z7 g9 0)) V):=Z8 (by rw[<- qC.out]; exact⟨g9,S9,rfl,oK,fun k hk=>Nat.le_trans Vk.out.size (PV k hk),Vk.out.trans (hF.1.bel.mono Vk.out.size)⟩);clear hF h0 hk9 h14 oL KJ Ij oK PV;go_wp2_with fail;exact HE.out
theorem Gq {c:List Int}(hc:Cg.PY c)(w:World):Calls Tryz.prog 26 #[.agg (XK c)] w (qE w (qH c)):=by
 unfold qH;by_cases hv:Cg.Ul c=0
 ·rw[if_pos hv]; exact wu hc hv w
 ·rw[if_neg hv]; exact wo hc hv w
theorem BM {w:World}{g u:Nat}{d:Pd}{s:Ps}{c:List Int}{m:Sm}{M:List Hp.It}{R:List Sd.Rw}{L:List El}(h:Pq w g d s c u m M R L L (L.map Ox))(hi:PI c u m M R L)(hc:QZ c)(e:En)(dd:Ad)(he:OE e)(h0:X6 (c.getD 0 0) (c.getD 1 0) (eL L) e≠0):Calls Tryz.prog 27 #[Z7 g 0,.agg (ZQ e dd)] w fun r w'=>r=.returned (Z9 (X6 (c.getD 0 0) (c.getD 1 0) (eL L) e))/\Below w.heap.size w w':=by
 have Gn:Hid (∀ U,Below w.heap.size w U->Calls Tryz.prog 58 #[Z7 g 0,.agg (ZQ e dd)] U fun r w'=>r=.returned (Z9 (X6 (c.getD 0 0) (c.getD 1 0) (eL L) e))/\Below U.heap.size U w'):=Z8 fun U hU=>Pg (h.below hU) hi hc e dd he;obtain⟨iv,hiv⟩:=ZR (X6 (c.getD 0 0) (c.getD 1 0) (eL L) e);rw[hiv] at Gn h0 ⊢;have H0:=Z8 h0;clear h hi hc he h0 hiv;go_enter Tryz.func27,Tryz.ntmps27;go_upto_region 1 with fail;change Code.wp _ _ _ _ (w.alloc (.cells (ZQ e dd) 52));have Zn:Below w.heap.size w (w.alloc (.cells (ZQ e dd) 52)):=(Below.refl _ w).alloc (Nat.le_refl _) _;have Ze:Bx (w.alloc (.cells (ZQ e dd) 52)) w.heap.size (ZQ e dd) 52:=heap_alloc_last w _;have Yq:(w.alloc (.cells (ZQ e dd) 52)).heap.size=w.heap.size+1:=by simp
 generalize w.alloc (.cells (ZQ e dd) 52)=W at *
 obtain⟨g3,hg3⟩:=ZR w.heap.size;rw[hg3] at Ze;have WG:Hid (g3=w.heap.size+0/\W.heap.size=w.heap.size+1):=Z8 ⟨by omega,by omega⟩;have HB:=Z8 Zn;simp only[hg3];clear Zn Yq hg3;refine wl<|ZN (Z7 g 0)<|Zq rfl ⟨g3,0,none⟩ (.agg (ZQ e dd)) (ZC (ZV Ze))<|Yd (Z9 iv) (fun w'=>Below W.heap.size W w') (Gn.out W HB.out) (fun W1 hW1=>?_);refine ZN (Z9 iv)<|wn ?_;simp only[pu];have HE:=Z8 (HB.out.trans (hW1.mono HB.out.size));clear Ze hW1;go_upto_region 2 with fail;refine wl<|ZN (Z9 iv)<|YF (QV rfl iv 0 (decide_eq_true H0.out))<|wn ?_;simp only[pu];go_upto_region 3 with fail;refine wl<|ZA (Z9 iv) (Z9 iv)<|wn ?_;simp only[pu];go_wp2_with fail;go_ret;exact⟨rfl,HE.out⟩
theorem Gl (e:En)(dd:Ad)(w:World):Calls Tryz.prog 27 #[.pointer none,.agg (ZQ e dd)] w fun r w'=>r=.returned (Z9 9)/\Below w.heap.size w w':=by
 go_enter Tryz.func27,Tryz.ntmps27;go_upto_region 1 with fail;change Code.wp _ _ _ _ (w.alloc (.cells (ZQ e dd) 52));have Zn:Below w.heap.size w (w.alloc (.cells (ZQ e dd) 52)):=(Below.refl _ w).alloc (Nat.le_refl _) _;have Ze:Bx (w.alloc (.cells (ZQ e dd) 52)) w.heap.size (ZQ e dd) 52:=heap_alloc_last w _;have Yq:(w.alloc (.cells (ZQ e dd) 52)).heap.size=w.heap.size+1:=by simp
 generalize w.alloc (.cells (ZQ e dd) 52)=W at *
 obtain⟨g3,hg3⟩:=ZR w.heap.size;rw[hg3] at Ze;have WG:Hid (g3=w.heap.size+0/\W.heap.size=w.heap.size+1):=Z8 ⟨by omega,by omega⟩;have HB:=Z8 Zn;simp only[hg3];clear Zn Yq hg3;refine wl<|ZN (.pointer none)<|Zq rfl ⟨g3,0,none⟩ (.agg (ZQ e dd)) (ZC (ZV Ze))<|Yd (Z9 9) (fun w'=>Below W.heap.size W w') (Il e dd W) (fun W1 hW1=>?_);refine ZN (Z9 9)<|wn ?_;simp only[pu];have HE:=Z8 (HB.out.trans (hW1.mono HB.out.size));clear Ze hW1;go_upto_region 2 with fail;refine wl<|ZN (Z9 9)<|YF (QV rfl 9 0 (decide_eq_true (by decide)))<|wn ?_;simp only[pu];go_upto_region 3 with fail;refine wl<|ZA (Z9 9) (Z9 9)<|wn ?_;simp only[pu];go_wp2_with fail;go_ret;exact⟨rfl,HE.out⟩
theorem Gj (k:Nat->Int)(w:World):Calls Tryz.prog 31 #[.pointer none,.agg (Y4 k)] w fun r w'=>r=.returned ZW/\Below w.heap.size w w':=by
 go_enter Tryz.func31,Tryz.ntmps31;go_upto_region 1 with fail;change Code.wp _ _ _ _ (w.alloc (.cells (Y4 k) 38));have Zn:Below w.heap.size w (w.alloc (.cells (Y4 k) 38)):=(Below.refl _ w).alloc (Nat.le_refl _) _;have Ze:Bx (w.alloc (.cells (Y4 k) 38)) w.heap.size (Y4 k) 38:=heap_alloc_last w _;have Yq:(w.alloc (.cells (Y4 k) 38)).heap.size=w.heap.size+1:=by simp
 generalize w.alloc (.cells (Y4 k) 38)=W at *
 obtain⟨g3,hg3⟩:=ZR w.heap.size;rw[hg3] at Ze;have WG:Hid (g3=w.heap.size+0/\W.heap.size=w.heap.size+1):=Z8 ⟨by omega,by omega⟩;have HB:=Z8 Zn;simp only[hg3];clear Zn Yq hg3;refine wl<|ZN (.pointer none)<|Zq rfl ⟨g3,0,none⟩ (.agg (Y4 k)) (Ov Ze)<|Yd (.tuple #[.agg (ZQ Zf YW),ZW]) (fun w'=>Below W.heap.size W w') (Gi k W) (fun V1 hV1=>?_);obtain⟨V2,hst2,hb2,Ou⟩:=YQ (c:=ZQ Zf YW) (c':=ZQ Zf YW) (ty:=52) V1 rfl (Y3 _ _) (by kernel_rfl);have HE:=Z8 (HB.out.trans ((hV1.trans (hb2.mono hV1.size)).mono HB.out.size));refine YU (.tuple #[.agg (ZQ Zf YW),ZW]) (.agg (ZQ Zf YW)) ZW ?_;refine YP rfl (some 5) rfl (Z7 V1.heap.size 0) (V1.alloc (.cells (ZQ Zf YW) 52)) (by kernel_rfl) ?_;refine WC rfl (hst2)<|ZN ZW<|wn ?_;simp only[pu];clear hst2 hV1 Ze hb2 Ou;go_upto_region 2 with fail;refine wl<|ZA ZW ZT<|wn ?_;simp only[pu];go_upto_region 3 with fail;refine wl<|ZN ZW<|wn ?_;simp only[pu];go_wp2_with fail;go_ret;exact⟨rfl,HE.out⟩
theorem BL (w:World):Calls Tryz.prog 33 #[.pointer none] w fun r w'=>r=.returned (.tuple #[])/\w=w':=by
 go_enter Tryz.func33,Tryz.ntmps33;go_upto_region 0 with fail;refine wl<|ZA (.pointer none) ZW<|wn ?_;simp only[pu];go_wp2_with fail;exact bodyPost_end (v:=.tuple #[]) (by kernel_rfl) rfl ⟨rfl,rfl⟩
theorem YC.insert {w:World}{g u B:Nat}{S:Nat->Prop}{c:List Int}{E:List En}(h:YC w g S c u E)(e:En)(dd:Ad)(he:OE e)(hI:Vl w e dd)(ho:∀ k,EB e dd k->¬ S k)(hB:∀ k,S k->B<=k)(hw:B<=w.heap.size)(hu:u<=100000):Calls Tryz.prog 27 #[Z7 g 0,.agg (ZQ e dd)] w fun r w'=>r=.returned (Z9 (X6 (c.getD 0 0) (c.getD 1 0) E e))/\PX g B S c (u+1) (insL (c.getD 0 0) (c.getD 1 0) E e) w w':=by
 have h1:=h;obtain⟨v,L,hv,rfl,d,s,m,M,R,hq,hi,hc,hS⟩:=h;by_cases h0:X6 (c.getD 0 0) (c.getD 1 0) (eL L) e=0
 ·refine(BK (B:=B) hq hi hc e dd he hI (fun k hk i q=>ho k hk ((hS k).2 ⟨i,q⟩)) (fun i k q=>hB k ((hS k).2 ⟨i,q⟩)) hw (by omega) h0).mono fun r w' z=>⟨by rw[z.1,h0],?_⟩;obtain⟨s',h2,h3⟩:=z.2;rw[Ud h0];have h4:=hi.ins he h0;have h5:=h3.fin hS h2 h4.2.2.2.2.2.2.2.2 hc (u:=u+1) (by omega);rw[Ot] at h5;exact h5
 ·refine(BM hq hi hc e dd he h0).mono fun r w' z=>⟨z.1,?_⟩;rw[OB h0];exact(h1.mono (Nat.le_succ u)).upd z.2 hw
def KC (E:List En)(k:Nat->Int):En:=if Ik E k then E.getD (RN k E) Zf else Zf
theorem YC.get {w:World}{g u B:Nat}{S:Nat->Prop}{c:List Int}{E:List En}(h:YC w g S c u E)(k:Nat->Int):Calls Tryz.prog 21 #[Z7 g 0,.agg (Y4 k)] w fun r w'=>∃ d2,r=.returned (.tuple #[.agg (ZQ (KC E k) d2),.bool (Ik E k)])/\XT w' w.heap.size (KC E k) d2/\Below w.heap.size w w':=by
 obtain⟨v,L,hv,rfl,d,s,m,M,R,hq,hi,hc,hS⟩:=h;cases hf:Ve k L with
 | none=>
  have h0:Ik (eL L) k=false:=by
   have:=Ry (L:=L) (k:=k);rw[hf] at this;exact this.symm
  unfold KC;rw[h0];exact(oM hq hi k hf).mono fun r w' z=>⟨YW,z.1,⟨World.ownsRow_nil _ _ _ _,World.ownsRow_nil _ _ _ _⟩,z.2⟩
 | some x=>
  have h0:Ik (eL L) k=true:=by
   have:=Ry (L:=L) (k:=k);rw[hf] at this;exact this.symm
  have h1:KC (eL L) k=x.e:=by
   obtain⟨A,C,rfl,hat,-⟩:=Kz hi.wp.key hf;unfold KC;rw[h0,if_pos rfl,hat,Ot,List.getD_eq_getElem?_getD,List.getElem?_append_right (by rw[SQ]; exact Nat.le_refl _),SQ,Nat.sub_self];rfl
  rw[h0,h1];exact Gg hq hi k hf
section
variable {ρ : Operand -> Value} {o : Oper} {x y : Operand}
theorem SV (ho:o.op=.binOp .eql 61 x y 61)(a b:Int){t:Bool}(ht:decide (a=b)=t)(hx:ρ x=Z9 a)(hy:ρ y=Z9 b)(w:World):(execOp ρ o).run Tryz.prog w=.ok (.value (.bool t)) w:=by
 have e:(a == b)=t:=ht;unfold execOp;simp only[ho,hx,hy];go_simp
end
structure P7 (B:Nat)(w:World)(g0:Nat)(S:Nat->Prop)(c:List Int)(u:Nat)(E:List En)(V:World):Prop where
 rep:YC V g0 S c u E
 so:∀ k,S k->B<=k
 bz:B<=V.heap.size
 bel:Below w.heap.size w V
 wB:w.heap.size<=B
structure iV (V:World)(S:Nat->Prop)(q:Nat)(cs:Array Value)(t:Nat):Prop where
 bx:Bx V q cs t
 ns:¬ S q
section
variable {B : Nat} {w V V2 : World} {g0 q t : Nat} {S S2 : Nat -> Prop} {c : List Int} {u u2 : Nat} {E E2 : List En} {cs : Array Value}
theorem P7.below (h:P7 B w g0 S c u E V)(hb:Below V.heap.size V V2):P7 B w g0 S c u E V2:=⟨h.rep.below hb,h.so,Nat.le_trans h.bz hb.size,h.bel.trans (hb.mono h.bel.size),h.wB⟩
theorem P7.upd (h:P7 B w g0 S c u E V)(hu:PX g0 B S c u2 E2 V V2):∃ S2,P7 B w g0 S2 c u2 E2 V2/\(∀ k,k<V.heap.size->¬ S k->¬ S2 k)/\ZP B S V V2:=by
 obtain⟨S2,h1,h2,h3⟩:=hu;exact⟨S2,⟨h1,fun k hk=>(h2 k hk).elim (h.so k) (Nat.le_trans h.bz),Nat.le_trans h.bz h3.1.size,h.bel.trans (h3.1.mono h.wB),h.wB⟩,fun k hk hn h4=>(h2 k h4).elim hn (by omega),h3⟩
theorem P7.but (h:P7 B w g0 S c u E V)(hb:But q V V2)(hq:w.heap.size<=q)(hn:¬ S q):P7 B w g0 S c u E V2:=
 ⟨h.rep.same fun k hk=>hb.2 k (h.rep.inn k hk) fun e=>hn (e ▸ hk),h.so,Nat.le_trans h.bz hb.1.size,h.bel.trans (hb.1.mono hq),h.wB⟩
theorem iV.new (h:P7 B w g0 S c u E V)(hX:Bx V2 V.heap.size cs t):iV V2 S V.heap.size cs t:=⟨hX,fun hs=>Nat.lt_irrefl _ (h.rep.inn _ hs)⟩
theorem P7.ins (h:P7 B w g0 S c u E V){e:En}{d:Ad}(he:OE e)(hI:Vl V2 e d)(ho:∀ k,EB e d k->¬ S k)(hb:Below V.heap.size V V2)(hu:u<=100000):Calls Tryz.prog 27 #[Z7 g0 0,.agg (ZQ e d)] V2 fun r w'=>r=.returned (Z9 (X6 (c.getD 0 0) (c.getD 1 0) E e))/\PX g0 B S c (u+1) (insL (c.getD 0 0) (c.getD 1 0) E e) V2 w':=
 (h.below hb).rep.insert e d he hI ho h.so (h.below hb).bz hu
theorem P7.Oz (h:P7 B w g0 S c u E V){e:En}{d:Ad}(hw:XT V2 V.heap.size e d):∀ k,EB e d k->¬ S k:=fun k hk hs=>by
 have:=hw.ge k hk;have:=h.rep.inn k hs;omega
theorem P7.start {gp:Nat}(hn:YC V gp S c u E)(hl:∀ k,S k->w.heap.size<=k)(hb:Below w.heap.size w V):P7 w.heap.size w gp S c u E V:=⟨hn,hl,hb.size,hb,Nat.le_refl _⟩
end
theorem wC (x:Int)(V:World):(Instr.buildSlice 50 1 #[(0,.int .u8 x)]).run Tryz.prog V=.ok (.slice (some ⟨V.heap.size,0,none⟩) 1 1) (V.alloc (.cells #[.int .u8 x] 5)):=by
 obtain⟨i0,hi,hz0,hz1,hz2⟩:=info_parts info5;refine run_buildSlice V 50 5 1 _ #[.int .u8 x] i0 _ Tryz.underlying50 hi hz0 (by rw[hz1]; omega) (by rw[hz1]; omega) ?_;rw[hz1];kernel_rfl
def Gt (n:Nat)(s:ByteArray)(q p:Int):En:=⟨fun i=>if i=0 then (n:Int) else 0,[(n:Int)],s,q,0,p,0,0,n,[]⟩
theorem Jl {n:Nat}{s:ByteArray}{q p:Int}(hq:0<=q/\q<=100)(hs:s.size<=1000):OE (Gt n s q p):=⟨⟨by show 1<=60000; omega,by show 0<=60000; omega⟩,⟨hq.1,by show q<=_; omega⟩,⟨by show _<=(0:Int); omega,by show(0:Int)<=_; omega⟩,⟨by show _<=(0:Int); omega,by show(0:Int)<=_; omega⟩,by show s.size<=1000000; omega⟩
theorem RF (n:Nat)(hn:n<=255)(s:ByteArray)(q p:Int)(w:World):Calls Tryz.prog 34 #[Z9 n,.string s,ZY q,ZY p] w fun e w'=>∃ d,e=.returned (.agg (ZQ (Gt n s q p) d))/\XT w' w.heap.size (Gt n s q p) d/\Below w.heap.size w w':=by
 go_enter Tryz.func34,Tryz.ntmps34;go_upto_region 1 with fail;change Code.wp _ _ _ _ (w.alloc (.cells (ZQ Zf YW) 52));have Zn:Below w.heap.size w (w.alloc (.cells (ZQ Zf YW) 52)):=(Below.refl _ w).alloc (Nat.le_refl _) _;have yt:Bx (w.alloc (.cells (ZQ Zf YW) 52)) w.heap.size (ZQ Zf YW) 52:=heap_alloc_last w _;have Yq:(w.alloc (.cells (ZQ Zf YW) 52)).heap.size=w.heap.size+1:=by simp
 generalize w.alloc (.cells (ZQ Zf YW) 52)=W at *
 obtain⟨g8,CQ⟩:=ZR w.heap.size;rw[CQ] at yt;have WG:Hid (g8=w.heap.size+0/\W.heap.size=w.heap.size+1):=Z8 ⟨by omega,by omega⟩;have HB:=Z8 Zn;simp only[CQ];clear Zn Yq CQ;have Rz:Below W.heap.size W (W.alloc (.cells #[.int .u8 n] 5)):=(Below.refl _ W).alloc (Nat.le_refl _) _;have hbd:=wC n W;have Io:Bx (W.alloc (.cells #[.int .u8 n] 5)) W.heap.size #[.int .u8 n] 5:=heap_alloc_last W _;obtain⟨V2,hst2,oN,VL⟩:=st_all (cs':=ZQ (Gt n s q p) ⟨some ⟨W.heap.size,0,none⟩,1,none,0⟩) (ty:=52) (yt.below yt.lt Rz) rfl (Y3 _ _) (by kernel_rfl);have hrow:(W.alloc (.cells #[.int .u8 n] 5)).ownsRow w.heap.size 5 1 (.slice (some ⟨W.heap.size,0,none⟩) 1 1) 1 (Zp [(n:Int)]):=⟨rfl,.inr ⟨W.heap.size,1,#[.int .u8 n],rfl,HB.out.size,Io,Nat.le_refl _,by unfold maxLen; omega,rfl,rfl⟩⟩;have HE:Hid (XT V2 w.heap.size (Gt n s q p) ⟨some ⟨W.heap.size,0,none⟩,1,none,0⟩/\Below w.heap.size w V2):=Z8 ⟨⟨Zo hrow VL fun y hy=>by cases hy; have:=WG.out; show W.heap.size≠g8; omega,World.ownsRow_nil _ _ _ _⟩,(HB.out.trans (Rz.mono HB.out.size)).trans (VL.1.mono (by have:=WG.out; omega))⟩;clear yt Io hrow VL Rz;refine wl<|ZN (Z9 n)<|YT (.int .u8 n) (Oy rfl n hn (by kernel_rfl) _)<|ZA (.agg (Y4 (Gt n s q p).k)) (Z9 n)<|YT (.int .u8 n) (Oy rfl n hn (by kernel_rfl) _) ?_;refine YM (by kernel_rfl) (some 14) rfl 50 1 #[(0,.tmp 13)] rfl #[(0,.int .u8 n)] (by kernel_rfl) (.slice (some ⟨W.heap.size,0,none⟩) 1 1) _ (hbd) ?_;refine qF (.string s) (ZY q) (ZY p) (Z9 n) (.agg (ZQ (Gt n s q p) ⟨some ⟨W.heap.size,0,none⟩,1,none,0⟩))<|WC rfl (hst2)<|wn ?_;simp only[pu];clear hst2 hbd;go_wp2_with fail;exact bodyPost_ret (YR rfl (by kernel_rfl) (ZC (ZV oN))) rfl ⟨_,rfl,HE.out⟩
def kC:List Int:=[2,10,5,0,1,0,0,10,-1,0,0,1]
def SX:En:=Gt 1 ⟨#[97]⟩ 1 5
def oW:En:=Gt 2 ⟨#[97]⟩ 1 5
def OC:En:=Gt 3 ⟨#[97]⟩ 0 9
def oV:En:=Gt 4 ⟨#[98]⟩ 0 9
theorem oU:Cg.PY kC:=by refine⟨rfl,.inl rfl,by decide,by decide,?_⟩; decide
theorem fK:qH kC=kC:=if_pos (by decide)
theorem kI1:X6 2 10 [] SX=0:=by decide +kernel
theorem kI2:X6 2 10 [SX] oW=9:=by decide +kernel
theorem kI3:X6 2 10 [SX] OC=0:=by decide +kernel
theorem kI4:X6 2 10 [SX,OC] oV=24:=by decide +kernel
theorem kL1:insL 2 10 [] SX=[SX]:=Ud kI1
theorem kL2:insL 2 10 [SX] oW=[SX]:=OB (by rw[kI2]; decide)
theorem kL3:insL 2 10 [SX] OC=[SX,OC]:=Ud kI3
theorem kL4:insL 2 10 [SX,OC] oV=[SX,OC]:=OB (by rw[kI4]; decide)
theorem kSo:sortL [SX,OC]=[OC,SX]:=by kernel_rfl
theorem kSe:MS ⟨#[97]⟩ [SX,OC]=[OC,SX]:=by kernel_rfl
theorem kG2:(Pj (Jm kC 2 0) [SX,OC]).length=2:=by kernel_rfl
theorem kG1:(Pj (Jm kC 1 0) [SX,OC]).length=0:=by kernel_rfl
theorem Gs {w V:World}{v:Value}{e1 e2:En}(h:Ue w [e1,e2] v V):∃ b off c d1,v=.slice (some ⟨b,off,none⟩) 2 c/\V.rangeAt b (off+0*41) (YN e1 d1)/\b<V.heap.size/\w.heap.size<=b:=by
 obtain⟨X,h1,h2,h3,h4⟩:=h;obtain⟨a,c,rfl,hcs,-⟩:=h2.cs;match X,h1 with
 | [x,y],h1=>
  simp only[lE,List.map_cons,List.map_nil,List.cons.injEq,and_true] at h1;obtain⟨rfl,rfl⟩:=h1;obtain⟨b,off,rfl,hb,hr⟩:=XR yu OA (by omega) qG hcs (i:=0) (by simp);exact⟨b,off,c,x.2,rfl,hr,hb,(h2.lt b rfl).1⟩
theorem QY (w:World):Calls Tryz.prog 9 #[] w fun e w'=>e=.returned ZT/\Below w.heap.size w w':=by
 have CN:=Gq oU w;rw[fK] at CN;go_enter Tryz.func9,Tryz.ntmps9;go_upto_region 1 with fail;refine wl<|ZN (.agg (XK kC))<|Vx (fun v w'=>∃ g S,v=Z7 g 0/\YC w' g S kC 0 []/\(∀ k,S k->w.heap.size<=k)/\Below w.heap.size w w') (CN.mono fun e9 w' z=>by obtain⟨g,S,h1,h2,h3,h4⟩:=z; exact⟨_,h1,g,S,rfl,h2,h3,h4⟩) (fun vv V0 hq=>?_);obtain⟨g0,S0,rfl,hr0,hl0,hb0⟩:=hq;have Gp:=Z8 (P7.start hr0 hl0 hb0);clear hr0 hl0 hb0 CN;refine ZN (Z7 g0 0)<|wn ?_;simp only[pu];go_upto_region 2 with fail;refine wl<|ZA (Z7 g0 0) ZW<|wn ?_;simp only[pu];go_upto_region 4 with fail;refine wl<|ZN (Z7 g0 0)<|Vx (fun v w'=>∃ d,v=.agg (ZQ SX d)/\XT w' V0.heap.size SX d/\Below V0.heap.size V0 w') ((RF 1 (by omega) ⟨#[97]⟩ 1 5 V0).mono fun e9 w' z=>by obtain⟨d,h1,h2,h3⟩:=z; exact⟨_,h1,d,rfl,h2,h3⟩) (fun vv V1 hq=>?_);obtain⟨d0,rfl,hw0,hb0⟩:=hq;have CI:=(Gp.out).ins (d:=d0) (show OE SX from Jl (by omega) (by decide)) hw0.i ((Gp.out).Oz hw0) hb0 (by omega);rw[show kC.getD 0 0=2 from rfl,show kC.getD 1 0=10 from rfl,kI1,kL1] at CI;refine Yd (Z9 0) (fun w'=>PX g0 w.heap.size S0 kC 1 [SX] V1 w') (CI) (fun V2 hq=>?_);obtain⟨S1,hs9,-,-⟩:=((Gp.out).below hb0).upd hq;have Jk:=Z8 hs9;clear hs9 hq hw0 hb0 CI Gp;refine ZN (Z7 g0 0)<|Vx (fun v w'=>∃ d,v=.agg (ZQ oW d)/\XT w' V2.heap.size oW d/\Below V2.heap.size V2 w') ((RF 2 (by omega) ⟨#[97]⟩ 1 5 V2).mono fun e9 w' z=>by obtain⟨d,h1,h2,h3⟩:=z; exact⟨_,h1,d,rfl,h2,h3⟩) (fun vv V3 hq=>?_);obtain⟨d1,rfl,hw1,hb1⟩:=hq;have CI:=(Jk.out).ins (d:=d1) (show OE oW from Jl (by omega) (by decide)) hw1.i ((Jk.out).Oz hw1) hb1 (by omega);rw[show kC.getD 0 0=2 from rfl,show kC.getD 1 0=10 from rfl,kI2,kL2] at CI;refine Yd (Z9 9) (fun w'=>PX g0 w.heap.size S1 kC 2 [SX] V3 w') (CI) (fun V4 hq=>?_);obtain⟨S2,hs9,-,-⟩:=((Jk.out).below hb1).upd hq;have HS2:=Z8 hs9;clear hs9 hq hw1 hb1 CI Jk;refine ZA (Z9 0) (Z9 9)<|wn ?_;simp only[pu];go_upto_region 5 with fail;refine wl<|ZN (Z7 g0 0)<|Vx (fun v w'=>∃ d,v=.agg (ZQ OC d)/\XT w' V4.heap.size OC d/\Below V4.heap.size V4 w') ((RF 3 (by omega) ⟨#[97]⟩ 0 9 V4).mono fun e9 w' z=>by obtain⟨d,h1,h2,h3⟩:=z; exact⟨_,h1,d,rfl,h2,h3⟩) (fun vv V5 hq=>?_);obtain⟨d2,rfl,hw2,hb2⟩:=hq;have CI:=(HS2.out).ins (d:=d2) (show OE OC from Jl (by omega) (by decide)) hw2.i ((HS2.out).Oz hw2) hb2 (by omega);rw[show kC.getD 0 0=2 from rfl,show kC.getD 1 0=10 from rfl,kI3,kL3] at CI;refine Yd (Z9 0) (fun w'=>PX g0 w.heap.size S2 kC 3 [SX,OC] V5 w') (CI) (fun V6 hq=>?_);obtain⟨S3,hs9,-,-⟩:=((HS2.out).below hb2).upd hq;have wF:=Z8 hs9;clear hs9 hq hw2 hb2 CI HS2;refine ZN (Z7 g0 0)<|Vx (fun v w'=>∃ d,v=.agg (ZQ oV d)/\XT w' V6.heap.size oV d/\Below V6.heap.size V6 w') ((RF 4 (by omega) ⟨#[98]⟩ 0 9 V6).mono fun e9 w' z=>by obtain⟨d,h1,h2,h3⟩:=z; exact⟨_,h1,d,rfl,h2,h3⟩) (fun vv V7 hq=>?_);obtain⟨d3,rfl,hw3,hb3⟩:=hq;have CI:=(wF.out).ins (d:=d3) (show OE oV from Jl (by omega) (by decide)) hw3.i ((wF.out).Oz hw3) hb3 (by omega);rw[show kC.getD 0 0=2 from rfl,show kC.getD 1 0=10 from rfl,kI4,kL4] at CI;refine Yd (Z9 24) (fun w'=>PX g0 w.heap.size S3 kC 4 [SX,OC] V7 w') (CI) (fun V8 hq=>?_);obtain⟨S4,hs9,-,-⟩:=((wF.out).below hb3).upd hq;have Gx:=Z8 hs9;clear hs9 hq hw3 hb3 CI wF;refine ZA (Z9 0) (Z9 24)<|wn ?_;simp only[pu];have C1:=Gx.out.rep.sorted;rw[kSo] at C1;go_upto_region 6 with fail;refine wl<|ZN (Z7 g0 0)<|Vx (fun v w'=>Ue V8 [OC,SX] v w') (C1.mono fun e9 w' z=>z) (fun vv V9 hq=>?_);have oQ:=hq.choose_spec.2.2.2;obtain⟨b1,o1,c1,e1,rfl,hrg1,-,-⟩:=Gs hq;clear hq;have fJ:=Z8 (Gx.out.below oQ);have C2:=fJ.out.rep.sender ⟨#[97]⟩;rw[kSe] at C2;clear C1;refine ZN (Z7 g0 0)<|Vx (fun v w'=>Ue V9 [OC,SX] v w') (C2.mono fun e9 w' z=>z) (fun vv V10 hq=>?_);have wE:=hq.choose_spec.2.2.2;obtain⟨b2,o2,c2,e2,rfl,hrg2,-,-⟩:=Gs hq;clear hq;have BN:=Z8 (fJ.out.below wE);have hrg1:=Zu hrg1 wE;have hbx:=BN.out.bel;clear C2 oQ wE fJ Gx;refine ZA (.slice (some ⟨b1,o1,none⟩) 2 c1) (.slice (some ⟨b2,o2,none⟩) 2 c2)<|wn ?_;simp only[pu];have C3:=BN.out.rep.expired (ht:=2) (tm:=0) ⟨by omega,by omega⟩ ⟨by omega,by omega⟩;go_upto_region 7 with fail;refine wl<|ZN (Z9 0)<|Yb ZT (SV rfl 0 0 (by decide))<|ZA ZT (Z9 9)<|Yb ZT (SV rfl 9 9 (by decide))<|YU ZT ZT (Z9 0) <|
  Yb ZT (SV rfl 0 0 (by decide))<|YU ZT ZT (Z9 24)<|Yb ZT (SV rfl 24 24 (by decide))<|MR ZT ZT (.slice (some ⟨b1,o1,none⟩) 2 c1) (Z9 2) <|
  Yb ZT (YA rfl 2 2 (by decide))<|YU ZT ZT (.slice (some ⟨b1,o1,none⟩) 2 c1)<|YT (Z7 b1 (o1+0*41)) (Yn b1 o1 2 c1 0 (by omega) _ _ _ rfl (by kernel_rfl) (by kernel_rfl)) <|
  ZN (Z7 b1 (o1+0*41+39))<|Zq rfl ⟨b1,o1+0*41+39,none⟩ (Z9 3) (ZK hrg1 (j:=39) rfl (by kernel_rfl))<|Yb ZT (YA rfl 3 3 (by decide)) <|
  MR ZT ZT (.slice (some ⟨b2,o2,none⟩) 2 c2) (Z9 2)<|Yb ZT (YA rfl 2 2 (by decide))<|YU ZT ZT (.slice (some ⟨b2,o2,none⟩) 2 c2) <|
  YT (Z7 b2 (o2+0*41)) (Yn b2 o2 2 c2 0 (by omega) _ _ _ rfl (by kernel_rfl) (by kernel_rfl))<|ZN (Z7 b2 (o2+0*41+34))<|Zq rfl ⟨b2,o2+0*41+34,none⟩ (ZY 0) (ZK hrg2 (j:=34) rfl (by kernel_rfl)) <|
  Yb ZT (QX rfl 0 0 (by decide))<|YU ZT ZT (Z7 g0 0) <|
  Vx (fun v w'=>∃ a c,v=.slice a 2 c/\Below V10.heap.size V10 w') (C3.mono fun e9 w' z=>by obtain⟨v,h1,h2,h3⟩:=z; obtain⟨a,c,rfl,-,-⟩:=Zi h2; exact⟨_,by rw[h1,kG2],a,c,rfl,h3⟩) (fun vv V11 hq=>?_)
 obtain⟨ka1,kc1,rfl,oP⟩:=hq;have KD:=Z8 (BN.out.below oP);have C4:=KD.out.rep.expired (ht:=1) (tm:=0) ⟨by omega,by omega⟩ ⟨by omega,by omega⟩;clear C3 oP BN hrg1 hrg2 hbx;refine ZN (Z9 2)<|Yb ZT (YA rfl 2 2 (by decide))<|YU ZT ZT (Z7 g0 0) <|
  Vx (fun v w'=>∃ a c,v=.slice a 0 c/\Below V11.heap.size V11 w') (C4.mono fun e9 w' z=>by obtain⟨v,h1,h2,h3⟩:=z; obtain⟨a,c,rfl,-,-⟩:=Zi h2; exact⟨_,by rw[h1,kG1],a,c,rfl,h3⟩) (fun vv V12 hq=>?_)
 obtain⟨ka2,kc2,rfl,oO⟩:=hq;have KL:=Z8 (KD.out.below oO);have C5:=KL.out.rep.fH;have C6:=KL.out.rep.fG;clear C4 oO KD;refine ZN (Z9 0)<|Yb ZT (YA rfl 0 0 (by decide))<|YU ZT ZT (Z7 g0 0)<|Yd (Z9 2) (fun w'=>V12=w') (C5) (fun V9 X9=>?_);subst X9;refine Yb ZT (YA rfl 2 2 (by decide))<|YU ZT ZT (Z7 g0 0)<|Yd (Z9 2) (fun w'=>V12=w') (C6) (fun V9 X9=>?_);subst X9;refine Yb ZT (YA rfl 2 2 (by decide))<|ZA ZT ZT<|wn ?_;simp only[pu];have HE:=Z8 KL.out.bel;clear C5 C6 KL;go_wp2_with fail;go_ret;exact⟨rfl,HE.out⟩
end Go.Proofs.YtnelmomagdcmnaaGreat
