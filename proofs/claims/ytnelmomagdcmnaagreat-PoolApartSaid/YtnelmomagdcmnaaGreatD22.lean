/-
  Texts joined.
-/
import Derived.Test.YtnelmomagdcmnaaGreatD21
import Derived.Deep.CutBlock
import Derived.Test.YtnelmomagdcmnaaGreatRows
import Derived.ProofKit
import Derived.ChangeOld
import Derived.SizedLaws
set_option maxRecDepth 100000
set_option maxHeartbeats 8000000
set_option linter.unusedSimpArgs false
set_option linter.unusedVariables false
namespace Go.Proofs.YtnelmomagdcmnaaGreat
open Go.RowKit
structure EX (S:Nat->Prop)(gn g10:Nat)(E:En)(d:Ad)(V:World):Prop where
 i:Vl V E d
 o:∀ k,EB E d k->¬ S k/\gn<k/\k≠g10
structure XO (S:Nat->Prop)(gn g10:Nat)(am:Option Addr)(cp:Nat)(X:List (En×Ad))(V:World):Prop where
 xr:Xr V am X
 xc:X.length<=cp
 xo:∀ k,oZ am X k->¬ S k/\gn<k/\k≠g10
structure BO (S:Nat->Prop)(gn g10 q:Nat)(cs:Array Value)(t:Nat)(V:World):Prop where
 bx:Bx V q cs t
 ns:¬ S q
 gq:gn<q
 nq:q≠g10
structure PS (w:World)(gn:Nat)(a:Option Addr)(c:Nat)(L:List Int)(B g0:Nat)(S:Nat->Prop)(cf:List Int)(u:Nat)(E:List En)(am:Option Addr)(cp:Nat)(X:List (En×Ad))(g10 N:Nat)(V:World):Prop where
 bel:Below w.heap.size w V
 wn:w.heap.size<=gn
 nB:gn<B
 bz:B<=V.heap.size
 nm:Nm V gn a c L N
 rep:YC V g0 S cf u E
 so:∀ k,S k->B<=k
 x:XO S gn g10 am cp X V
 b10:Bx V g10 (BP cf am X.length cp) 31
 n10:¬ S g10
 gl:gn<g10
section
variable {w : World} {gn : Nat} {a : Option Addr} {c : Nat} {L : List Int} {B g0 q t : Nat} {S S2 : Nat -> Prop} {cf : List Int} {u u2 : Nat} {E E2 : List En} {am a2 : Option Addr} {cp c2 : Nat} {X Y : List (En × Ad)} {g10 N N2 : Nat} {V V2 : World} {e : En} {d : Ad} {cs : Array Value}
end
theorem yw.g {e:En}(h:yw e)(hr:e.raw.length<=8)(hp:e.Y6.length<=2):OE e:=by
 obtain⟨h1,h2,h3,h4⟩:=h;refine⟨⟨by omega,by omega⟩,⟨h2.1,by omega⟩,⟨by omega,by omega⟩,⟨by omega,by omega⟩,?_⟩;have:∀ s∈nms,s.size<=1000000:=by decide
 exact this _ h1
structure PlQ (w:World)(g0:Nat)(S:Nat->Prop)(cf:List Int)(u:Nat)(am:Option Addr)(cp:Nat)(X:List (En×Ad))(w':World):Prop where
 rep:YC w' g0 S cf u (lE X)
 un:u<=250
 so:∀ k,S k->w.heap.size<=k
 xr:Xr w' am X
 xc:X.length<=cp
 xo:∀ k,oZ am X k->¬ S k
 ef:∀ e∈lE X,yw e
 bel:Below w.heap.size w w'
end Go.Proofs.YtnelmomagdcmnaaGreat
namespace Go.Proofs.YtnelmomagdcmnaaGreat
attribute [local irreducible] wpList wpQuiet
open Go.RowKit
structure PF (w:World)(gn:Nat)(a:Option Addr)(c:Nat)(L:List Int)(g3 g5 g8:Nat)(cf0 cf:List Int)(N:Nat)(V:World):Prop where
 bel:Below w.heap.size w V
 nm:Nm V gn a c L N
 b3:Bx V g3 (XK cf0) 25
 b5:Bx V g5 #[Z9 0,Z9 0,Z9 0,Z9 0,Z9 0,Z9 0,ZW,Z9 0,Z9 0,ZY 0,Z9 0,Z9 0,.slice none 0 0] 31
 b8:Bx V g8 (XK cf) 25
 ok:Cg.PY cf
 w3:w.heap.size<=gn/\g3<gn/\g5<gn/\gn<g8
section
variable {w : World} {gn : Nat} {a : Option Addr} {c : Nat} {L : List Int} {g3 g5 g8 : Nat} {cf0 cf cf2 : List Int} {N N2 : Nat} {V V2 : World}
end
structure K7 (W:World)(cf:List Int)(b1 b4 b6:Bool)(x36 x10:Value)(V:World):Prop where
 o6:b6=true->b4=true
 bel:Below W.heap.size W V
 ex:∃ (g:Nat) (S:Nat->Prop) (q:Nat),(b1=true->x36=Z7 g 0/\YC V g S (qH cf) 0 []/\∀ k,S k->W.heap.size<=k)/\(b4=true->x10=Z7 q 0/\W.heap.size<=q/\Bx V q (bif b6 then BP (qH cf) none 0 0 else #[Z9 0,Z9 0,Z9 0,Z9 0,Z9 0,Z9 0,ZW,Z9 0,Z9 0,ZY 0,Z9 0,Z9 0,.slice none 0 0]) 31)/\(b1=true->b4=true->¬ S q)
section
variable {W V V2 : World} {cf : List Int} {b1 b4 b6 : Bool} {x36 x10 v : Value} {e9 : Ending}
end
structure BD (w:World)(gn:Nat)(a:Option Addr)(c:Nat)(L:List Int)(B g0:Nat)(S:Nat->Prop)(cf:List Int)(u:Nat)(E:List En)(am:Option Addr)(cp:Nat)(X:List (En×Ad))(g10:Nat)(e:En)(d:Ad)(q N:Nat)(V:World):Prop where
 ps:PS w gn a c L B g0 S cf u E am cp X g10 N V
 bo:BO S gn g10 q (ZQ e d) 52 V
 ex:EX S gn g10 e d V
 eb:∀ k,EB e d k->k≠q
 xb:∀ k,oZ am X k->k≠q
 ef:yw e
 er:e.raw.length<=8/\e.Y6.length<=2
section
variable {w : World} {gn : Nat} {a : Option Addr} {c : Nat} {L : List Int} {B g0 q : Nat} {S : Nat -> Prop} {cf : List Int} {u : Nat} {E : List En} {am : Option Addr} {cp : Nat} {X : List (En × Ad)} {g10 N N2 : Nat} {V V2 : World} {e : En} {d : Ad}
structure KK (w:World)(gn:Nat)(a:Option Addr)(c:Nat)(L:List Int)(B g0:Nat)(S:Nat->Prop)(cf:List Int)(u:Nat)(E:List En)(am:Option Addr)(cp:Nat)(X:List (En×Ad))(g10:Nat)(e:En)(d:Ad)(q N:Nat)(kk:Nat->Int)(b4 b9:Bool)(V:World):Prop where
 o:b9=true->b4=true
 bd:BD w gn a c L B g0 S cf u E am cp X g10 (bif b9 then { e with k:=kk } else e) d q (bif b4 then N+1 else N) V
variable {kk : Nat -> Int} {b4 b9 : Bool}
end
end Go.Proofs.YtnelmomagdcmnaaGreat
namespace Go.Proofs.YtnelmomagdcmnaaGreat
open Go.RowKit
section
variable {P : Program} {Q : Exit -> Act -> World -> Prop} {ops : Array Oper}
def jQ (ops:Array Oper)(j:Nat):List Nat:=((ops[j]?).map fun o=>(o.after.toList.filter fun e=>Region.binds .any e).map fun e=>e.on).getD []
def Shut (ops:Array Oper)(listed:Array Bool):Prop:=∀ i,listed.getD i false=true->∀ d,d∈jQ ops i->listed.getD d false=true
structure ab4 (ops:Array Oper)(k m:Nat)(listed:Array Bool):Prop where
 sz:listed.size=ops.size
 lo:∀ i,i<k->listed.getD i false=true
 hi:∀ i,k+m<=i->listed.getD i false=false
 sh:Shut ops listed
end
def fM (V:World)(x:Value)(E:List En):Prop:=∃ a c X,x=.slice a X.length c/\lE X=E/\Xr V a X/\X.length<=c
theorem Ue.bel {w w':World}{E:List En}{v:Value}(h:Ue w E v w'):Below w.heap.size w w':=let ⟨_,_,_,_,h4⟩:=h; h4
structure KE (W:World)(E:List En)(b:Bool)(x:Value)(V:World):Prop where
 bel:Below W.heap.size W V
 c:b=true->fM V x E
structure KE2 (W:World)(E E2:List En)(b b2:Bool)(x x2:Value)(V:World):Prop where
 bel:Below W.heap.size W V
 c:b=true->fM V x E
 c2:b2=true->fM V x2 E2
section
variable {W V V2 : World} {E E2 : List En} {b b2 : Bool} {x x2 v : Value}
theorem KE.start (W:World)(E:List En)(x:Value):KE W E false x W.drew:=⟨(Below.refl _ W).drew,fun h=>nomatch h⟩
end
structure GQ (w:World)(g0:Nat)(S:Nat->Prop)(cf:List Int)(u:Nat)(E:List En)(am:Option Addr)(cp:Nat)(X:List (En×Ad))(n g6:Nat)(V:World):Prop where
 rep:YC V g0 S cf u E
 xr:Xr V am X
 bx:Bx V g6 (BP cf am n cp) 31
 bel:Below w.heap.size w V
structure GE (S:Nat->Prop)(am:Option Addr)(cf:List Int)(u:Nat)(E:List En)(cp:Nat)(X:List (En×Ad))(n B:Nat):Prop where
 un:u<=250
 xc:n<=cp
 xo:∀ k,oZ am X k->¬ S k
 so:∀ k,S k->B<=k
 ef:∀ e∈E,yw e
 eg:∀ e∈E,OE e
 le:lE X=E
 xl:X.length=n
 nm:n<=512
 wp:Wp (cf.getD 0 0) (cf.getD 1 0) E
 cv:QZ cf
end Go.Proofs.YtnelmomagdcmnaaGreat
namespace Go.Proofs.YtnelmomagdcmnaaGreat
open Go.ChangeShapes Go.WideShapes Go.ChangeAt Go.RowKit Go.Deep Go.Joins
theorem Dc {H:Type}{enc:TypeId×Value->H}{W:World}{fuel:Nat}{cs:List Value}{y:DataW H×List MemPlace}(h:DataW.trod enc Tryz.prog W 0 (fun _=>true) true fuel 22 cs=some y)(hz:∀ n,n∈y.1.weights Tryz.prog 22->n<=reachBytes) :
    ∃ a cap L,cs=[.slice a (List.length L) cap]/\L.length*8<=140737488351232/\Cs W a (ZM L):=by
 rcases open_ints Tryz.underlying22 Tryz.underlying3 (by kernel_rfl) h with⟨rfl,rfl⟩ | ⟨x,l,c,zs,rfl,_,hl,hm,hzl,rfl,hcell,hwz⟩
 · exact⟨none,0,[],rfl,by simp,Cs.nil _ _⟩
 · have hz':zs.length=c:=(by simpa using hzl);have hlen:(zs.take l).length=l:=(by rw[List.length_take]; omega);have h8:Tryz.prog.bytesOf 3=8:=(by kernel_rfl);have hr:reachBytes=140737488351232:=rfl;have hw:=hz (((lits (H:=H) .i64 (zs.take l)).length+(lits (H:=H) .i64 (zs.drop l)).length)*8) (by simp[DataW.weights,Tryz.underlying22,h8]);have e1:(lits (H:=H) .i64 (zs.take l)).length=l:=(by unfold lits; rw[List.length_map]; exact hlen);refine⟨some x,c,zs.take l,by rw[hlen],by rw[hlen]; rw[hr,e1] at hw; omega,fun j v hj=>?_⟩;have hjl:j<(zs.take l).length:=by
    have:=(List.getElem?_eq_some_iff.1 hj).1;simpa [ZM] using this
   have hjz:j<zs.length:=(by omega);obtain⟨b,off,rfl,hc⟩:=ints_at hcell (by omega);rw[VE _ _ hjl] at hj;simp only[Option.some.injEq] at hj;have hcj:=hc j hjz;refine⟨b,off,rfl,World.block_lt_of_cell? W _ hcj,?_⟩;rw[hcj,<- hj];simp[List.getD,show j<l by omega]
section
variable {H : Type} {enc : TypeId × Value -> H} {W : World} {fuel : Nat}
end
end Go.Proofs.YtnelmomagdcmnaaGreat
