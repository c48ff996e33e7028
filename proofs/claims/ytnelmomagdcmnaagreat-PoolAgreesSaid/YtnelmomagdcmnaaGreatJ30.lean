/-
  Texts joined.
-/
import Derived.Test.YtnelmomagdcmnaaGreatJ29
import Derived.Test.YtnelmomagdcmnaaGreatRows
import Derived.ProofKit
import Derived.ChangeOld
import Derived.SizedLaws
set_option maxRecDepth 100000
set_option maxHeartbeats 8000000
set_option linter.unusedSimpArgs false
set_option linter.unusedVariables false
namespace Go.Proofs.YtnelmomagdcmnaaGreat
open Go.RowKit
section
variable {P : Program} {Q : Exit -> Act -> World -> Prop} {ops : Array Oper}
def U9 (n k:Nat):Array Bool:=(List.replicate k true++List.replicate (n-k) false).toArray
def Ed (ops:Array Oper)(j:Nat):List Nat:=((ops[j]?).map fun o=>(o.after.toList.filter fun e=>Region.binds .any e).map fun e=>e.on).getD []
def GL (ops:Array Oper):Nat->List Nat->List Nat
 | 0,l=>l
 | j+1,l=>GL ops j (bif l.contains j then Ed ops j++l else l)
def pz (ops:Array Oper)(k m:Nat):Bool:=decide (0<m) && decide (k+m<=ops.size) && ((List.range m).all fun i=>(GL ops (k+m) [k+m-1]).contains (k+i)) && ((List.range (ops.size-(k+m))).all fun i=>(Ed ops (k+m+i)).any fun d=>decide (k+m-1<=d))
def Shut (ops:Array Oper)(listed:Array Bool):Prop:=∀ i,listed.getD i false=true->∀ d,d∈Ed ops i->listed.getD d false=true
theorem Ec {listed:Array Bool}(hs:Shut ops listed):∀ (n:Nat) (l:List Nat),(∀ x,x∈l->listed.getD x false=true)->∀ x,x∈GL ops n l->listed.getD x false=true
 | 0,l,h=>h
 | j+1,l,h=>by
  unfold GL;refine Ec hs j _ ?_;cases hc:l.contains j
  ·exact h
  ·intro x hx;rcases List.mem_append.1 hx with h1 | h1
   ·exact hs j (h j (by simpa using hc)) x h1
   ·exact h x h1
theorem JU {i:Nat}{listed:Array Bool}(h:i∈Region.ready .any ops listed):∀ d,d∈Ed ops i->listed.getD d false=true:=fun d hd=>by
 obtain⟨-,o,ho,hall⟩:=mem_ready.1 h;unfold Ed at hd;rw[ho] at hd;simp only[Option.map_some,Option.getD_some,List.mem_map,List.mem_filter] at hd;obtain⟨e,⟨h1,h2⟩,rfl⟩:=hd;exact hall e (by simpa using h1) h2
theorem Og (listed:Array Bool)(i j:Nat):(listed.setIfInBounds i true).getD j false=true↔listed.getD j false=true∨(j=i/\i<listed.size):=by
 simp only[Array.getD_eq_getD_getElem?,Array.getElem?_setIfInBounds];by_cases h:i=j
 ·subst h;by_cases h2:i<listed.size
  ·simp[h2]
  ·simp[h2]
 ·rw[if_neg h];constructor
  ·exact .inl
  ·rintro (h1 | ⟨h1,-⟩)
   ·exact h1
   ·exact absurd h1.symm h
theorem Shut.set {i:Nat}{listed:Array Bool}(hs:Shut ops listed)(h:i∈Region.ready .any ops listed):Shut ops (listed.setIfInBounds i true):=fun j hj d hd=>by
 refine(Og _ _ _).2 (.inl ?_);rcases (Og _ _ _).1 hj with h1 | ⟨rfl,-⟩
 ·exact hs j h1 d hd
 ·exact JU h d hd
structure ar4 (ops:Array Oper)(k m:Nat)(listed:Array Bool):Prop where
 sz:listed.size=ops.size
 lo:∀ i,i<k->listed.getD i false=true
 hi:∀ i,k+m<=i->listed.getD i false=false
 sh:Shut ops listed
theorem Ql {n k i:Nat}(hk:k<=n):(U9 n k).getD i false=decide (i<k):=by
 unfold U9;rw[Array.getD_eq_getD_getElem?];simp only[List.getElem?_toArray];by_cases h:i<k
 ·rw[List.getElem?_append_left (by simpa using h),List.getElem?_replicate,if_pos h,decide_eq_true h];rfl
 ·rw[List.getElem?_append_right (by simpa using h),List.getElem?_replicate,decide_eq_false h]
  split <;> rfl
theorem pq {n k:Nat}{listed:Array Bool}(hk:k<=n)(hs:listed.size=n)(h:∀ i,i<n->listed.getD i false=decide (i<k)):listed=U9 n k:=by
 have hu:(U9 n k).size=n:=by unfold U9; simp; omega
 apply Array.ext
 ·rw[hs,hu]
 ·intro i h1 h2;have e1:=h i (by omega);have e2:=Ql (n:=n) (k:=k) (i:=i) hk;rw[<- e2] at e1;simpa [Array.getD,h1,h2] using e1
def iJ (P:Program)(ops:Array Oper)(Q:Exit->Act->World->Prop)(listed:Array Bool)(a:Act)(w:World):Prop:=Shut ops listed->∀ fuel,listed.count false<=fuel->wpAny P .any ops Q fuel listed a w
theorem Oe {id:Nat}{a:Act}{w:World}(hm:P.follows .mixedOrders=true)(h:iJ P ops Q (U9 ops.size 0) a { w with drawn:=w.drawn+1 }):(Code.region id ops true).wp P Q a w:=by
 refine wp_region_any hm ?_;have e:U9 ops.size 0=Array.replicate ops.size false:=by
  unfold U9;apply Array.ext
  ·simp
  ·intro i h1 h2;simp
 rw[e] at h;refine h (fun i hi=>?_) _ (by rw[Array.count_replicate]; simp);exfalso;rw[Array.getD_eq_getD_getElem?,Array.getElem?_replicate] at hi
 split at hi <;> simp at hi
theorem Eb {a:Act}{w:World}(hb:Q .normal a w):iJ P ops Q (U9 ops.size ops.size) a w:=fun _ fuel _=>by
 have hr:Region.ready .any ops (U9 ops.size ops.size)=[]:=by
  rw[List.eq_nil_iff_forall_not_mem];intro j hj;obtain⟨h1,o,ho,-⟩:=mem_ready.1 hj;have hjs:j<ops.size:=(Array.getElem?_eq_some_iff.1 ho).1;have h2:=Ql (n:=ops.size) (k:=ops.size) (i:=j) (Nat.le_refl _);rw[decide_eq_true hjs] at h2;simp only[Array.getD] at h1 h2
  split at h1
  ·rename_i h3
   rw[dif_pos h3] at h2;rw[h2] at h1;cases h1
  ·cases h1
 cases fuel with
 | zero=>exact⟨hr,hb⟩
 | succ n=>exact⟨fun _=>hb,fun i hi=>by rw[hr] at hi; cases hi⟩
theorem QI (k m:Nat)(J:Array Bool->Act->World->Prop){a:Act}{w:World}(hb:uP ops=true)(hc:pz ops k m=true)(h0:J (U9 ops.size k) a w)
  (hstep:∀ i listed a w,k<=i->i<k+m->i∈Region.ready .any ops listed->J listed a w->wpOp P ops Q i (J (listed.setIfInBounds i true)) a w)
  (hend:∀ a w,J (U9 ops.size (k+m)) a w->iJ P ops Q (U9 ops.size (k+m)) a w):iJ P ops Q (U9 ops.size k) a w:=by
 unfold pz at hc;simp only[Bool.and_eq_true,decide_eq_true_eq] at hc;obtain⟨⟨⟨hm,hn⟩,hr⟩,hl⟩:=hc;have full:∀ listed,ar4 ops k m listed->listed.getD (k+m-1) false=true->listed=U9 ops.size (k+m):=fun listed hI hlast=>by
  refine pq hn hI.sz fun i hi=>?_;by_cases h1:i<k+m
  ·rw[decide_eq_true h1];by_cases h2:i<k
   ·exact hI.lo i h2
   ·have h3:=List.all_eq_true.1 hr (i-k) (List.mem_range.2 (by omega));rw[show k+(i-k)=i by omega] at h3;exact Ec hI.sh (k+m) [k+m-1] (fun x hx=>by rw[List.mem_singleton.1 hx]; exact hlast) i (by simpa using h3)
  ·rw[decide_eq_false h1];exact hI.hi i (by omega)
 have key:∀ (fuel:Nat) (listed:Array Bool) (a:Act) (w:World),ar4 ops k m listed->listed.count false<=fuel->J listed a w->wpAny P .any ops Q fuel listed a w:=by
  intro fuel;induction fuel with
  | zero=>
   intro listed a w hI hcnt hJ;by_cases hlast:listed.getD (k+m-1) false=true
   ·have e:=full listed hI hlast;subst e;exact hend a w hJ hI.sh 0 hcnt
   ·exfalso;have hlt:k+m-1<listed.size:=(by rw[hI.sz]; omega);have h3:false ∉ listed:=Array.count_eq_zero.1 (by omega);refine h3 ?_;simp only[Array.getD,hlt,dif_pos] at hlast;have h4:listed[k+m-1]=false:=(by simpa using hlast);exact h4 ▸ Array.getElem_mem hlt
  | succ fuel ih=>
   intro listed a w hI hcnt hJ;by_cases hlast:listed.getD (k+m-1) false=true
   ·have e:=full listed hI hlast;subst e;exact hend a w hJ hI.sh _ hcnt
   ·refine⟨fun h=>?_,fun i hi=>?_⟩
    ·exfalso;have e:=KT hb hI.sz h;rw[e,Array.getD_eq_getD_getElem?,Array.getElem?_replicate,if_pos (by omega)] at hlast;exact hlast rfl
    ·obtain⟨h1,o,ho,-⟩:=mem_ready.1 hi;have his:i<ops.size:=(Array.getElem?_eq_some_iff.1 ho).1;have hil:i<listed.size:=(by rw[hI.sz]; exact his);have hf:listed[i]=false:=by
      simp only[Array.getD,hil,dif_pos] at h1;exact h1
     have hk:k<=i:=by
      rcases Nat.lt_or_ge i k with h | h
      ·have h2:=hI.lo i h;simp only[Array.getD,hil,dif_pos] at h2;have h5:listed[i]=true:=h2;rw[hf] at h5;cases h5
      ·exact h
     have hkm:i<k+m:=by
      rcases Nat.lt_or_ge i (k+m) with h | h
      ·exact h
      ·exfalso;have h2:=List.all_eq_true.1 hl (i-(k+m)) (List.mem_range.2 (by omega));rw[show k+m+(i-(k+m))=i by omega] at h2;obtain⟨d,hd,h3⟩:=List.any_eq_true.1 h2;have h4:=JU hi d hd;have h5:k+m-1<=d:=of_decide_eq_true h3;rcases Nat.lt_or_ge d (k+m) with h6 | h6
       ·rw[show d=k+m-1 by omega] at h4;exact hlast h4
       ·rw[hI.hi d h6] at h4;cases h4
     refine wpOp_mono (fun a' w' hJ'=>ih _ a' w' ⟨by rw[Array.size_setIfInBounds]; exact hI.sz,fun j hj=>(Og _ _ _).2 (.inl (hI.lo j hj)),fun j hj=>?_,hI.sh.set hi⟩ ?_ hJ') (hstep i listed a w hk hkm hi hJ)
     ·cases hg:(listed.setIfInBounds i true).getD j false
      ·rfl
      ·rcases (Og _ _ _).1 hg with h2 | ⟨h2,-⟩
       ·rw[hI.hi j hj] at h2; cases h2
       ·omega
     ·rw[Array.setIfInBounds_def,dif_pos hil,Array.count_set,hf];have:0<listed.count false:=Array.count_pos_iff.2 (hf ▸ Array.getElem_mem hil);simp;omega
 intro hsh fuel hcnt;exact key fuel _ a w ⟨by unfold U9; simp; omega,fun i hi=>by rw[Ql (by omega)]; exact decide_eq_true hi,fun i hi=>by rw[Ql (by omega)]; exact decide_eq_false (by omega),hsh⟩ hcnt h0
end
def I9 (V:World)(x:Value)(E:List En):Prop:=∃ a c X,x=.slice a X.length c/\lE X=E/\Xr V a X/\X.length<=c
theorem I9.below {V V2:World}{x:Value}{E:List En}(h:I9 V x E)(hb:Below V.heap.size V V2):I9 V2 x E:=let ⟨a,c,X,h1,h2,h3,h4⟩:=h; ⟨a,c,X,h1,h2,h3.below hb,h4⟩
theorem Rx.hne {w w':World}{E:List En}{v:Value}(h:Rx w E v w'):I9 w' v E:=by
 obtain⟨X,h1,h2,h3,h4⟩:=h;obtain⟨a,c,rfl,h5,h6⟩:=h2.cs;exact⟨a,c,X,rfl,h1,⟨h5,Cm fun x hx=>(h3 x hx).i⟩,h6⟩
theorem Rx.bel {w w':World}{E:List En}{v:Value}(h:Rx w E v w'):Below w.heap.size w w':=let ⟨_,_,_,_,h4⟩:=h; h4
theorem Jk.hne {w w':World}{X:List (En×Ad)}{v:Value}(h:Jk w X v w'):I9 w' v (lE X):=let ⟨a,c,h1,h2,h3,_,_⟩:=h; ⟨a,c,X,h1,rfl,h2,h3⟩
theorem Jk.bel {w w':World}{X:List (En×Ad)}{v:Value}(h:Jk w X v w'):Below w.heap.size w w':=let ⟨_,_,_,_,_,_,h5⟩:=h; h5
theorem I9.same {V:World}{x y:Value}{E:List En}(h:I9 V x E)(k:I9 V y E)(hl:E.length<=100000)(hg:∀ e∈E,LZ e):Calls Tryz.prog 11 #[x,y] V fun e w'=>e=.returned ZX/\Below V.heap.size V w':=by
 obtain⟨a,c,X,rfl,rfl,h3,h4⟩:=h;obtain⟨a2,c2,Y,rfl,k2,k3,k4⟩:=k;refine yD h3 k3 k2.symm (by rw[<- YH]; exact hl) fun i hi=>(hg _ ?_).b;rw[List.getD_eq_getElem?_getD,List.getElem?_eq_getElem hi];exact List.getElem_mem hi
theorem I9.len {V:World}{x:Value}{E:List En}(h:I9 V x E):∃ a c,x=.slice a E.length c:=by
 obtain⟨a,c,X,rfl,rfl,h3,h4⟩:=h;exact⟨a,c,by rw[YH]⟩
structure KE (W:World)(E:List En)(b:Bool)(x:Value)(V:World):Prop where
 bel:Below W.heap.size W V
 c:b=true->I9 V x E
structure DN (W:World)(E E2:List En)(b b2:Bool)(x x2:Value)(V:World):Prop where
 bel:Below W.heap.size W V
 c:b=true->I9 V x E
 c2:b2=true->I9 V x2 E2
section
variable {W V V2 : World} {E E2 : List En} {b b2 : Bool} {x x2 v : Value}
theorem KE.start (W:World)(E:List En)(x:Value):KE W E false x W.drew:=⟨(Below.refl _ W).drew,fun h=>nomatch h⟩
theorem KE.below (h:KE W E b x V)(hb:Below V.heap.size V V2):KE W E b x V2:=⟨h.bel.trans (hb.mono h.bel.size),fun e=>(h.c e).below hb⟩
theorem KE.new (h:KE W E false x V)(hn:Rx V E v V2):KE W E true v V2:=⟨h.bel.trans (hn.bel.mono h.bel.size),fun _=>hn.hne⟩
theorem DN.start (W:World)(E E2:List En)(x x2:Value):DN W E E2 false false x x2 W.drew:=⟨(Below.refl _ W).drew,fun h=>(by cases h),fun h=>(by cases h)⟩
theorem DN.below (h:DN W E E2 b b2 x x2 V)(hb:Below V.heap.size V V2):DN W E E2 b b2 x x2 V2:=⟨h.bel.trans (hb.mono h.bel.size),fun e=>(h.c e).below hb,fun e=>(h.c2 e).below hb⟩
theorem DN.new (h:DN W E E2 false b2 x x2 V)(hn:I9 V2 v E)(hb:Below V.heap.size V V2):DN W E E2 true b2 v x2 V2:=⟨h.bel.trans (hb.mono h.bel.size),fun _=>hn,fun e=>(h.c2 e).below hb⟩
theorem DN.new2 (h:DN W E E2 b false x x2 V)(hn:I9 V2 v E2)(hb:Below V.heap.size V V2):DN W E E2 b true x v V2:=⟨h.bel.trans (hb.mono h.bel.size),fun e=>(h.c e).below hb,fun _=>hn⟩
end
structure GQ (w:World)(g0:Nat)(S:Nat->Prop)(cf:List Int)(u:Nat)(E:List En)(am:Option Addr)(cp:Nat)(X:List (En×Ad))(n g6:Nat)(V:World):Prop where
 rep:YQ V g0 S cf u E
 xr:Xr V am X
 bx:Bx V g6 (Y0 cf am n cp) 31
 bel:Below w.heap.size w V
theorem GQ.below {w V V2:World}{g0:Nat}{S:Nat->Prop}{cf:List Int}{u:Nat}{E:List En}{am:Option Addr}{cp:Nat}{X:List (En×Ad)}{n g6:Nat}(h:GQ w g0 S cf u E am cp X n g6 V)(hb:Below V.heap.size V V2):GQ w g0 S cf u E am cp X n g6 V2:=⟨h.rep.below hb,h.xr.below hb,h.bx.below h.bx.lt hb,h.bel.trans (hb.mono h.bel.size)⟩
structure GE (S:Nat->Prop)(am:Option Addr)(cf:List Int)(u:Nat)(E:List En)(cp:Nat)(X:List (En×Ad))(n B:Nat):Prop where
 un:u<=250
 xc:n<=cp
 xo:∀ k,xA am X k->¬ S k
 so:∀ k,S k->B<=k
 ef:∀ e∈E,DK e
 eg:∀ e∈E,LZ e
 le:lE X=E
 xl:X.length=n
 nm:n<=512
 wp:Wp (cf.getD 0 0) (cf.getD 1 0) E
 cv:LY cf
theorem GE.len {S:Nat->Prop}{am:Option Addr}{cf:List Int}{u:Nat}{E:List En}{cp:Nat}{X:List (En×Ad)}{n B:Nat}(h:GE S am cf u E cp X n B):E.length=n:=by rw[<- h.le,YH,h.xl]
theorem bV {V:World}{g:Nat}{N:List ByteArray}(h:Bx V g (strs N).toArray 9){i:Nat}(hi:i<N.length):(Instr.loadAt 9 (Z7 g (0+i))).run Tryz.prog V=.ok (.string (N.getD i ⟨#[]⟩)) V:=by
 rw[Nat.zero_add];refine h.load (i:=i) ?_ (by kernel_rfl);unfold strs;simp[List.getElem?_eq_getElem hi,List.getD_eq_getElem?_getD]
theorem iK {s:ByteArray}{E:List En}{e:En}(h:e∈Vt s E):e∈E:=(List.mem_filter.1 ((VI _ _ _).mem_iff.1 h)).1
theorem GN (s:ByteArray)(E:List En):(Vt s E).length<=E.length:=by
 have:=(VI (fun p q=>Dh p q) Zp (E.filter fun e=>decide (e.snd=s))).length_eq;unfold Vt;rw[this];exact List.length_filter_le _ _
theorem zn:Cg.VU Cg.JW:=by refine⟨rfl,.inl rfl,by decide,by decide,?_⟩; decide
theorem I9.open {V:World}{x:Value}{E:List En}(h:I9 V x E):∃ a c X,x=.slice a E.length c/\lE X=E/\X.length=E.length/\Xr V a X:=by
 obtain⟨a,c,X,rfl,rfl,h3,h4⟩:=h;exact⟨a,c,X,by rw[YH],rfl,by rw[YH],h3⟩
end Go.Proofs.YtnelmomagdcmnaaGreat
namespace Go.Proofs.YtnelmomagdcmnaaGreat
open Go.ChangeShapes Go.WideShapes Go.ChangeAt Go.RowKit Go.Deep Go.Joins
theorem Xp {x:Int}(h:(Lit.int .i64 x).wf=true):-9223372036854775808<=x/\x<9223372036854775808:=by
 simp[Lit.wf,IntKind.min,IntKind.max,IntKind.signed,IntKind.bits] at h;exact⟨by omega,by omega⟩
theorem I8 {x:Int}(h:(Lit.int .u64 x).wf=true):0<=x/\x<18446744073709551616:=by
 simp[Lit.wf,IntKind.min,IntKind.max,IntKind.signed,IntKind.bits] at h;exact⟨by omega,by omega⟩
theorem QH {H:Type}{enc:TypeId×Value->H}{W:World}{fuel:Nat}{cs:List Value}{y:DataW H×List MemPlace}(h:DataW.trod enc Tryz.prog W 0 (fun _=>true) true fuel 22 cs=some y)(hz:∀ n,n∈y.1.weights Tryz.prog 22->n<=reachBytes) :
    ∃ a cap L,cs=[.slice a (List.length L) cap]/\L.length*8<=140737488351232/\Cs W a (ZJ L):=by
 rcases open_ints Tryz.underlying22 Tryz.underlying3 (by kernel_rfl) h with⟨rfl,rfl⟩ | ⟨x,l,c,zs,rfl,_,hl,hm,hzl,rfl,hcell,hwz⟩
 · exact⟨none,0,[],rfl,by simp,Cs.nil _ _⟩
 · have hz':zs.length=c:=(by simpa using hzl);have hlen:(zs.take l).length=l:=(by rw[List.length_take]; omega);have h8:Tryz.prog.bytesOf 3=8:=(by kernel_rfl);have hr:reachBytes=140737488351232:=rfl;have hw:=hz (((lits (H:=H) .i64 (zs.take l)).length+(lits (H:=H) .i64 (zs.drop l)).length)*8) (by simp[DataW.weights,Tryz.underlying22,h8]);have e1:(lits (H:=H) .i64 (zs.take l)).length=l:=(by unfold lits; rw[List.length_map]; exact hlen);refine⟨some x,c,zs.take l,by rw[hlen],by rw[hlen]; rw[hr,e1] at hw; omega,fun j v hj=>?_⟩;have hjl:j<(zs.take l).length:=by
    have:=(List.getElem?_eq_some_iff.1 hj).1;simpa [ZJ] using this
   have hjz:j<zs.length:=(by omega);obtain⟨b,off,rfl,hc⟩:=ints_at hcell (by omega);rw[VP _ _ hjl] at hj;simp only[Option.some.injEq] at hj;have hcj:=hc j hjz;refine⟨b,off,rfl,World.block_lt_of_cell? W _ hcj,?_⟩;rw[hcj,<- hj];simp[List.getD,show j<l by omega]
theorem zl {H:Type}{enc:TypeId×Value->H}{W:World}{fuel:Nat}{cs:List Value}{y:DataW H×List MemPlace}(h:DataW.trod enc Tryz.prog W 0 (fun _=>true) true fuel 25 cs=some y) :
    ∃ c,cs=(Zu c).toList/\Cg.VU c:=by
 obtain⟨xs,n,_,rfl,hl,hlen,hf⟩:=DataW.trod_struct Tryz.underlying25 h;have hc:Tryz.prog.cellsOf 25=12:=by kernel_rfl
 have ki:Tryz.prog.cellsOf 3=1:=by kernel_rfl
 have kb:Tryz.prog.cellsOf 4=1:=by kernel_rfl
 have ku:Tryz.prog.cellsOf 23=1:=by kernel_rfl
 rw[hc] at hl;match xs,hlen,cs,hl with
 | [y0,y1,y2,y3,y4,y5,y6,y7,y8,y9,y10,y11],_,[c0,c1,c2,c3,c4,c5,c6,c7,c8,c9,c10,c11],_=>
  obtain⟨n0,e0,-,w0⟩:=(DataW.trod_int (k:=.i64) Tryz.underlying3 ((hf 0 { name:= "MaxTxs",type:=3,offset:=0,embedded:=false,tag:= "",pkgPath:= "",byteOffset:=0 } rfl).trans (by rfl)));obtain⟨n1,e1,-,w1⟩:=(DataW.trod_int (k:=.i64) Tryz.underlying3 ((hf 1 { name:= "MaxBytes",type:=3,offset:=1,embedded:=false,tag:= "",pkgPath:= "",byteOffset:=8 } rfl).trans (by rfl)));obtain⟨n2,e2,-,w2⟩:=(DataW.trod_int (k:=.i64) Tryz.underlying3 ((hf 2 { name:= "MaxTxBytes",type:=3,offset:=2,embedded:=false,tag:= "",pkgPath:= "",byteOffset:=16 } rfl).trans (by rfl)));obtain⟨n3,e3,-,w3⟩:=(DataW.trod_int (k:=.i64) Tryz.underlying3 ((hf 3 { name:= "CacheSize",type:=3,offset:=3,embedded:=false,tag:= "",pkgPath:= "",byteOffset:=24 } rfl).trans (by rfl)));obtain⟨n4,e4,-,w4⟩:=(DataW.trod_int (k:=.i64) Tryz.underlying3 ((hf 4 { name:= "TTLBlocks",type:=3,offset:=4,embedded:=false,tag:= "",pkgPath:= "",byteOffset:=32 } rfl).trans (by rfl)));obtain⟨n5,e5,-,w5⟩:=(DataW.trod_int (k:=.i64) Tryz.underlying3 ((hf 5 { name:= "TTLTime",type:=3,offset:=5,embedded:=false,tag:= "",pkgPath:= "",byteOffset:=40 } rfl).trans (by rfl)));obtain⟨q6,e6,-⟩:=(DataW.trod_bool Tryz.underlying4 ((hf 6 { name:= "KeepInvalid",type:=4,offset:=6,embedded:=false,tag:= "",pkgPath:= "",byteOffset:=48 } rfl).trans (by rfl)));obtain⟨n7,e7,-,w7⟩:=(DataW.trod_int (k:=.i64) Tryz.underlying3 ((hf 7 { name:= "BlockBytes",type:=3,offset:=7,embedded:=false,tag:= "",pkgPath:= "",byteOffset:=56 } rfl).trans (by rfl)));obtain⟨n8,e8,-,w8⟩:=(DataW.trod_int (k:=.i64) Tryz.underlying3 ((hf 8 { name:= "BlockGas",type:=3,offset:=8,embedded:=false,tag:= "",pkgPath:= "",byteOffset:=64 } rfl).trans (by rfl)));obtain⟨n9,e9,-,w9⟩:=(DataW.trod_int (k:=.u64) Tryz.underlying23 ((hf 9 { name:= "Price",type:=23,offset:=9,embedded:=false,tag:= "",pkgPath:= "",byteOffset:=72 } rfl).trans (by rfl)));obtain⟨n10,e10,-,w10⟩:=(DataW.trod_int (k:=.i64) Tryz.underlying3 ((hf 10 { name:= "Self",type:=3,offset:=10,embedded:=false,tag:= "",pkgPath:= "",byteOffset:=80 } rfl).trans (by rfl)));obtain⟨n11,e11,-,w11⟩:=(DataW.trod_int (k:=.i64) Tryz.underlying3 ((hf 11 { name:= "Nodes",type:=3,offset:=11,embedded:=false,tag:= "",pkgPath:= "",byteOffset:=88 } rfl).trans (by rfl)));simp only[ki,kb,ku,List.drop_zero,List.drop_succ_cons,List.take_succ_cons,List.take_zero,List.cons.injEq,and_true] at e0 e1 e2 e3 e4 e5 e6 e7 e8 e9 e10 e11;subst e0 e1 e2 e3 e4 e5 e6 e7 e8 e9 e10 e11;refine⟨[n0,n1,n2,n3,n4,n5,(if q6 then 1 else 0),n7,n8,n9,n10,n11],?_,rfl,?_,(I8 w9).1,(I8 w9).2,fun i hi h9=>?_⟩
  · cases q6 <;> rfl
  · cases q6 <;> simp
  · match i,hi,h9 with
    | 0,_,_=>exact Xp w0
    | 1,_,_=>exact Xp w1
    | 2,_,_=>exact Xp w2
    | 3,_,_=>exact Xp w3
    | 4,_,_=>exact Xp w4
    | 5,_,_=>exact Xp w5
    | 6,_,_=>cases q6 <;> simp
    | 7,_,_=>exact Xp w7
    | 8,_,_=>exact Xp w8
    | 9,_,h9=>exact absurd rfl h9
    | 10,_,_=>exact Xp w10
    | 11,_,_=>exact Xp w11
theorem iI {α:Type}{Q:Nat->α->Prop}(n:Nat)(h:∀ i,i<n->∃ p,Q i p):∃ ps:List α,ps.length=n/\∀ i p,ps[i]?=some p->Q i p:=by
  induction n with
  | zero=>exact⟨[],rfl,fun i p hi=>by simp at hi⟩
  | succ n ih=>
    obtain⟨ps,hl,hq⟩:=ih (fun i hi=>h i (by omega));obtain⟨p,hp⟩:=h n (by omega);refine⟨ps++[p],by simp[hl],fun i q hi=>?_⟩;by_cases hlt:i<n
    · rw[List.getElem?_append_left (by omega)] at hi;exact hq i q hi
    · have hb:=(List.getElem?_eq_some_iff.1 hi).1;rw[List.length_append,List.length_singleton] at hb;obtain rfl:i=n:=(by omega);rw[List.getElem?_append_right (by omega),hl] at hi;simp at hi;exact hi ▸ hp
section
variable {H : Type} {enc : TypeId × Value -> H} {W : World} {fuel : Nat}
theorem iH {cs:List Value}{y:DataW H×List MemPlace}(h:DataW.trod enc Tryz.prog W 0 (fun _=>true) true fuel 38 cs=some y) :
    ∃ K:List Int,cs=K.map (Value.int .u8)/\K.length=32:=by
  obtain⟨xs,m,rfl,rfl,hl,hxl,hi⟩:=DataW.trod_array (n:=32) (e:=5) (by kernel_rfl) h;have hc25:Tryz.prog.cellsOf 38=32:=by kernel_rfl
  have hc5:Tryz.prog.cellsOf 5=1:=by kernel_rfl
  rw[hc25] at hl;obtain⟨K,hKl,hK⟩:=iI (Q:=fun i (z:Int)=>cs[i]?=some (.int .u8 z)) 32 (fun i hlt=>by
    have h1:=hi i hlt;rw[hc5,Nat.mul_one,List.getElem?_eq_getElem (by omega)] at h1;obtain⟨z,ez,-,wz⟩:=DataW.trod_int (k:=.u8) Tryz.underlying5 h1;refine⟨z,?_⟩;have h2:((cs.drop i).take 1)[0]?=some (.int .u8 z):=(by rw[ez]; rfl);rw[List.getElem?_take,if_pos (by omega),List.getElem?_drop,Nat.add_zero] at h2;exact h2)
  refine⟨K,?_,hKl⟩;apply List.ext_getElem?;intro i;by_cases hlt:i<32
  · have hk:=hK i (K[i]'(by omega)) (List.getElem?_eq_getElem (by omega));rw[hk,List.getElem?_map,List.getElem?_eq_getElem (by omega)];rfl
  · rw[List.getElem?_eq_none (by omega),List.getElem?_eq_none (by rw[List.length_map]; omega)]
end
theorem ai0 {K:List Int}(h:K.length=32):K.map (Value.int .u8)=JG (fun i=>K.getD i 0):=by
  have e:JG (fun i=>K.getD i 0)=(List.range 32).map fun i=>Value.int .u8 (K.getD i 0):=rfl;rw[e];apply List.ext_getElem?;intro i;by_cases hi:i<32
  · rw[List.getElem?_map,List.getElem?_map,List.getElem?_range hi,List.getElem?_eq_getElem (show i<K.length by omega)];simp[List.getElem?_eq_getElem (show i<K.length by omega),List.getD_eq_getElem?_getD]
  · rw[List.getElem?_eq_none (by rw[List.length_map]; omega),List.getElem?_eq_none (by simp; omega)]
end Go.Proofs.YtnelmomagdcmnaaGreat
