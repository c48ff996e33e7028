/-
  Texts joined.
-/
import Derived.Test.YtnelmomagdcmnaaGreatD22
set_option maxRecDepth 100000
set_option maxHeartbeats 8000000
set_option linter.unusedSimpArgs false
set_option linter.unusedVariables false
namespace Go.Proofs.YtnelmomagdcmnaaGreat
open Go.RowKit
def fP (e:En)(r p:Value):Array Value:=(Ht e.k++[r,.string e.snd,ZY e.sq,ZY e.qx,ZY e.pri,Z9 e.ht,Z9 e.tm,Z9 e.od,p]).toArray
def Jp (V:World)(B:Nat)(x:Value)(L:List Int):Prop:=V.ownsRow B 5 1 x L.length (Zp L)
def Jo (V:World)(B:Nat)(x:Value)(L:List Int):Prop:=V.ownsRow B 3 1 x L.length (ZM L)
theorem qI (L:List Int):∀ u∈Zp L,u.oneCell'=true:=fun u hu=>by
 obtain⟨x,-,rfl⟩:=List.mem_map.1 hu;rfl
theorem wS {w:World}{B:Nat}{v:Value}{A:List Int}(h:Jp w B v A)(hB:B<=w.heap.size)(pa:Option Addr)(n cp:Nat)(M:List Int)(hM:Cs w pa (Zp M))(hn:M.length=n)(hl:A.length<=100000)(hm:n<=100000) :
  ∃ v' w',(Builtin.append_ #[50,50] 50 #[v,.slice pa n cp]).run Tryz.prog w=.ok v' w'/\Jp w' B v' (A++M)/\Below B w w'/\w.grownBy w' v.ownBlock/\(v'.ownBlock=v.ownBlock∨v'.ownBlock=some w.heap.size):=by
 subst hn;obtain⟨v',w',h1,h2,h3⟩:=VP (P:=Tryz.prog) (t:=50) (m:=M.length) Tryz.underlying50 info5 (by kernel_rfl) (by omega) (by omega) h pa cp (Zp M) hM (by simp[Zp]) (qI M) hB hl hm;refine⟨v',w',h1,?_,h3⟩;unfold Jp;rw[show Zp (A++M)=Zp A++Zp M from List.map_append,List.length_append];exact h2
theorem wR {w:World}{B:Nat}{v:Value}{A:List Int}(h:Jo w B v A)(hB:B<=w.heap.size)(pa:Option Addr)(n cp:Nat)(M:List Int)(hM:Cs w pa (ZM M))(hn:M.length=n)(hl:A.length<=100000)(hm:n<=100000) :
  ∃ v' w',(Builtin.append_ #[22,22] 22 #[v,.slice pa n cp]).run Tryz.prog w=.ok v' w'/\Jo w' B v' (A++M)/\Below B w w'/\w.grownBy w' v.ownBlock/\(v'.ownBlock=v.ownBlock∨v'.ownBlock=some w.heap.size):=by
 subst hn;obtain⟨v',w',h1,h2,h3⟩:=VP (P:=Tryz.prog) (t:=22) (m:=M.length) Tryz.underlying22 Ut (by kernel_rfl) (by omega) (by omega) h pa cp (ZM M) hM (by simp[ZM]) (WS M) hB hl hm;refine⟨v',w',h1,?_,h3⟩;unfold Jo;rw[WT,List.length_append];exact h2
theorem UE {w w':World}{B e s n:Nat}{v:Value}{xs:List Value}{r:Option Nat}(h:w.ownsRow B e s v n xs)(hg:w.grownBy w' r)(hn:r=none∨r≠v.ownBlock):w'.ownsRow B e s v n xs:=by
 refine⟨h.1,?_⟩;rcases h.2 with h0 | ⟨g,cap,cur,e0,hb,hgg,rest⟩
 ·exact .inl h0
 ·refine .inr ⟨g,cap,cur,e0,hb,?_,rest⟩;rw[<- hgg];refine hg.block g (Array.getElem?_eq_some_iff.1 hgg).1 fun e=>?_;rcases hn with hn | hn
  ·rw[hn] at e; cases e
  ·exact hn (by rw[<- e,e0]; rfl)
theorem OI (w:World)(e:TypeId)(cs:List Value)(n:Nat)(hl:cs.length=n*1)(hn:n<=1000):(w.alloc (.cells cs.toArray e)).ownsRow w.heap.size e 1 (.slice (some ⟨w.heap.size,0,none⟩) n n) n cs:=
 ⟨hl,.inr ⟨w.heap.size,n,cs.toArray,rfl,Nat.le_refl _,heap_alloc_last w _,Nat.le_refl _,by unfold maxLen; omega,by simpa using hl,by simp[<- hl]⟩⟩
structure KA (W:World)(g:Nat)(E:En)(r p:Value)(A0 A1 C0 C1:List Int)(b0 l2 b3 b4 l6 b7 b9 b11:Bool)(x0 x3 x4 x7:Value)(V:World):Prop where
 gw:g<W.heap.size
 but:But g W V
 bx:Bx V g (fP E (cond b9 x3 r) (cond b11 x7 p)) 52
 r0:b0=true->b3=false->Jp V W.heap.size x0 A0
 r1:b3=true->Jp V W.heap.size x3 A1
 p0:b4=true->b7=false->Jo V W.heap.size x4 C0
 p1:b7=true->Jo V W.heap.size x7 C1
 o3:b3=true->b0=true
 pz:b3=true->l2=true
 o7:b7=true->b4=true
 pq:b7=true->l6=true
 o9:b9=true->b3=true
 o11:b11=true->b7=true
section
variable {W V V2 : World} {g : Nat} {E : En} {r p : Value} {A0 A1 C0 C1 : List Int} {b0 l2 b3 b4 l6 b7 b9 b11 : Bool} {x0 x3 x4 x7 v : Value}
theorem KA.start (hg:g<W.heap.size)(h:Bx W g (fP E r p) 52):KA W g E r p A0 A1 C0 C1 false false false false false false false false x0 x3 x4 x7 { W with drawn:=W.drawn+1 }:=
 {gw:=hg,but:=⟨(Below.refl _ W).drew,fun _ _ _=>rfl⟩,bx:=h.below hg (Below.refl _ W).drew,r0:=(fun e=>nomatch e),r1:=(fun e=>nomatch e),p0:=(fun e=>nomatch e),p1:=(fun e=>nomatch e),o3:=(fun e=>nomatch e),pz:=(fun e=>nomatch e),o7:=(fun e=>nomatch e),pq:=(fun e=>nomatch e),o9:=(fun e=>nomatch e),o11:=(fun e=>nomatch e) }
theorem KA.below (h:KA W g E r p A0 A1 C0 C1 b0 l2 b3 b4 l6 b7 b9 b11 x0 x3 x4 x7 V)(hb:Below V.heap.size V V2):KA W g E r p A0 A1 C0 C1 b0 l2 b3 b4 l6 b7 b9 b11 x0 x3 x4 x7 V2:=
 {h with but:=h.but.trans (But.of_below hb (Nat.le_of_lt h.bx.lt)),bx:=h.bx.below h.bx.lt hb,r0:=fun a b=>own_below (h.r0 a b) hb,r1:=fun a=>own_below (h.r1 a) hb,p0:=fun a b=>own_below (h.p0 a b) hb,p1:=fun a=>own_below (h.p1 a) hb }
theorem KA.n0 (h:KA W g E r p A0 A1 C0 C1 false l2 b3 b4 l6 b7 b9 b11 x0 x3 x4 x7 V):b3=false/\b9=false:=by
 obtain rfl:=SY h.o3 rfl;obtain rfl:=SY h.o9 rfl;exact⟨rfl,rfl⟩
theorem KA.n3 (h:KA W g E r p A0 A1 C0 C1 b0 l2 false b4 l6 b7 b9 b11 x0 x3 x4 x7 V):b9=false:=SY h.o9 rfl
theorem KA.n4 (h:KA W g E r p A0 A1 C0 C1 b0 l2 b3 false l6 b7 b9 b11 x0 x3 x4 x7 V):b7=false/\b11=false:=by
 obtain rfl:=SY h.o7 rfl;obtain rfl:=SY h.o11 rfl;exact⟨rfl,rfl⟩
theorem KA.n7 (h:KA W g E r p A0 A1 C0 C1 b0 l2 b3 b4 l6 false b9 b11 x0 x3 x4 x7 V):b11=false:=SY h.o11 rfl
theorem KA.nl2 (h:KA W g E r p A0 A1 C0 C1 b0 false b3 b4 l6 b7 b9 b11 x0 x3 x4 x7 V):b3=false/\b9=false:=by
 obtain rfl:=SY h.pz rfl;obtain rfl:=SY h.o9 rfl;exact⟨rfl,rfl⟩
theorem KA.nl6 (h:KA W g E r p A0 A1 C0 C1 b0 l2 b3 b4 false b7 b9 b11 x0 x3 x4 x7 V):b7=false/\b11=false:=by
 obtain rfl:=SY h.pq rfl;obtain rfl:=SY h.o11 rfl;exact⟨rfl,rfl⟩
theorem KA.sl2 (h:KA W g E r p A0 A1 C0 C1 b0 false false b4 l6 b7 b9 b11 x0 x3 x4 x7 V):KA W g E r p A0 A1 C0 C1 b0 true false b4 l6 b7 b9 b11 x0 x3 x4 x7 V:={ h with pz:=fun _=>rfl }
theorem KA.sl6 (h:KA W g E r p A0 A1 C0 C1 b0 l2 b3 b4 false false b9 b11 x0 x3 x4 x7 V):KA W g E r p A0 A1 C0 C1 b0 l2 b3 b4 true false b9 b11 x0 x3 x4 x7 V:={ h with pq:=fun _=>rfl }
theorem KA.s0 (h:KA W g E r p A0 A1 C0 C1 false l2 false b4 l6 b7 false b11 x0 x3 x4 x7 V)(hb:Below V.heap.size V V2)(hr:Jp V2 W.heap.size v A0):KA W g E r p A0 A1 C0 C1 true l2 false b4 l6 b7 false b11 v x3 x4 x7 V2:={ h.below hb with r0:=fun _ _=>hr,o3:=(fun e=>nomatch e) }
theorem KA.s4 (h:KA W g E r p A0 A1 C0 C1 b0 l2 b3 false l6 false b9 false x0 x3 x4 x7 V)(hb:Below V.heap.size V V2)(hr:Jo V2 W.heap.size v C0):KA W g E r p A0 A1 C0 C1 b0 l2 b3 true l6 false b9 false x0 x3 v x7 V2:={ h.below hb with p0:=fun _ _=>hr,o7:=(fun e=>nomatch e) }
theorem KA.s3 (h:KA W g E r p A0 A1 C0 C1 true true false b4 l6 b7 false b11 x0 x3 x4 x7 V)(hr:Jp V2 W.heap.size v A1)(hb:Below W.heap.size V V2)(hg:V.grownBy V2 x0.ownBlock):KA W g E r p A0 A1 C0 C1 true true true b4 l6 b7 false b11 x0 v x4 x7 V2:=
 {gw:=h.gw,but:=⟨h.but.1.trans (hb.mono (Nat.le_of_lt h.gw)),fun k hk hn=>(hb.block k hk).trans (h.but.2 k hk hn)⟩,bx:=h.bx.below h.gw hb,r0:=(fun _ e=>nomatch e),r1:=fun _=>hr,p0:=fun a b=>UE (h.p0 a b) hg (own_ne (h.r0 rfl rfl) (h.p0 a b) (by decide)),p1:=fun a=>UE (h.p1 a) hg (own_ne (h.r0 rfl rfl) (h.p1 a) (by decide)),o3:=fun _=>rfl,pz:=fun _=>rfl,o7:=h.o7,pq:=h.pq,o9:=(fun e=>nomatch e),o11:=h.o11 }
theorem KA.s7 (h:KA W g E r p A0 A1 C0 C1 b0 l2 b3 true true false b9 false x0 x3 x4 x7 V)(hr:Jo V2 W.heap.size v C1)(hb:Below W.heap.size V V2)(hg:V.grownBy V2 x4.ownBlock):KA W g E r p A0 A1 C0 C1 b0 l2 b3 true true true b9 false x0 x3 x4 v V2:=
 {gw:=h.gw,but:=⟨h.but.1.trans (hb.mono (Nat.le_of_lt h.gw)),fun k hk hn=>(hb.block k hk).trans (h.but.2 k hk hn)⟩,bx:=h.bx.below h.gw hb,p0:=(fun _ e=>nomatch e),p1:=fun _=>hr,r0:=fun a b=>UE (h.r0 a b) hg (own_ne (h.p0 rfl rfl) (h.r0 a b) (by decide)),r1:=fun a=>UE (h.r1 a) hg (own_ne (h.p0 rfl rfl) (h.r1 a) (by decide)),o3:=h.o3,pz:=h.pz,o7:=fun _=>rfl,pq:=fun _=>rfl,o9:=h.o9,o11:=(fun e=>nomatch e) }
theorem Xo {w w':World}{g B e s n:Nat}{v:Value}{xs:List Value}(h:w.ownsRow B e s v n xs)(hb:But g w w')(hn:g<B):w'.ownsRow B e s v n xs:=by
 obtain⟨a,c,rfl,-,-⟩:=Zi h;exact Zo h hb fun x hx=>by have:=(h.lt x.block (by rw[hx]; rfl)).1; omega
theorem KA.s9 (h:KA W g E r p A0 A1 C0 C1 b0 l2 true b4 l6 b7 false b11 x0 x3 x4 x7 V):∃ V2,(Instr.storeAt 50 (Z7 g 32) x3).run Tryz.prog V=.ok () V2/\KA W g E r p A0 A1 C0 C1 b0 l2 true b4 l6 b7 true b11 x0 x3 x4 x7 V2:=by
 have h1:=h.r1 rfl;obtain⟨a,n,c,rfl⟩:=EN h1;obtain⟨V2,hst,hX,hbt⟩:=Xm (i:=32) (ty:=50) (v:=.slice a n c) (fP E (.slice a n c) (cond b11 x7 p)) h.bx (by show 32<41; decide) (by kernel_rfl) rfl (by kernel_rfl);exact⟨V2,hst,{ h with but:=h.but.trans hbt,bx:=hX,r0:=fun a b=>Xo (h.r0 a b) hbt h.gw,r1:=fun a=>Xo (h.r1 a) hbt h.gw,p0:=fun a b=>Xo (h.p0 a b) hbt h.gw,p1:=fun a=>Xo (h.p1 a) hbt h.gw,o9:=fun _=>rfl }⟩
theorem KA.s11 (h:KA W g E r p A0 A1 C0 C1 b0 l2 b3 b4 l6 true b9 false x0 x3 x4 x7 V):∃ V2,(Instr.storeAt 22 (Z7 g 40) x7).run Tryz.prog V=.ok () V2/\KA W g E r p A0 A1 C0 C1 b0 l2 b3 b4 l6 true b9 true x0 x3 x4 x7 V2:=by
 have h1:=h.p1 rfl;obtain⟨a,n,c,rfl⟩:=EN h1;obtain⟨V2,hst,hX,hbt⟩:=Xm (i:=40) (ty:=22) (v:=.slice a n c) (fP E (cond b9 x3 r) (.slice a n c)) h.bx (by show 40<41; decide) (by kernel_rfl) rfl (by kernel_rfl);exact⟨V2,hst,{ h with but:=h.but.trans hbt,bx:=hX,r0:=fun a b=>Xo (h.r0 a b) hbt h.gw,r1:=fun a=>Xo (h.r1 a) hbt h.gw,p0:=fun a b=>Xo (h.p0 a b) hbt h.gw,p1:=fun a=>Xo (h.p1 a) hbt h.gw,o11:=fun _=>rfl }⟩
theorem KA.fin {E1:En}(h:KA W g E r p A0 A1 C0 C1 true true true true true true true true x0 x3 x4 x7 V)(hE:E1={ E with raw:=A1,Y6:=C1 }):∃ d,Bx V g (ZQ E1 d) 52/\XT V W.heap.size E1 d:=by
 subst hE;have h1:=h.r1 rfl;have h2:=h.p1 rfl;obtain⟨a,c,rfl,-,-⟩:=Zi h1;obtain⟨a2,c2,rfl,-,-⟩:=Zi h2;exact⟨⟨a,c,a2,c2⟩,h.bx,h1,h2⟩
end
theorem yG (cs:List Int)(parts:Array (Nat×Value))(hp:parts=#[(0,.int .u8 1)])(V:World):(Instr.buildSlice 50 1 #[(0,.int .u8 1)]).run Tryz.prog V=.ok (.slice (some ⟨V.heap.size,0,none⟩) 1 1) (V.alloc (.cells (Zp [1]).toArray 5)):=by
 obtain⟨i0,hi,hz0,hz1,hz2⟩:=info_parts info5;refine run_buildSlice V 50 5 1 _ (Zp [1]).toArray i0 _ Tryz.underlying50 hi hz0 (by rw[hz1]; omega) (by rw[hz1]; omega) ?_;rw[hz1];kernel_rfl
theorem jH (w:World):(Instr.buildSlice 50 0 #[]).run Tryz.prog w=.ok (.slice (some ⟨w.heap.size,0,none⟩) 0 0) (w.alloc (.cells #[] 5)):=OY Tryz.underlying50 info5 w
theorem jG (x y:Int):∃ v:Int,∀ (ρ:Operand->Value) (o:Oper) (p q:Operand),o.op=.binOp .or 5 p q 5->ρ p=.int .u8 x->ρ q=.int .u8 y->∀ w,(execOp ρ o).run Tryz.prog w=.ok (.value (.int .u8 v)) w:=by
 refine⟨bits .or .u8 x y,fun ρ o p q ho hx hy w=>?_⟩;unfold execOp;simp only[ho,hx,hy];go_simp
theorem qQ (x y:Int):∃ v:Int,∀ (ρ:Operand->Value) (o:Oper) (p q:Operand),o.op=.binOp .xor 5 p q 5->ρ p=.int .u8 x->ρ q=.int .u8 y->∀ w,(execOp ρ o).run Tryz.prog w=.ok (.value (.int .u8 v)) w:=by
 refine⟨bits .xor .u8 x y,fun ρ o p q ho hx hy w=>?_⟩;unfold execOp;simp only[ho,hx,hy];go_simp
theorem Iw {w:World}{B n c:Nat}{a:Option Addr}{x:Int}{M:List Int}(h:w.ownsRow B 5 1 (.slice a n c) n (Zp (x::M))):∃ b,a=some ⟨b,0,none⟩/\B<=b/\w.cell? ⟨b,0,none⟩=some (.int .u8 x)/\0<n:=by
 have hl:=h.1;rcases h.2 with⟨e0,h0⟩ | ⟨g,cap,cur,e0,hb,hg,hn,hm,hc,ht⟩
 ·rw[h0] at hl; simp[Zp] at hl
 ·simp only[Value.slice.injEq] at e0;obtain⟨rfl,-,rfl⟩:=e0;refine⟨g,rfl,hb,?_,by simp[Zp] at hl; omega⟩;have:=h.cells (g:=g) rfl 0 (.int .u8 x) (by simp[Zp]);rw[<- this,Go.WideShapes.add_plain]
theorem Iu {w:World}{B n c:Nat}{a:Option Addr}{x:Int}{M:List Int}(h:w.ownsRow B 3 1 (.slice a n c) n (ZM (x::M))):∃ b,a=some ⟨b,0,none⟩/\B<=b/\w.cell? ⟨b,0,none⟩=some (Z9 x)/\0<n:=by
 have hl:=h.1;rcases h.2 with⟨e0,h0⟩ | ⟨g,cap,cur,e0,hb,hg,hn,hm,hc,ht⟩
 ·rw[h0] at hl; simp[ZM] at hl
 ·simp only[Value.slice.injEq] at e0;obtain⟨rfl,-,rfl⟩:=e0;refine⟨g,rfl,hb,?_,by simp[ZM] at hl; omega⟩;have:=h.cells (g:=g) rfl 0 (Z9 x) (by simp[ZM]);rw[<- this,Go.WideShapes.add_plain]
theorem wP {w:World}{B b n c i:Nat}{M:List Int}(h:w.ownsRow B 3 1 (.slice (some ⟨b,0,none⟩) n c) n (ZM M))(hi:i<n)(v:Int):∃ V2,(Instr.storeAt 3 (Z7 b (0+i)) (Z9 v)).run Tryz.prog w=.ok () V2/\But b w V2:=by
 obtain⟨cur,hcur,hsz,-,-⟩:=YJ h;rw[Nat.zero_add];exact⟨_,Zh hcur (by omega) rfl (by kernel_rfl),But.setCell w i _⟩
theorem XT.VQ {w w':World}{B Bd:Nat}{S:Nat->Prop}{e:En}{d:Ad}(h:XT w B e d)(hb:ZP Bd S w w')(hn:∀ k,EB e d k->¬ S k)(h1:e.raw≠[])(h2:e.Y6≠[]):XT w' B e d:=
 ⟨YL h.r fun x hx=>hb.2 _ (h.r.lt x.block (by rw[hx]; rfl)).2 (hn _ (.inl ⟨h1,x,hx,rfl⟩)),YL h.p fun x hx=>hb.2 _ (h.p.lt x.block (by rw[hx]; rfl)).2 (hn _ (.inr ⟨h2,x,hx,rfl⟩))⟩
def eX (E:En):En:={ E with raw:=1::E.raw,Y6:=1::E.Y6 }
theorem Iq {w w':World}{b o q:Nat}{cs:List Value}(h:w.rangeAt b o cs)(hb:But q w w')(hn:b≠q):w'.rangeAt b o cs:=fun j v hv=>by
 have h1:=h j v hv;have hlt:b<w.heap.size:=by
  rcases Nat.lt_or_ge b w.heap.size with h2 | h2
  ·exact h2
  ·unfold World.cell? at h1;rw[show w.heap[b]?=none from Array.getElem?_eq_none h2] at h1;cases h1
 rw[<- h1];unfold World.cell?;rw[show w'.heap[b]?=w.heap[b]? from hb.2 b hlt hn]
def RB (V:World)(lo hi:Nat)(x:Value)(E:En):Prop:=∃ b o c d,x=.slice (some ⟨b,o,none⟩) 1 c/\V.rangeAt b (o+0*41) (YN E d)/\lo<=b/\b<hi/\XT V lo E d/\(∀ k,EB E d k->k<hi)/\∀ k,EB E d k->k≠b
theorem Ue.rb {w V:World}{v:Value}{E:En}(h:Ue w [E] v V):RB V w.heap.size V.heap.size v E:=by
 obtain⟨X,h1,h2,h3,h4⟩:=h;obtain⟨a,c,rfl,hcs,-⟩:=h2.cs;match X,h1 with
 | [x],h1=>
  simp only[lE,List.map_cons,List.map_nil,List.cons.injEq,and_true] at h1;subst h1;obtain⟨b,off,rfl,hb,hr⟩:=XR yu OA (by omega) qG hcs (i:=0) (by simp);have hx:=h3 x (by simp);refine⟨b,off,c,x.2,rfl,hr,(h2.lt b rfl).1,hb,hx,hx.i.lt,fun k hk e=>?_⟩;subst e;rcases hk with⟨-,y,hy,hyk⟩ | ⟨-,y,hy,hyk⟩
  ·rcases own_ne h2 hx.r (by decide) with h5 | h5
   ·cases h5
   ·exact h5 (by show some k=(Value.slice x.2.ra _ x.2.rc).ownBlock; rw[hy,<- hyk]; rfl)
  ·rcases own_ne h2 hx.p (by decide) with h5 | h5
   ·cases h5
   ·exact h5 (by show some k=(Value.slice x.2.pa _ x.2.pc).ownBlock; rw[hy,<- hyk]; rfl)
section
variable {W V V2 : World} {lo hi q : Nat} {x x1 x2 x3 x4 v : Value} {E : En} {b1 b2 b3 b4 : Bool}
theorem RB.below (h:RB V lo hi x E)(hh:hi<=V.heap.size)(hb:Below V.heap.size V V2):RB V2 lo hi x E:=by
 obtain⟨b,o,c,d,h1,h2,h3,h4,h5,h6,h7⟩:=h;exact⟨b,o,c,d,h1,Zu h2 hb,h3,h4,h5.below hb,h6,h7⟩
theorem RB.but (h:RB V lo hi x E)(hb:But q V V2)(hq:q<lo∨hi<=q)(h1:E.raw≠[])(h2:E.Y6≠[]):RB V2 lo hi x E:=by
 obtain⟨b,o,c,d,e1,e2,e3,e4,e5,e6,e7⟩:=h;have hne:∀ k,EB E d k->k≠q:=fun k hk=>by
  have:=e5.ge k hk;have:=e6 k hk;omega
 exact⟨b,o,c,d,e1,Iq e2 hb (by omega),e3,e4,⟨YL e5.r fun y hy=>hb.2 _ (e5.r.lt y.block (by rw[hy]; rfl)).2 (hne _ (.inl ⟨h1,y,hy,rfl⟩)),YL e5.p fun y hy=>hb.2 _ (e5.p.lt y.block (by rw[hy]; rfl)).2 (hne _ (.inr ⟨h2,y,hy,rfl⟩))⟩,e6,e7⟩
structure KT (W:World)(E:En)(b1 b2 b3 b4:Bool)(x1 x2 x3 x4:Value)(V:World):Prop where
 bel:Below W.heap.size W V
 o4:b4=true->b1=true/\b2=true/\b3=true
 ex:∃ l1 h1 l2 h2 l3 h3,(b1=true->W.heap.size<=l1/\h1<=V.heap.size/\RB V l1 h1 x1 E)/\(b2=true->W.heap.size<=l2/\h2<=V.heap.size/\RB V l2 h2 x2 E)/\(b3=true->W.heap.size<=l3/\h3<=V.heap.size/\RB V l3 h3 x3 E)/\(b1=true->b2=true->h1<=l2∨h2<=l1)/\(b1=true->b3=true->h1<=l3∨h3<=l1)/\(b2=true->b3=true->h2<=l3∨h3<=l2)/\(b4=true->∃ g,x4=.slice (some ⟨g,0,none⟩) 3 3/\Bx V g #[x1,x2,x3] 29/\W.heap.size<=g/\h1<=g/\h2<=g/\h3<=g)
theorem KT.start (W:World)(E:En)(x1 x2 x3 x4:Value):KT W E false false false false x1 x2 x3 x4 W.drew:=⟨(Below.refl _ W).drew,fun h=>(by cases h),0,0,0,0,0,0,fun h=>(by cases h),fun h=>(by cases h),fun h=>(by cases h),fun h=>(by cases h),fun h=>(by cases h),fun h=>(by cases h),fun h=>(by cases h)⟩
theorem KT.n1 (h:KT W E false b2 b3 b4 x1 x2 x3 x4 V):b4=false:=by cases b4; rfl; exact absurd (h.o4 rfl).1 (by decide)
theorem KT.n2 (h:KT W E b1 false b3 b4 x1 x2 x3 x4 V):b4=false:=by cases b4; rfl; exact absurd (h.o4 rfl).2.1 (by decide)
theorem KT.n3 (h:KT W E b1 b2 false b4 x1 x2 x3 x4 V):b4=false:=by cases b4; rfl; exact absurd (h.o4 rfl).2.2 (by decide)
theorem KT.s1 (h:KT W E false b2 b3 false x1 x2 x3 x4 V)(hn:Ue V [E] v V2):KT W E true b2 b3 false v x2 x3 x4 V2:=by
 obtain⟨l1,h1,l2,h2,l3,h3,-,k2,k3,-,-,k23,-⟩:=h.ex;have hb:=hn.bel;exact⟨h.bel.trans (hb.mono h.bel.size),fun e=>(by cases e),V.heap.size,V2.heap.size,l2,h2,l3,h3,fun _=>⟨h.bel.size,Nat.le_refl _,hn.rb⟩,fun e=>⟨(k2 e).1,Nat.le_trans (k2 e).2.1 hb.size,(k2 e).2.2.below (k2 e).2.1 hb⟩,fun e=>⟨(k3 e).1,Nat.le_trans (k3 e).2.1 hb.size,(k3 e).2.2.below (k3 e).2.1 hb⟩,fun _ e=>.inr (k2 e).2.1,fun _ e=>.inr (k3 e).2.1,k23,fun e=>(by cases e)⟩
theorem KT.s2 (h:KT W E b1 false b3 false x1 x2 x3 x4 V)(hn:Ue V [E] v V2):KT W E b1 true b3 false x1 v x3 x4 V2:=by
 obtain⟨l1,h1,l2,h2,l3,h3,k1,-,k3,-,k13,-,-⟩:=h.ex;have hb:=hn.bel;exact⟨h.bel.trans (hb.mono h.bel.size),fun e=>(by cases e),l1,h1,V.heap.size,V2.heap.size,l3,h3,fun e=>⟨(k1 e).1,Nat.le_trans (k1 e).2.1 hb.size,(k1 e).2.2.below (k1 e).2.1 hb⟩,fun _=>⟨h.bel.size,Nat.le_refl _,hn.rb⟩,fun e=>⟨(k3 e).1,Nat.le_trans (k3 e).2.1 hb.size,(k3 e).2.2.below (k3 e).2.1 hb⟩,fun e _=>.inl (k1 e).2.1,k13,fun _ e=>.inr (k3 e).2.1,fun e=>(by cases e)⟩
theorem KT.s3 (h:KT W E b1 b2 false false x1 x2 x3 x4 V)(hn:Ue V [E] v V2):KT W E b1 b2 true false x1 x2 v x4 V2:=by
 obtain⟨l1,h1,l2,h2,l3,h3,k1,k2,-,k12,-,-,-⟩:=h.ex;have hb:=hn.bel;exact⟨h.bel.trans (hb.mono h.bel.size),fun e=>(by cases e),l1,h1,l2,h2,V.heap.size,V2.heap.size,fun e=>⟨(k1 e).1,Nat.le_trans (k1 e).2.1 hb.size,(k1 e).2.2.below (k1 e).2.1 hb⟩,fun e=>⟨(k2 e).1,Nat.le_trans (k2 e).2.1 hb.size,(k2 e).2.2.below (k2 e).2.1 hb⟩,fun _=>⟨h.bel.size,Nat.le_refl _,hn.rb⟩,k12,fun e _=>.inl (k1 e).2.1,fun e _=>.inl (k2 e).2.1,fun e=>(by cases e)⟩
theorem KT.s4 (h:KT W E true true true false x1 x2 x3 x4 V):KT W E true true true true x1 x2 x3 (.slice (some ⟨V.heap.size,0,none⟩) 3 3) (V.alloc (.cells #[x1,x2,x3] 29)):=by
 obtain⟨l1,h1,l2,h2,l3,h3,k1,k2,k3,k12,k13,k23,-⟩:=h.ex;have hb:Below V.heap.size V (V.alloc (.cells #[x1,x2,x3] 29)):=(Below.refl _ V).alloc (Nat.le_refl _) _;exact⟨h.bel.trans (hb.mono h.bel.size),fun _=>⟨rfl,rfl,rfl⟩,l1,h1,l2,h2,l3,h3,fun e=>⟨(k1 e).1,Nat.le_trans (k1 e).2.1 hb.size,(k1 e).2.2.below (k1 e).2.1 hb⟩,fun e=>⟨(k2 e).1,Nat.le_trans (k2 e).2.1 hb.size,(k2 e).2.2.below (k2 e).2.1 hb⟩,fun e=>⟨(k3 e).1,Nat.le_trans (k3 e).2.1 hb.size,(k3 e).2.2.below (k3 e).2.1 hb⟩,k12,k13,k23,fun _=>⟨_,rfl,heap_alloc_last V _,h.bel.size,(k1 rfl).2.1,(k2 rfl).2.1,(k3 rfl).2.1⟩⟩
theorem KT.fin (h:KT W E true true true true x1 x2 x3 x4 V):∃ (lo hi:Nat->Nat) (xs:Nat->Value) (g:Nat),x4=.slice (some ⟨g,0,none⟩) 3 3/\Bx V g #[xs 0,xs 1,xs 2] 29/\W.heap.size<=g/\(∀ k,k<3->W.heap.size<=lo k/\hi k<=V.heap.size/\hi k<=g/\RB V (lo k) (hi k) (xs k) E)/\∀ j k,j<3->k<3->j≠k->hi j<=lo k∨hi k<=lo j:=by
 obtain⟨l1,h1,l2,h2,l3,h3,k1,k2,k3,k12,k13,k23,k4⟩:=h.ex;obtain⟨g,e4,hX,hg,q1,q2,q3⟩:=k4 rfl;have k12:=k12 rfl rfl;have k13:=k13 rfl rfl;have k23:=k23 rfl rfl;refine⟨fun k=>if k=0 then l1 else if k=1 then l2 else l3,fun k=>if k=0 then h1 else if k=1 then h2 else h3,fun k=>if k=0 then x1 else if k=1 then x2 else x3,g,e4,hX,hg,fun k hk=>?_,fun j k hj hk hn=>?_⟩
 ·rcases (show k=0∨k=1∨k=2 by omega) with rfl | rfl | rfl
  ·exact⟨(k1 rfl).1,(k1 rfl).2.1,q1,(k1 rfl).2.2⟩
  ·exact⟨(k2 rfl).1,(k2 rfl).2.1,q2,(k2 rfl).2.2⟩
  ·exact⟨(k3 rfl).1,(k3 rfl).2.1,q3,(k3 rfl).2.2⟩
 ·rcases (show j=0∨j=1∨j=2 by omega) with rfl | rfl | rfl <;> rcases (show k=0∨k=1∨k=2 by omega) with rfl | rfl | rfl <;> first | exact absurd rfl hn | skip
  ·exact k12
  ·exact k13
  ·exact k12.symm
  ·exact k23
  ·exact k13.symm
  ·exact k23.symm
end
theorem yx (a1 a2 a3:Option Addr)(n1 n2 n3 c1 c2 c3:Nat)(V:World):(Instr.buildSlice 72 3 #[(0,.slice a1 n1 c1),(1,.slice a2 n2 c2),(2,.slice a3 n3 c3)]).run Tryz.prog V=.ok (.slice (some ⟨V.heap.size,0,none⟩) 3 3) (V.alloc (.cells #[.slice a1 n1 c1,.slice a2 n2 c2,.slice a3 n3 c3] 29)):=by
 have hi9:(Tryz.prog.info? 29).map (fun i=>(i.zero,i.size,i.bytes))=some (some (.slice none 0 0),1,24):=by kernel_rfl
 obtain⟨i0,hi,hz0,hz1,hz2⟩:=info_parts hi9;refine run_buildSlice V 72 29 3 _ #[.slice a1 n1 c1,.slice a2 n2 c2,.slice a3 n3 c3] i0 _ Tryz.underlying72 hi hz0 (by rw[hz1]; omega) (by rw[hz1]; omega) ?_;rw[hz1];kernel_rfl
theorem KT.pI {W V:World}{E:En}{x1 x2 x3 x4:Value}(h:KT W E true true true false x1 x2 x3 x4 V):(Instr.buildSlice 72 3 #[(0,x1),(1,x2),(2,x3)]).run Tryz.prog V=.ok (.slice (some ⟨V.heap.size,0,none⟩) 3 3) (V.alloc (.cells #[x1,x2,x3] 29)):=by
 obtain⟨l1,h1,l2,h2,l3,h3,k1,k2,k3,-⟩:=h.ex;obtain⟨-,-,b1,o1,c1,d1,rfl,-⟩:=k1 rfl;obtain⟨-,-,b2,o2,c2,d2,rfl,-⟩:=k2 rfl;obtain⟨-,-,b3,o3,c3,d3,rfl,-⟩:=k3 rfl;exact yx _ _ _ _ _ _ _ _ _ V
theorem qP (b off n c k:Nat)(hk:k<n)(V:World)(ρ:Operand->Value)(o:Oper){x y:Operand}(ho:o.op=.indexAddr 72 x y)(hx:ρ x=.slice (some ⟨b,off,none⟩) n c)(hy:ρ y=Z9 k):(execOp ρ o).run Tryz.prog V=.ok (.value (Z7 b (off+k))) V:=by
 have hs:(sizeOf (Tryz.prog.elem 72)).run Tryz.prog V=.ok 1 V:=by kernel_rfl
 have hlm:(k:Int)<(n:Int):=by omega
 unfold execOp;simp only[ho,hx,hy];go_simp
theorem OH {c:List Int}{E:En}(h1:1<=c.getD 0 0)(h2:(E.raw.length:Int)<=c.getD 1 0):X6 (c.getD 0 0) (c.getD 1 0) [] E=0:=by
 unfold X6;rw[if_neg (by simp[RN]),if_neg (by simp),if_neg];simp only[List.length_nil,WX];omega
theorem yF {c:List Int}{E:En}(h1:1<=c.getD 0 0)(h2:(E.raw.length:Int)<=c.getD 1 0):insL (c.getD 0 0) (c.getD 1 0) [] E=[E]:=by
 unfold insL;rw[if_pos (OH h1 h2)]; rfl
theorem yE (E:En):MS E.snd [E]=[E]:=by
 have h:=Me E.snd [E];rw[show([E].filter fun e=>decide (e.snd=E.snd))=[E] by simp] at h;exact List.perm_singleton.1 h
theorem Ip (E:En):Ik [E] E.k=true:=by
 unfold Ik;refine decide_eq_true ?_;exact J7.2 ⟨E,by simp,QT _⟩
theorem yD (E:En):KC [E] E.k=E:=by
 have h:RN E.k [E]=0:=FD (by simp) (QT _) fun j hj=>by omega
 unfold KC;rw[Ip,if_pos rfl,h];rfl
theorem aB {E:En}(h:OE E)(h1:E.raw.length<=8)(h2:E.Y6.length<=2):OE (eX E):=⟨⟨by show E.raw.length+1<=60000; omega,by show E.Y6.length+1<=60000; omega⟩,h.sq,h.ht,h.tm,h.nm⟩
theorem qX:1<=Cg.Vd.getD 0 0/\9<=Cg.Vd.getD 1 0:=by decide
end Go.Proofs.YtnelmomagdcmnaaGreat
