/-
  Texts joined.
-/
import Derived.Test.YtnelmomagdcmnaaGreatJ4
import Derived.BigRegion
import Derived.Lib.SlBytesConst
import Derived.Laws.AppendOwnNone
import Derived.Laws.BytesArg
import Derived.Lib.AppendZeros
import Derived.Deep.OwnRows
import Derived.Laws.CopyOwn
set_option maxRecDepth 100000
set_option maxHeartbeats 8000000
set_option linter.unusedSimpArgs false
set_option linter.unusedVariables false
namespace Go.Proofs.YtnelmomagdcmnaaGreat
open Go.RowKit
def W8 (x:Int):Prop:=0<=x/\x<=255
theorem W8.getD {B:List Int}(h:∀ x,x∈B->W8 x)(i:Nat)(hi:i<B.length):W8 (B.getD i 0):=by
  simp only[List.getD,List.getElem?_eq_getElem hi,Option.getD_some];exact h _ (List.getElem_mem hi)
theorem W8.small {x:Int}(h:W8 x):x % 4294967296=x:=by
  obtain⟨a,b⟩:=h;omega
theorem NM (L:List Int)(x:Int)(n m:Nat)(hn:n=m+1):(L++List.replicate n 0).set L.length x=(L++[x])++List.replicate m 0:=by
  subst hn;simp[List.replicate_succ]
def XM (w:World)(g:Nat)(t:TypeId)(L:List Int):Prop:=w.heap[g]?=some (.cells (Zn L) t (0,0))
theorem XM.cell {w:World}{g:Nat}{t:TypeId}{L:List Int}(h:XM w g t L)(i:Nat)(hi:i<L.length):w.cell? ⟨g,i,none⟩=some (.int .u32 (L.getD i 0)):=by
  rw[cell_of_row w g i _ t (0,0) h];simp[Zn,hi]
theorem XM.frozen {w:World}{g:Nat}{t:TypeId}{L:List Int}(h:XM w g t L)(i:Nat):w.frozen? ⟨g,i,none⟩=false:=frozen_of_row w g i _ t h
theorem XM.set {w:World}{g:Nat}{t:TypeId}{L:List Int}(h:XM w g t L)(i:Nat)(x:Int):XM (w.setCell ⟨g,i,none⟩ (.int .u32 x)) g t (L.set i x):=by
  unfold XM;rw[Joins.block_setCell h];simp[Zn]
theorem XM.far {w:World}{g:Nat}{t:TypeId}{L:List Int}(h:XM w g t L)(a:Addr)(hn:g≠a.block)(v:Value):XM (w.setCell a v) g t L:=by
  unfold XM;rw[heap_setCell_other w a g v hn];exact h
theorem XM.lt {w:World}{g:Nat}{t:TypeId}{L:List Int}(h:XM w g t L):g<w.heap.size:=(Array.getElem?_eq_some_iff.1 h).1
theorem XM.below {w w':World}{g B:Nat}{t:TypeId}{L:List Int}(h:XM w g t L)(hg:g<B)(hb:Below B w w'):XM w' g t L:=by
  unfold XM;rw[hb.block g hg];exact h
theorem XM.alloc {w:World}{g:Nat}{t:TypeId}{L:List Int}(h:XM w g t L)(o:Obj):XM (w.alloc o) g t L:=by
  unfold XM;rw[Below.heap_alloc w o g h.lt];exact h
def rY (w:World)(g:Nat)(a b c d e f p q:Int):World:=((((((((w.setCell ⟨g,0,none⟩ (.int .u32 a)).setCell ⟨g,1,none⟩ (.int .u32 b)).setCell ⟨g,2,none⟩ (.int .u32 c)).setCell ⟨g,3,none⟩ (.int .u32 d)).setCell ⟨g,4,none⟩ (.int .u32 e)).setCell ⟨g,5,none⟩ (.int .u32 f)).setCell ⟨g,6,none⟩ (.int .u32 p)).setCell ⟨g,7,none⟩ (.int .u32 q))
theorem XM.rY {w:World}{g:Nat}{t:TypeId}{L:List Int}(h:XM w g t L)(hl:L.length=8)(a b c d e f p q:Int):XM (rY w g a b c d e f p q) g t [a,b,c,d,e,f,p,q]:=by
  have:=(((((((h.set 0 a).set 1 b).set 2 c).set 3 d).set 4 e).set 5 f).set 6 p).set 7 q;have e8:(((((((L.set 0 a).set 1 b).set 2 c).set 3 d).set 4 e).set 5 f).set 6 p).set 7 q=[a,b,c,d,e,f,p,q]:=by
    match L,hl with
    | [_,_,_,_,_,_,_,_],_=>rfl
  rw[e8] at this;exact this
theorem XM.jR {w:World}{g k:Nat}{t:TypeId}{L:List Int}(h:XM w k t L)(hn:k≠g)(a b c d e f p q:Int):XM (YtnelmomagdcmnaaGreat.rY w g a b c d e f p q) k t L:=
  (((((((h.far _ hn _).far _ hn _).far _ hn _).far _ hn _).far _ hn _).far _ hn _).far _ hn _).far _ hn _
theorem ab9 {w w0:World}{g B:Nat}(h:Below B w0 w)(hn:B<=g)(a b c d e f p q:Int):Below B w0 (rY w g a b c d e f p q):=
  (((((((h.setCell hn _).setCell hn _).setCell hn _).setCell hn _).setCell hn _).setCell hn _).setCell hn _).setCell hn _
def yt (w:World)(g o:Nat)(B:List Int):Prop:=∀ j,j<B.length->w.cell? ⟨g,o+j,none⟩=some (.int .u8 (B.getD j 0))
theorem yt.below {w w':World}{g o S:Nat}{B:List Int}(h:yt w g o B)(hg:g<S)(hb:Below S w w'):yt w' g o B:=fun j hj=>by
  rw[hb.cell (p:=⟨g,o+j,none⟩) hg];exact h j hj
theorem rX (h s:List Int):∀ j i,j<=i->(sums h s j).getD i 0=h.getD i 0:=by
  intro j;induction j with
  | zero=>intro i _; rfl
  | succ j ih=>
    intro i hi;rw[<- ih i (by omega)];simp only[sums,List.getD];rw[List.getElem?_set_ne (by omega)]
theorem Vb {P:Program}{ops:Array Oper}{rest:List Oper}{op:Oper}{a:Act}{w:World}{Q:Exit->Act->World->Prop}(hgd:op.guard=none)(ty:TypeId)(x y:Operand)(ho:op.op=.store ty x y)
    (g:Nat) (c c':Array Value) (hx:a.eval x=Z7 g 0) (hy:a.eval y=.agg c') (hg:w.heap[g]?=some (.cells c ty (0,0)))
    (hi:(P.info? ty).map (·.size)=some c'.size) (hz:c.size=c'.size) (h1:c'.all (·.oneCell')=true)
    (h:wpList P ops Q rest (a.put op.dst undef) (w.setRow g c')):wpList P ops Q (op::rest) a w:=
  wpList_plain hgd fun K hK=>by
    unfold Oper.wp execOp;simp only[ho,hx,hy,Instr.storeAt,Instr.sureAddr,Sem.run_bind,Sem.run_pure,Result.andThen_ok,run_storeVar_row w g ty ty c c' hg hi hz h1];exact hK _ _ h
theorem Below.drewN' {B:Nat}{a w:World}(h:Below B a w)(n:Nat):Below B a (w.drewN n):=⟨h.os,h.tape,h.output,h.size,h.block⟩
theorem Oq (L:List Int):(Zn L).all (·.oneCell')=true:=all_oneCell_toArray fun v hv=>by
  obtain⟨x,-,rfl⟩:=List.mem_map.1 hv;rfl
theorem TL (x:Int)(n:Nat)(w:World)(hn:1<=n)(h31:n<=31) :
    Calls Tryz.prog 120 #[.int .u32 x,Z9 n] w fun e w'=>e=.returned (.int .u32 (Oo x n))/\∃ m,w'=w.drewN m:=
  (rW x n w hn h31).mono fun _ _ ⟨he,hw⟩=>⟨he,1,hw⟩
theorem yh (H B:List Int)(gb o c:Nat)(w:World)(hH:H.length=8)(hB:B.length=64)(hb:yt w gb o B)(h8:∀ x,x∈B->W8 x)(hgb:gb<w.heap.size) :
    Calls Tryz.prog 92 #[.agg (Zn H),.slice (some ⟨gb,o,none⟩) 64 c] w fun e w'=>e=.returned (.agg (Zn (blk H B)))/\Below w.heap.size w w':=by
  go_enter Tryz.func92,Tryz.ntmps92;go_upto_region 3 with fail;have hA:XM ((((w.alloc (Obj.cells (Zn H) 176)).alloc (Obj.cells (Zn (List.replicate 8 0)) 176)).alloc (Obj.cells (Zn (List.replicate 64 0)) 204))) w.heap.size 176 H:=XM.alloc (XM.alloc (heap_alloc_last w _) _) _;have hC:XM ((((w.alloc (Obj.cells (Zn H) 176)).alloc (Obj.cells (Zn (List.replicate 8 0)) 176)).alloc (Obj.cells (Zn (List.replicate 64 0)) 204))) (w.heap.size+1) 176 (List.replicate 8 0):=by
    have:=XM.alloc (t:=176) (L:=List.replicate 8 0) (heap_alloc_last (w.alloc (Obj.cells (Zn H) 176)) (Obj.cells (Zn (List.replicate 8 0)) 176)) (Obj.cells (Zn (List.replicate 64 0)) 204);simpa using this
  have hD:XM ((((w.alloc (Obj.cells (Zn H) 176)).alloc (Obj.cells (Zn (List.replicate 8 0)) 176)).alloc (Obj.cells (Zn (List.replicate 64 0)) 204))) (w.heap.size+2) 204 (List.replicate 64 0):=by
    have:=heap_alloc_last ((w.alloc (Obj.cells (Zn H) 176)).alloc (Obj.cells (Zn (List.replicate 8 0)) 176)) (Obj.cells (Zn (List.replicate 64 0)) 204);simpa [XM] using this
  have hW:Below w.heap.size w ((((w.alloc (Obj.cells (Zn H) 176)).alloc (Obj.cells (Zn (List.replicate 8 0)) 176)).alloc (Obj.cells (Zn (List.replicate 64 0)) 204))):=
    (((Below.refl w.heap.size w).alloc (by simp) _).alloc (by simp) _).alloc (by simp; omega) _
  change Code.wp _ _ _ _ (((w.alloc (Obj.cells (Zn H) 176)).alloc (Obj.cells (Zn (List.replicate 8 0)) 176)).alloc (Obj.cells (Zn (List.replicate 64 0)) 204));generalize ((w.alloc (Obj.cells (Zn H) 176)).alloc (Obj.cells (Zn (List.replicate 8 0)) 176)).alloc (Obj.cells (Zn (List.replicate 64 0)) 204)=W at *
  go_loopg [6] 16 (fun g s6 wx=>∃ t:Nat,t<=16/\s6=Z9 t/\XM wx w.heap.size 176 H/\XM wx (w.heap.size+1) 176 (List.replicate 8 0)/\XM wx (w.heap.size+2) 204 (words B t++List.replicate (64-t) 0)/\Below w.heap.size w wx/\16-t=g)
  case atStart=>exact⟨0,by omega,rfl,hA,hC,by simpa [words] using hD,hW,rfl⟩
  case round=>
    obtain⟨t,ht,rfl,hA1,hC1,hD1,hW1,hg1⟩:=hrel;by_cases hlt:t<16
    · have hb1:=hb.below hgb hW1;have x0:=hb1 (4*t) (by omega);have x1:=hb1 (4*t+1) (by omega);have x2:=hb1 (4*t+2) (by omega);have x3:=hb1 (4*t+3) (by omega);have xz:=hD1.cell t (by simp[Qn]; omega);have xf:=hD1.frozen t;have HA:=Z8 hA1;have HC:=Z8 hC1;have HD:=Z8 hD1;have HW:=Z8 hW1;have HA0:=Z8 hA;have HC0:=Z8 hC;have HD0:=Z8 hD;have HW0:=Z8 hW;have HH:=Z8 hH;have HB:=Z8 hB;clear hA1 hC1 hD1 hW1 hA hC hD hW hH hB hb1;have H8:=Z8 h8;have e0:=(W8.getD h8 (4*t) (by rw[HB.out]; omega)).small;have e1:=(W8.getD h8 (4*t+1) (by rw[HB.out]; omega)).small;have e2:=(W8.getD h8 (4*t+2) (by rw[HB.out]; omega)).small;have e3:=(W8.getD h8 (4*t+3) (by rw[HB.out]; omega)).small;have HV:Hid (word B t=EM (B.getD (4*t) 0) (B.getD (4*t+1) 0) (B.getD (4*t+2) 0) (B.getD (4*t+3) 0)):=Z8 rfl;clear h8;generalize B.getD (4*t) 0=y0 at *
      generalize B.getD (4*t+1) 0=y1 at *
      generalize B.getD (4*t+2) 0=y2 at *
      generalize B.getD (4*t+3) 0=y3 at *
      generalize List.getD (words B t++List.replicate (64-t) 0) t 0=z at *
      go_wp2
      go_region
      go_wp2;have HN:(words B t++List.replicate (64-t) 0).set t (EM y0 y1 y2 y3)=words B (t+1)++List.replicate (64-(t+1)) 0:=by
        have:=NM (words B t) (EM y0 y1 y2 y3) (64-t) (64-(t+1)) (by omega);rw[Qn] at this;rw[this,words,HV.out]
      have HD2:=HD.out.set t (EM y0 y1 y2 y3);rw[HN] at HD2;go_roundg (16-(t+1))
      case measure=>omega
      case rel=>exact⟨t+1,by omega,by go_num,HA.out.far _ (by simp; omega) _,HC.out.far _ (by simp) _,HD2,(HW.out.setCell (by simp; omega) _).drew,rfl⟩
    · obtain rfl:t=16:=(by omega);clear hA hC hD hW W;go_wp2_with fail;go_loopg [7] 48 (fun g s7 wx=>∃ k:Nat,k<=48/\s7=Z9 ((k:Int)+16)/\XM wx w.heap.size 176 H/\XM wx (w.heap.size+1) 176 (List.replicate 8 0)/\XM wx (w.heap.size+2) 204 (more (words B 16) k++List.replicate (48-k) 0)/\Below w.heap.size w wx/\48-k=g)
      case atStart=>exact⟨0,by omega,by go_num,hA1,hC1,by simpa [more] using hD1,hW1,rfl⟩
      case round=>
        clear hA1 hC1 hD1 hW1;obtain⟨k,hk,rfl,hA2,hC2,hD2,hW2,hg2⟩:=hrel;by_cases hlt2:k<48
        · have hl:(more (words B 16) k).length=16+k:=(by rw[EL,Qn]);have ha:(more (words B 16) k++List.replicate (48-k) 0).length=64:=(by simp[hl]; omega);have x1:=hD2.cell (k+1) (by omega);have x2:=hD2.cell (k+14) (by omega);have x3:=hD2.cell (k+9) (by omega);have x4:=hD2.cell k (by omega);have xz:=hD2.cell (k+16) (by omega);have xf:=hD2.frozen (k+16);have g0:∀ i,i<16+k->(more (words B 16) k++List.replicate (48-k) 0).getD i 0=(more (words B 16) k).getD i 0:=fun i hi=>by
            simp[List.getD,List.getElem?_append_left (show i<(more (words B 16) k).length by omega)]
          rw[g0 (k+1) (by omega)] at x1;rw[g0 (k+14) (by omega)] at x2;rw[g0 (k+9) (by omega)] at x3;rw[g0 k (by omega)] at x4;have HA:=Z8 hA2;have HC:=Z8 hC2;have HD:=Z8 hD2;have HW:=Z8 hW2;have HL:=Z8 hl;have HH:=Z8 hH;have HB:=Z8 hB;have H8:=Z8 h8;have HV:Hid (∀ x y u v,x=(more (words B 16) k).getD (k+1) 0->y=(more (words B 16) k).getD (k+14) 0->u=(more (words B 16) k).getD (k+9) 0->v=(more (words B 16) k).getD k 0 ->
              follow (more (words B 16) k) (16+k)=(xo (xo (Oo y 17) (Oo y 19)) (y / 1024)+u+xo (xo (Oo x 7) (Oo x 18)) (x / 8)+v) % 4294967296):=by
            intro x y u v e1 e2 e3 e4;subst e1 e2 e3 e4;simp only[follow,show 16+k-15=k+1 by omega,show 16+k-2=k+14 by omega,show 16+k-7=k+9 by omega,show 16+k-16=k by omega]
          clear hA2 hC2 hD2 hW2 hl ha hH hB h8 g0;generalize hx1:(more (words B 16) k).getD (k+1) 0=x at *
          generalize hx2:(more (words B 16) k).getD (k+14) 0=y at *
          generalize hx3:(more (words B 16) k).getD (k+9) 0=u at *
          generalize hx4:(more (words B 16) k).getD k 0=v at *
          generalize List.getD (more (words B 16) k++List.replicate (48-k) 0) (k+16) 0=z at *
          have HV2:=Z8 (HV.out x y u v rfl rfl rfl rfl);clear hx1 hx2 hx3 hx4 HV;have i1:IntKind.i64.wrap ((k:Int)+16-15)=((k+1:Nat):Int):=(by rw[IntKind.wrap_i64]; omega);have i2:IntKind.i64.wrap ((k:Int)+16-2)=((k+14:Nat):Int):=(by rw[IntKind.wrap_i64]; omega);have i3:IntKind.i64.wrap ((k:Int)+16-7)=((k+9:Nat):Int):=(by rw[IntKind.wrap_i64]; omega);have i4:IntKind.i64.wrap ((k:Int)+16-16)=(k:Int):=(by rw[IntKind.wrap_i64]; omega);have i5:IntKind.i64.wrap (k:Int)=(k:Int):=(by rw[IntKind.wrap_i64]; omega);have j1:((k+1:Nat):Int)<64:=(by omega);have j2:((k+14:Nat):Int)<64:=(by omega);have j3:((k+9:Nat):Int)<64:=(by omega);have j4:(k:Int)<64:=(by omega);have j5:(k:Int)+16<64:=(by omega);have j6:((k:Int)+16).toNat=k+16:=(by omega);have j7:0<=(k:Int)+16:=(by omega);generalize k+1=n1 at x1 i1 j1;generalize k+14=n2 at x2 i2 j2;generalize k+9=n3 at x3 i3 j3;go_wp2
          go_region
          go_wp2_with fail;have X1:wr.drew.cell? ⟨w.heap.size+1+1,n1,none⟩=some (.int .u32 x):=x1;have X2:wr.drew.cell? ⟨w.heap.size+1+1,n2,none⟩=some (.int .u32 y):=x2;have X3:wr.drew.cell? ⟨w.heap.size+1+1,n3,none⟩=some (.int .u32 u):=x3;have X4:wr.drew.cell? ⟨w.heap.size+1+1,k,none⟩=some (.int .u32 v):=x4;have Xz:wr.drew.cell? ⟨w.heap.size+1+1,k+16,none⟩=some (.int .u32 z):=xz;have Xf:wr.drew.frozen? ⟨w.heap.size+1+1,k+16,none⟩=false:=xf;have QA:Hid (XM wr.drew w.heap.size 176 H):=HA;have QC:Hid (XM wr.drew (w.heap.size+1) 176 (List.replicate 8 0)):=HC;have QD:Hid (XM wr.drew (w.heap.size+2) 204 (more (words B 16) k++List.replicate (48-k) 0)):=HD;have QW:Hid (Below w.heap.size w wr.drew):=Z8 HW.out.drew;clear x1 x2 x3 x4 xz xf HA HC HD HW;generalize wr.drew=wq at *
          clear wr;refine QT 29 (by kernel_rfl) (by kernel_rfl) ?_;simp only[List.take_succ_cons,List.take_zero,List.drop_succ_cons,List.drop_zero];repeat (quiet_step (first
            | (go_at_call_of 120 (Value.int IntKind.i64 17); exact Calls.quiet_of (TL y 17 _ (by omega) (by omega)))
            | (go_at_call_of 120 (Value.int IntKind.i64 19); exact Calls.quiet_of (TL y 19 _ (by omega) (by omega)))
            | (go_at_call_of 120 (Value.int IntKind.i64 7); exact Calls.quiet_of (TL x 7 _ (by omega) (by omega)))
            | (go_at_call_of 120 (Value.int IntKind.i64 18); exact Calls.quiet_of (TL x 18 _ (by omega) (by omega)))))
          refine wpQuiet_nil ?_;rintro _ ⟨nq,rfl⟩;go_wp2_with fail;generalize (xo (xo (Oo y 17) (Oo y 19)) (y / 1024)+u+xo (xo (Oo x 7) (Oo x 18)) (x / 8)+v) % 4294967296=q at HV2 ⊢;have HN:(more (words B 16) k++List.replicate (48-k) 0).set (k+16) q=more (words B 16) (k+1)++List.replicate (48-(k+1)) 0:=by
            have:=NM (more (words B 16) k) q (48-k) (48-(k+1)) (by omega);rw[HL.out,Nat.add_comm 16 k] at this;rw[this,more,HV2.out]
          have QD2:=(show XM (wq.drewN nq) (w.heap.size+2) 204 _ from QD.out).set (k+16) q;rw[HN] at QD2;have QA2:=(show XM (wq.drewN nq) w.heap.size 176 H from QA.out).far ⟨w.heap.size+1+1,k+16,none⟩ (by simp; omega) (.int .u32 q);have QC2:=(show XM (wq.drewN nq) (w.heap.size+1) 176 _ from QC.out).far ⟨w.heap.size+1+1,k+16,none⟩ (by simp) (.int .u32 q);have QW2:Below w.heap.size w ((wq.drewN nq).setCell ⟨w.heap.size+1+1,k+16,none⟩ (.int .u32 q)):=(Below.drewN' QW.out nq).setCell (by simp; omega) _;go_roundg (48-(k+1))
          case measure=>omega
          case rel=>exact⟨k+1,by omega,by go_num,QA2,QC2,QD2,QW2,rfl⟩
        · obtain rfl:k=48:=(by omega);go_upto_region 11 with fail;have hl2:=hD2.lt;apply wp_region_lit;refine wpList_plain rfl (fun K hK=>?_);go_simp;refine(JC _).mono ?_;rintro e w' ⟨rfl,rfl⟩;apply hK;clear hK K;refine Zj rfl (some 10) rfl (Z7 ((wr.alloc (.cells (Zn ks) 204)).heap.size) 0) ((wr.alloc (.cells (Zn ks) 204)).alloc (.cells (List.replicate 64 (.int .u32 0)).toArray 204)) (by kernel_rfl) ?_;apply Xb (w:=wr.alloc (.cells (Zn ks) 204)) (ty:=204) (x:=.tmp 10) (y:=.tmp 98) (c:=(List.replicate 64 (.int .u32 0)).toArray) (c':=Zn ks)
          case hgd=>rfl
          case ho=>rfl
          case hx=>rfl
          case hy=>rfl
          case hi=>kernel_rfl
          case hz=>kernel_rfl
          case h1=>kernel_rfl
          apply wpList_nil;have RA:=XM.alloc (XM.alloc hA2 (.cells (Zn ks) 204)) (.cells (Zn ks) 204);have RC:=XM.alloc (XM.alloc hC2 (.cells (Zn ks) 204)) (.cells (Zn ks) 204);have RD:=XM.alloc (XM.alloc hD2 (.cells (Zn ks) 204)) (.cells (Zn ks) 204);have RK:XM ((wr.alloc (.cells (Zn ks) 204)).alloc (.cells (Zn ks) 204)) (wr.alloc (.cells (Zn ks) 204)).heap.size 204 ks:=heap_alloc_last _ _;have hg:w.heap.size+2<(wr.alloc (.cells (Zn ks) 204)).heap.size:=(by simp; omega);have RW:Below w.heap.size w ((wr.alloc (.cells (Zn ks) 204)).alloc (.cells (Zn ks) 204)):=(hW2.alloc hW2.size _).alloc (by simp; omega) _;simp only[Nat.sub_self,List.replicate_zero,List.append_nil] at RD;clear hA2 hC2 hD2 hW2 hl2;generalize (wr.alloc (.cells (Zn ks) 204)).alloc (.cells (Zn ks) 204)=W at *
          generalize (wr.alloc (.cells (Zn ks) 204)).heap.size=gq at *
          clear wr;go_upto_region 12 with fail;have hs8:(Zn H).size=8:=(by simp[hH]);apply wp_region_lit;apply wpList_load_row (ty:=176) (x:=.tmp 2) (g:=w.heap.size) (t:=176) (cs:=Zn H) (fr:=(0,0)) (d:=.array 8 175)
          case hgd=>rfl
          case ho=>rfl
          case hx=>rfl
          case hg=>exact RA
          case hu=>kernel_rfl
          case hd=>rfl
          case hi=>rw[hs8]; kernel_rfl
          refine Zj rfl (some 11) rfl (Z7 W.heap.size 0) (W.alloc (.cells (List.replicate 8 (.int .u32 0)).toArray 176)) (by kernel_rfl) ?_;apply Xb (w:=W) (ty:=176) (x:=.tmp 11) (y:=.tmp 99) (c:=(List.replicate 8 (.int .u32 0)).toArray) (c':=Zn H)
          case hgd=>rfl
          case ho=>rfl
          case hx=>rfl
          case hy=>rfl
          case hi=>rw[hs8]; kernel_rfl
          case hz=>rw[hs8]; rfl
          case h1=>exact Oq H
          apply wpList_nil;have SS:XM (W.alloc (.cells (Zn H) 176)) W.heap.size 176 H:=heap_alloc_last _ _;have hgs:gq<W.heap.size:=RK.lt;have RA':=RA.alloc (.cells (Zn H) 176);have RC':=RC.alloc (.cells (Zn H) 176);have RD':=RD.alloc (.cells (Zn H) 176);have RK':=RK.alloc (.cells (Zn H) 176);have RW':=RW.alloc RW.size (.cells (Zn H) 176);have lW:(more (words B 16) 48).length=64:=(by rw[EL,Qn]);clear RA RC RD RK RW;generalize W.alloc (.cells (Zn H) 176)=W1 at *
          generalize W.heap.size=gs at *
          clear W;generalize hWW:more (words B 16) 48=WW at *
          have HWW:Hid (∀ n,n=48->more (words B 16) n=WW):=Z8 (fun n hn=>by rw[hn]; exact hWW);clear hWW;go_wp2_with fail;go_loopg [12] 64 (fun g s12 wx=>∃ t:Nat,t<=64/\s12=Z9 t/\XM wx w.heap.size 176 H/\XM wx (w.heap.size+1) 176 (List.replicate 8 0)/\XM wx (w.heap.size+2) 204 WW/\XM wx gq 204 ks/\XM wx gs 176 (Kt WW H t)/\Below w.heap.size w wx/\64-t=g)
          case atStart=>exact⟨0,by omega,by go_num,RA',RC',RD',RK',SS,RW',rfl⟩
          case round=>
            clear RA' RC' RD' RK' SS RW';obtain⟨t,ht3,rfl,TA,TC,TD,TK,TS,TW,hg3⟩:=hrel;by_cases hlt3:t<64
            · have ls:=EK WW H hH t;have xk:=TK.cell t (by rw[ac0]; omega);have xw:=TD.cell t (by omega);have x0:=TS.cell 0 (by omega);have x1:=TS.cell 1 (by omega);have x2:=TS.cell 2 (by omega);have x3:=TS.cell 3 (by omega);have x4:=TS.cell 4 (by omega);have x5:=TS.cell 5 (by omega);have x6:=TS.cell 6 (by omega);have x7:=TS.cell 7 (by omega);have QA:=Z8 TA;have QC:=Z8 TC;have QD:=Z8 TD;have QK:=Z8 TK;have QS:=Z8 TS;have QW:=Z8 TW;have HH:=Z8 hH;have HB:=Z8 hB;have H8:=Z8 h8;have LW:=Z8 lW;have LS:=Z8 ls;have HR:Hid (Kt WW H (t+1)=rnd (Kt WW H t) (ks.getD t 0) (WW.getD t 0)):=Z8 rfl;clear hH hB h8 lW ls hs8 TA TC TD TK TS TW;generalize ks.getD t 0=kt at *
              generalize WW.getD t 0=wt at *
              generalize hrs:Kt WW H t=s at *
              have HV:Hid (rnd s kt wt=jQ (s.getD 0 0) (s.getD 1 0) (s.getD 2 0) (s.getD 3 0) (s.getD 4 0) (s.getD 5 0) (s.getD 6 0) (s.getD 7 0) kt wt):=Z8 rfl;generalize s.getD 0 0=va at *
              generalize s.getD 1 0=vb at *
              generalize s.getD 2 0=vc at *
              generalize s.getD 3 0=vd at *
              generalize s.getD 4 0=ve at *
              generalize s.getD 5 0=vf at *
              generalize s.getD 6 0=vg at *
              generalize s.getD 7 0=vh at *
              clear hrs;go_wp2_with fail
              go_region
              go_wp2_with fail;have s0:wr.drew.cell? ⟨gs,0,none⟩=some (.int .u32 va):=x0;have s1:wr.drew.cell? ⟨gs,1,none⟩=some (.int .u32 vb):=x1;have s2:wr.drew.cell? ⟨gs,2,none⟩=some (.int .u32 vc):=x2;have s3:wr.drew.cell? ⟨gs,3,none⟩=some (.int .u32 vd):=x3;have s4:wr.drew.cell? ⟨gs,4,none⟩=some (.int .u32 ve):=x4;have s5:wr.drew.cell? ⟨gs,5,none⟩=some (.int .u32 vf):=x5;have s6:wr.drew.cell? ⟨gs,6,none⟩=some (.int .u32 vg):=x6;have s7:wr.drew.cell? ⟨gs,7,none⟩=some (.int .u32 vh):=x7;have sk:wr.drew.cell? ⟨gq,t,none⟩=some (.int .u32 kt):=xk;have sw:wr.drew.cell? ⟨w.heap.size+1+1,t,none⟩=some (.int .u32 wt):=xw;have PA:Hid (XM wr.drew w.heap.size 176 H):=QA;have PC:Hid (XM wr.drew (w.heap.size+1) 176 (List.replicate 8 0)):=QC;have PD:Hid (XM wr.drew (w.heap.size+2) 204 WW):=QD;have PK:Hid (XM wr.drew gq 204 ks):=QK;have PS:Hid (XM wr.drew gs 176 s):=QS;have PW:Hid (Below w.heap.size w (wr.drew)):=Z8 (Below.drewN' QW.out 1);clear x0 x1 x2 x3 x4 x5 x6 x7 xk xw QA QC QD QK QS QW;generalize wr.drew=wq at *
              clear wr
              go_quiet (first
                | (go_at_call_of 120 (Value.int IntKind.i64 6); exact Calls.quiet_of (TL ve 6 _ (by omega) (by omega)))
                | (go_at_call_of 120 (Value.int IntKind.i64 11); exact Calls.quiet_of (TL ve 11 _ (by omega) (by omega)))
                | (go_at_call_of 120 (Value.int IntKind.i64 25); exact Calls.quiet_of (TL ve 25 _ (by omega) (by omega))))
              go_wp2_with fail;clear sk sw;have r0:(wq.drewN nq).cell? ⟨gs,0,none⟩=some (.int .u32 va):=s0;have r1:(wq.drewN nq).cell? ⟨gs,1,none⟩=some (.int .u32 vb):=s1;have r2:(wq.drewN nq).cell? ⟨gs,2,none⟩=some (.int .u32 vc):=s2;have r3:(wq.drewN nq).cell? ⟨gs,3,none⟩=some (.int .u32 vd):=s3;have r4:(wq.drewN nq).cell? ⟨gs,4,none⟩=some (.int .u32 ve):=s4;have r5:(wq.drewN nq).cell? ⟨gs,5,none⟩=some (.int .u32 vf):=s5;have r6:(wq.drewN nq).cell? ⟨gs,6,none⟩=some (.int .u32 vg):=s6;have r7:(wq.drewN nq).cell? ⟨gs,7,none⟩=some (.int .u32 vh):=s7;have RA:Hid (XM (wq.drewN nq) w.heap.size 176 H):=PA;have RC:Hid (XM (wq.drewN nq) (w.heap.size+1) 176 (List.replicate 8 0)):=PC;have RD:Hid (XM (wq.drewN nq) (w.heap.size+2) 204 WW):=PD;have RK:Hid (XM (wq.drewN nq) gq 204 ks):=PK;have RS:Hid (XM (wq.drewN nq) gs 176 s):=PS;have RW:Hid (Below w.heap.size w (wq.drewN nq)):=Z8 (Below.drewN' PW.out nq);clear s0 s1 s2 s3 s4 s5 s6 s7 PA PC PD PK PS PW;generalize wq.drewN nq=wz at *
              clear wq
              go_quiet (first
                | (go_at_call_of 120 (Value.int IntKind.i64 2); exact Calls.quiet_of (TL va 2 _ (by omega) (by omega)))
                | (go_at_call_of 120 (Value.int IntKind.i64 13); exact Calls.quiet_of (TL va 13 _ (by omega) (by omega)))
                | (go_at_call_of 120 (Value.int IntKind.i64 22); exact Calls.quiet_of (TL va 22 _ (by omega) (by omega))))
              go_upto_region 19 with fail;have s0:(wz.drewN nq).cell? ⟨gs,0,none⟩=some (.int .u32 va):=r0;have s1:(wz.drewN nq).cell? ⟨gs,1,none⟩=some (.int .u32 vb):=r1;have s2:(wz.drewN nq).cell? ⟨gs,2,none⟩=some (.int .u32 vc):=r2;have s3:(wz.drewN nq).cell? ⟨gs,3,none⟩=some (.int .u32 vd):=r3;have s4:(wz.drewN nq).cell? ⟨gs,4,none⟩=some (.int .u32 ve):=r4;have s5:(wz.drewN nq).cell? ⟨gs,5,none⟩=some (.int .u32 vf):=r5;have s6:(wz.drewN nq).cell? ⟨gs,6,none⟩=some (.int .u32 vg):=r6;have s7:(wz.drewN nq).cell? ⟨gs,7,none⟩=some (.int .u32 vh):=r7;have PA:Hid (XM (wz.drewN nq) w.heap.size 176 H):=RA;have PC:Hid (XM (wz.drewN nq) (w.heap.size+1) 176 (List.replicate 8 0)):=RC;have PD:Hid (XM (wz.drewN nq) (w.heap.size+2) 204 WW):=RD;have PK:Hid (XM (wz.drewN nq) gq 204 ks):=RK;have PS:Hid (XM (wz.drewN nq) gs 176 s):=RS;have PW:Hid (Below w.heap.size w (wz.drewN nq)):=Z8 (Below.drewN' RW.out nq);clear r0 r1 r2 r3 r4 r5 r6 r7 RA RC RD RK RS RW;generalize wz.drewN nq=wy at *
              clear wz;have f0:wy.frozen? ⟨gs,0,none⟩=false:=PS.out.frozen 0;have f1:wy.frozen? ⟨gs,1,none⟩=false:=PS.out.frozen 1;have f2:wy.frozen? ⟨gs,2,none⟩=false:=PS.out.frozen 2;have f3:wy.frozen? ⟨gs,3,none⟩=false:=PS.out.frozen 3;have f4:wy.frozen? ⟨gs,4,none⟩=false:=PS.out.frozen 4;have f5:wy.frozen? ⟨gs,5,none⟩=false:=PS.out.frozen 5;have f6:wy.frozen? ⟨gs,6,none⟩=false:=PS.out.frozen 6;have f7:wy.frozen? ⟨gs,7,none⟩=false:=PS.out.frozen 7;go_wp2_with fail;have NS:=PS.out.rY LS.out ((vh+xo (xo (Oo ve 6) (Oo ve 11)) (Oo ve 25)+xo (an ve vf) (an (no ve) vg)+kt+wt+(xo (xo (Oo va 2) (Oo va 13)) (Oo va 22)+xo (xo (an va vb) (an va vc)) (an vb vc))) % 4294967296) va vb vc ((vd+(vh+xo (xo (Oo ve 6) (Oo ve 11)) (Oo ve 25)+xo (an ve vf) (an (no ve) vg)+kt+wt)) % 4294967296) ve vf vg;have HE:=HR.out.trans HV.out;unfold jQ at HE;simp only at HE;rw[<- HE] at NS;go_roundg (64-(t+1))
              case measure=>omega
              case rel=>exact⟨t+1,by omega,by go_num,PA.out.jR (by omega) _ _ _ _ _ _ _ _,PC.out.jR (by omega) _ _ _ _ _ _ _ _,PD.out.jR (by omega) _ _ _ _ _ _ _ _,PK.out.jR (by omega) _ _ _ _ _ _ _ _,NS,ab9 PW.out (by omega) _ _ _ _ _ _ _ _,rfl⟩
            · obtain rfl:t=64:=(by omega);clear hlt3 ht3 hg3 hlt2 hk hg2 hlt hg1 ht;have HS:Hid (∀ n,n=64->XM wr gs 176 (Kt WW H n)):=Z8 (fun n hn=>by rw[hn]; exact TS);generalize an9:Kt WW H 64=S64 at TS;have ao0:Hid (∀ n,n=64->Kt WW H n=S64):=Z8 (fun n hn=>by rw[hn]; exact an9);clear an9 HS;clear TD TK;go_wp2_with fail;go_loopg [180] 8 (fun g s180 wx=>∃ i:Nat,i<=8/\s180=Z9 i/\XM wx w.heap.size 176 (sums H S64 i)/\XM wx (w.heap.size+1) 176 (List.replicate 8 0)/\XM wx gs 176 S64/\Below w.heap.size w wx/\8-i=g)
              case atStart=>exact⟨0,by omega,by go_num,TA,TC,TS,TW,rfl⟩
              case round=>
                have l64:S64.length=8:=(by rw[<- ao0.out 64 rfl]; exact EK WW H hH 64);clear TA TC TS TW;obtain⟨i,hi4,rfl,UA,UC,US,UW,hg4⟩:=hrel;have lsu:=EJ H S64 hH i;by_cases hlt4:i<8
                · have x0:=UA.cell i (by omega);have x1:=US.cell i (by omega);have xf:=UA.frozen i;rw[rX H S64 i i (Nat.le_refl _)] at x0;have HV:Hid (sums H S64 (i+1)=(sums H S64 i).set i ((H.getD i 0+S64.getD i 0) % 4294967296)):=Z8 rfl;have VA:=Z8 UA;have VC:=Z8 UC;have VS:=Z8 US;have VW:=Z8 UW;have HH:=Z8 hH;have L64:=Z8 l64;have HB:=Z8 hB;have H8:=Z8 h8;clear UA UC US UW hH l64 hB h8 lsu lW hs8;generalize H.getD i 0=p at *
                  generalize S64.getD i 0=q at *
                  go_wp2_with fail
                  go_region
                  go_wp2_with fail;have NA:=VA.out.set i ((p+q) % 4294967296);rw[<- HV.out] at NA;go_roundg (8-(i+1))
                  case measure=>omega
                  case rel=>exact⟨i+1,by omega,by go_num,NA,VC.out.far _ (by simp) _,VS.out.far _ (by simp; omega) _,(VW.out.setCell (by simp) _).drew,rfl⟩
                · obtain rfl:i=8:=(by omega);go_upto_region 25 with fail;have hz8:(Zn (sums H S64 8)).size=8:=(by simp[lsu]);have hblk:sums H S64 8=blk H B:=by
                    unfold blk;rw[HWW.out 48 rfl,ao0.out 64 rfl]
                  rw[hblk] at UA hz8;apply wp_region_lit;apply wpList_load_row (ty:=176) (x:=.tmp 2) (g:=w.heap.size) (t:=176) (cs:=Zn (blk H B)) (fr:=(0,0)) (d:=.array 8 175)
                  case hgd=>rfl
                  case ho=>rfl
                  case hx=>rfl
                  case hg=>exact UA
                  case hu=>kernel_rfl
                  case hd=>rfl
                  case hi=>rw[hz8]; kernel_rfl
                  apply Vb (ty:=176) (x:=.tmp 4) (y:=.tmp 192) (g:=w.heap.size+1) (c:=Zn (List.replicate 8 0)) (c':=Zn (blk H B))
                  case hgd=>rfl
                  case ho=>rfl
                  case hx=>rfl
                  case hy=>rfl
                  case hg=>exact UC
                  case hi=>rw[hz8]; kernel_rfl
                  case hz=>rw[hz8]; rfl
                  case h1=>exact Oq _
                  apply wpList_nil;go_wp2_with fail;refine bodyPost_ret (v:=.agg (Zn (blk H B))) ?_ rfl ⟨rfl,OC UW (by omega) _⟩;refine results_cell_row (fn:=Tryz.f92) (p:=4) (ty:=176) rfl _ _ (w.heap.size+1) 176 (Zn (blk H B)) (0,0) (.array 8 175) rfl (setRow_heap _ _ _ _ _ _ UC) ?_ rfl ?_
                  · kernel_rfl
                  · rw[hz8]; kernel_rfl
end Go.Proofs.YtnelmomagdcmnaaGreat
namespace Go.Proofs.YtnelmomagdcmnaaGreat
open Go.RowKit
end Go.Proofs.YtnelmomagdcmnaaGreat
namespace Go.Proofs.YtnelmomagdcmnaaGreat
def push (a c:Int):Int:=oo (a*256 % 4294967296) c
end Go.Proofs.YtnelmomagdcmnaaGreat
namespace Go.Proofs.YtnelmomagdcmnaaGreat
open Go.RowKit
abbrev RH (L:List Int):Array Value:=(L.map (Value.int .u8)).toArray
def Ab (w:World)(g:Nat)(t:TypeId)(L:List Int):Prop:=w.heap[g]?=some (.cells (RH L) t (0,0))
theorem Ab.lt {w:World}{g:Nat}{t:TypeId}{L:List Int}(h:Ab w g t L):g<w.heap.size:=(Array.getElem?_eq_some_iff.1 h).1
theorem Ab.below {w w':World}{g B:Nat}{t:TypeId}{L:List Int}(h:Ab w g t L)(hg:g<B)(hb:Below B w w'):Ab w' g t L:=by
  unfold Ab;rw[hb.block g hg];exact h
theorem Ab.alloc {w:World}{g:Nat}{t:TypeId}{L:List Int}(h:Ab w g t L)(o:Obj):Ab (w.alloc o) g t L:=by
  unfold Ab;rw[Below.heap_alloc w o g h.lt];exact h
def E8 (s:List Int)(a b c d e f g h:Int):Prop:=s=[a,b,c,d,e,f,g,h]
theorem eight (s:List Int)(hs:s.length=8):∃ a b c d e f g h,s=[a,b,c,d,e,f,g,h]:=by
  match s,hs with
  | [a,b,c,d,e,f,g,h],_=>exact⟨a,b,c,d,e,f,g,h,rfl⟩
theorem info5:(Tryz.prog.info? 5).map (fun i=>(i.zero,i.size,i.bytes))=some (some (.int .u8 0),1,1):=by kernel_rfl
def Sl (w:World)(a:Option Addr)(c:Nat)(L:List Int):Prop:=
  (a=none/\c=0/\L=[])∨∃ x,a=some x/\∀ k,k<L.length->∃ b off,x=⟨b,off,none⟩/\w.cell? ⟨b,off+k,none⟩=some (.int .u8 (L.getD k 0))
theorem sJ {w:World}{a:Option Addr}{c:Nat}{L:List Int}(h:Sl w a c L){k:Nat}(hk:k<L.length):∃ b off,a=some ⟨b,off,none⟩/\b<w.heap.size/\w.cell? ⟨b,off+k,none⟩=some (.int .u8 (L.getD k 0)):=by
  rcases h with⟨_,_,rfl⟩ | ⟨x,rfl,hx⟩
  · simp at hk
  · obtain⟨b,off,rfl,hc⟩:=hx k hk;exact⟨b,off,rfl,World.block_lt_of_cell? w (⟨b,off+k,none⟩:Addr) hc,hc⟩
theorem EN {w w':World}{a:Option Addr}{c:Nat}{L:List Int}(h:Sl w a c L)(hb:Below w.heap.size w w'):Sl w' a c L:=by
  rcases h with h | ⟨x,rfl,hx⟩
  · exact .inl h
  · refine .inr ⟨x,rfl,fun k hk=>?_⟩;obtain⟨b,off,rfl,hc⟩:=hx k hk;exact⟨b,off,rfl,(hb.cell (p:=⟨b,off+k,none⟩) (World.block_lt_of_cell? w _ hc)).trans hc⟩
theorem Ci {w:World}{B:Nat}{v:Value}{n:Nat}{L:List Int}(h:w.ownsRow B 5 1 v n (L.map (Value.int .u8))):∃ a c,v=.slice a L.length c/\Sl w a c L/\n=L.length/\L.length<=c:=by
  have hn:L.length=n:=by have:=h.1; simpa using this
  subst hn;rcases h.2 with⟨rfl,h0⟩ | ⟨g,cap,cur,rfl,hb,hg,hcap,_⟩
  · exact⟨none,0,by rw[h0],.inl ⟨rfl,rfl,List.eq_nil_of_length_eq_zero h0⟩,rfl,by omega⟩
  · refine⟨some ⟨g,0,none⟩,cap,rfl,.inr ⟨_,rfl,fun k hk=>⟨g,0,rfl,?_⟩⟩,rfl,hcap⟩;have hk':=h.cells (g:=g) rfl k (.int .u8 (L.getD k 0)) (by rw[List.getElem?_map,List.getElem?_eq_getElem hk,List.getD_eq_getElem?_getD,List.getElem?_eq_getElem hk]; rfl);rw[<- hk',Go.WideShapes.add_plain]
theorem Ac {a:Option Addr}{c:Nat}{L:List Int}{w:World}(h:Sl w a c L):(convert 50 9 (.slice a L.length c)).run Tryz.prog w=.ok (.string (strOfNums L)) w:=by
  rcases h with⟨rfl,rfl,rfl⟩ | ⟨x,rfl,hx⟩
  · exact run_convert_bytes_nil w 50 5 Tryz.underlying50 Tryz.underlying5 _ _ 9 Tryz.underlying9
  · have hl:(loadCells x L.length).run Tryz.prog w=.ok (L.map (Value.int .u8)).toArray w:=by
      have:=run_loadCells_list (P:=Tryz.prog) w x (L.map (Value.int .u8)) (fun j v hj=>by
        have hj':j<L.length:=by
          rcases Nat.lt_or_ge j L.length with h | h
          · exact h
          · rw[List.getElem?_eq_none (by simpa using h)] at hj; cases hj
        obtain⟨b,off,rfl,hc⟩:=hx j hj';rw[Go.WideShapes.add_plain,hc];rw[List.getElem?_map,List.getElem?_eq_getElem hj'] at hj;rw[List.getD_eq_getElem?_getD,List.getElem?_eq_getElem hj'];exact hj)
      simpa using this
    rw[run_convert_bytes_string w 50 9 5 _ _ c Tryz.underlying50 Tryz.underlying5 Tryz.underlying9,run_bytesToString w x _ c L hl,foldl_push_bytes];simp[strOfNums,ByteArray.empty,ByteArray.emptyWithCapacity];try rfl
theorem yx (a1:Option Addr)(c1:Nat)(a2:Option Addr)(c2:Nat)(L:List Int)(w:World)(h1:Sl w a1 c1 L)(h2:Sl w a2 c2 L) :
    Calls Tryz.prog 48 #[.slice a1 L.length c1,.slice a2 L.length c2] w fun e w'=>e=.returned ZX/\w=w':=by
  have C1:=Ac h1;have C2:=Ac h2;go_enter Tryz.func48,Tryz.ntmps48;go_wp2;go_ret;exact⟨rfl,rfl⟩
theorem Sj {P:Program}{w:World}{ops:Array Oper}{rest:List Oper}{o:Oper}{a:Act}{Q:Exit->Act->World->Prop}(hgd:o.guard=none)(s x:Operand)(t:TypeId)
    (ho:o.op=.call { callee:=.builtin .append,args:=#[s,x],argTypes:=#[t,t] })
    (base:Nat) (i:TypeInfo) (ht:P.underlying t=some (.slice 5)) (hi:P.info? 5=some i) (hz:i.zero=some (.int .u8 0)) (hsize:i.size=1) (hby:i.bytes=1)
    (v:Value) (n:Nat) (xs:List Value) (hs:a.eval s=v) (hown:w.ownsRow base 5 1 v n xs)
    (ad:Option Addr) (m c:Nat) (L:List Int) (hx:a.eval x=.slice ad m c) (hm:L.length=m) (hr:Sl w ad c L) (hb:n+m<=140737488355328) (hbase:base<=w.heap.size)
    (h:∀ v' w',w'.ownsRow base 5 1 v' (n+m) (xs++L.map (Value.int .u8))->w.grownBy w' v.ownBlock->wpList P ops Q rest (a.put o.dst v') w'):wpList P ops Q (o::rest) a w:=by
  subst hm;rcases hr with⟨rfl,rfl,rfl⟩ | ⟨y,rfl,hy⟩
  · exact wpList_append_own_none hgd s x t ho base 5 i 1 ht hi v n xs hs hown hx (h v w (by simpa using hown) (World.grownBy.refl w _))
  · refine wpList_append_own w hgd s x t ho base 5 i (.int .u8 0) 1 1 ht hi hz hsize hby rfl (by decide) v n xs hs hown y L.length c (L.map (Value.int .u8)) hx (by simp) ?_ (ints_oneCell _ _) (by unfold maxLen; omega) (by omega) hbase (fun v' w' h1 h2 _=>h v' w' h1 h2);intro j u hj;have hj':j<L.length:=by
      rcases Nat.lt_or_ge j L.length with h | h
      · exact h
      · rw[List.getElem?_eq_none (by simpa using h)] at hj; cases hj
    obtain⟨b,off,rfl,hc⟩:=hy j hj';rw[Go.WideShapes.add_plain,hc];rw[List.getElem?_map,List.getElem?_eq_getElem hj'] at hj;rw[List.getD_eq_getElem?_getD,List.getElem?_eq_getElem hj'];exact hj
theorem UN {w0 w w1:World}{B B2 n:Nat}{v:Value}{xs:List Value}(hB:B2<=B)(hs:B2<=w.heap.size)(hown:w.ownsRow B 5 1 v n xs)(hnx:Below B2 w0 w)(hgrow:w.grownBy w1 v.ownBlock):Below B2 w0 w1:=
  hnx.grown hgrow hs (fun j hj=>by have:=(hown.lt j hj).1; omega)
theorem BX (w:World)(x:Int)(t:Nat):Sl (w.alloc (.cells #[.int .u8 x] t)) (some ⟨w.heap.size,0,none⟩) 1 [x]:=by
  refine .inr ⟨_,rfl,fun k hk=>⟨_,_,rfl,?_⟩⟩;have:k=0:=by simpa using hk
  subst this;simp
theorem ab8 {w:World}{B e s n c:Nat}{a:Option Addr}{xs:List Value}(h:w.ownsRow B e s (.slice a n c) n xs)(hn:0<n):∃ g,a=some ⟨g,0,none⟩/\B<=g/\g<w.heap.size:=by
  rcases h.2 with⟨_,h0⟩ | ⟨g,cap,cur,e,hb,hg,_⟩
  · omega
  · simp only[Value.slice.injEq] at e;exact⟨g,e.1,hb,(Array.getElem?_eq_some_iff.1 hg).1⟩
theorem own_ne {w:World}{B B' e e' size size' n n':Nat}{v v':Value}{xs xs':List Value}(h:w.ownsRow B e size v n xs)(h':w.ownsRow B' e' size' v' n' xs')(hne:e≠e'):v.ownBlock=none∨v.ownBlock≠v'.ownBlock:=by
  rcases h.2 with⟨rfl,_⟩ | ⟨g,cap,cur,rfl,_,hgg,_⟩
  · exact .inl rfl
  · rcases h'.2 with⟨rfl,_⟩ | ⟨g',cap',cur',rfl,_,hgg',_⟩
    · exact .inr (by simp[Value.ownBlock])
    · refine .inr fun he=>?_;simp only[Value.ownBlock,Option.some.injEq] at he;subst he;rw[hgg] at hgg';simp only[Option.some.injEq,Obj.cells.injEq] at hgg';exact hne hgg'.2.1
def sF (a:Option Addr)(c k:Nat):Option Addr:=if c=k then a else a.map (·.add k)
theorem BZ (kl kh:IntKind)(a:Option Addr)(n c k m:Nat)(w:World)(h:k<=m)(h1:m<=c):(Instr.slice 50 (.slice a n c) (some (.int kl (k:Int))) (some (.int kh (m:Int))) none).run Tryz.prog w=.ok (.slice (sF a c k) (m-k) (c-k)) w:=by
  have hs:(sizeOf (Tryz.prog.elem 50)).run Tryz.prog w=.ok 1 w:=by kernel_rfl
  have e:=run_slice_lh (P:=Tryz.prog) w 50 a n c (by kernel_rfl) kl kh (k:Int) (m:Int) (by omega) (by omega) (by omega);rw[e,hs];by_cases hk:c=k <;> cases a <;> simp[sliced,Result.andThen,sF,hk]
def Own (w:World)(B:Nat)(v:Value)(L:List Int):Prop:=w.ownsRow B 5 1 v L.length (L.map (Value.int .u8))
theorem Own.sl {w:World}{B:Nat}{v:Value}{L:List Int}(h:Own w B v L):∃ a c,v=.slice a L.length c/\Sl w a c L/\L.length<=c:=by
  obtain⟨a,c,h1,h2,_,h3⟩:=Ci h;exact⟨a,c,h1,h2,h3⟩
def pad (n:Nat):List Int:=[128]++List.replicate (zeros n) 0++Yn ((n:Int)*8 % 18446744073709551616)
theorem Kv (L:List Int):padded L=L++pad L.length:=by simp[padded,pad]
theorem RZ (b:Int):(Yn b).length=8:=rfl
theorem jW (n:Nat):(pad n).length=zeros n+9:=by simp[pad,RZ]
theorem Ab.cell {w:World}{g:Nat}{t:TypeId}{L:List Int}(h:Ab w g t L)(i:Nat)(hi:i<L.length):w.cell? ⟨g,i,none⟩=some (.int .u8 (L.getD i 0)):=by
  rw[cell_of_row w g i _ t (0,0) h];simp[RH,hi]
theorem Ab.frozen {w:World}{g:Nat}{t:TypeId}{L:List Int}(h:Ab w g t L)(i:Nat):w.frozen? ⟨g,i,none⟩=false:=frozen_of_row w g i _ t h
theorem Ab.set {w:World}{g:Nat}{t:TypeId}{L:List Int}(h:Ab w g t L)(i:Nat)(x:Int):Ab (w.setCell ⟨g,i,none⟩ (.int .u8 x)) g t (L.set i x):=by
  unfold Ab;rw[Joins.block_setCell h];simp[RH]
theorem Ab.far {w:World}{g:Nat}{t:TypeId}{L:List Int}(h:Ab w g t L)(a:Addr)(hn:g≠a.block)(v:Value):Ab (w.setCell a v) g t L:=by
  unfold Ab;rw[heap_setCell_other w a g v hn];exact h
theorem an3 (x:Int)(m:Nat)(h:m<=64):Op.shift .shr .u64 x .i64 (m:Int)=(pure (ZV (x / 2 ^ m)):Sem Value):=by
  rw[shift_shr .u64 .i64 x m (by omega) (by simp[IntKind.bits]; omega)]; simp
theorem an8 (x:Int)(m:Nat)(h:m<=32):Op.shift .shr .u32 x .i64 (m:Int)=(pure (.int .u32 (x / 2 ^ m)):Sem Value):=by
  rw[shift_shr .u32 .i64 x m (by omega) (by simp[IntKind.bits]; omega)]; simp
def z64:List Int:=List.replicate 64 0
end Go.Proofs.YtnelmomagdcmnaaGreat
namespace Go.Proofs.YtnelmomagdcmnaaGreat
variable {P : Program} {C : World -> Prop}
theorem ZP {id:Nat}{Q:Exit->Act->World->Prop}{a:Act}{w:World}{l:List Oper}(C:World->Prop)(n:Nat)(hm:P.follows .mixedOrders=true)(hB:Region.lexTailB .any l.toArray n=true)(hC:C { w with drawn:=w.drawn+1 })
  (h:wpQuiet P l.toArray C (fun a'=>∀ w',C w'->wpList P l.toArray Q (l.drop n) a' w') (l.take n) a):(Code.region id l.toArray true).wp P Q a w:=by
 simp only[Region.lexTailB,Bool.and_eq_true,decide_eq_true_eq] at hB;obtain⟨⟨⟨⟨hsel,hn⟩,hs⟩,hc⟩,hlex⟩:=hB;have hn':n<l.length:=by simpa using hn
 have htl:(l.take n).length=n:=by simp; omega
 have hdl:(l.drop n).length=l.toArray.size-n:=by simp
 have inv0:HeadInv .any l.toArray n (Array.replicate l.toArray.size false):=
  ⟨by simp,fun j oj _ hl=>(by rw[getD_replicate_false] at hl; cases hl),fun t _ ht=>getD_in (by simpa using ht) (getD_replicate_false _ _)⟩
 have H:=Jg (md:=.any) (g:=l.toArray.size-n) hsel hs hc hn (l.take n) 0 _ a (fun j hj=>by
  have hj':j<n:=by rw[htl] at hj; exact hj
  simp[hj']) (by simpa using htl) inv0 (by rw[htl]; exact hlex) h
 refine wp_region_any hm ?_;have:=QO (Q':=Q) (g:=l.toArray.size-n) (fun listed a' w' hw' hL=>by
  have:=wpAny_of_seq (md:=.any) (Q':=Q) (l.drop n) n listed a' w' (fun j=>by simp[List.getElem?_drop]) (by rw[hdl]; exact hL.1) (hL.2 w' hw');rwa [hdl] at this) _ _ _ { w with drawn:=w.drawn+1 } hC H
 rw[htl,show n+(l.toArray.size-n)=l.toArray.size by omega] at this;exact this
theorem Qo {ops:Array Oper}{Q:Act->Prop}{a:Act}{o:Oper}{rest:List Oper}(hgd:o.guard=none)(v:Value)(hr:∀ w,C w->(execOp a.eval o).run P w=.ok (.value v) w)
  (h:wpQuiet P ops C Q rest (a.put o.dst v)):wpQuiet P ops C Q (o::rest) a:=by
 have hw:Region.wanted o (yielded ops a.tmps)=true:=by simp[Region.wanted,hgd]
 unfold wpQuiet;rw[if_pos hw];refine⟨v,fun w hC=>?_,h⟩;unfold Oper.quietAt;rw[hr w hC];exact⟨rfl,rfl⟩
theorem su {ops:Array Oper}{Q:Act->Prop}{a:Act}{o:Oper}{rest:List Oper}(hgd:o.guard=none)(f:FuncId)(args:Array Value)(v:Value)(hr:∀ w,C w->(execOp a.eval o).run P w=.ok (.enter f args) w)
  (hc:∀ w,C w->Calls P f args w (fun e w''=>e=.returned v/\C w'')) (h:wpQuiet P ops C Q rest (a.put o.dst v)):wpQuiet P ops C Q (o::rest) a:=by
 have hw:Region.wanted o (yielded ops a.tmps)=true:=by simp[Region.wanted,hgd]
 unfold wpQuiet;rw[if_pos hw];refine⟨v,fun w hC=>?_,h⟩;unfold Oper.quietAt;rw[hr w hC];exact⟨rfl,hc w hC⟩
end Go.Proofs.YtnelmomagdcmnaaGreat
namespace Go.Proofs.YtnelmomagdcmnaaGreat
open Go.RowKit
theorem sD {P:Program}{C:World->Prop}{ops:Array Oper}{Q:Act->Prop}{a:Act}{o:Oper}{rest:List Oper}(hgd:o.guard=none)(ty:TypeId)(x:Operand)(ho:o.op=.load ty x)(ad:Addr)(v:Value)
    (hx:a.eval x=.pointer (some ad)) (hl:∀ w,C w->(Instr.loadAt ty (.pointer (some ad))).run P w=.ok v w) (h:wpQuiet P ops C Q rest (a.put o.dst v)):wpQuiet P ops C Q (o::rest) a:=by
  refine Qo hgd v (fun w hC=>?_) h;unfold execOp;simp only[ho,hx,Sem.run_bind,hl w hC];rfl
theorem jS (L:List Int):(RH L).all (·.oneCell')=true:=all_oneCell_toArray fun v hv=>by
  obtain⟨x,-,rfl⟩:=List.mem_map.1 hv;rfl
theorem rZ (h:List Int)(k:Nat)(hk:k<32):(outs h k++List.replicate (32-k) 0).set k (MH h k)=outs h (k+1)++List.replicate (32-(k+1)) 0:=by
  have:=NM (outs h k) (MH h k) (32-k) (32-(k+1)) (by omega);rw[Ot] at this;rw[this,outs]
theorem NP (n:Nat):∀ x,x∈pad n->W8 x:=by
  intro x hx;simp only[pad,List.mem_append,List.mem_replicate,Yn,List.mem_cons,List.not_mem_nil,or_false] at hx;unfold W8;omega
end Go.Proofs.YtnelmomagdcmnaaGreat
