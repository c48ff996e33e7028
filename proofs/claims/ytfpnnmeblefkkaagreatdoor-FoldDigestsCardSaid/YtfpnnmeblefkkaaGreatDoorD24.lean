/-
  Texts joined.
-/
import Derived.Test.YtfpnnmeblefkkaaGreatDoorD23
import Derived.BigRegion
set_option maxRecDepth 100000
set_option maxHeartbeats 8000000
set_option linter.unusedSimpArgs false
set_option linter.unusedVariables false
namespace Go.Proofs.YtfpnnmeblefkkaaGreatDoor
open Go.RowKit
theorem W8.getD {B:List Int}(h:∀ x,x∈B->W8 x)(i:Nat)(hi:i<B.length):W8 (B.getD i 0):=by
  simp only[List.getD,List.getElem?_eq_getElem hi,Option.getD_some];exact h _ (List.getElem_mem hi)
theorem W8.small {x:Int}(h:W8 x):x % 4294967296=x:=by
  obtain⟨a,b⟩:=h;omega
theorem Qa (L:List Int)(x:Int)(n m:Nat)(hn:n=m+1):(L++List.replicate n 0).set L.length x=(L++[x])++List.replicate m 0:=by
  subst hn;simp[List.replicate_succ]
def Yu (w:World)(g:Nat)(t:TypeId)(L:List Int):Prop:=w.heap[g]?=some (.cells (ZG L) t (0,0))
theorem Yu.cell {w:World}{g:Nat}{t:TypeId}{L:List Int}(h:Yu w g t L)(i:Nat)(hi:i<L.length):w.cell? ⟨g,i,none⟩=some (.int .u32 (L.getD i 0)):=by
  rw[cell_of_row w g i _ t (0,0) h];simp[ZG,hi]
theorem Yu.frozen {w:World}{g:Nat}{t:TypeId}{L:List Int}(h:Yu w g t L)(i:Nat):w.frozen? ⟨g,i,none⟩=false:=frozen_of_row w g i _ t h
theorem Yu.set {w:World}{g:Nat}{t:TypeId}{L:List Int}(h:Yu w g t L)(i:Nat)(x:Int):Yu (w.setCell ⟨g,i,none⟩ (.int .u32 x)) g t (L.set i x):=by
  unfold Yu;rw[Joins.block_setCell h];simp[ZG]
theorem Yu.far {w:World}{g:Nat}{t:TypeId}{L:List Int}(h:Yu w g t L)(a:Addr)(hn:g≠a.block)(v:Value):Yu (w.setCell a v) g t L:=by
  unfold Yu;rw[heap_setCell_other w a g v hn];exact h
theorem Yu.lt {w:World}{g:Nat}{t:TypeId}{L:List Int}(h:Yu w g t L):g<w.heap.size:=(Array.getElem?_eq_some_iff.1 h).1
theorem Yu.below {w w':World}{g B:Nat}{t:TypeId}{L:List Int}(h:Yu w g t L)(hg:g<B)(hb:Below B w w'):Yu w' g t L:=by
  unfold Yu;rw[hb.block g hg];exact h
theorem Yu.alloc {w:World}{g:Nat}{t:TypeId}{L:List Int}(h:Yu w g t L)(o:Obj):Yu (w.alloc o) g t L:=by
  unfold Yu;rw[Below.heap_alloc w o g h.lt];exact h
def jF (w:World)(g:Nat)(a b c d e f p q:Int):World:=((((((((w.setCell ⟨g,0,none⟩ (.int .u32 a)).setCell ⟨g,1,none⟩ (.int .u32 b)).setCell ⟨g,2,none⟩ (.int .u32 c)).setCell ⟨g,3,none⟩ (.int .u32 d)).setCell ⟨g,4,none⟩ (.int .u32 e)).setCell ⟨g,5,none⟩ (.int .u32 f)).setCell ⟨g,6,none⟩ (.int .u32 p)).setCell ⟨g,7,none⟩ (.int .u32 q))
theorem Yu.jF {w:World}{g:Nat}{t:TypeId}{L:List Int}(h:Yu w g t L)(hl:L.length=8)(a b c d e f p q:Int):Yu (jF w g a b c d e f p q) g t [a,b,c,d,e,f,p,q]:=by
  have:=(((((((h.set 0 a).set 1 b).set 2 c).set 3 d).set 4 e).set 5 f).set 6 p).set 7 q;have e8:(((((((L.set 0 a).set 1 b).set 2 c).set 3 d).set 4 e).set 5 f).set 6 p).set 7 q=[a,b,c,d,e,f,p,q]:=by
    match L,hl with
    | [_,_,_,_,_,_,_,_],_=>rfl
  rw[e8] at this;exact this
theorem Yu.aj {w:World}{g k:Nat}{t:TypeId}{L:List Int}(h:Yu w k t L)(hn:k≠g)(a b c d e f p q:Int):Yu (YtfpnnmeblefkkaaGreatDoor.jF w g a b c d e f p q) k t L:=
  (((((((h.far _ hn _).far _ hn _).far _ hn _).far _ hn _).far _ hn _).far _ hn _).far _ hn _).far _ hn _
theorem ar7 {w w0:World}{g B:Nat}(h:Below B w0 w)(hn:B<=g)(a b c d e f p q:Int):Below B w0 (jF w g a b c d e f p q):=
  (((((((h.setCell hn _).setCell hn _).setCell hn _).setCell hn _).setCell hn _).setCell hn _).setCell hn _).setCell hn _
def sK (w:World)(g o:Nat)(B:List Int):Prop:=∀ j,j<B.length->w.cell? ⟨g,o+j,none⟩=some (.int .u8 (B.getD j 0))
theorem sK.below {w w':World}{g o S:Nat}{B:List Int}(h:sK w g o B)(hg:g<S)(hb:Below S w w'):sK w' g o B:=fun j hj=>by
  rw[hb.cell (p:=⟨g,o+j,none⟩) hg];exact h j hj
theorem BK (h s:List Int):∀ j i,j<=i->(sums h s j).getD i 0=h.getD i 0:=by
  intro j;induction j with
  | zero=>intro i _; rfl
  | succ j ih=>
    intro i hi;rw[<- ih i (by omega)];simp only[sums,List.getD];rw[List.getElem?_set_ne (by omega)]
theorem Zt {P:Program}{ops:Array Oper}{rest:List Oper}{op:Oper}{a:Act}{w:World}{Q:Exit->Act->World->Prop}(hgd:op.guard=none)(ty:TypeId)(x y:Operand)(ho:op.op=.store ty x y)
    (g:Nat) (c c':Array Value) (hx:a.eval x=Z5 g 0) (hy:a.eval y=.agg c') (hg:w.heap[g]?=some (.cells c ty (0,0)))
    (hi:(P.info? ty).map (·.size)=some c'.size) (hz:c.size=c'.size) (h1:c'.all (·.oneCell')=true)
    (h:wpList P ops Q rest (a.put op.dst undef) (w.setRow g c')):wpList P ops Q (op::rest) a w:=
  wpList_plain hgd fun K hK=>by
    unfold Oper.wp execOp;simp only[ho,hx,hy,Instr.storeAt,Instr.sureAddr,Sem.run_bind,Sem.run_pure,Result.andThen_ok,run_storeVar_row w g ty ty c c' hg hi hz h1];exact hK _ _ h
theorem Below.drewN' {B:Nat}{a w:World}(h:Below B a w)(n:Nat):Below B a (w.drewN n):=⟨h.os,h.tape,h.output,h.size,h.block⟩
theorem Vm (L:List Int):(ZG L).all (·.oneCell')=true:=all_oneCell_toArray fun v hv=>by
  obtain⟨x,-,rfl⟩:=List.mem_map.1 hv;rfl
theorem Tc (x:Int)(n:Nat)(w:World)(hn:1<=n)(h31:n<=31) :
    Calls Tryz.prog 124 #[.int .u32 x,Z8 n] w fun e w'=>e=.returned (.int .u32 (TL x n))/\∃ m,w'=w.drewN m:=
  (jE x n w hn h31).mono fun _ _ ⟨he,hw⟩=>⟨he,1,hw⟩
theorem sJ (H B:List Int)(gb o c:Nat)(w:World)(hH:H.length=8)(hB:B.length=64)(hb:sK w gb o B)(h8:∀ x,x∈B->W8 x)(hgb:gb<w.heap.size) :
    Calls Tryz.prog 96 #[.agg (ZG H),.slice (some ⟨gb,o,none⟩) 64 c] w fun e w'=>e=.returned (.agg (ZG (blk H B)))/\Below w.heap.size w w':=by
  go_enter Tryz.func96,Tryz.ntmps96;go_upto_region 3 with fail;have hA:Yu ((((w.alloc (Obj.cells (ZG H) 142)).alloc (Obj.cells (ZG (List.replicate 8 0)) 142)).alloc (Obj.cells (ZG (List.replicate 64 0)) 166))) w.heap.size 142 H:=Yu.alloc (Yu.alloc (heap_alloc_last w _) _) _;have hC:Yu ((((w.alloc (Obj.cells (ZG H) 142)).alloc (Obj.cells (ZG (List.replicate 8 0)) 142)).alloc (Obj.cells (ZG (List.replicate 64 0)) 166))) (w.heap.size+1) 142 (List.replicate 8 0):=by
    have:=Yu.alloc (t:=142) (L:=List.replicate 8 0) (heap_alloc_last (w.alloc (Obj.cells (ZG H) 142)) (Obj.cells (ZG (List.replicate 8 0)) 142)) (Obj.cells (ZG (List.replicate 64 0)) 166);simpa using this
  have hD:Yu ((((w.alloc (Obj.cells (ZG H) 142)).alloc (Obj.cells (ZG (List.replicate 8 0)) 142)).alloc (Obj.cells (ZG (List.replicate 64 0)) 166))) (w.heap.size+2) 166 (List.replicate 64 0):=by
    have:=heap_alloc_last ((w.alloc (Obj.cells (ZG H) 142)).alloc (Obj.cells (ZG (List.replicate 8 0)) 142)) (Obj.cells (ZG (List.replicate 64 0)) 166);simpa [Yu] using this
  have hW:Below w.heap.size w ((((w.alloc (Obj.cells (ZG H) 142)).alloc (Obj.cells (ZG (List.replicate 8 0)) 142)).alloc (Obj.cells (ZG (List.replicate 64 0)) 166))):=
    (((Below.refl w.heap.size w).alloc (by simp) _).alloc (by simp) _).alloc (by simp; omega) _
  change Code.wp _ _ _ _ (((w.alloc (Obj.cells (ZG H) 142)).alloc (Obj.cells (ZG (List.replicate 8 0)) 142)).alloc (Obj.cells (ZG (List.replicate 64 0)) 166));generalize ((w.alloc (Obj.cells (ZG H) 142)).alloc (Obj.cells (ZG (List.replicate 8 0)) 142)).alloc (Obj.cells (ZG (List.replicate 64 0)) 166)=W at *
  go_loopg [6] 16 (fun g s6 wx=>∃ t:Nat,t<=16/\s6=Z8 t/\Yu wx w.heap.size 142 H/\Yu wx (w.heap.size+1) 142 (List.replicate 8 0)/\Yu wx (w.heap.size+2) 166 (words B t++List.replicate (64-t) 0)/\Below w.heap.size w wx/\16-t=g)
  case atStart=>exact⟨0,by omega,rfl,hA,hC,by simpa [words] using hD,hW,rfl⟩
  case round=>
    obtain⟨t,ht,rfl,hA1,PI,hD1,hW1,hg1⟩:=hrel;by_cases hlt:t<16
    · have hb1:=hb.below hgb hW1;have x0:=hb1 (4*t) (by omega);have x1:=hb1 (4*t+1) (by omega);have x2:=hb1 (4*t+2) (by omega);have x3:=hb1 (4*t+3) (by omega);have xz:=hD1.cell t (by simp[WA]; omega);have xf:=hD1.frozen t;have HA:=Z9 hA1;have HC:=Z9 PI;have HD:=Z9 hD1;have HW:=Z9 hW1;have HA0:=Z9 hA;have HC0:=Z9 hC;have HD0:=Z9 hD;have HW0:=Z9 hW;have HH:=Z9 hH;have HB:=Z9 hB;clear hA1 PI hD1 hW1 hA hC hD hW hH hB hb1;have H8:=Z9 h8;have e0:=(W8.getD h8 (4*t) (by rw[HB.out]; omega)).small;have e1:=(W8.getD h8 (4*t+1) (by rw[HB.out]; omega)).small;have e2:=(W8.getD h8 (4*t+2) (by rw[HB.out]; omega)).small;have e3:=(W8.getD h8 (4*t+3) (by rw[HB.out]; omega)).small;have HV:Hid (word B t=MF (B.getD (4*t) 0) (B.getD (4*t+1) 0) (B.getD (4*t+2) 0) (B.getD (4*t+3) 0)):=Z9 rfl;clear h8;generalize B.getD (4*t) 0=y0 at *
      generalize B.getD (4*t+1) 0=y1 at *
      generalize B.getD (4*t+2) 0=y2 at *
      generalize B.getD (4*t+3) 0=y3 at *
      generalize List.getD (words B t++List.replicate (64-t) 0) t 0=z at *
      go_wp2
      go_region
      go_wp2;have HN:(words B t++List.replicate (64-t) 0).set t (MF y0 y1 y2 y3)=words B (t+1)++List.replicate (64-(t+1)) 0:=by
        have:=Qa (words B t) (MF y0 y1 y2 y3) (64-t) (64-(t+1)) (by omega);rw[WA] at this;rw[this,words,HV.out]
      have HD2:=HD.out.set t (MF y0 y1 y2 y3);rw[HN] at HD2;go_roundg (16-(t+1))
      case measure=>omega
      case rel=>exact⟨t+1,by omega,by go_num,HA.out.far _ (by simp; omega) _,HC.out.far _ (by simp) _,HD2,(HW.out.setCell (by simp; omega) _).drew,rfl⟩
    · obtain rfl:t=16:=(by omega);clear hA hC hD hW W;go_wp2_with fail;go_loopg [7] 48 (fun g s7 wx=>∃ k:Nat,k<=48/\s7=Z8 ((k:Int)+16)/\Yu wx w.heap.size 142 H/\Yu wx (w.heap.size+1) 142 (List.replicate 8 0)/\Yu wx (w.heap.size+2) 166 (more (words B 16) k++List.replicate (48-k) 0)/\Below w.heap.size w wx/\48-k=g)
      case atStart=>exact⟨0,by omega,by go_num,hA1,PI,by simpa [more] using hD1,hW1,rfl⟩
      case round=>
        clear hA1 PI hD1 hW1;obtain⟨k,hk,rfl,hA2,hC2,hD2,hW2,hg2⟩:=hrel;by_cases hlt2:k<48
        · have hl:(more (words B 16) k).length=16+k:=(by rw[Qw,WA]);have ha:(more (words B 16) k++List.replicate (48-k) 0).length=64:=(by simp[hl]; omega);have x1:=hD2.cell (k+1) (by omega);have x2:=hD2.cell (k+14) (by omega);have x3:=hD2.cell (k+9) (by omega);have x4:=hD2.cell k (by omega);have xz:=hD2.cell (k+16) (by omega);have xf:=hD2.frozen (k+16);have g0:∀ i,i<16+k->(more (words B 16) k++List.replicate (48-k) 0).getD i 0=(more (words B 16) k).getD i 0:=fun i hi=>by
            simp[List.getD,List.getElem?_append_left (show i<(more (words B 16) k).length by omega)]
          rw[g0 (k+1) (by omega)] at x1;rw[g0 (k+14) (by omega)] at x2;rw[g0 (k+9) (by omega)] at x3;rw[g0 k (by omega)] at x4;have HA:=Z9 hA2;have HC:=Z9 hC2;have HD:=Z9 hD2;have HW:=Z9 hW2;have HL:=Z9 hl;have HH:=Z9 hH;have HB:=Z9 hB;have H8:=Z9 h8;have HV:Hid (∀ x y u v,x=(more (words B 16) k).getD (k+1) 0->y=(more (words B 16) k).getD (k+14) 0->u=(more (words B 16) k).getD (k+9) 0->v=(more (words B 16) k).getD k 0 ->
              follow (more (words B 16) k) (16+k)=(xo (xo (TL y 17) (TL y 19)) (y / 1024)+u+xo (xo (TL x 7) (TL x 18)) (x / 8)+v) % 4294967296):=by
            intro x y u v e1 e2 e3 e4;subst e1 e2 e3 e4;simp only[follow,show 16+k-15=k+1 by omega,show 16+k-2=k+14 by omega,show 16+k-7=k+9 by omega,show 16+k-16=k by omega]
          clear hA2 hC2 hD2 hW2 hl ha hH hB h8 g0;generalize hx1:(more (words B 16) k).getD (k+1) 0=x at *
          generalize hx2:(more (words B 16) k).getD (k+14) 0=y at *
          generalize hx3:(more (words B 16) k).getD (k+9) 0=u at *
          generalize hx4:(more (words B 16) k).getD k 0=v at *
          generalize List.getD (more (words B 16) k++List.replicate (48-k) 0) (k+16) 0=z at *
          have fD:=Z9 (HV.out x y u v rfl rfl rfl rfl);clear hx1 hx2 hx3 hx4 HV;have i1:IntKind.i64.wrap ((k:Int)+16-15)=((k+1:Nat):Int):=(by rw[IntKind.wrap_i64]; omega);have i2:IntKind.i64.wrap ((k:Int)+16-2)=((k+14:Nat):Int):=(by rw[IntKind.wrap_i64]; omega);have i3:IntKind.i64.wrap ((k:Int)+16-7)=((k+9:Nat):Int):=(by rw[IntKind.wrap_i64]; omega);have i4:IntKind.i64.wrap ((k:Int)+16-16)=(k:Int):=(by rw[IntKind.wrap_i64]; omega);have i5:IntKind.i64.wrap (k:Int)=(k:Int):=(by rw[IntKind.wrap_i64]; omega);have j1:((k+1:Nat):Int)<64:=(by omega);have j2:((k+14:Nat):Int)<64:=(by omega);have j3:((k+9:Nat):Int)<64:=(by omega);have j4:(k:Int)<64:=(by omega);have j5:(k:Int)+16<64:=(by omega);have j6:((k:Int)+16).toNat=k+16:=(by omega);have j7:0<=(k:Int)+16:=(by omega);generalize k+1=n1 at x1 i1 j1;generalize k+14=n2 at x2 i2 j2;generalize k+9=n3 at x3 i3 j3;go_wp2
          go_region
          go_wp2_with fail;have X1:wr.drew.cell? ⟨w.heap.size+1+1,n1,none⟩=some (.int .u32 x):=x1;have X2:wr.drew.cell? ⟨w.heap.size+1+1,n2,none⟩=some (.int .u32 y):=x2;have X3:wr.drew.cell? ⟨w.heap.size+1+1,n3,none⟩=some (.int .u32 u):=x3;have X4:wr.drew.cell? ⟨w.heap.size+1+1,k,none⟩=some (.int .u32 v):=x4;have Xz:wr.drew.cell? ⟨w.heap.size+1+1,k+16,none⟩=some (.int .u32 z):=xz;have Xf:wr.drew.frozen? ⟨w.heap.size+1+1,k+16,none⟩=false:=xf;have QA:Hid (Yu wr.drew w.heap.size 142 H):=HA;have QC:Hid (Yu wr.drew (w.heap.size+1) 142 (List.replicate 8 0)):=HC;have QD:Hid (Yu wr.drew (w.heap.size+2) 166 (more (words B 16) k++List.replicate (48-k) 0)):=HD;have QW:Hid (Below w.heap.size w wr.drew):=Z9 HW.out.drew;clear x1 x2 x3 x4 xz xf HA HC HD HW;generalize wr.drew=wq at *
          clear wr;refine Qv 29 (by kernel_rfl) (by kernel_rfl) ?_;simp only[List.take_succ_cons,List.take_zero,List.drop_succ_cons,List.drop_zero];repeat (quiet_step (first
            | (go_at_call_of 124 (Value.int IntKind.i64 17); exact Calls.quiet_of (Tc y 17 _ (by omega) (by omega)))
            | (go_at_call_of 124 (Value.int IntKind.i64 19); exact Calls.quiet_of (Tc y 19 _ (by omega) (by omega)))
            | (go_at_call_of 124 (Value.int IntKind.i64 7); exact Calls.quiet_of (Tc x 7 _ (by omega) (by omega)))
            | (go_at_call_of 124 (Value.int IntKind.i64 18); exact Calls.quiet_of (Tc x 18 _ (by omega) (by omega)))))
          refine wpQuiet_nil ?_;rintro _ ⟨nq,rfl⟩;go_wp2_with fail;generalize (xo (xo (TL y 17) (TL y 19)) (y / 1024)+u+xo (xo (TL x 7) (TL x 18)) (x / 8)+v) % 4294967296=q at fD ⊢;have HN:(more (words B 16) k++List.replicate (48-k) 0).set (k+16) q=more (words B 16) (k+1)++List.replicate (48-(k+1)) 0:=by
            have:=Qa (more (words B 16) k) q (48-k) (48-(k+1)) (by omega);rw[HL.out,Nat.add_comm 16 k] at this;rw[this,more,fD.out]
          have QD2:=(show Yu (wq.drewN nq) (w.heap.size+2) 166 _ from QD.out).set (k+16) q;rw[HN] at QD2;have QA2:=(show Yu (wq.drewN nq) w.heap.size 142 H from QA.out).far ⟨w.heap.size+1+1,k+16,none⟩ (by simp; omega) (.int .u32 q);have QC2:=(show Yu (wq.drewN nq) (w.heap.size+1) 142 _ from QC.out).far ⟨w.heap.size+1+1,k+16,none⟩ (by simp) (.int .u32 q);have QW2:Below w.heap.size w ((wq.drewN nq).setCell ⟨w.heap.size+1+1,k+16,none⟩ (.int .u32 q)):=(Below.drewN' QW.out nq).setCell (by simp; omega) _;go_roundg (48-(k+1))
          case measure=>omega
          case rel=>exact⟨k+1,by omega,by go_num,QA2,QC2,QD2,QW2,rfl⟩
        · obtain rfl:k=48:=(by omega);go_upto_region 11 with fail;have hl2:=hD2.lt;apply wp_region_lit;refine wpList_plain rfl (fun K hK=>?_);go_simp;refine(I5 _).mono ?_;rintro e w' ⟨rfl,rfl⟩;apply hK;clear hK K;refine Zy rfl (some 10) rfl (Z5 ((wr.alloc (.cells (ZG ks) 166)).heap.size) 0) ((wr.alloc (.cells (ZG ks) 166)).alloc (.cells (List.replicate 64 (.int .u32 0)).toArray 166)) (by kernel_rfl) ?_;apply Yf (w:=wr.alloc (.cells (ZG ks) 166)) (ty:=166) (x:=.tmp 10) (y:=.tmp 98) (c:=(List.replicate 64 (.int .u32 0)).toArray) (c':=ZG ks)
          case hgd=>rfl
          case ho=>rfl
          case hx=>rfl
          case hy=>rfl
          case hi=>kernel_rfl
          case hz=>kernel_rfl
          case h1=>kernel_rfl
          apply wpList_nil;have RA:=Yu.alloc (Yu.alloc hA2 (.cells (ZG ks) 166)) (.cells (ZG ks) 166);have RC:=Yu.alloc (Yu.alloc hC2 (.cells (ZG ks) 166)) (.cells (ZG ks) 166);have RD:=Yu.alloc (Yu.alloc hD2 (.cells (ZG ks) 166)) (.cells (ZG ks) 166);have RK:Yu ((wr.alloc (.cells (ZG ks) 166)).alloc (.cells (ZG ks) 166)) (wr.alloc (.cells (ZG ks) 166)).heap.size 166 ks:=heap_alloc_last _ _;have hg:w.heap.size+2<(wr.alloc (.cells (ZG ks) 166)).heap.size:=(by simp; omega);have RW:Below w.heap.size w ((wr.alloc (.cells (ZG ks) 166)).alloc (.cells (ZG ks) 166)):=(hW2.alloc hW2.size _).alloc (by simp; omega) _;simp only[Nat.sub_self,List.replicate_zero,List.append_nil] at RD;clear hA2 hC2 hD2 hW2 hl2;generalize (wr.alloc (.cells (ZG ks) 166)).alloc (.cells (ZG ks) 166)=W at *
          generalize (wr.alloc (.cells (ZG ks) 166)).heap.size=gq at *
          clear wr;go_upto_region 12 with fail;have hs8:(ZG H).size=8:=(by simp[hH]);apply wp_region_lit;apply wpList_load_row (ty:=142) (x:=.tmp 2) (g:=w.heap.size) (t:=142) (cs:=ZG H) (fr:=(0,0)) (d:=.array 8 141)
          case hgd=>rfl
          case ho=>rfl
          case hx=>rfl
          case hg=>exact RA
          case hu=>kernel_rfl
          case hd=>rfl
          case hi=>rw[hs8]; kernel_rfl
          refine Zy rfl (some 11) rfl (Z5 W.heap.size 0) (W.alloc (.cells (List.replicate 8 (.int .u32 0)).toArray 142)) (by kernel_rfl) ?_;apply Yf (w:=W) (ty:=142) (x:=.tmp 11) (y:=.tmp 99) (c:=(List.replicate 8 (.int .u32 0)).toArray) (c':=ZG H)
          case hgd=>rfl
          case ho=>rfl
          case hx=>rfl
          case hy=>rfl
          case hi=>rw[hs8]; kernel_rfl
          case hz=>rw[hs8]; rfl
          case h1=>exact Vm H
          apply wpList_nil;have SS:Yu (W.alloc (.cells (ZG H) 142)) W.heap.size 142 H:=heap_alloc_last _ _;have hgs:gq<W.heap.size:=RK.lt;have RA':=RA.alloc (.cells (ZG H) 142);have RC':=RC.alloc (.cells (ZG H) 142);have RD':=RD.alloc (.cells (ZG H) 142);have RK':=RK.alloc (.cells (ZG H) 142);have RW':=RW.alloc RW.size (.cells (ZG H) 142);have lW:(more (words B 16) 48).length=64:=(by rw[Qw,WA]);clear RA RC RD RK RW;generalize W.alloc (.cells (ZG H) 142)=W1 at *
          generalize W.heap.size=gs at *
          clear W;generalize yR:more (words B 16) 48=WW at *
          have Jf:Hid (∀ n,n=48->more (words B 16) n=WW):=Z9 (fun n hn=>by rw[hn]; exact yR);clear yR;go_wp2_with fail;go_loopg [12] 64 (fun g s12 wx=>∃ t:Nat,t<=64/\s12=Z8 t/\Yu wx w.heap.size 142 H/\Yu wx (w.heap.size+1) 142 (List.replicate 8 0)/\Yu wx (w.heap.size+2) 166 WW/\Yu wx gq 166 ks/\Yu wx gs 142 (PL WW H t)/\Below w.heap.size w wx/\64-t=g)
          case atStart=>exact⟨0,by omega,by go_num,RA',RC',RD',RK',SS,RW',rfl⟩
          case round=>
            clear RA' RC' RD' RK' SS RW';obtain⟨t,ht3,rfl,TA,TC,TD,TK,TS,TW,hg3⟩:=hrel;by_cases hlt3:t<64
            · have ls:=JC WW H hH t;have xk:=TK.cell t (by rw[ar8]; omega);have xw:=TD.cell t (by omega);have x0:=TS.cell 0 (by omega);have x1:=TS.cell 1 (by omega);have x2:=TS.cell 2 (by omega);have x3:=TS.cell 3 (by omega);have x4:=TS.cell 4 (by omega);have x5:=TS.cell 5 (by omega);have x6:=TS.cell 6 (by omega);have x7:=TS.cell 7 (by omega);have QA:=Z9 TA;have QC:=Z9 TC;have QD:=Z9 TD;have QK:=Z9 TK;have QS:=Z9 TS;have QW:=Z9 TW;have HH:=Z9 hH;have HB:=Z9 hB;have H8:=Z9 h8;have LW:=Z9 lW;have LS:=Z9 ls;have HR:Hid (PL WW H (t+1)=rnd (PL WW H t) (ks.getD t 0) (WW.getD t 0)):=Z9 rfl;clear hH hB h8 lW ls hs8 TA TC TD TK TS TW;generalize ks.getD t 0=kt at *
              generalize WW.getD t 0=wt at *
              generalize hrs:PL WW H t=s at *
              have HV:Hid (rnd s kt wt=sN (s.getD 0 0) (s.getD 1 0) (s.getD 2 0) (s.getD 3 0) (s.getD 4 0) (s.getD 5 0) (s.getD 6 0) (s.getD 7 0) kt wt):=Z9 rfl;generalize s.getD 0 0=va at *
              generalize s.getD 1 0=vb at *
              generalize s.getD 2 0=vc at *
              generalize s.getD 3 0=vd at *
              generalize s.getD 4 0=ve at *
              generalize s.getD 5 0=vf at *
              generalize s.getD 6 0=vg at *
              generalize s.getD 7 0=vh at *
              clear hrs;go_wp2_with fail
              go_region
              go_wp2_with fail;have s0:wr.drew.cell? ⟨gs,0,none⟩=some (.int .u32 va):=x0;have s1:wr.drew.cell? ⟨gs,1,none⟩=some (.int .u32 vb):=x1;have s2:wr.drew.cell? ⟨gs,2,none⟩=some (.int .u32 vc):=x2;have s3:wr.drew.cell? ⟨gs,3,none⟩=some (.int .u32 vd):=x3;have s4:wr.drew.cell? ⟨gs,4,none⟩=some (.int .u32 ve):=x4;have s5:wr.drew.cell? ⟨gs,5,none⟩=some (.int .u32 vf):=x5;have s6:wr.drew.cell? ⟨gs,6,none⟩=some (.int .u32 vg):=x6;have s7:wr.drew.cell? ⟨gs,7,none⟩=some (.int .u32 vh):=x7;have sk:wr.drew.cell? ⟨gq,t,none⟩=some (.int .u32 kt):=xk;have sw:wr.drew.cell? ⟨w.heap.size+1+1,t,none⟩=some (.int .u32 wt):=xw;have PA:Hid (Yu wr.drew w.heap.size 142 H):=QA;have PC:Hid (Yu wr.drew (w.heap.size+1) 142 (List.replicate 8 0)):=QC;have PD:Hid (Yu wr.drew (w.heap.size+2) 166 WW):=QD;have PK:Hid (Yu wr.drew gq 166 ks):=QK;have PS:Hid (Yu wr.drew gs 142 s):=QS;have PW:Hid (Below w.heap.size w (wr.drew)):=Z9 (Below.drewN' QW.out 1);clear x0 x1 x2 x3 x4 x5 x6 x7 xk xw QA QC QD QK QS QW;generalize wr.drew=wq at *
              clear wr
              go_quiet (first
                | (go_at_call_of 124 (Value.int IntKind.i64 6); exact Calls.quiet_of (Tc ve 6 _ (by omega) (by omega)))
                | (go_at_call_of 124 (Value.int IntKind.i64 11); exact Calls.quiet_of (Tc ve 11 _ (by omega) (by omega)))
                | (go_at_call_of 124 (Value.int IntKind.i64 25); exact Calls.quiet_of (Tc ve 25 _ (by omega) (by omega))))
              go_wp2_with fail;clear sk sw;have r0:(wq.drewN nq).cell? ⟨gs,0,none⟩=some (.int .u32 va):=s0;have r1:(wq.drewN nq).cell? ⟨gs,1,none⟩=some (.int .u32 vb):=s1;have r2:(wq.drewN nq).cell? ⟨gs,2,none⟩=some (.int .u32 vc):=s2;have r3:(wq.drewN nq).cell? ⟨gs,3,none⟩=some (.int .u32 vd):=s3;have r4:(wq.drewN nq).cell? ⟨gs,4,none⟩=some (.int .u32 ve):=s4;have r5:(wq.drewN nq).cell? ⟨gs,5,none⟩=some (.int .u32 vf):=s5;have r6:(wq.drewN nq).cell? ⟨gs,6,none⟩=some (.int .u32 vg):=s6;have r7:(wq.drewN nq).cell? ⟨gs,7,none⟩=some (.int .u32 vh):=s7;have RA:Hid (Yu (wq.drewN nq) w.heap.size 142 H):=PA;have RC:Hid (Yu (wq.drewN nq) (w.heap.size+1) 142 (List.replicate 8 0)):=PC;have RD:Hid (Yu (wq.drewN nq) (w.heap.size+2) 166 WW):=PD;have RK:Hid (Yu (wq.drewN nq) gq 166 ks):=PK;have RS:Hid (Yu (wq.drewN nq) gs 142 s):=PS;have RW:Hid (Below w.heap.size w (wq.drewN nq)):=Z9 (Below.drewN' PW.out nq);clear s0 s1 s2 s3 s4 s5 s6 s7 PA PC PD PK PS PW;generalize wq.drewN nq=wz at *
              clear wq
              go_quiet (first
                | (go_at_call_of 124 (Value.int IntKind.i64 2); exact Calls.quiet_of (Tc va 2 _ (by omega) (by omega)))
                | (go_at_call_of 124 (Value.int IntKind.i64 13); exact Calls.quiet_of (Tc va 13 _ (by omega) (by omega)))
                | (go_at_call_of 124 (Value.int IntKind.i64 22); exact Calls.quiet_of (Tc va 22 _ (by omega) (by omega))))
              go_upto_region 19 with fail;have s0:(wz.drewN nq).cell? ⟨gs,0,none⟩=some (.int .u32 va):=r0;have s1:(wz.drewN nq).cell? ⟨gs,1,none⟩=some (.int .u32 vb):=r1;have s2:(wz.drewN nq).cell? ⟨gs,2,none⟩=some (.int .u32 vc):=r2;have s3:(wz.drewN nq).cell? ⟨gs,3,none⟩=some (.int .u32 vd):=r3;have s4:(wz.drewN nq).cell? ⟨gs,4,none⟩=some (.int .u32 ve):=r4;have s5:(wz.drewN nq).cell? ⟨gs,5,none⟩=some (.int .u32 vf):=r5;have s6:(wz.drewN nq).cell? ⟨gs,6,none⟩=some (.int .u32 vg):=r6;have s7:(wz.drewN nq).cell? ⟨gs,7,none⟩=some (.int .u32 vh):=r7;have PA:Hid (Yu (wz.drewN nq) w.heap.size 142 H):=RA;have PC:Hid (Yu (wz.drewN nq) (w.heap.size+1) 142 (List.replicate 8 0)):=RC;have PD:Hid (Yu (wz.drewN nq) (w.heap.size+2) 166 WW):=RD;have PK:Hid (Yu (wz.drewN nq) gq 166 ks):=RK;have PS:Hid (Yu (wz.drewN nq) gs 142 s):=RS;have PW:Hid (Below w.heap.size w (wz.drewN nq)):=Z9 (Below.drewN' RW.out nq);clear r0 r1 r2 r3 r4 r5 r6 r7 RA RC RD RK RS RW;generalize wz.drewN nq=wy at *
              clear wz;have f0:wy.frozen? ⟨gs,0,none⟩=false:=PS.out.frozen 0;have f1:wy.frozen? ⟨gs,1,none⟩=false:=PS.out.frozen 1;have f2:wy.frozen? ⟨gs,2,none⟩=false:=PS.out.frozen 2;have f3:wy.frozen? ⟨gs,3,none⟩=false:=PS.out.frozen 3;have f4:wy.frozen? ⟨gs,4,none⟩=false:=PS.out.frozen 4;have f5:wy.frozen? ⟨gs,5,none⟩=false:=PS.out.frozen 5;have f6:wy.frozen? ⟨gs,6,none⟩=false:=PS.out.frozen 6;have f7:wy.frozen? ⟨gs,7,none⟩=false:=PS.out.frozen 7;go_wp2_with fail;have NS:=PS.out.jF LS.out ((vh+xo (xo (TL ve 6) (TL ve 11)) (TL ve 25)+xo (an ve vf) (an (no ve) vg)+kt+wt+(xo (xo (TL va 2) (TL va 13)) (TL va 22)+xo (xo (an va vb) (an va vc)) (an vb vc))) % 4294967296) va vb vc ((vd+(vh+xo (xo (TL ve 6) (TL ve 11)) (TL ve 25)+xo (an ve vf) (an (no ve) vg)+kt+wt)) % 4294967296) ve vf vg;have HE:=HR.out.trans HV.out;unfold sN at HE;simp only at HE;rw[<- HE] at NS;go_roundg (64-(t+1))
              case measure=>omega
              case rel=>exact⟨t+1,by omega,by go_num,PA.out.aj (by omega) _ _ _ _ _ _ _ _,PC.out.aj (by omega) _ _ _ _ _ _ _ _,PD.out.aj (by omega) _ _ _ _ _ _ _ _,PK.out.aj (by omega) _ _ _ _ _ _ _ _,NS,ar7 PW.out (by omega) _ _ _ _ _ _ _ _,rfl⟩
            · obtain rfl:t=64:=(by omega);clear hlt3 ht3 hg3 hlt2 hk hg2 hlt hg1 ht;have HS:Hid (∀ n,n=64->Yu wr gs 142 (PL WW H n)):=Z9 (fun n hn=>by rw[hn]; exact TS);generalize aH4:PL WW H 64=S64 at TS;have au:Hid (∀ n,n=64->PL WW H n=S64):=Z9 (fun n hn=>by rw[hn]; exact aH4);clear aH4 HS;clear TD TK;go_wp2_with fail;go_loopg [180] 8 (fun g s180 wx=>∃ i:Nat,i<=8/\s180=Z8 i/\Yu wx w.heap.size 142 (sums H S64 i)/\Yu wx (w.heap.size+1) 142 (List.replicate 8 0)/\Yu wx gs 142 S64/\Below w.heap.size w wx/\8-i=g)
              case atStart=>exact⟨0,by omega,by go_num,TA,TC,TS,TW,rfl⟩
              case round=>
                have l64:S64.length=8:=(by rw[<- au.out 64 rfl]; exact JC WW H hH 64);clear TA TC TS TW;obtain⟨i,hi4,rfl,UA,UC,US,UW,hg4⟩:=hrel;have lsu:=JB H S64 hH i;by_cases hlt4:i<8
                · have x0:=UA.cell i (by omega);have x1:=US.cell i (by omega);have xf:=UA.frozen i;rw[BK H S64 i i (Nat.le_refl _)] at x0;have HV:Hid (sums H S64 (i+1)=(sums H S64 i).set i ((H.getD i 0+S64.getD i 0) % 4294967296)):=Z9 rfl;have VA:=Z9 UA;have VC:=Z9 UC;have VS:=Z9 US;have VW:=Z9 UW;have HH:=Z9 hH;have L64:=Z9 l64;have HB:=Z9 hB;have H8:=Z9 h8;clear UA UC US UW hH l64 hB h8 lsu lW hs8;generalize H.getD i 0=p at *
                  generalize S64.getD i 0=q at *
                  go_wp2_with fail
                  go_region
                  go_wp2_with fail;have NA:=VA.out.set i ((p+q) % 4294967296);rw[<- HV.out] at NA;go_roundg (8-(i+1))
                  case measure=>omega
                  case rel=>exact⟨i+1,by omega,by go_num,NA,VC.out.far _ (by simp) _,VS.out.far _ (by simp; omega) _,(VW.out.setCell (by simp) _).drew,rfl⟩
                · obtain rfl:i=8:=(by omega);go_upto_region 25 with fail;have yQ:(ZG (sums H S64 8)).size=8:=(by simp[lsu]);have hblk:sums H S64 8=blk H B:=by
                    unfold blk;rw[Jf.out 48 rfl,au.out 64 rfl]
                  rw[hblk] at UA yQ;apply wp_region_lit;apply wpList_load_row (ty:=142) (x:=.tmp 2) (g:=w.heap.size) (t:=142) (cs:=ZG (blk H B)) (fr:=(0,0)) (d:=.array 8 141)
                  case hgd=>rfl
                  case ho=>rfl
                  case hx=>rfl
                  case hg=>exact UA
                  case hu=>kernel_rfl
                  case hd=>rfl
                  case hi=>rw[yQ]; kernel_rfl
                  apply Zt (ty:=142) (x:=.tmp 4) (y:=.tmp 192) (g:=w.heap.size+1) (c:=ZG (List.replicate 8 0)) (c':=ZG (blk H B))
                  case hgd=>rfl
                  case ho=>rfl
                  case hx=>rfl
                  case hy=>rfl
                  case hg=>exact UC
                  case hi=>rw[yQ]; kernel_rfl
                  case hz=>rw[yQ]; rfl
                  case h1=>exact Vm _
                  apply wpList_nil;go_wp2_with fail;refine bodyPost_ret (v:=.agg (ZG (blk H B))) ?_ rfl ⟨rfl,ZU UW (by omega) _⟩;refine results_cell_row (fn:=Tryz.f96) (p:=4) (ty:=142) rfl _ _ (w.heap.size+1) 142 (ZG (blk H B)) (0,0) (.array 8 141) rfl (setRow_heap _ _ _ _ _ _ UC) ?_ rfl ?_
                  · kernel_rfl
                  · rw[yQ]; kernel_rfl
theorem WG (x:Int)(n:Nat)(w:World)(hn:1<=n)(h31:n<=31) :
    Calls Tryz.prog 151 #[.int .u32 x,.int .u64 n] w fun e w'=>e=.returned (.int .u32 (TL x n))/\w=w':=by
  go_enter Tryz.func151,Tryz.ntmps151;have e1:Op.shift .shr .u32 x .u64 (n:Int)=(pure (.int .u32 (x / 2 ^ n)):Sem Value):=by
    rw[shift_shr .u32 .u64 x n (by omega) (by simp[IntKind.bits]; omega)]; simp
  have e2:IntKind.u64.wrap (32-(n:Int))=((32-n:Nat):Int):=by rw[IntKind.wrap_u64]; omega
  have e3:Op.shift .shl .u32 x .u64 ((32-n:Nat):Int)=(pure (.int .u32 (IntKind.u32.wrap (x*2 ^ (32-n)))):Sem Value):=by
    rw[shift_shl .u32 .u64 x _ (by omega) (by simp[IntKind.bits]; omega)]; simp
  go_wp2;go_ret;exact⟨rfl,rfl⟩
theorem wu (x:Int)(i j k:Nat)(w:World)(hi:1<=i)(hi1:i<=31)(hj:1<=j)(hj1:j<=31)(hk:1<=k)(hk1:k<=31) :
    Calls Tryz.prog 142 #[.int .u32 x,.int .u64 i,.int .u64 j,.int .u64 k] w fun e w'=>e=.returned (.int .u32 (xo (xo (TL x i) (TL x j)) (TL x k)))/\w=w':=by
  go_enter Tryz.func142,Tryz.ntmps142;go_wp2_with (first
    | (go_at_call_of 151 (Value.int IntKind.u64 i); refine(WG x i _ hi hi1).mono ?_; rintro e w' ⟨rfl,rfl⟩)
    | (go_at_call_of 151 (Value.int IntKind.u64 j); refine(WG x j _ hj hj1).mono ?_; rintro e w' ⟨rfl,rfl⟩)
    | (go_at_call_of 151 (Value.int IntKind.u64 k); refine(WG x k _ hk hk1).mono ?_; rintro e w' ⟨rfl,rfl⟩))
  go_ret;exact⟨rfl,rfl⟩
end Go.Proofs.YtfpnnmeblefkkaaGreatDoor
namespace Go.Proofs.YtfpnnmeblefkkaaGreatDoor
theorem KY (a b:Int)(i:Nat)(h0:0<=a)(h1:0<=b)(h2:b<2 ^ i)(h3:a*2 ^ i+b<4294967296):oo (a*2 ^ i) b=a*2 ^ i+b:=by
  obtain⟨n,rfl⟩:=Int.eq_ofNat_of_zero_le h0;obtain⟨m,rfl⟩:=Int.eq_ofNat_of_zero_le h1;have h2':m<2 ^ i:=by exact_mod_cast h2
  have e:((n:Int)*2 ^ i)=((n*2 ^ i:Nat):Int):=by push_cast; rfl
  rw[e] at h3 ⊢;have h3':n*2 ^ i+m<4294967296:=by omega
  unfold oo;rw[u32_or_nat _ _ (by omega) (by omega),Nat.mul_comm n,<- Nat.two_pow_add_eq_or_of_lt h2']
  push_cast
  rfl
theorem sH (a b c d:Int)(ha:W8 a)(hb:W8 b)(hc:W8 c)(hd:W8 d):MF a b c d=a*16777216+b*65536+c*256+d:=by
  obtain⟨a0,a1⟩:=ha; obtain⟨b0,b1⟩:=hb; obtain⟨c0,c1⟩:=hc; obtain⟨d0,d1⟩:=hd;unfold MF;rw[Int.emod_eq_of_lt (show 0<=a*16777216 by omega) (by omega),Int.emod_eq_of_lt (show 0<=b*65536 by omega) (by omega),Int.emod_eq_of_lt (show 0<=c*256 by omega) (by omega)];have e1:oo (a*16777216) (b*65536)=a*16777216+b*65536:=KY a (b*65536) 24 a0 (by omega) (by omega) (by omega);have e2:oo (a*16777216+b*65536) (c*256)=a*16777216+b*65536+c*256:=by
    have:=KY (a*256+b) (c*256) 16 (by omega) (by omega) (by omega) (by omega);have q:(a*256+b)*2 ^ 16=a*16777216+b*65536:=(by omega);rw[q] at this;exact this
  have e3:oo (a*16777216+b*65536+c*256) d=a*16777216+b*65536+c*256+d:=by
    have:=KY (a*65536+b*256+c) d 8 (by omega) (by omega) (by omega) (by omega);have q:(a*65536+b*256+c)*2 ^ 8=a*16777216+b*65536+c*256:=(by omega);rw[q] at this;exact this
  rw[e1,e2,e3]
def push (a c:Int):Int:=oo (a*256 % 4294967296) c
theorem NQ (a c:Int)(ha:0<=a)(h:a<16777216)(hc:W8 c):push a c=a*256+c:=by
  obtain⟨c0,c1⟩:=hc;unfold push;rw[Int.emod_eq_of_lt (by omega) (by omega)];exact KY a c 8 ha c0 (by omega) (by omega)
theorem aH5 (a b c d:Int)(ha:W8 a)(hb:W8 b)(hc:W8 c)(hd:W8 d):push (push (push (push 0 a) b) c) d=MF a b c d:=by
  rw[sH a b c d ha hb hc hd];have wa:=ha; have wb:=hb; have wc:=hc;obtain⟨a0,a1⟩:=ha; obtain⟨b0,b1⟩:=hb; obtain⟨c0,c1⟩:=hc;rw[NQ 0 a (by omega) (by omega) wa,NQ _ b (by omega) (by omega) wb,NQ _ c (by omega) (by omega) wc,NQ _ d (by omega) (by omega) hd];omega
def fw (B:List Int):Nat->List Int
  | 0=>List.replicate 64 0
  | i+1=>(fw B i).set (i / 4) (push ((fw B i).getD (i / 4) 0) (B.getD i 0))
theorem ar6 (B:List Int)(i:Nat):(fw B i).length=64:=by
  induction i with
  | zero=>rfl
  | succ i ih=>simp[fw,ih]
theorem KX (P Z:List Int)(x:Int)(t:Nat)(h:P.length=t):(P++x::Z).getD t 0=x:=by
  subst h;simp
theorem NP (P Z:List Int)(x y:Int)(t:Nat)(h:P.length=t):(P++x::Z).set t y=P++y::Z:=by
  subst h;simp
theorem fw4 (B:List Int)(hB:B.length=64)(h8:∀ x,x∈B->W8 x):∀ t,t<=16->fw B (4*t)=words B t++List.replicate (64-t) 0:=by
  intro t;induction t with
  | zero=>intro _; rfl
  | succ t ih=>
    intro ht;have ih:=ih (by omega);have hr:List.replicate (64-t) (0:Int)=0::List.replicate (64-(t+1)) 0:=(by rw[show 64-t=(64-(t+1))+1 by omega]; rfl);rw[hr] at ih;have hl:=WA B t;rw[show 4*(t+1)=4*t+1+1+1+1 by omega];simp only[fw];rw[show(4*t+1+1+1) / 4=t by omega,show(4*t+1+1) / 4=t by omega,show(4*t+1) / 4=t by omega,show 4*t / 4=t by omega,ih];rw[KX _ _ _ t hl,NP _ _ _ _ t hl,KX _ _ _ t hl,NP _ _ _ _ t hl,KX _ _ _ t hl,NP _ _ _ _ t hl,KX _ _ _ t hl,NP _ _ _ _ t hl];rw[aH5 _ _ _ _ (W8.getD h8 _ (by omega)) (W8.getD h8 _ (by omega)) (W8.getD h8 _ (by omega)) (W8.getD h8 _ (by omega))];simp[words,word]
end Go.Proofs.YtfpnnmeblefkkaaGreatDoor
namespace Go.Proofs.YtfpnnmeblefkkaaGreatDoor
open Go.RowKit
theorem Td {P:Program}(t e n:Nat)(k:IntKind)(cs:Array Value)(i:Nat)(c:Value)(w:World)(h:P.underlying t=some (.array n e))(hi:i<n)
    (hs:(sizeOf e).run P w=.ok 1 w) (ha:(isAgg e).run P w=.ok false w) (hc:cs[i]?=some c):(Instr.index t (.agg cs) (.int k (i:Int))).run P w=.ok c w:=by
  have hn:¬ n<=i:=by omega
  simp[Instr.index,run_underlying h,asIntOf,hs,part,ha,hc,go_sem];intro h';exact absurd h' hn
abbrev ZF (L:List Int):Array Value:=(L.map (Value.int .u8)).toArray
def Ab (w:World)(g:Nat)(t:TypeId)(L:List Int):Prop:=w.heap[g]?=some (.cells (ZF L) t (0,0))
theorem Ab.lt {w:World}{g:Nat}{t:TypeId}{L:List Int}(h:Ab w g t L):g<w.heap.size:=(Array.getElem?_eq_some_iff.1 h).1
theorem Ab.below {w w':World}{g B:Nat}{t:TypeId}{L:List Int}(h:Ab w g t L)(hg:g<B)(hb:Below B w w'):Ab w' g t L:=by
  unfold Ab;rw[hb.block g hg];exact h
theorem Ab.alloc {w:World}{g:Nat}{t:TypeId}{L:List Int}(h:Ab w g t L)(o:Obj):Ab (w.alloc o) g t L:=by
  unfold Ab;rw[Below.heap_alloc w o g h.lt];exact h
theorem sO (B:List Int)(w:World)(hB:B.length=64)(h8:∀ x,x∈B->W8 x) :
    Calls Tryz.prog 141 #[.agg (ZF B)] w fun e w'=>e=.returned (.agg (ZG (more (words B 16) 48)))/\Below w.heap.size w w':=by
  go_enter Tryz.func141,Tryz.ntmps141;go_upto_region 2 with fail;have hA:Ab (((w.alloc (Obj.cells (ZF B) 160)).alloc (Obj.cells (ZG (List.replicate 64 0)) 166)).alloc (Obj.cells (ZG (List.replicate 64 0)) 166)) w.heap.size 160 B:=Ab.alloc (Ab.alloc (heap_alloc_last w _) _) _;have hC:Yu (((w.alloc (Obj.cells (ZF B) 160)).alloc (Obj.cells (ZG (List.replicate 64 0)) 166)).alloc (Obj.cells (ZG (List.replicate 64 0)) 166)) (w.heap.size+1) 166 (List.replicate 64 0):=by
    have:=Yu.alloc (t:=166) (L:=List.replicate 64 0) (heap_alloc_last (w.alloc (Obj.cells (ZF B) 160)) (Obj.cells (ZG (List.replicate 64 0)) 166)) (Obj.cells (ZG (List.replicate 64 0)) 166);simpa using this
  have hD:Yu (((w.alloc (Obj.cells (ZF B) 160)).alloc (Obj.cells (ZG (List.replicate 64 0)) 166)).alloc (Obj.cells (ZG (List.replicate 64 0)) 166)) (w.heap.size+2) 166 (List.replicate 64 0):=by
    have:=heap_alloc_last ((w.alloc (Obj.cells (ZF B) 160)).alloc (Obj.cells (ZG (List.replicate 64 0)) 166)) (Obj.cells (ZG (List.replicate 64 0)) 166);simpa [Yu] using this
  have hW:Below w.heap.size w (((w.alloc (Obj.cells (ZF B) 160)).alloc (Obj.cells (ZG (List.replicate 64 0)) 166)).alloc (Obj.cells (ZG (List.replicate 64 0)) 166)):=
    (((Below.refl w.heap.size w).alloc (by simp) _).alloc (by simp) _).alloc (by simp; omega) _
  change Code.wp _ _ _ _ (((w.alloc (Obj.cells (ZF B) 160)).alloc (Obj.cells (ZG (List.replicate 64 0)) 166)).alloc (Obj.cells (ZG (List.replicate 64 0)) 166));generalize ((w.alloc (Obj.cells (ZF B) 160)).alloc (Obj.cells (ZG (List.replicate 64 0)) 166)).alloc (Obj.cells (ZG (List.replicate 64 0)) 166)=W at *
  have jG:(ZF B).size=64:=by simp[hB]
  apply wp_region_lit;apply wpList_load_row (ty:=160) (x:=.tmp 1) (g:=w.heap.size) (t:=160) (cs:=ZF B) (fr:=(0,0)) (d:=.array 64 5)
  case hgd=>rfl
  case ho=>rfl
  case hx=>rfl
  case hg=>exact hA
  case hu=>kernel_rfl
  case hd=>rfl
  case hi=>rw[jG]; kernel_rfl
  go_wp2_with fail;go_loopg [12] 64 (fun g s12 wx=>∃ i:Nat,i<=64/\s12=Z8 i/\Yu wx (w.heap.size+1) 166 (List.replicate 64 0)/\Yu wx (w.heap.size+2) 166 (fw B i)/\Below w.heap.size w wx/\64-i=g)
  case atStart=>exact⟨0,by omega,by go_num,hC,by simpa [fw] using hD,hW,rfl⟩
  case round=>
    clear hA hC hD hW;obtain⟨i,hi,rfl,PI,hD1,hW1,hg1⟩:=hrel;by_cases hlt:i<64
    · have hl:=ar6 B i;have xz:=hD1.cell (i / 4) (by omega);have xf:=hD1.frozen (i / 4);have e0:=(W8.getD h8 i (by omega)).small;have HC:=Z9 PI;have HD:=Z9 hD1;have HW:=Z9 hW1;have HB:=Z9 hB;have H8:=Z9 h8;have HV:Hid (fw B (i+1)=(fw B i).set (i / 4) (oo ((fw B i).getD (i / 4) 0*256 % 4294967296) (B.getD i 0))):=Z9 rfl;have hix:(Instr.index 160 (.agg (ZF B)) (Z8 (i:Int))).run Tryz.prog wr=.ok (.int .u8 (B.getD i 0)) wr:=by
        refine Td 160 5 64 .i64 _ i _ wr (by kernel_rfl) hlt (by kernel_rfl) (by kernel_rfl) ?_;simp[ZF,List.getD,List.getElem?_eq_getElem (show i<B.length by omega)]
      clear PI hD1 hW1 h8 hl;generalize (fw B i).getD (i / 4) 0=z at *
      generalize B.getD i 0=c at *
      have q1:(i:Int).tdiv 4=((i / 4:Nat):Int):=(by simp);have q2:((i / 4:Nat):Int)<64:=(by omega);have q3:IntKind.i64.wrap ((i / 4:Nat):Int)=((i / 4:Nat):Int):=(by rw[IntKind.wrap_i64]; omega);generalize hj:i / 4=j at *
      go_wp2_with fail;have HD2:=HD.out.set j (oo (z*256 % 4294967296) c);rw[<- HV.out] at HD2;go_roundg (64-(i+1))
      case measure=>omega
      case rel=>exact⟨i+1,by omega,by go_num,HC.out.far _ (by simp) _,HD2,HW.out.setCell (by simp; omega) _,rfl⟩
    · obtain rfl:i=64:=(by omega);rw[show 64=4*16 from rfl,fw4 B hB h8 16 (Nat.le_refl _)] at hD1;go_wp2_with fail;go_loopg [6] 48 (fun g s6 wx=>∃ k:Nat,k<=48/\s6=Z8 ((k:Int)+16)/\Yu wx (w.heap.size+1) 166 (List.replicate 64 0)/\Yu wx (w.heap.size+2) 166 (more (words B 16) k++List.replicate (48-k) 0)/\Below w.heap.size w wx/\48-k=g)
      case atStart=>exact⟨0,by omega,by go_num,PI,by simpa [more] using hD1,hW1,rfl⟩
      case round=>
        clear PI hD1 hW1;obtain⟨k,hk,rfl,hC2,hD2,hW2,hg2⟩:=hrel;by_cases hlt2:k<48
        · have hl:(more (words B 16) k).length=16+k:=(by rw[Qw,WA]);have ha:(more (words B 16) k++List.replicate (48-k) 0).length=64:=(by simp[hl]; omega);have x1:=hD2.cell (k+1) (by omega);have x2:=hD2.cell (k+14) (by omega);have x3:=hD2.cell (k+9) (by omega);have x4:=hD2.cell k (by omega);have xz:=hD2.cell (k+16) (by omega);have xf:=hD2.frozen (k+16);have g0:∀ i,i<16+k->(more (words B 16) k++List.replicate (48-k) 0).getD i 0=(more (words B 16) k).getD i 0:=fun i hi=>by
            simp[List.getD,List.getElem?_append_left (show i<(more (words B 16) k).length by omega)]
          rw[g0 (k+1) (by omega)] at x1;rw[g0 (k+14) (by omega)] at x2;rw[g0 (k+9) (by omega)] at x3;rw[g0 k (by omega)] at x4;have HC:=Z9 hC2;have HD:=Z9 hD2;have HW:=Z9 hW2;have HL:=Z9 hl;have HB:=Z9 hB;have H8:=Z9 h8;have HV:Hid (∀ x y u v,x=(more (words B 16) k).getD (k+1) 0->y=(more (words B 16) k).getD (k+14) 0->u=(more (words B 16) k).getD (k+9) 0->v=(more (words B 16) k).getD k 0 ->
              follow (more (words B 16) k) (16+k)=(xo (xo (TL y 17) (TL y 19)) (y / 1024)+u+xo (xo (TL x 7) (TL x 18)) (x / 8)+v) % 4294967296):=by
            intro x y u v e1 e2 e3 e4;subst e1 e2 e3 e4;simp only[follow,show 16+k-15=k+1 by omega,show 16+k-2=k+14 by omega,show 16+k-7=k+9 by omega,show 16+k-16=k by omega]
          clear hC2 hD2 hW2 hl ha hB h8 g0;generalize hx1:(more (words B 16) k).getD (k+1) 0=x at *
          generalize hx2:(more (words B 16) k).getD (k+14) 0=y at *
          generalize hx3:(more (words B 16) k).getD (k+9) 0=u at *
          generalize hx4:(more (words B 16) k).getD k 0=v at *
          generalize List.getD (more (words B 16) k++List.replicate (48-k) 0) (k+16) 0=z at *
          have fD:=Z9 (HV.out x y u v rfl rfl rfl rfl);clear hx1 hx2 hx3 hx4 HV;have i1:IntKind.i64.wrap ((k:Int)+16-15)=((k+1:Nat):Int):=(by rw[IntKind.wrap_i64]; omega);have i2:IntKind.i64.wrap ((k:Int)+16-2)=((k+14:Nat):Int):=(by rw[IntKind.wrap_i64]; omega);have i3:IntKind.i64.wrap ((k:Int)+16-7)=((k+9:Nat):Int):=(by rw[IntKind.wrap_i64]; omega);have i4:IntKind.i64.wrap ((k:Int)+16-16)=(k:Int):=(by rw[IntKind.wrap_i64]; omega);have i5:IntKind.i64.wrap (k:Int)=(k:Int):=(by rw[IntKind.wrap_i64]; omega);have j1:((k+1:Nat):Int)<64:=(by omega);have j2:((k+14:Nat):Int)<64:=(by omega);have j3:((k+9:Nat):Int)<64:=(by omega);have j4:(k:Int)<64:=(by omega);have j5:(k:Int)+16<64:=(by omega);have j6:((k:Int)+16).toNat=k+16:=(by omega);have j7:0<=(k:Int)+16:=(by omega);generalize k+1=n1 at x1 i1 j1;generalize k+14=n2 at x2 i2 j2;generalize k+9=n3 at x3 i3 j3;go_wp2_with fail
          go_region
          go_wp2_with (first
            | (go_at_call_of 151 (Value.int IntKind.u64 7); refine(WG x 7 _ (by omega) (by omega)).mono ?_; rintro e w' ⟨rfl,rfl⟩)
            | (go_at_call_of 151 (Value.int IntKind.u64 18); refine(WG x 18 _ (by omega) (by omega)).mono ?_; rintro e w' ⟨rfl,rfl⟩)
            | (go_at_call_of 151 (Value.int IntKind.u64 17); refine(WG y 17 _ (by omega) (by omega)).mono ?_; rintro e w' ⟨rfl,rfl⟩)
            | (go_at_call_of 151 (Value.int IntKind.u64 19); refine(WG y 19 _ (by omega) (by omega)).mono ?_; rintro e w' ⟨rfl,rfl⟩))
          go_region
          go_wp2_with fail;generalize (xo (xo (TL y 17) (TL y 19)) (y / 1024)+u+xo (xo (TL x 7) (TL x 18)) (x / 8)+v) % 4294967296=q at fD ⊢;have HN:(more (words B 16) k++List.replicate (48-k) 0).set (k+16) q=more (words B 16) (k+1)++List.replicate (48-(k+1)) 0:=by
            have:=Qa (more (words B 16) k) q (48-k) (48-(k+1)) (by omega);rw[HL.out,Nat.add_comm 16 k] at this;rw[this,more,fD.out]
          have QD2:=HD.out.set (k+16) q;rw[HN] at QD2;have QC2:=HC.out.far ⟨w.heap.size+1+1,k+16,none⟩ (by simp) (.int .u32 q);have QW2:Below w.heap.size w (wr.setCell ⟨w.heap.size+1+1,k+16,none⟩ (.int .u32 q)):=HW.out.setCell (by simp; omega) _;go_roundg (48-(k+1))
          case measure=>omega
          case rel=>exact⟨k+1,by omega,by go_num,QC2,QD2,QW2.drew.drew,rfl⟩
        · obtain rfl:k=48:=(by omega);have lW:(more (words B 16) 48).length=64:=(by rw[Qw,WA]);simp only[Nat.sub_self,List.replicate_zero,List.append_nil] at hD2;generalize yR:more (words B 16) 48=WW at *
          have Jf:Hid (∀ n,n=48->more (words B 16) n=WW):=Z9 (fun n hn=>by rw[hn]; exact yR);clear yR;go_upto_region 14 with fail;have yQ:(ZG WW).size=64:=(by simp[lW]);apply wp_region_lit;apply wpList_load_row (ty:=166) (x:=.tmp 3) (g:=w.heap.size+2) (t:=166) (cs:=ZG WW) (fr:=(0,0)) (d:=.array 64 141)
          case hgd=>rfl
          case ho=>rfl
          case hx=>rfl
          case hg=>exact hD2
          case hu=>kernel_rfl
          case hd=>rfl
          case hi=>rw[yQ]; kernel_rfl
          apply Zt (ty:=166) (x:=.tmp 2) (y:=.tmp 71) (g:=w.heap.size+1) (c:=ZG (List.replicate 64 0)) (c':=ZG WW)
          case hgd=>rfl
          case ho=>rfl
          case hx=>rfl
          case hy=>rfl
          case hg=>exact hC2
          case hi=>rw[yQ]; kernel_rfl
          case hz=>rw[yQ]; kernel_rfl
          case h1=>exact Vm _
          apply wpList_nil;go_wp2_with fail;refine bodyPost_ret (v:=.agg (ZG WW)) ?_ rfl ⟨by rw[Jf.out 48 rfl],ZU hW2 (by omega) _⟩;refine results_cell_row (fn:=Tryz.f141) (p:=2) (ty:=166) rfl _ _ (w.heap.size+1) 166 (ZG WW) (0,0) (.array 64 141) rfl (setRow_heap _ _ _ _ _ _ hC2) ?_ rfl ?_
          · kernel_rfl
          · rw[yQ]; kernel_rfl
end Go.Proofs.YtfpnnmeblefkkaaGreatDoor
