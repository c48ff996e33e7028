/-
  Texts joined.
-/
import Derived.Test.YtfpnnmeblefkkaaGreatDoorD24
import Derived.Deep.OwnRows
import Derived.Laws.CopyOwn
set_option maxRecDepth 100000
set_option maxHeartbeats 8000000
set_option linter.unusedSimpArgs false
set_option linter.unusedVariables false
namespace Go.Proofs.YtfpnnmeblefkkaaGreatDoor
open Go.RowKit
def Glob (w:World):Prop:=(∃ t fr,w.heap[0]?=some (.cells (ZG I7) t fr))/\∃ t fr,w.heap[3]?=some (.cells (ZG ks) t fr)
theorem Glob.size {w:World}(h:Glob w):0+3+1<=w.heap.size:=by
  obtain⟨_,t,fr,h1⟩:=h;have:=(Array.getElem?_eq_some_iff.1 h1).1;omega
theorem Glob.below {w w':World}{B:Nat}(h:Glob w)(hB:0+3+1<=B)(hb:Below B w w'):Glob w':=by
  obtain⟨⟨t,fr,h0⟩,u,fs,h1⟩:=h;exact⟨⟨t,fr,by rw[hb.block 0 (by omega)]; exact h0⟩,u,fs,by rw[hb.block 3 (by omega)]; exact h1⟩
theorem Glob.cell {w:World}(h:Glob w)(i:Nat)(hi:i<64):w.cell? ⟨3,i,none⟩=some (.int .u32 (ks.getD i 0)):=by
  obtain⟨_,t,fr,h1⟩:=h;rw[cell_of_row w 3 i _ t fr h1];have hk:i<ks.length:=hi;simp[ZG,hk]
theorem aH3 (x:Int)(i j k:Nat)(w:World)(hi:1<=i)(hi1:i<=31)(hj:1<=j)(hj1:j<=31)(hk:1<=k)(hk1:k<=31) :
    Calls Tryz.prog 142 #[.int .u32 x,Z7 i,Z7 j,Z7 k] w fun e w'=>e=.returned (.int .u32 (xo (xo (TL x i) (TL x j)) (TL x k)))/\∃ m,w'=w.drewN m:=
  (wu x i j k w hi hi1 hj hj1 hk hk1).mono fun _ _ ⟨he,hw⟩=>⟨he,0,by rw[<- hw]; rfl⟩
theorem eight (s:List Int)(hs:s.length=8):∃ a b c d e f g h,s=[a,b,c,d,e,f,g,h]:=by
  match s,hs with
  | [a,b,c,d,e,f,g,h],_=>exact⟨a,b,c,d,e,f,g,h,rfl⟩
theorem Fj (H B:List Int)(w:World)(hH:H.length=8)(hB:B.length=64)(h8:∀ x,x∈B->W8 x)(hG:Glob w) :
    Calls Tryz.prog 120 #[.agg (ZG H),.agg (ZF B)] w fun e w'=>e=.returned (.agg (ZG (blk H B)))/\Below w.heap.size w w':=by
  have hg2:=hG.size;go_enter Tryz.func120,Tryz.ntmps120;go_upto_region 1 with fail;have jG:(ZF B).size=64:=by simp[hB]
  have hA:Yu (((w.alloc (Obj.cells (ZG H) 142)).alloc (Obj.cells (ZF B) 160)).alloc (Obj.cells (ZG (List.replicate 8 0)) 142)) w.heap.size 142 H:=Yu.alloc (Yu.alloc (heap_alloc_last w _) _) _;have hC:Ab (((w.alloc (Obj.cells (ZG H) 142)).alloc (Obj.cells (ZF B) 160)).alloc (Obj.cells (ZG (List.replicate 8 0)) 142)) (w.heap.size+1) 160 B:=by
    have:=Ab.alloc (t:=160) (L:=B) (heap_alloc_last (w.alloc (Obj.cells (ZG H) 142)) (Obj.cells (ZF B) 160)) (Obj.cells (ZG (List.replicate 8 0)) 142);simpa using this
  have hD:Yu (((w.alloc (Obj.cells (ZG H) 142)).alloc (Obj.cells (ZF B) 160)).alloc (Obj.cells (ZG (List.replicate 8 0)) 142)) (w.heap.size+2) 142 (List.replicate 8 0):=by
    have:=heap_alloc_last ((w.alloc (Obj.cells (ZG H) 142)).alloc (Obj.cells (ZF B) 160)) (Obj.cells (ZG (List.replicate 8 0)) 142);simpa [Yu] using this
  have hW:Below w.heap.size w (((w.alloc (Obj.cells (ZG H) 142)).alloc (Obj.cells (ZF B) 160)).alloc (Obj.cells (ZG (List.replicate 8 0)) 142)):=
    (((Below.refl w.heap.size w).alloc (by simp) _).alloc (by simp) _).alloc (by simp; omega) _
  have hS:(((w.alloc (Obj.cells (ZG H) 142)).alloc (Obj.cells (ZF B) 160)).alloc (Obj.cells (ZG (List.replicate 8 0)) 142)).heap.size=w.heap.size+3:=by simp
  change Code.wp _ _ _ _ (((w.alloc (Obj.cells (ZG H) 142)).alloc (Obj.cells (ZF B) 160)).alloc (Obj.cells (ZG (List.replicate 8 0)) 142));generalize ((w.alloc (Obj.cells (ZG H) 142)).alloc (Obj.cells (ZF B) 160)).alloc (Obj.cells (ZG (List.replicate 8 0)) 142)=W at *
  apply wp_region_lit;apply wpList_load_row (ty:=160) (x:=.tmp 3) (g:=w.heap.size+1) (t:=160) (cs:=ZF B) (fr:=(0,0)) (d:=.array 64 5)
  case hgd=>rfl
  case ho=>rfl
  case hx=>rfl
  case hg=>exact hC
  case hu=>kernel_rfl
  case hd=>rfl
  case hi=>rw[jG]; kernel_rfl
  refine wpList_plain rfl (fun K hK=>?_);go_simp;refine(sO B W hB h8).mono ?_;rintro e W1 ⟨rfl,hb1⟩;apply hK;clear hK K;have hA1:=hA.below (by omega) hb1;have hD1:=hD.below (by omega) hb1;have hW1:Below w.heap.size w W1:=hW.trans (hb1.mono (by omega));have hS1:w.heap.size+3<=W1.heap.size:=by have:=hb1.size; omega
  clear hA hC hD hW hb1 hS W;generalize yR:more (words B 16) 48=WW at *
  have Jf:Hid (∀ n,n=48->more (words B 16) n=WW):=Z9 (fun n hn=>by rw[hn]; exact yR);have lW:WW.length=64:=by rw[<- yR,Qw,WA]
  clear yR;have yQ:(ZG WW).size=64:=by simp[lW]
  refine Zy rfl (some 5) rfl (Z5 W1.heap.size 0) (W1.alloc (.cells (List.replicate 64 (.int .u32 0)).toArray 166)) (by kernel_rfl) ?_;apply Yf (w:=W1) (ty:=166) (x:=.tmp 5) (y:=.tmp 22) (c:=(List.replicate 64 (.int .u32 0)).toArray) (c':=ZG WW)
  case hgd=>rfl
  case ho=>rfl
  case hx=>rfl
  case hy=>rfl
  case hi=>rw[yQ]; kernel_rfl
  case hz=>rw[yQ]; kernel_rfl
  case h1=>exact Vm _
  apply wpList_nil;have RA:=hA1.alloc (.cells (ZG WW) 166);have RD:=hD1.alloc (.cells (ZG WW) 166);have RK:Yu (W1.alloc (.cells (ZG WW) 166)) W1.heap.size 166 WW:=heap_alloc_last _ _;have RW:Below w.heap.size w (W1.alloc (.cells (ZG WW) 166)):=hW1.alloc hW1.size _;clear hA1 hD1 hW1;generalize W1.alloc (.cells (ZG WW) 166)=W at *
  generalize W1.heap.size=gw at *
  clear W1;obtain⟨a0,b0,c0,d0,e0,f0,g0,p0,hH8⟩:=eight H hH;have x0:=RA.cell 0 (by omega);have x1:=RA.cell 1 (by omega);have x2:=RA.cell 2 (by omega);have x3:=RA.cell 3 (by omega);have x4:=RA.cell 4 (by omega);have x5:=RA.cell 5 (by omega);have x6:=RA.cell 6 (by omega);have x7:=RA.cell 7 (by omega);simp only[hH8,List.getD_cons_zero,List.getD_cons_succ] at x0 x1 x2 x3 x4 x5 x6 x7;have HH8:=Z9 hH8;clear hH8;go_upto_region 2 with fail
  go_quiet (fail)
  go_wp2_with fail
  replace RA:Yu (W.drewN nq) w.heap.size 142 H:=RA
  replace RD:Yu (W.drewN nq) (w.heap.size+2) 142 (List.replicate 8 0):=RD
  replace RK:Yu (W.drewN nq) gw 166 WW:=RK
  replace RW:Below w.heap.size w (W.drewN nq):=Below.drewN' RW nq
  clear x0 x1 x2 x3 x4 x5 x6 x7;generalize W.drewN nq=V at *
  clear W;go_loopg [6,7,8,9,10,11,12,13,39] 64 (fun g s6 s7 s8 s9 s10 s11 s12 s13 s39 wx=>∃ t:Nat,t<=64/\s39=Z8 t /\
    (∃ va vb vc vd ve vf vg vh,PL WW H t=[va,vb,vc,vd,ve,vf,vg,vh]/\s6=.int .u32 va/\s7=.int .u32 vb/\s8=.int .u32 vc/\s9=.int .u32 vd/\s10=.int .u32 ve/\s11=.int .u32 vf/\s12=.int .u32 vg/\s13=.int .u32 vh) /\
    Yu wx w.heap.size 142 H/\Yu wx (w.heap.size+2) 142 (List.replicate 8 0)/\Yu wx gw 166 WW/\Below w.heap.size w wx/\64-t=g)
  case atStart=>exact⟨0,by omega,by go_num,⟨a0,b0,c0,d0,e0,f0,g0,p0,HH8.out,rfl,rfl,rfl,rfl,rfl,rfl,rfl,rfl⟩,RA,RD,RK,RW,rfl⟩
  case round=>
    clear RA RD RK RW V;obtain⟨t,ht,rfl,⟨va,vb,vc,vd,ve,vf,vg,vh,hst,rfl,rfl,rfl,rfl,rfl,rfl,rfl,rfl⟩,TA,TD,TK,TW,hg3⟩:=hrel;by_cases hlt:t<64
    · have hGr:=hG.below hg2 TW;have xk:=hGr.cell t hlt;have xw:=TK.cell t (by omega);have HG:=Z9 hG;have QA:=Z9 TA;have QD:=Z9 TD;have QK:=Z9 TK;have QW:=Z9 TW;have HH:=Z9 hH;have HB:=Z9 hB;have H8:=Z9 h8;have LW:=Z9 lW;have HR:Hid (PL WW H (t+1)=sN va vb vc vd ve vf vg vh (ks.getD t 0) (WW.getD t 0)):=Z9 (by
        have:PL WW H (t+1)=rnd (PL WW H t) (ks.getD t 0) (WW.getD t 0):=rfl;rw[this,hst];rfl)
      clear hG hGr TA TD TK TW hH hB h8 lW jG yQ hst;generalize ks.getD t 0=kt at *
      generalize WW.getD t 0=wt at *
      go_upto_region 8 with fail
      go_quiet (first
        | (go_at_call_of 142 (Value.int IntKind.u64 6); exact Calls.quiet_of (aH3 ve 6 11 25 _ (by omega) (by omega) (by omega) (by omega) (by omega) (by omega))))
      replace QA:Hid (Yu (wr.drewN nq) w.heap.size 142 H):=QA
      replace QD:Hid (Yu (wr.drewN nq) (w.heap.size+2) 142 (List.replicate 8 0)):=QD
      replace QK:Hid (Yu (wr.drewN nq) gw 166 WW):=QK
      replace QW:Hid (Below w.heap.size w (wr.drewN nq)):=Z9 (Below.drewN' QW.out nq)
      clear xk xw;generalize wr.drewN nq=V at *
      clear wr;go_wp2_with (first
        | (go_at_call_of 142 (Value.int IntKind.u64 2); refine(wu va 2 13 22 _ (by omega) (by omega) (by omega) (by omega) (by omega) (by omega)).mono ?_; rintro e w' ⟨rfl,rfl⟩))
      have HE:=HR.out;unfold sN at HE;simp only at HE;go_roundg (64-(t+1))
      case measure=>omega
      case rel=>exact⟨t+1,by omega,by go_num,⟨_,_,_,_,_,_,_,_,HE,rfl,rfl,rfl,rfl,rfl,rfl,rfl,rfl⟩,QA.out,QD.out,QK.out,QW.out,rfl⟩
    · obtain rfl:t=64:=(by omega);clear hlt ht hg3;have l64:=JC WW H hH 64;have au:Hid (∀ n,n=64->PL WW H n=[va,vb,vc,vd,ve,vf,vg,vh]):=Z9 (fun n hn=>by rw[hn]; exact hst);clear hst TK l64;go_wp2_with fail;go_loopg [101] 8 (fun g s101 wx=>∃ i:Nat,i<=8/\s101=Z8 i/\Yu wx w.heap.size 142 (sums H [va,vb,vc,vd,ve,vf,vg,vh] i)/\Yu wx (w.heap.size+2) 142 (List.replicate 8 0)/\Below w.heap.size w wx/\8-i=g)
      case atStart=>exact⟨0,by omega,by go_num,TA,TD,TW,rfl⟩
      case round=>
        clear TA TD TW;obtain⟨i,hi4,rfl,UA,UD,UW,hg4⟩:=hrel;have lsu:=JB H [va,vb,vc,vd,ve,vf,vg,vh] hH i;by_cases hlt4:i<8
        · have x0:=UA.cell i (by omega);have xf:=UA.frozen i;rw[BK H _ i i (Nat.le_refl _)] at x0;have hix:(Instr.index 142 (.agg (ZG [va,vb,vc,vd,ve,vf,vg,vh])) (Z8 (i:Int))).run Tryz.prog wr=.ok (.int .u32 ([va,vb,vc,vd,ve,vf,vg,vh].getD i 0)) wr:=by
            refine Td 142 141 8 .i64 _ i _ wr (by kernel_rfl) hlt4 (by kernel_rfl) (by kernel_rfl) ?_;have hl8:i < [va,vb,vc,vd,ve,vf,vg,vh].length:=hlt4;simp only[ZG,List.getElem?_toArray,List.getElem?_map,List.getD,List.getElem?_eq_getElem hl8,Option.map_some,Option.getD_some]
          simp only[ZG,List.map_cons,List.map_nil] at hix;have HV:Hid (sums H [va,vb,vc,vd,ve,vf,vg,vh] (i+1)=(sums H [va,vb,vc,vd,ve,vf,vg,vh] i).set i ((H.getD i 0 + [va,vb,vc,vd,ve,vf,vg,vh].getD i 0) % 4294967296)):=Z9 rfl;have VA:=Z9 UA;have VD:=Z9 UD;have VW:=Z9 UW;have HH:=Z9 hH;have HB:=Z9 hB;have H8:=Z9 h8;have LW:=Z9 lW;have HG:=Z9 hG;clear UA UD UW hH hB h8 lsu lW jG yQ hG;generalize H.getD i 0=p at *
          generalize [va,vb,vc,vd,ve,vf,vg,vh].getD i 0=q at *
          go_wp2_with fail;have NA:=VA.out.set i ((p+q) % 4294967296);rw[<- HV.out] at NA;go_roundg (8-(i+1))
          case measure=>omega
          case rel=>exact⟨i+1,by omega,by go_num,NA,VD.out.far _ (by simp) _,VW.out.setCell (by simp) _,rfl⟩
        · obtain rfl:i=8:=(by omega);go_upto_region 17 with fail;have hq8:(ZG (sums H [va,vb,vc,vd,ve,vf,vg,vh] 8)).size=8:=(by simp[lsu]);have hblk:sums H [va,vb,vc,vd,ve,vf,vg,vh] 8=blk H B:=by
            unfold blk;rw[Jf.out 48 rfl,au.out 64 rfl]
          rw[hblk] at UA hq8;apply wp_region_lit;apply wpList_load_row (ty:=142) (x:=.tmp 2) (g:=w.heap.size) (t:=142) (cs:=ZG (blk H B)) (fr:=(0,0)) (d:=.array 8 141)
          case hgd=>rfl
          case ho=>rfl
          case hx=>rfl
          case hg=>exact UA
          case hu=>kernel_rfl
          case hd=>rfl
          case hi=>rw[hq8]; kernel_rfl
          apply Zt (ty:=142) (x:=.tmp 4) (y:=.tmp 112) (g:=w.heap.size+2) (c:=ZG (List.replicate 8 0)) (c':=ZG (blk H B))
          case hgd=>rfl
          case ho=>rfl
          case hx=>rfl
          case hy=>rfl
          case hg=>exact UD
          case hi=>rw[hq8]; kernel_rfl
          case hz=>rw[hq8]; rfl
          case h1=>exact Vm _
          apply wpList_nil;go_wp2_with fail;refine bodyPost_ret (v:=.agg (ZG (blk H B))) ?_ rfl ⟨rfl,ZU UW (by omega) _⟩;refine results_cell_row (fn:=Tryz.f120) (p:=4) (ty:=142) rfl _ _ (w.heap.size+2) 142 (ZG (blk H B)) (0,0) (.array 8 141) rfl (setRow_heap _ _ _ _ _ _ UD) ?_ rfl ?_
          · kernel_rfl
          · rw[hq8]; kernel_rfl
def pad (n:Nat):List Int:=[128]++List.replicate (zeros n) 0++Yo ((n:Int)*8 % 18446744073709551616)
theorem OT (L:List Int):padded L=L++pad L.length:=by simp[padded,pad]
theorem Rh (b:Int):(Yo b).length=8:=rfl
theorem Fp (n:Nat):(pad n).length=zeros n+9:=by simp[pad,Rh]
def fp (n:Nat):Nat->List Int
  | 0=>(List.replicate (zeros n+9) 0).set 0 128
  | i+1=>(fp n i).set (zeros n+8-i) ((n:Int)*8 / 2 ^ (8*i) % 256)
theorem ar5 (n i:Nat):(fp n i).length=zeros n+9:=by
  induction i with
  | zero=>simp[fp]
  | succ i ih=>simp[fp,ih]
theorem Qx (P Z:List Int)(z k j:Nat)(x:Int)(hP:P.length=z)(hj:j=z+k):(P++Z).set j x=P++Z.set k x:=by
  subst hP; subst hj;rw[List.set_append_right _ _ (by omega)];simp
theorem fp8 (n:Nat)(hn:n<=1000000):fp n 8=pad n:=by
  have h1:(List.replicate (zeros n+9) (0:Int)).set 0 128=(128::List.replicate (zeros n) 0)++[0,0,0,0,0,0,0,0]:=by
    rw[show zeros n+9=(zeros n+8)+1 by omega,List.replicate_succ,List.set_cons_zero,<- List.replicate_append_replicate];rfl
  have hP:(128::List.replicate (zeros n) (0:Int)).length=zeros n+1:=by simp
  have hb:(n:Int)*8 % 18446744073709551616=(n:Int)*8:=by omega
  simp only[fp,h1];rw[Qx _ _ _ 7 _ _ hP (by omega),Qx _ _ _ 6 _ _ hP (by omega),Qx _ _ _ 5 _ _ hP (by omega),Qx _ _ _ 4 _ _ hP (by omega),Qx _ _ _ 3 _ _ hP (by omega),Qx _ _ _ 2 _ _ hP (by omega),Qx _ _ _ 1 _ _ hP (by omega),Qx _ _ _ 0 _ _ hP (by omega)];simp only[List.set_cons_succ,List.set_cons_zero];unfold pad Yo;rw[hb];rfl
theorem Ab.cell {w:World}{g:Nat}{t:TypeId}{L:List Int}(h:Ab w g t L)(i:Nat)(hi:i<L.length):w.cell? ⟨g,i,none⟩=some (.int .u8 (L.getD i 0)):=by
  rw[cell_of_row w g i _ t (0,0) h];simp[ZF,hi]
theorem Ab.frozen {w:World}{g:Nat}{t:TypeId}{L:List Int}(h:Ab w g t L)(i:Nat):w.frozen? ⟨g,i,none⟩=false:=frozen_of_row w g i _ t h
theorem Ab.set {w:World}{g:Nat}{t:TypeId}{L:List Int}(h:Ab w g t L)(i:Nat)(x:Int):Ab (w.setCell ⟨g,i,none⟩ (.int .u8 x)) g t (L.set i x):=by
  unfold Ab;rw[Joins.block_setCell h];simp[ZF]
theorem Ab.far {w:World}{g:Nat}{t:TypeId}{L:List Int}(h:Ab w g t L)(a:Addr)(hn:g≠a.block)(v:Value):Ab (w.setCell a v) g t L:=by
  unfold Ab;rw[heap_setCell_other w a g v hn];exact h
theorem af0 (x:Int)(m:Nat)(h:m<=64):Op.shift .shr .u64 x .i64 (m:Int)=(pure (Z7 (x / 2 ^ m)):Sem Value):=by
  rw[shift_shr .u64 .i64 x m (by omega) (by simp[IntKind.bits]; omega)]; simp
theorem ae9 (x:Int)(m:Nat)(h:m<=32):Op.shift .shr .u32 x .i64 (m:Int)=(pure (.int .u32 (x / 2 ^ m)):Sem Value):=by
  rw[shift_shr .u32 .i64 x m (by omega) (by simp[IntKind.bits]; omega)]; simp
theorem BO (n:Nat)(w:World)(hn:n<=1000000) :
    Calls Tryz.prog 121 #[Z8 n] w fun e w'=>∃ g m,e=.returned (.slice (some ⟨g,0,none⟩) m m)/\m=(pad n).length/\Ab w' g 5 (pad n)/\w.heap.size<=g/\Below w.heap.size w w':=by
  have hz:zeros n<=63:=by unfold zeros; omega
  have hmk:=run_make_row' (P:=Tryz.prog) 54 5 (.int .u8 0) 1 Tryz.underlying54 info5 rfl .i64 .i64 (zeros n+9) (by omega) (by omega);have hs:9 + -(((n:Int)+9) % 64) % 64=((zeros n+9:Nat):Int):=by unfold zeros; omega
  have hS:zeros n+9<=72:=by omega
  have hS1:9<=zeros n+9:=by omega
  have aH2:(List.replicate (zeros n+9) (0:Int)).set 0 128=fp n 0:=rfl;have hfl:=ar5 n;have HZ:Hid (∀ i,fp n (i+1)=(fp n i).set (zeros n+9-1-i) ((n:Int)*8 / 2 ^ (8*i) % 256)):=Z9 (fun i=>rfl);have HP:Hid ((pad n).length=zeros n+9):=Z9 (Fp n);generalize zeros n+9=S at *
  clear hz;go_enter Tryz.func121,Tryz.ntmps121;go_upto_region 4 with fail;have hm:Ab (w.alloc (.cells (madeCells #[.int .u8 0] S) 5)) w.heap.size 5 (List.replicate S 0):=by
    have:madeCells #[.int .u8 0] S=ZF (List.replicate S 0):=by
      apply Array.ext
      · simp[size_madeCells]
      · intro i h1 h2;simp[madeCells,ZF,Nat.mod_one]
    rw[this];exact heap_alloc_last _ _
  have hW:Below w.heap.size w (w.alloc (.cells (madeCells #[.int .u8 0] S) 5)):=(Below.refl _ _).alloc (by simp) _;generalize w.alloc (.cells (madeCells #[.int .u8 0] S) 5)=W at *
  have x0:=hm.cell 0 (by simp; omega);have xf:=hm.frozen 0;have hm2:=hm.set 0 128;rw[aH2] at hm2;have hW2:Below w.heap.size w (W.setCell ⟨w.heap.size,0,none⟩ (.int .u8 128)):=hW.setCell (by simp) _;have Hm2:=Z9 hm2;have HW2:=Z9 hW2;have iY:=Z9 hfl;clear hm hW aH2 hm2 hW2 hfl;go_wp2_with fail;generalize W.setCell ⟨w.heap.size,0,none⟩ (.int .u8 128)=V at *
  clear x0 xf W;go_loopg [22] 8 (fun g s22 wx=>∃ i:Nat,i<=8/\s22=Z8 i/\Ab wx w.heap.size 5 (fp n i)/\Below w.heap.size w wx/\8-i=g)
  case atStart=>exact⟨0,by omega,by go_num,Hm2.out,HW2.out,rfl⟩
  case round=>
    clear Hm2 HW2 V;obtain⟨i,hi,rfl,hA,hB,hg⟩:=hrel;by_cases hlt:i<8
    · have hl:=iY.out i;have xz:=hA.cell (S-1-i) (by omega);have xf:=hA.frozen (S-1-i);have HA:=Z9 hA;have HB:=Z9 hB;have HV:=Z9 (HZ.out i);clear hA hB hl;generalize (fp n i).getD (S-1-i) 0=z at *
      have hj:(S:Int)-1-(i:Int)=((S-1-i:Nat):Int):=(by omega);have hj1:((S-1-i:Nat):Int)<(S:Int):=(by omega);have hb8:8*(i:Int)=((8*i:Nat):Int):=(by omega);have hb64:8*i<=64:=(by omega);generalize S-1-i=j at *
      generalize hm:8*i=m at *
      have e1:=fun x=>af0 x m hb64;go_wp2_with fail;have NA:=HA.out.set j ((n:Int)*8 / 2 ^ m % 256);rw[<- HV.out,Int.mul_comm] at NA;go_roundg (8-(i+1))
      case measure=>omega
      case rel=>exact⟨i+1,by omega,by go_num,NA,HB.out.setCell (by simp) _,rfl⟩
    · obtain rfl:i=8:=(by omega);rw[fp8 n hn] at hA;have HA:=Z9 hA;have HB:=Z9 hB;clear hA hB;go_wp2_with fail;go_ret;exact⟨w.heap.size,S,rfl,HP.out.symm,HA.out,Nat.le_refl _,HB.out⟩
def XB (H Bl:List Int)(n:Nat):List Value:=H.map (Value.int .u32)++(Bl.map (Value.int .u8)++[Z8 n])
def P9 (w:World)(g:Nat)(H Bl:List Int)(n:Nat):Prop:=w.heap[g]?=some (.cells (XB H Bl n).toArray 162 (0,0))
theorem BP (H Bl:List Int)(n:Nat)(hH:H.length=8)(hB:Bl.length=64):(XB H Bl n).length=73:=by simp[XB,hH,hB]
theorem P9.lt {w:World}{g:Nat}{H Bl:List Int}{n:Nat}(h:P9 w g H Bl n):g<w.heap.size:=(Array.getElem?_eq_some_iff.1 h).1
theorem P9.length {w:World}{g:Nat}{H Bl:List Int}{n:Nat}(h:P9 w g H Bl n)(hH:H.length=8)(hB:Bl.length=64):w.cell? ⟨g,72,none⟩=some (Z8 n):=by
  rw[cell_of_row w g 72 _ 162 (0,0) h];simp only[XB,List.getElem?_toArray];rw[List.getElem?_append_right (by simp[hH]),List.getElem?_append_right (by simp[hH,hB])];simp[hH,hB]
theorem P9.frozen {w:World}{g:Nat}{H Bl:List Int}{n:Nat}(h:P9 w g H Bl n)(i:Nat):w.frozen? ⟨g,i,none⟩=false:=frozen_of_row w g i _ 162 h
theorem P9.jH {w:World}{g:Nat}{H Bl:List Int}{n:Nat}(h:P9 w g H Bl n)(hH:H.length=8)(hB:Bl.length=64)(m:Nat):P9 (w.setCell ⟨g,72,none⟩ (Z8 m)) g H Bl m:=by
  unfold P9;rw[Joins.block_setCell h];congr 2;simp only[XB];rw[<- List.append_assoc,<- List.append_assoc,List.setIfInBounds_toArray,List.set_append_right _ _ (by simp[hH,hB])];simp[hH,hB]
theorem P9.below {w w':World}{g B:Nat}{H Bl:List Int}{n:Nat}(h:P9 w g H Bl n)(hg:g<B)(hb:Below B w w'):P9 w' g H Bl n:=by
  unfold P9;rw[hb.block g hg];exact h
def z64:List Int:=List.replicate 64 0
theorem new_any (w:World)(hG:Glob w) :
    Calls Tryz.prog 89 #[] w fun e w'=>e=.returned (Z5 w.heap.size 0)/\w'=w.alloc (.cells (XB I7 z64 0).toArray 162):=by
  obtain⟨⟨t,fr,h0⟩,_⟩:=hG;go_enter Tryz.func89,Tryz.ntmps89;go_upto_region 1 with fail;apply wp_region_lit;apply wpList_load_row (ty:=142) (x:=.global 0) (g:=0) (t:=t) (cs:=ZG I7) (fr:=fr) (d:=.array 8 141)
  case hgd=>rfl
  case ho=>rfl
  case hx=>rfl
  case hg=>exact h0
  case hu=>kernel_rfl
  case hd=>rfl
  case hi=>kernel_rfl
  refine Zy rfl (some 2) rfl (.agg (XB I7 z64 0).toArray) w (by kernel_rfl) ?_;refine Zy rfl (some 3) rfl (Z5 w.heap.size 0) (w.alloc (.cells (XB I7 z64 0).toArray 162)) (by kernel_rfl) ?_;go_wp2_with fail;go_ret;exact⟨rfl,rfl⟩
theorem But.drewN {g:Nat}{w w':World}(h:But g w w')(n:Nat):But g w (w'.drewN n):=⟨Below.drewN' h.1 n,h.2⟩
theorem But.glob {g:Nat}{w w':World}(h:But g w w')(hg:0+3+1<=g)(hG:Glob w):Glob w':=hG.below hg h.1
def Off (a:Option Addr)(g:Nat):Prop:=∀ x,a=some x->x.block≠g
theorem Off.from {a:Option Addr}{g c k:Nat}(h:Off a g):Off (YJ a c k) g:=by
  intro x hx;unfold YJ at hx
  split at hx
  · exact h x hx
  · obtain⟨y,hy,rfl⟩:=Option.map_eq_some_iff.1 hx;exact fun e=>h y hy (by rw[<- e]; simp only[Addr.add]; split <;> rfl)
theorem But.sl {g:Nat}{w w':World}{a:Option Addr}{c:Nat}{L:List Int}(h:But g w w')(hs:Sl w a c L)(ho:Off a g):Sl w' a c L:=by
  rcases hs with hn | ⟨x,rfl,hx⟩
  · exact .inl hn
  · refine .inr ⟨x,rfl,fun k hk=>?_⟩;obtain⟨b,off,rfl,hc⟩:=hx k hk;refine⟨b,off,rfl,?_⟩;have hb:b<w.heap.size:=by
      by_cases hb:b<w.heap.size
      · exact hb
      · rw[World.cell?] at hc;simp[Array.getElem?_eq_none (show w.heap.size<=b by omega)] at hc
    rw[<- hc];unfold World.cell?;rw[h.2 b hb (ho _ rfl)]
def DM (w:World)(g:Nat)(M:List Int):Prop:=
  ∃ H Bl,P9 w g H Bl M.length/\H.length=8/\Bl.length=64/\(∀ x,x∈Bl->W8 x)/\H=states M (M.length / 64)/\Bl.take (M.length % 64)=M.drop (64*(M.length / 64))
theorem DM.lt {w:World}{g:Nat}{M:List Int}(h:DM w g M):g<w.heap.size:=by
  obtain⟨_,_,h,_⟩:=h;exact h.lt
theorem DM.below {w w':World}{g B:Nat}{M:List Int}(h:DM w g M)(hg:g<B)(hb:Below B w w'):DM w' g M:=by
  obtain⟨H,Bl,h,r⟩:=h;exact⟨H,Bl,h.below hg hb,r⟩
theorem DM.new (w:World):DM (w.alloc (.cells (XB I7 z64 0).toArray 162)) w.heap.size []:=
  ⟨I7,z64,heap_alloc_last _ _,rfl,rfl,fun x hx=>by
    rw[List.eq_of_mem_replicate hx];exact⟨by omega,by omega⟩,rfl,rfl⟩
theorem JD (M X:List Int):∀ k,64*k<=M.length->states (M++X) k=states M k:=by
  intro k;induction k with
  | zero=>intro _; rfl
  | succ k ih=>
    intro h;simp only[states];rw[ih (by omega)];congr 1;rw[List.drop_append_of_le_length (by omega),List.take_append_of_le_length (by simp; omega)]
theorem sS (M X H Bl:List Int)(hH:H=states M (M.length / 64))(hB:Bl.length=64)(ht:Bl.take (M.length % 64)=M.drop (64*(M.length / 64)))(hx:M.length % 64+X.length=64) :
    blk H (Bl.take (M.length % 64)++(X++Bl.drop (M.length % 64+X.length)))=states (M++X) ((M++X).length / 64)/\(M++X).length % 64=0/\(M++X).drop (64*((M++X).length / 64))=[]:=by
  have hl:(M++X).length=64*(M.length / 64+1):=by simp; omega
  have hq:(M++X).length / 64=M.length / 64+1:=by omega
  refine⟨?_,by omega,?_⟩
  · rw[hq];simp only[states];rw[JD M X _ (by omega),<- hH];congr 1;have h1:Bl.drop (M.length % 64+X.length)=[]:=List.drop_eq_nil_of_le (by omega);rw[h1,List.append_nil,ht,List.drop_append_of_le_length (by omega)];rw[List.take_of_length_le];simp;omega
  · rw[hq,<- hl];exact List.drop_length
theorem sQ (M X H Bl:List Int)(hH:H=states M (M.length / 64))(ht:Bl.take (M.length % 64)=M.drop (64*(M.length / 64)))(hx:M.length % 64+X.length<64) :
    H=states (M++X) ((M++X).length / 64)/\(Bl.take (M.length % 64)++(X++Bl.drop (M.length % 64+X.length))).take ((M++X).length % 64)=(M++X).drop (64*((M++X).length / 64)):=by
  have hl:(M++X).length=M.length+X.length:=by simp
  have hq:(M++X).length / 64=M.length / 64:=by omega
  have hr:(M++X).length % 64=M.length % 64+X.length:=by omega
  refine⟨?_,?_⟩
  · rw[hq,JD M X _ (by omega),hH]
  · rw[hq,hr,ht,List.drop_append_of_le_length (by omega),<- List.append_assoc];apply List.take_left';simp;omega
end Go.Proofs.YtfpnnmeblefkkaaGreatDoor
namespace Go.Proofs.YtfpnnmeblefkkaaGreatDoor
variable {P : Program} {C : World -> Prop}
theorem XV {id:Nat}{Q:Exit->Act->World->Prop}{a:Act}{w:World}{l:List Oper}(C:World->Prop)(n:Nat)(hm:P.follows .mixedOrders=true)(hB:Region.lexTailB .any l.toArray n=true)(hC:C { w with drawn:=w.drawn+1 })
    (h:wpQuiet P l.toArray C (fun a'=>∀ w',C w'->wpList P l.toArray Q (l.drop n) a' w') (l.take n) a):(Code.region id l.toArray true).wp P Q a w:=by
  simp only[Region.lexTailB,Bool.and_eq_true,decide_eq_true_eq] at hB;obtain⟨⟨⟨⟨hsel,hn⟩,hs⟩,hc⟩,hlex⟩:=hB;have hn':n<l.length:=by simpa using hn
  have htl:(l.take n).length=n:=by simp; omega
  have hdl:(l.drop n).length=l.toArray.size-n:=by simp
  have inv0:HeadInv .any l.toArray n (Array.replicate l.toArray.size false):=
    ⟨by simp,fun j oj _ hl=>(by rw[getD_replicate_false] at hl; cases hl),fun t _ ht=>getD_in (by simpa using ht) (getD_replicate_false _ _)⟩
  have H:=Hz (md:=.any) (g:=l.toArray.size-n) hsel hs hc hn (l.take n) 0 _ a (fun j hj=>by
    have hj':j<n:=(by rw[htl] at hj; exact hj);simp[hj']) (by simpa using htl) inv0 (by rw[htl]; exact hlex) h
  refine wp_region_any hm ?_;have:=Qu (Q':=Q) (g:=l.toArray.size-n) (fun listed a' w' hw' hL=>by
    have:=wpAny_of_seq (md:=.any) (Q':=Q) (l.drop n) n listed a' w' (fun j=>by simp[List.getElem?_drop]) (by rw[hdl]; exact hL.1) (hL.2 w' hw');rwa [hdl] at this) _ _ _ { w with drawn:=w.drawn+1 } hC H
  rw[htl,show n+(l.toArray.size-n)=l.toArray.size by omega] at this;exact this
theorem XW {ops:Array Oper}{Q:Act->Prop}{a:Act}{o:Oper}{rest:List Oper}(hgd:o.guard=none)(v:Value)(hr:∀ w,C w->(execOp a.eval o).run P w=.ok (.value v) w)
    (h:wpQuiet P ops C Q rest (a.put o.dst v)):wpQuiet P ops C Q (o::rest) a:=by
  have hw:Region.wanted o (yielded ops a.tmps)=true:=by simp[Region.wanted,hgd]
  unfold wpQuiet;rw[if_pos hw];refine⟨v,fun w hC=>?_,h⟩;unfold Oper.quietAt;rw[hr w hC];exact⟨rfl,rfl⟩
theorem BL {ops:Array Oper}{Q:Act->Prop}{a:Act}{o:Oper}{rest:List Oper}(hgd:o.guard=none)(f:FuncId)(args:Array Value)(v:Value)(hr:∀ w,C w->(execOp a.eval o).run P w=.ok (.enter f args) w)
    (hc:∀ w,C w->Calls P f args w (fun e w''=>e=.returned v/\C w'')) (h:wpQuiet P ops C Q rest (a.put o.dst v)):wpQuiet P ops C Q (o::rest) a:=by
  have hw:Region.wanted o (yielded ops a.tmps)=true:=by simp[Region.wanted,hgd]
  unfold wpQuiet;rw[if_pos hw];refine⟨v,fun w hC=>?_,h⟩;unfold Oper.quietAt;rw[hr w hC];exact⟨rfl,hc w hC⟩
end Go.Proofs.YtfpnnmeblefkkaaGreatDoor
namespace Go.Proofs.YtfpnnmeblefkkaaGreatDoor
open Go.RowKit
theorem yS (H Bl X:List Int)(n u:Nat)(hH:H.length=8)(hB:Bl.length=64)(hu:u+X.length<=64) :
    ((XB H Bl n).take (8+u)++(X.map (Value.int .u8)++(XB H Bl n).drop (8+u+X.length)))=XB H (Bl.take u++(X++Bl.drop (u+X.length))) n:=by
  have h8:(H.map (Value.int .u32)).length=8:=by simp[hH]
  simp only[XB];rw[List.take_append,List.drop_append,h8];rw[List.take_of_length_le (by omega),List.drop_eq_nil_of_le (by omega:(H.map (Value.int .u32)).length<=8+u+X.length)];rw[show 8+u-8=u by omega,show 8+u+X.length-8=u+X.length by omega];rw[List.take_append_of_le_length (by simp; omega),List.drop_append_of_le_length (by simp; omega)];simp[List.append_assoc]
theorem But.setCells {g:Nat}:∀ (vs:List Value) (o:Nat) (w:World),But g w (w.setCells g o vs)
  | [],_,w=>But.refl g w
  | v::r,o,w=>(But.setCell w o v).trans (But.setCells r (o+1) _)
theorem P9.jJ {w:World}{g:Nat}{H Bl:List Int}{n:Nat}(h:P9 w g H Bl n)(hH:H.length=8)(H':List Int)(hH':H'.length=8):P9 (w.setCells g 0 (ZG H').toList) g H' Bl n:=by
  obtain⟨a0,a1,a2,a3,a4,a5,a6,a7,rfl⟩:=eight H hH;obtain⟨b0,b1,b2,b3,b4,b5,b6,b7,rfl⟩:=eight H' hH';have e:(XB [a0,a1,a2,a3,a4,a5,a6,a7] Bl n)=.int .u32 a0::.int .u32 a1::.int .u32 a2::.int .u32 a3::.int .u32 a4::.int .u32 a5::.int .u32 a6::.int .u32 a7::(Bl.map (Value.int .u8)++[Z8 n]):=rfl;have e':(XB [b0,b1,b2,b3,b4,b5,b6,b7] Bl n)=.int .u32 b0::.int .u32 b1::.int .u32 b2::.int .u32 b3::.int .u32 b4::.int .u32 b5::.int .u32 b6::.int .u32 b7::(Bl.map (Value.int .u8)++[Z8 n]):=rfl;unfold P9 at h ⊢;rw[e] at h;rw[e'];simp only[List.map_cons,List.map_nil,World.setCells];have h0:=Joins.block_setCell h (i:=0) (v:=.int .u32 b0);have h1:=Joins.block_setCell h0 (i:=1) (v:=.int .u32 b1);have h2:=Joins.block_setCell h1 (i:=2) (v:=.int .u32 b2);have h3:=Joins.block_setCell h2 (i:=3) (v:=.int .u32 b3);have h4:=Joins.block_setCell h3 (i:=4) (v:=.int .u32 b4);have h5:=Joins.block_setCell h4 (i:=5) (v:=.int .u32 b5);have h6:=Joins.block_setCell h5 (i:=6) (v:=.int .u32 b6);have h7:=Joins.block_setCell h6 (i:=7) (v:=.int .u32 b7);simpa using h7
theorem P9.range {w:World}{g:Nat}{H Bl:List Int}{n:Nat}(h:P9 w g H Bl n):w.rangeAt g 0 (H.map (Value.int .u32)):=by
  intro j v hv;rw[cell_of_row w g _ _ 162 (0,0) h];have hj:=(List.getElem?_eq_some_iff.1 hv).1;simp only[XB,List.getElem?_toArray,Nat.zero_add];rw[List.getElem?_append_left hj];exact hv
theorem P9.ar1 {w:World}{g:Nat}{H Bl:List Int}{n:Nat}(h:P9 w g H Bl n)(hH:H.length=8):w.rangeAt g 8 (Bl.map (Value.int .u8)):=by
  intro j v hv;rw[cell_of_row w g _ _ 162 (0,0) h];have hj:=(List.getElem?_eq_some_iff.1 hv).1;simp only[XB,List.getElem?_toArray];rw[List.getElem?_append_right (by simp[hH]),List.getElem?_append_left (by simp[hH] at hj ⊢; omega)];simp only[List.length_map,hH];rw[show 8+j-8=j by omega];exact hv
theorem P9.there {w:World}{g:Nat}{H Bl:List Int}{n:Nat}(h:P9 w g H Bl n)(hH:H.length=8):w.there g 0 8:=by
  intro j hj;refine⟨?_,h.frozen _⟩;have:=h.range j (.int .u32 (H.getD j 0)) (by simp[List.getD,List.getElem?_eq_getElem (show j<H.length by omega)]);rw[this];rfl
theorem P9.but {w w':World}{g:Nat}{H Bl:List Int}{n:Nat}(h:P9 w g H Bl n)(hb:Below w.heap.size w w'):P9 w' g H Bl n:=h.below h.lt hb
theorem sV {w:World}{g:Nat}{H Bl:List Int}{n:Nat}(h:P9 w g H Bl n)(hH:H.length=8):(Instr.loadAt 142 (Z5 g 0)).run Tryz.prog w=.ok (.agg (ZG H)) w:=
  run_loadAt_mid w g 0 142 (H.map (Value.int .u32)) (.array 8 141) h.range (by kernel_rfl) rfl (by simp only[List.length_map,hH]; kernel_rfl)
theorem sU {w:World}{g:Nat}{H Bl:List Int}{n:Nat}(h:P9 w g H Bl n)(hH:H.length=8)(hB:Bl.length=64):(Instr.loadAt 160 (Z5 g 8)).run Tryz.prog w=.ok (.agg (ZF Bl)) w:=
  run_loadAt_mid w g 8 160 (Bl.map (Value.int .u8)) (.array 64 5) (h.ar1 hH) (by kernel_rfl) rfl (by simp only[List.length_map,hB]; kernel_rfl)
theorem BN (g u:Nat)(w:World)(hu:u<64):(Instr.sliceAt 160 (Z5 g 8) (some (Z8 (u:Int))) none none).run Tryz.prog w=.ok (.slice (some ⟨g,8+u,none⟩) (64-u) (64-u)) w:=by
  have h41:Tryz.prog.underlying 160=some (.array (Tryz.prog.arrayLen 160) (Tryz.prog.elem 160)):=by kernel_rfl
  have hl:Tryz.prog.arrayLen 160=64:=by kernel_rfl
  have hs:(sizeOf (Tryz.prog.elem 160)).run Tryz.prog w=.ok 1 w:=by kernel_rfl
  rw[run_sliceAt_array_l w 160 ⟨g,8,none⟩ h41 .i64 (u:Int) (by omega) (by rw[hl]; omega),hs,hl];simp only[Result.andThen,slicedAt,Int.toNat_natCast,Nat.mul_one];rw[if_neg (by omega),Addr.add_mid]
theorem JE {P:Program}{C:World->Prop}{ops:Array Oper}{Q:Act->Prop}{a:Act}{o:Oper}{rest:List Oper}(hgd:o.guard=none)(ty:TypeId)(x:Operand)(ho:o.op=.load ty x)(ad:Addr)(v:Value)
    (hx:a.eval x=.pointer (some ad)) (hl:∀ w,C w->(Instr.loadAt ty (.pointer (some ad))).run P w=.ok v w) (h:wpQuiet P ops C Q rest (a.put o.dst v)):wpQuiet P ops C Q (o::rest) a:=by
  refine XW hgd v (fun w hC=>?_) h;unfold execOp;simp only[ho,hx,Sem.run_bind,hl w hC];rfl
theorem RY {w:World}{ops:Array Oper}{rest:List Oper}{o:Oper}{a:Act}{Q:Exit->Act->World->Prop}(hgd:o.guard=none)(d s:Operand)
    (hop:o.op=.call { callee:=.builtin .copy,args:=#[d,s],argTypes:=#[54,54] }) (g u r c b off N m:Nat) (H Bl X B2:List Int)
    (hd:a.eval d=.slice (some ⟨g,8+u,none⟩) (64-u) (64-u)) (hs:a.eval s=.slice (some ⟨b,off,none⟩) r c) (hD:P9 w g H Bl N) (hH:H.length=8) (hB:Bl.length=64) (hXl:X.length=m)
    (hm:m=Nat.min r (64-u)) (hu:u+m<=64) (hsrc:∀ j v,(X.map (Value.int .u8))[j]?=some v->w.cell? ((⟨b,off,none⟩:Addr).add j)=some v)
    (hB2:B2=Bl.take u++(X++Bl.drop (u+X.length)))
    (h:∀ w',Hid (P9 w' g H B2 N)->Hid (But g w w')->wpList Tryz.prog ops Q rest (a.put o.dst (Z8 m)) w'):wpList Tryz.prog ops Q (o::rest) a w:=by
  subst hB2;have hl:(X.map (Value.int .u8)).length=m:=by rw[List.length_map,hXl]
  refine wpList_copy_own hgd d s 54 54 hop 5 Tryz.underlying54 (by kernel_rfl) g (8+u) (64-u) (64-u) ⟨b,off,none⟩ r c hd hs (XB H Bl N).toArray 162 hD (X.map (Value.int .u8)) (by rw[hl]; exact hm) hsrc
    (by rw[hl,List.size_toArray,BP H Bl N hH hB]; omega) (fun v hv=>by obtain⟨x,-,rfl⟩:=List.mem_map.1 hv; rfl) ?_
  have:=h (w.setRow g ((XB H Bl N).toArray.toList.take (8+u)++(X.map (Value.int .u8)++(XB H Bl N).toArray.toList.drop (8+u+(X.map (Value.int .u8)).length))).toArray) ?_ ?_
  · rw[hl] at this ⊢;exact this
  · refine Z9 ?_;have e:=yS H Bl X N u hH hB (by omega);rw[List.length_map];rw[show(XB H Bl N).toArray.toList=XB H Bl N from rfl,e];exact setRow_heap _ _ _ _ _ _ hD
  · exact Z9 (But.setRow _ _)
theorem write_any (g:Nat)(M L:List Int)(a:Option Addr)(c:Nat)(w:World)(hG:Glob w)(h2:0+3+1<=g)(hD:DM w g M)(hS:Sl w a c L)(ho:L≠[]->Off a g)(hc:L.length<=c)(h8:∀ x,x∈L->W8 x)(hn:M.length+L.length<=1000000) :
    Calls Tryz.prog 90 #[Z5 g 0,.slice a L.length c] w fun e w'=>e=.returned (.tuple #[])/\DM w' g (M++L)/\But g w w':=by
  go_enter Tryz.func90,Tryz.ntmps90;go_wp2_with fail;go_loopg [1] L.length (fun gg s1 wx=>∃ (k:Nat) (a':Option Addr) (c':Nat),k<=L.length/\s1=.slice a' (L.length-k) c'/\L.length-k<=c'/\(L.drop k≠[]->Off a' g)/\Sl wx a' c' (L.drop k)/\DM wx g (M++L.take k)/\But g w wx/\L.length-k=gg)
  case atStart=>exact⟨0,a,c,by omega,rfl,hc,by simpa using ho,hS,by simpa using hD,But.refl _ _,rfl⟩
  case round=>
    clear hD hS ho hc;obtain⟨k,a',c',hk,rfl,hc',ho',hS',⟨H,Bl,hd,hH,hB,hb8,hst,htk⟩,L9,hg⟩:=hrel;by_cases hlt:k<L.length
    · have hR:(L.drop k).length=L.length-k:=by simp
      replace ho':=ho' (fun e=>by rw[e] at hR; simp at hR; omega)
      have hN:(M++L.take k).length=M.length+k:=(by simp; omega);rw[hN] at hd hst htk;obtain⟨b,off,rfl,hbs,-⟩:=Oq hS' (k:=0) (by omega);obtain⟨m,hm⟩:∃ m,m=Nat.min (L.length-k) (64-(M.length+k) % 64):=⟨_,rfl⟩;have hm0:0<m/\m<=L.length-k/\(M.length+k) % 64+m<=64:=by
        have h1:m<=L.length-k:=(by rw[hm]; exact Nat.min_le_left _ _);have h2:m<=64-(M.length+k) % 64:=(by rw[hm]; exact Nat.min_le_right _ _);have h3:0<m:=(by rw[hm]; exact Nat.lt_min.2 ⟨by omega,by omega⟩);omega
      obtain⟨X,hX⟩:∃ X,X=(L.drop k).take m:=⟨_,rfl⟩;have hXl:X.length=m:=(by rw[hX]; simp; omega);have Wh:∀ x,x∈X->W8 x:=fun x hx=>h8 x (by rw[hX] at hx; exact List.mem_of_mem_drop (List.mem_of_mem_take hx));have hsrc:∀ j v,(X.map (Value.int .u8))[j]?=some v->wr.cell? ((⟨b,off,none⟩:Addr).add j)=some v:=by
        intro j v hv;rw[Addr.add_mid];have hj:j<X.length:=(by simpa using(List.getElem?_eq_some_iff.1 hv).1);have hj2:j<(L.drop k).length:=(by omega);obtain⟨b2,off2,e2,-,hc2⟩:=Oq hS' hj2;obtain⟨rfl,rfl⟩:b=b2/\off=off2:=(by simpa using e2);rw[hc2];have:v=.int .u8 (X.getD j 0):=by
          rw[List.getElem?_map,List.getElem?_eq_getElem hj,Option.map_some] at hv;rw[<- Option.some.inj hv];simp[List.getD,List.getElem?_eq_getElem hj]
        rw[this,hX];have q:((L.drop k).take m).getD j 0=(L.drop k).getD j 0:=by
          simp only[List.getD];rw[List.getElem?_take_of_lt (by omega)]
        rw[q]
      obtain⟨B2,hB2⟩:∃ B2,B2=Bl.take ((M.length+k) % 64)++(X++Bl.drop ((M.length+k) % 64+X.length)):=⟨_,rfl⟩;have aG7:B2.length=64:=(by rw[hB2]; simp; omega);have aG8:∀ x,x∈B2->W8 x:=by
        intro x hx;rw[hB2,List.mem_append,List.mem_append] at hx;rcases hx with hx | hx | hx
        · exact hb8 x (List.mem_of_mem_take hx)
        · exact Wh x hx
        · exact hb8 x (List.mem_of_mem_drop hx)
      have aG9:Hid ((M.length+k) % 64+m=64->blk H B2=states (M++L.take (k+m)) ((M++L.take (k+m)).length / 64)/\(M++L.take (k+m)).length % 64=0/\(M++L.take (k+m)).drop (64*((M++L.take (k+m)).length / 64))=[]):=Z9 (by
        intro hf;have e:M++L.take (k+m)=(M++L.take k)++X:=(by rw[hX,List.append_assoc,List.take_add]);have:=sS (M++L.take k) X H Bl (by rw[hN]; exact hst) hB (by rw[hN]; exact htk) (by rw[hN]; omega);rw[hN] at this;rw[e,hB2];exact this)
      have aH0:Hid (¬ (M.length+k) % 64+m=64->H=states (M++L.take (k+m)) ((M++L.take (k+m)).length / 64)/\B2.take ((M++L.take (k+m)).length % 64)=(M++L.take (k+m)).drop (64*((M++L.take (k+m)).length / 64))):=Z9 (by
        intro hf;have e:M++L.take (k+m)=(M++L.take k)++X:=(by rw[hX,List.append_assoc,List.take_add]);have:=sQ (M++L.take k) X H Bl (by rw[hN]; exact hst) (by rw[hN]; exact htk) (by rw[hN]; omega);rw[hN] at this;rw[e,hB2];exact this)
      have HLEN:Hid ((M++L.take (k+m)).length=M.length+k+m):=Z9 (by simp; omega);have xl:=hd.length hH hB;have HS':=Z9 hS';have HD:=Z9 hd;have HH:=Z9 hH;have HB:=Z9 hB;have Qr:=Z9 hb8;have HST:=Z9 hst;have HTK:=Z9 htk;have jI:=Z9 L9;have HX:=Z9 hX;have Ul:=Z9 Wh;have HXL:=Z9 hXl;have HB2:=Z9 hB2;have BM:=Z9 aG7;have ar2:=Z9 aG8;have aH1:=Z9 hsrc;have HN:=Z9 hN;have HM:=Z9 hm;have H8:=Z9 h8;have Ey:=Z9 hbs;have aQ2:(M.length+k) % 64<64:=(by omega);have hNb:M.length+k<=1000000:=(by omega);obtain⟨hm1,hm2,hm3⟩:=hm0;have hmL:m<=L.length-k:=hm2;clear hS' hd hH hB hb8 hst htk L9 hX Wh hXl hB2 aG7 aG8 hsrc hN hm h8 hbs hR;generalize hNN:M.length+k=N at *
      have HNN:=Z9 hNN;clear hNN;have eu:(N:Int) % 64=((N % 64:Nat):Int):=(by omega);generalize hu:N % 64=u at *
      have HU:=Z9 hu;clear hu;generalize hr:L.length-k=r at *
      have HR:=Z9 hr;clear hr;have hsl:=BN g u wr aQ2;subst hg;go_upto_region 3 with fail;have hms:∀ w,(Instr.slice 54 (.slice (some ⟨b,off,none⟩) r c') (some (Z8 (m:Int))) none none).run Tryz.prog w=.ok (.slice (YJ (some ⟨b,off,none⟩) c' m) (r-m) (c'-m)) w:=fun w=>VI .i64 _ r c' m w hm2;by_cases hfull:u+m=64
      · have hfi:(u:Int)+(m:Int)=64:=(by omega);go_wp2_with (with_reducible refine RY rfl (.tmp 20) (.tmp 21) rfl g u r c' b off N m H Bl X B2 rfl rfl HD.out HH.out HB.out HXL.out HM.out hm3 aH1.out HB2.out ?_; intro W1 HD1 HB1)
        have Bc:=(jI.out.trans HB1.out).glob h2 hG;clear xl;refine XV (C:=fun w'=>P9 w' g H B2 N/\But g W1 w') 12 (by kernel_rfl) (by kernel_rfl) ⟨HD1.out,(But.refl g W1).drewN 1⟩ ?_;simp only[List.take_succ_cons,List.take_zero,List.drop_succ_cons,List.drop_zero];refine XW rfl (Z5 g 0) (fun w' _=>by kernel_rfl) ?_;refine XW rfl (Z5 g 0) (fun w' _=>by kernel_rfl) ?_;refine XW rfl (Z5 g 0) (fun w' _=>by kernel_rfl) ?_;refine XW rfl (Z5 g 0) (fun w' _=>by kernel_rfl) ?_;refine JE rfl 142 (.tmp 30) rfl ⟨g,0,none⟩ (.agg (ZG H)) (by kernel_rfl) (fun w' hC=>sV hC.1 HH.out) ?_;refine XW rfl (Z5 g 0) (fun w' _=>by kernel_rfl) ?_;refine XW rfl (Z5 g 0) (fun w' _=>by kernel_rfl) ?_;refine XW rfl (Z5 g 8) (fun w' _=>by kernel_rfl) ?_;refine JE rfl 160 (.tmp 34) rfl ⟨g,8,none⟩ (.agg (ZF B2)) (by kernel_rfl) (fun w' hC=>sU hC.1 HH.out BM.out) ?_;refine BL rfl 120 #[.agg (ZG H),.agg (ZF B2)] (.agg (ZG (blk H B2))) (fun w' _=>by kernel_rfl)
          (fun w' hC=>(Fj H B2 w' HH.out BM.out ar2.out (hC.2.glob h2 Bc)).mono fun e w'' ⟨he,hb⟩=>⟨he,hC.1.but hb,hC.2.trans (But.of_below hb (Nat.le_of_lt hC.1.lt))⟩) ?_
        refine XW rfl (Z5 g 0) (fun w' _=>by kernel_rfl) ?_;refine XW rfl (Z5 g 0) (fun w' _=>by kernel_rfl) ?_;refine wpQuiet_nil ?_;intro w' hC;have hq8:(ZG (blk H B2)).size=8:=(by simp[NR H B2 HH.out]);apply wpList_store_mid (ty:=142) (x:=.tmp 38) (y:=.tmp 36) (b:=g) (o:=0) (cells:=ZG (blk H B2))
        case hgd=>rfl
        case ho=>rfl
        case hx=>kernel_rfl
        case hy=>kernel_rfl
        case ht=>rw[hq8]; exact hC.1.there HH.out
        case hi=>rw[hq8]; kernel_rfl
        case h1=>exact Vm _
        apply wpList_nil;have HD2:=hC.1.jJ HH.out (blk H B2) (NR H B2 HH.out);have ar4:=HB1.out.trans (hC.2.trans (But.setCells (g:=g) (ZG (blk H B2)).toList 0 w'));have hbl:=NR H B2 HH.out;generalize w'.setCells g 0 (ZG (blk H B2)).toList=W2 at *
        have xl1:=HD2.length hbl BM.out;have xf1:=HD2.frozen 72;have HD2:=Z9 HD2;have ar4:=Z9 ar4;have uY:=Z9 hbl;clear hq8 hC hbl;go_wp2_with fail;have HD3:=HD2.out.jH uY.out BM.out (N+m);rw[Int.natCast_add] at HD3;have HB3:=ar4.out.trans (But.setCell W2 72 (Z8 ((N:Int)+(m:Int))));have hr':=HR.out;go_roundg (L.length-(k+m))
        case measure=>omega
        case rel=>
          refine⟨k+m,YJ (some ⟨b,off,none⟩) c' m,c'-m,by omega,by rw[show L.length-(k+m)=r-m by omega],by omega,fun _=>ho'.from,?_,?_,jI.out.trans HB3,rfl⟩
          · have:=TY (HB3.sl HS'.out ho') m (by simp; omega);rw[List.drop_drop] at this;exact this
          · have hf:=aG9.out hfull;exact⟨blk H B2,B2,by rw[HLEN.out]; exact HD3,uY.out,BM.out,ar2.out,hf.1,by rw[hf.2.1,hf.2.2]; rfl⟩
      · have hfi:¬ (u:Int)+(m:Int)=64:=(by omega);go_wp2_with (with_reducible refine RY rfl (.tmp 20) (.tmp 21) rfl g u r c' b off N m H Bl X B2 rfl rfl HD.out HH.out HB.out HXL.out HM.out hm3 aH1.out HB2.out ?_; intro W1 HD1 HB1; have xl1:=HD1.out.length HH.out BM.out; have xf1:=HD1.out.frozen 72)
        have HD3:=HD1.out.jH HH.out BM.out (N+m);rw[Int.natCast_add] at HD3;have HB3:=HB1.out.trans (But.setCell W1 72 (Z8 ((N:Int)+(m:Int))));have hr':=HR.out;go_roundg (L.length-(k+m))
        case measure=>omega
        case rel=>
          refine⟨k+m,YJ (some ⟨b,off,none⟩) c' m,c'-m,by omega,by rw[show L.length-(k+m)=r-m by omega],by omega,fun _=>ho'.from,?_,?_,jI.out.trans HB3,rfl⟩
          · have:=TY (HB3.sl HS'.out ho') m (by simp; omega);rw[List.drop_drop] at this;exact this
          · have hf:=aH0.out hfull;exact⟨H,B2,by rw[HLEN.out]; exact HD3,HH.out,BM.out,ar2.out,hf.1,hf.2⟩
    · obtain rfl:k=L.length:=(by omega);rw[List.take_length] at hst hd htk;have hdm:DM wr g (M++L):=⟨H,Bl,hd,hH,hB,hb8,hst,htk⟩;have HDM:=Z9 hdm;have jI:=Z9 L9;clear hst hd htk hdm L9 hH hB hb8 hS' h8;go_wp2_with fail;exact end_none rfl rfl ⟨rfl,HDM.out,jI.out⟩
theorem WQ (L:List Int):(ZF L).all (·.oneCell')=true:=all_oneCell_toArray fun v hv=>by
  obtain⟨x,-,rfl⟩:=List.mem_map.1 hv;rfl
theorem jK (H Bl:List Int)(n:Nat):(XB H Bl n).toArray.all (·.oneCell')=true:=all_oneCell_toArray fun v hv=>by
  simp only[XB,List.mem_append,List.mem_map,List.mem_singleton] at hv;rcases hv with⟨x,-,rfl⟩ | ⟨x,-,rfl⟩ | rfl <;> rfl
theorem Ab.sl {w:World}{g t m:Nat}{L:List Int}(h:Ab w g t L):Sl w (some ⟨g,0,none⟩) m L:=
  .inr ⟨_,rfl,fun k hk=>⟨g,0,rfl,by rw[Nat.zero_add]; exact h.cell k hk⟩⟩
theorem BQ (h:List Int)(k:Nat)(hk:k<32):(outs h k++List.replicate (32-k) 0).set k (Ri h k)=outs h (k+1)++List.replicate (32-(k+1)) 0:=by
  have:=Qa (outs h k) (Ri h k) (32-k) (32-(k+1)) (by omega);rw[Si] at this;rw[this,outs]
theorem RZ (n:Nat):∀ x,x∈pad n->W8 x:=by
  intro x hx;simp only[pad,List.mem_append,List.mem_replicate,Yo,List.mem_cons,List.not_mem_nil,or_false] at hx;unfold W8;omega
theorem sum_any (g:Nat)(M:List Int)(w:World)(hG:Glob w)(h2:0+3+1<=g)(hD:DM w g M)(hn:M.length<=500000) :
    Calls Tryz.prog 91 #[Z5 g 0] w fun e w'=>e=.returned (.agg (ZF (WO M)))/\Below w.heap.size w w':=by
  have hg:=hD.lt;obtain⟨H,Bl,hd,hH,hB,hb8,hst,htk⟩:=hD;have ay:=BP H Bl M.length hH hB;go_enter Tryz.func91,Tryz.ntmps91;go_upto_region 3 with fail;have hb0:Below w.heap.size w (w.alloc (.cells (ZF (List.replicate 32 0)) 50)):=(Below.refl _ _).alloc (by simp) _;have hA0:Ab (w.alloc (.cells (ZF (List.replicate 32 0)) 50)) w.heap.size 50 (List.replicate 32 0):=heap_alloc_last _ _;have hd0:=hd.below hg hb0;have hs0:(w.alloc (.cells (ZF (List.replicate 32 0)) 50)).heap.size=w.heap.size+1:=by simp
  change Code.wp _ _ _ _ (w.alloc (.cells (ZF (List.replicate 32 0)) 50));generalize w.alloc (.cells (ZF (List.replicate 32 0)) 50)=W at *
  apply wp_region_lit;refine wpList_plain rfl (fun K hK=>?_);go_simp;apply hK;clear hK K;refine wpList_plain rfl (fun K hK=>?_);go_simp;apply hK;clear hK K;apply wpList_load_row (ty:=162) (x:=.tmp 12) (g:=g) (t:=162) (cs:=(XB H Bl M.length).toArray) (fr:=(0,0)) (hu:=Tryz.underlying162)
  case hgd=>rfl
  case ho=>rfl
  case hx=>kernel_rfl
  case hg=>exact hd0
  case hd=>rfl
  case hi=>rw[List.size_toArray,ay]; kernel_rfl
  refine Zy rfl (some 3) rfl (Z5 W.heap.size 0) (W.alloc (.cells (XB (List.replicate 8 0) z64 0).toArray 162)) (by kernel_rfl) ?_;apply Yf (w:=W) (ty:=162) (x:=.tmp 3) (y:=.tmp 13) (c:=(XB (List.replicate 8 0) z64 0).toArray) (c':=(XB H Bl M.length).toArray)
  case hgd=>rfl
  case ho=>rfl
  case hx=>kernel_rfl
  case hy=>kernel_rfl
  case hi=>rw[List.size_toArray,ay]; kernel_rfl
  case hz=>rw[List.size_toArray,List.size_toArray,ay]; rfl
  case h1=>exact jK _ _ _
  apply wpList_nil;have hD1:P9 (W.alloc (.cells (XB H Bl M.length).toArray 162)) W.heap.size H Bl M.length:=heap_alloc_last _ _;have hM1:DM (W.alloc (.cells (XB H Bl M.length).toArray 162)) W.heap.size M:=⟨H,Bl,hD1,hH,hB,hb8,hst,htk⟩;have hA1:Ab (W.alloc (.cells (XB H Bl M.length).toArray 162)) w.heap.size 50 (List.replicate 32 0):=hA0.alloc _;have hd1:=hd0.below (by omega:g<W.heap.size) ((Below.refl W.heap.size W).alloc (Nat.le_refl _) (.cells (XB H Bl M.length).toArray 162));have hb1:Below w.heap.size w (W.alloc (.cells (XB H Bl M.length).toArray 162)):=hb0.alloc (by omega) _;have hs1:(W.alloc (.cells (XB H Bl M.length).toArray 162)).heap.size=w.heap.size+2:=by simp[hs0]
  rw[hs0] at hM1;simp only[hs0];clear hD1 hA0 hd0 hb0 hd;generalize W.alloc (.cells (XB H Bl M.length).toArray 162)=V at *
  clear hs0 W;have xl:=hd1.length hH hB;have qV:=hG.below h2 (hb1.mono (by omega):Below g w V);have HG:=Z9 qV;have HM1:=Z9 hM1;have HA1:=Z9 hA1;have HB1:=Z9 hb1;have HH:=Z9 hH;have HB:=Z9 hB;have RN:=Z9 hG;clear qV hM1 hA1 hb1 hst htk hb8 hH hB hG hd1 ay;generalize hN:M.length=N at *
  have HN:=Z9 hN;clear hN;have ae8:(pad N).length<=72:=by rw[Fp]; unfold zeros; omega
  have aG5:=Z9 ae8;clear ae8;go_upto_region 6 with (first
    | (go_at_call 121; refine(BO N _ (by omega)).mono ?_; rintro e w2 ⟨gp,plS,rfl,hpl,hpA,hpg,hpb⟩; have LP:=Z9 hpl; have HPA:=Z9 hpA; have HPB:=Z9 hpb; clear hpl hpA hpb)
    | (go_at_call 90; have hcw:=write_any (w.heap.size+1) M (pad N) (some ⟨gp,0,none⟩) plS w2 (HG.out.below (by omega) HPB.out) (by omega) (HM1.out.below (by omega) HPB.out) HPA.out.sl (fun _=>by intro x hx; cases hx; simp; omega) (by rw[LP.out]; exact Nat.le_refl _) (RZ N) (by have:=HN.out; have:=aG5.out; omega); rw[<- LP.out] at hcw; refine hcw.mono ?_; rintro e w3 ⟨rfl,hM3,hb3⟩; have HM3:=Z9 hM3; have HB3:=Z9 hb3; clear hM3 hb3 hcw))
  have hA3:Ab (w3.alloc (.cells (ZF (List.replicate 32 0)) 50)) w3.heap.size 50 (List.replicate 32 0):=heap_alloc_last _ _;have hW2:Below w.heap.size w w2:=HB1.out.trans (HPB.out.mono (by omega));have hW3:Below w.heap.size w w3:=hW2.trans (HB3.out.below (by omega));have hW4:Below w.heap.size w (w3.alloc (.cells (ZF (List.replicate 32 0)) 50)):=hW3.alloc hW3.size _;have hZ3:Ab w3 w.heap.size 50 (List.replicate 32 0):=by
    have h2':=HA1.out.below (by omega:w.heap.size<V.heap.size) HPB.out;unfold Ab at h2' ⊢;rw[HB3.out.2 _ (by have:=HPB.out.size; omega) (by omega)];exact h2'
  have hZ4:Ab (w3.alloc (.cells (ZF (List.replicate 32 0)) 50)) w.heap.size 50 (List.replicate 32 0):=hZ3.alloc _;obtain⟨H2,B2,hd2,hH2,hB2,-,hst2,-⟩:=HM3.out;rw[<- HN.out,<- OT] at hst2;have HST:=Z9 hst2;clear hst2;have hd4:=hd2.but ((Below.refl w3.heap.size w3).alloc (Nat.le_refl _) (.cells (ZF (List.replicate 32 0)) 50));have hne:w.heap.size<w3.heap.size:=hZ3.lt;change Code.wp _ _ _ _ (w3.alloc (.cells (ZF (List.replicate 32 0)) 50));clear hd2 hZ3 hW2 hW3 HM3 HB3 HPA HPB LP;generalize w3.alloc (.cells (ZF (List.replicate 32 0)) 50)=W4 at *
  generalize w3.heap.size=kb at *
  clear w3 w2;apply wp_region_lit;refine wpList_plain rfl (fun K hK=>?_);go_simp;apply hK;clear hK K;apply wpList_load_mid (ty:=142) (x:=.tmp 20) (b:=w.heap.size+1) (o:=0) (cs:=H2.map (Value.int .u32)) (d:=.array 8 141)
  case hgd=>rfl
  case ho=>rfl
  case hx=>kernel_rfl
  case hc=>exact hd4.range
  case hu=>kernel_rfl
  case hd=>rfl
  case hi=>rw[List.length_map,hH2]; kernel_rfl
  go_wp2_with fail;have HH2:=Z9 hH2;have aG6:∀ i,i<8->i<H2.length:=fun i hi=>by omega
  have aQ0:=Z9 aG6;clear hH2 aG6 hd4 hB2 xl;go_loopg [22] 8 (fun g s22 wx=>∃ i:Nat,i<=8/\s22=Z8 i/\Ab wx w.heap.size 50 (List.replicate 32 0)/\Ab wx kb 50 (outs H2 (4*i)++List.replicate (32-4*i) 0)/\Below w.heap.size w wx/\8-i=g)
  case atStart=>exact⟨0,by omega,by go_num,hZ4,hA3,hW4,rfl⟩
  case round=>
    clear hZ4 hA3 hW4 W4;obtain⟨i,hi,rfl,hZ,hA,hW,hgk⟩:=hrel;generalize wr=wR at *
    by_cases hlt:i<8
    · have hix:(Instr.index 142 (.agg (H2.map (Value.int .u32)).toArray) (Z8 (i:Int))).run Tryz.prog wR=.ok (.int .u32 (H2.getD i 0)) wR:=by
        refine Td 142 141 8 .i64 _ i _ wR (by kernel_rfl) hlt (by kernel_rfl) (by kernel_rfl) ?_;have:=aQ0.out i hlt;simp[List.getD,this]
      have HQ:Hid (∀ j,j<4->Ri H2 (4*i+j)=H2.getD i 0 / 2 ^ (24-8*j) % 256):=Z9 (fun j hj=>by
        unfold Ri;rw[show(4*i+j) / 4=i by omega,show 24-(4*i+j) % 4*8=24-8*j by omega])
      generalize H2.getD i 0=h at *
      go_wp2_with fail;go_loopg [26] 4 (fun g s26 wx=>∃ j:Nat,j<=4/\s26=Z8 j/\Ab wx w.heap.size 50 (List.replicate 32 0)/\Ab wx kb 50 (outs H2 (4*i+j)++List.replicate (32-(4*i+j)) 0)/\Below w.heap.size w wx/\4-j=g)
      case atStart=>exact⟨0,by omega,by go_num,hZ,hA,hW,rfl⟩
      case round=>
        clear hZ hA hW hix wR;obtain⟨j,hj,rfl,hZ1,hA1,hW1,hgj⟩:=hrel;by_cases aQ1:j<4
        · have hl:(outs H2 (4*i+j)++List.replicate (32-(4*i+j)) 0).length=32:=(by simp[Si]; omega);have xz:=hA1.cell (4*i+j) (by omega);have xf:=hA1.frozen (4*i+j);have hset:=BQ H2 (4*i+j) (by omega);rw[HQ.out j aQ1] at hset;have aq9:=Z9 hset;have HZ1:=Z9 hZ1;have HA1:=Z9 hA1;have HW1:=Z9 hW1;clear hset hZ1 hA1 hW1 hl;generalize (outs H2 (4*i+j)++List.replicate (32-(4*i+j)) 0).getD (4*i+j) 0=z at *
          have hq:4*(i:Int)+(j:Int)=((4*i+j:Nat):Int):=(by omega);have hq1:((4*i+j:Nat):Int)<32:=(by omega);have hs:24-8*(j:Int)=((24-8*j:Nat):Int):=(by omega);have ar0:24-8*j<=32:=(by omega);have HJ:Hid (4*i+(j+1)=4*i+j+1):=Z9 rfl;generalize hqq:4*i+j=q at *
          have HQQ:=Z9 hqq;clear hqq;generalize hmm:24-8*j=m at *
          clear hmm;have e1:=fun x=>ae9 x m ar0;go_wp2_with fail;have NA:=HA1.out.set q (h / 2 ^ m % 256);rw[aq9.out] at NA;go_roundg (4-(j+1))
          case measure=>omega
          case rel=>exact⟨j+1,by omega,by go_num,HZ1.out.far _ (by simp; omega) _,by rw[HJ.out]; exact NA,HW1.out.setCell (by simp; omega) _,rfl⟩
        · obtain rfl:j=4:=(by omega);have HZ1:=Z9 hZ1;have HA1:=Z9 hA1;have HW1:=Z9 hW1;clear hZ1 hA1 hW1;go_wp2_with fail;go_roundg (8-(i+1))
          case measure=>omega
          case rel=>exact⟨i+1,by omega,by go_num,HZ1.out,HA1.out,HW1.out,rfl⟩
    · have hsh:outs H2 (4*i)++List.replicate (32-4*i) 0=WO M:=by
        rw[show 32-4*i=0 by omega,List.replicate_zero,List.append_nil];unfold WO;rw[<- HST.out];exact congrArg _ (by omega)
      obtain⟨S,hS⟩:∃ S,S=WO M:=⟨_,rfl⟩;have hl:S.length=32:=(by rw[hS]; exact Si _ _);rw[hsh,<- hS] at hA;have iM:=Z9 hS;have HZ:=Z9 hZ;have HA:=Z9 hA;have HW:=Z9 hW;have HL:=Z9 hl;clear hZ hA hW hl hsh hS;go_upto_region 15 with fail;have Qy:(ZF S).size=32:=(by simp[HL.out]);apply wp_region_lit;apply wpList_load_row (ty:=50) (x:=.tmp 4) (g:=kb) (t:=50) (cs:=ZF S) (fr:=(0,0)) (d:=.array 32 5)
      case hgd=>rfl
      case ho=>rfl
      case hx=>kernel_rfl
      case hg=>exact HA.out
      case hu=>kernel_rfl
      case hd=>rfl
      case hi=>rw[Qy]; kernel_rfl
      apply Zt (ty:=50) (x:=.tmp 2) (y:=.tmp 42) (g:=w.heap.size) (c:=ZF (List.replicate 32 0)) (c':=ZF S)
      case hgd=>rfl
      case ho=>rfl
      case hx=>kernel_rfl
      case hy=>kernel_rfl
      case hg=>exact HZ.out
      case hi=>rw[Qy]; kernel_rfl
      case hz=>rw[Qy]; rfl
      case h1=>exact WQ _
      apply wpList_nil;go_wp2_with fail;refine bodyPost_ret (v:=.agg (ZF S)) ?_ rfl ⟨by rw[iM.out],ZU HW.out (Nat.le_refl _) _⟩;refine results_cell_row (fn:=Tryz.f91) (p:=2) (ty:=50) rfl _ _ w.heap.size 50 (ZF S) (0,0) (.array 32 5) rfl (setRow_heap _ _ _ _ _ _ HZ.out) ?_ rfl ?_
      · kernel_rfl
      · rw[Qy]; kernel_rfl
theorem Sl.off {w:World}{a:Option Addr}{c g:Nat}{L:List Int}(h:Sl w a c L)(hg:w.heap.size<=g)(hL:L≠[]):Off a g:=by
  intro x hx;obtain⟨b,off,e,hb,-⟩:=Oq h (k:=0) (List.length_pos_iff.2 hL);rw[e] at hx;cases hx;simp;omega
theorem WY (L:List Int):(WO L).length=32:=Si _ _
theorem jL (L:List Int)(a:Option Addr)(c:Nat)(w:World)(hG:Glob w)(hS:Sl w a c L)(ho:L≠[]->Off a (w.heap.size+1))(hc:L.length<=c)(h8:∀ x,x∈L->W8 x)(hn:L.length<=400000) :
    Calls Tryz.prog 51 #[.slice a L.length c] w fun e w'=>e=.returned (.agg (ZF (WO L)))/\Below w.heap.size w w':=by
  have hg2:=hG.size;go_enter Tryz.func51,Tryz.ntmps51;go_upto_region 1 with fail;have hb0:Below w.heap.size w (w.alloc (.cells (ZF (List.replicate 32 0)) 50)):=(Below.refl _ _).alloc (by simp) _;have hA0:Ab (w.alloc (.cells (ZF (List.replicate 32 0)) 50)) w.heap.size 50 (List.replicate 32 0):=heap_alloc_last _ _;have hs0:(w.alloc (.cells (ZF (List.replicate 32 0)) 50)).heap.size=w.heap.size+1:=by simp
  change Code.wp _ _ _ _ (w.alloc (.cells (ZF (List.replicate 32 0)) 50));generalize w.alloc (.cells (ZF (List.replicate 32 0)) 50)=W at *
  have hGW:=hG.below hg2 hb0;have hN:=DM.new W;have hbN:Below W.heap.size W (W.alloc (.cells (XB I7 z64 0).toArray 162)):=(Below.refl _ _).alloc (Nat.le_refl _) _;have cN:=new_any W hGW;rw[hs0] at hN;generalize W.alloc (.cells (XB I7 z64 0).toArray 162)=V at *
  have hSV:Sl V a c L:=ZP hS (hb0.trans (hbN.mono (by omega)));have qV:=hGW.below (by omega) hbN;have cW:=write_any (w.heap.size+1) [] L a c V qV (by omega) hN hSV ho hc h8 (by simp; omega);have aA:=hA0.below (by omega) hbN;have HB0:=Z9 hb0;have HBN:=Z9 hbN;have HZV:=Z9 aA;have HGV:=Z9 qV;have IV:=Z9 hs0;rw[hs0] at cN;clear hb0 hA0 hGW hN hbN hSV qV aA h8 hS hG hs0;generalize hLL:L.length=n at *
  have HLL:=Z9 hLL;clear hLL;go_upto_region 3 with (first
    | (go_at_call 89; refine cN.mono ?_; rintro e w1 ⟨rfl,rfl⟩)
    | (go_at_call 90; refine cW.mono ?_; rintro e w2 ⟨rfl,hM2,hb2⟩))
  have hb3:Below w.heap.size w w2:=(HB0.out.trans (HBN.out.mono (by rw[IV.out]; omega))).trans (hb2.below (by omega));have hZ2:Ab w2 w.heap.size 50 (List.replicate 32 0):=by
    have h:=HZV.out;unfold Ab at h ⊢;rw[hb2.2 _ HZV.out.lt (by omega)];exact h
  have hG2:=hb2.glob (by omega) HGV.out;rw[List.nil_append] at hM2;have cS:=sum_any (w.heap.size+1) L w2 hG2 (by omega) hM2 (by rw[HLL.out]; omega);have hlt:=hZ2.lt;have Qy:(ZF (WO L)).size=32:=by simp[WY]
  apply wp_region_lit;refine wpList_plain rfl (fun K hK=>?_);go_simp;apply hK;clear hK K;refine wpList_plain rfl (fun K hK=>?_);go_simp;refine cS.mono ?_;rintro e w3 ⟨rfl,hb4⟩;apply hK;clear hK K;have hZ3:=hZ2.below hlt hb4;have hb5:=hb3.trans (hb4.mono (by omega));apply Zt (ty:=50) (x:=.tmp 2) (y:=.tmp 9) (g:=w.heap.size) (c:=ZF (List.replicate 32 0)) (c':=ZF (WO L))
  case hgd=>rfl
  case ho=>rfl
  case hx=>kernel_rfl
  case hy=>kernel_rfl
  case hg=>exact hZ3
  case hi=>rw[Qy]; kernel_rfl
  case hz=>rw[Qy]; rfl
  case h1=>exact WQ _
  apply wpList_nil;go_wp2_with fail;refine bodyPost_ret (v:=.agg (ZF (WO L))) ?_ rfl ⟨rfl,ZU hb5 (Nat.le_refl _) _⟩;refine results_cell_row (fn:=Tryz.f51) (p:=2) (ty:=50) rfl _ _ w.heap.size 50 (ZF (WO L)) (0,0) (.array 32 5) rfl (setRow_heap _ _ _ _ _ _ hZ3) ?_ rfl ?_
  · kernel_rfl
  · rw[Qy]; kernel_rfl
end Go.Proofs.YtfpnnmeblefkkaaGreatDoor
