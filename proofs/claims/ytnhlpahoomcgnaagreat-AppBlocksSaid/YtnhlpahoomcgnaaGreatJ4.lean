/-
  Texts joined.
-/
import Derived.Test.YtnhlpahoomcgnaaGreatJ3
import Derived.Laws.Tables
import Derived.Lib.SmallJoins
import Derived.Test.YtnhlpahoomcgnaaGreatJ2
set_option maxRecDepth 100000
set_option maxHeartbeats 8000000
set_option linter.unusedSimpArgs false
set_option linter.unusedVariables false
namespace Go.Proofs.YtnhlpahoomcgnaaGreat
open Go.RowKit
def XL (L:List Int):List Value:=L.map (Value.int .i64)
theorem IL (L:List Int)(k:Nat)(h:k<L.length):(XL L)[k]?=some (Z8 (L.getD k 0)):=by
  simp[XL,List.getD,List.getElem?_eq_getElem h]
theorem X8 {w:World}{t:TypeId}{a:Addr}{v:Value}(h:w.cell? a=some v)(hag:(isAgg t).run Tryz.prog w=.ok false w):(Instr.loadAt t (.pointer (some a))).run Tryz.prog w=.ok v w:=by
  simp[Instr.loadAt,Instr.sureAddr,loadVar,hag,run_load,h,Result.andThen]
def Bx (w:World)(g:Nat)(cs:Array Value)(t:Nat):Prop:=w.heap[g]?=some (.cells cs t (0,0))
theorem Bx.lt {w:World}{g t:Nat}{cs:Array Value}(h:Bx w g cs t):g<w.heap.size:=(Array.getElem?_eq_some_iff.1 h).1
theorem Bx.below {w w':World}{g t B:Nat}{cs:Array Value}(h:Bx w g cs t)(hg:g<B)(hb:Below B w w'):Bx w' g cs t:=(hb.block g hg).trans h
theorem Bx.load {w:World}{g t i:Nat}{cs:Array Value}{v:Value}{ty:TypeId}(h:Bx w g cs t)(hv:cs[i]?=some v)(hag:(isAgg ty).run Tryz.prog w=.ok false w):(Instr.loadAt ty (Z5 g i)).run Tryz.prog w=.ok v w:=
  X8 ((cell_of_row w g i _ t (0,0) h).trans hv) hag
theorem Bx.ZP {w:World}{g t:Nat}{cs:Array Value}(h:Bx w g cs t)(i:Nat){v:Value}{ty:TypeId}(hv:cs[i]?=some v:=by rfl)(hag:(isAgg ty).run Tryz.prog w=.ok false w:=by kernel_rfl):(Instr.loadAt ty (.pointer (some ⟨g,i,none⟩))).run Tryz.prog w=.ok v w:=h.load hv hag
theorem gY (b off n c k:Nat)(hk:k<n)(V:World)(ρ:Operand->Value)(o:Oper){x y:Operand}(ho:o.op=.indexAddr 22 x y)(hx:ρ x=.slice (some ⟨b,off,none⟩) n c)(hy:ρ y=Z8 k):(execOp ρ o).run Tryz.prog V=.ok (.value (Z5 b (off+k))) V:=by
  have hs:(sizeOf (Tryz.prog.elem 22)).run Tryz.prog V=.ok 1 V:=by kernel_rfl
  have hlm:(k:Int)<(n:Int):=by omega
  unfold execOp;simp only[ho,hx,hy];go_simp
theorem qP {w:World}{a:Option Addr}{L:List Int}(h:Cs w a (XL L)){k:Nat}(hk:k<L.length):∃ b off,a=some ⟨b,off,none⟩/\b<w.heap.size/\w.cell? ⟨b,off+k,none⟩=some (Z8 (L.getD k 0)):=h _ _ (IL L k hk)
theorem ZQ {w w0:World}{g B:Nat}(h:Below B w0 w)(hn:B<=g)(cs:Array Value):Below B w0 (w.setRow g cs):=
  ⟨h.os,h.tape,h.output,by rw[size_setRow]; exact h.size,fun k hk=>(setRow_other w g k cs (by omega)).trans (h.block k hk)⟩
def But (g:Nat)(w w':World):Prop:=Below g w w'/\∀ k,k<w.heap.size->k≠g->w'.heap[k]?=w.heap[k]?
theorem But.refl (g:Nat)(w:World):But g w w:=⟨Below.refl _ _,fun _ _ _=>rfl⟩
theorem But.trans {g:Nat}{a b c:World}(h:But g a b)(k:But g b c):But g a c:=
  ⟨h.1.trans k.1,fun i hi hn=>(k.2 i (by have:=h.1.size; omega) hn).trans (h.2 i hi hn)⟩
theorem But.of_below {g:Nat}{w w':World}(h:Below w.heap.size w w')(hg:g<=w.heap.size):But g w w':=⟨h.mono hg,fun k hk _=>h.block k hk⟩
theorem But.setRow {g:Nat}(w:World)(cs:Array Value):But g w (w.setRow g cs):=
  ⟨ZQ (Below.refl _ _) (Nat.le_refl _) cs,fun k _ hn=>setRow_other w g k cs hn⟩
theorem Bx.but {w w':World}{g k t:Nat}{cs:Array Value}(h:Bx w k cs t)(hb:But g w w')(hn:k≠g):Bx w' k cs t:=(hb.2 k h.lt hn).trans h
theorem Bx.set {w:World}{g t:Nat}{cs cs':Array Value}(h:Bx w g cs t):Bx (w.setRow g cs') g cs' t:=setRow_heap _ _ _ _ _ _ h
theorem Cs.but {w w':World}{g:Nat}{a:Option Addr}{cs:List Value}(h:Cs w a cs)(hb:But g w w')(hn:∀ x,a=some x->x.block≠g):Cs w' a cs:=fun j v hj=>by
  obtain⟨b,off,e,hlt,hc⟩:=h j v hj;refine⟨b,off,e,Nat.lt_of_lt_of_le hlt hb.1.size,?_⟩;rw[<- hc];unfold World.cell?;rw[hb.2 b hlt (hn _ e)]
theorem Zt {w w':World}{g B e size n:Nat}{v:Value}{xs:List Value}(h:w.ownsRow B e size v n xs)(hb:But g w w')(hn:g<B):w'.ownsRow B e size v n xs:=by
  refine⟨h.1,?_⟩;rcases h.2 with h0 | ⟨k,cap,cur,ev,hB,hg,r⟩
  · exact .inl h0
  · exact .inr ⟨k,cap,cur,ev,hB,(hb.2 k (Array.getElem?_eq_some_iff.1 hg).1 (by omega)).trans hg,r⟩
theorem VR {w:World}{g t i:Nat}{cs:Array Value}{v:Value}{ty:TypeId}(h:Bx w g cs t)(hi:i<cs.size)(h1:v.oneCell'=true)(hs:(Tryz.prog.info? ty).map (·.size)=some 1) :
    (Instr.storeAt ty (Z5 g i) v).run Tryz.prog w=.ok () (w.setCell ⟨g,i,none⟩ v):=by
  have hc:v.cells=#[v]:=by cases v <;> first | rfl | cases h1
  have hcell:w.cell? ⟨g,i,none⟩=some cs[i]:=by rw[cell_of_row w g i _ t (0,0) h]; simp[hi]
  have hfz:w.frozen? ⟨g,i,none⟩=false:=frozen_of_row w g i _ t h;have ha:(⟨g,i,none⟩:Addr).add 0=⟨g,i,none⟩:=by simp[Addr.add]
  cases hq:Tryz.prog.info? ty with
  | none=>simp[hq] at hs
  | some j=>
    have hs:j.size=1:=(by simpa [hq] using hs);simp[Instr.storeAt,Instr.sureAddr,storeVar,sizeOf,typeInfo,hq,hc,hs,storeCells,run_store _ _ _ _ _ h1,ha,hcell,hfz]
theorem But.setCell {g:Nat}(w:World)(o:Nat)(v:Value):But g w (w.setCell ⟨g,o,none⟩ v):=
  ⟨(Below.refl g w).setCell (Nat.le_refl _) v,fun k _ hn=>heap_setCell_other w _ k v hn⟩
theorem Bx.Bo {w:World}{g t i:Nat}{cs:Array Value}(h:Bx w g cs t)(v:Value):Bx (w.setCell ⟨g,i,none⟩ v) g (cs.setIfInBounds i v) t:=Joins.block_setCell h v
theorem Ya {w:World}{g t:Nat}{cs cs':Array Value}{ty:TypeId}(h:Bx w g cs t)(hz:cs.size=cs'.size)(h1:cs'.all (·.oneCell')=true)(hs:(Tryz.prog.info? ty).map (·.size)=some cs'.size) :
    (Instr.storeAt ty (Z5 g 0) (.agg cs')).run Tryz.prog w=.ok () (w.setRow g cs'):=by
  simp only[Instr.storeAt,Instr.sureAddr,Sem.run_bind,Sem.run_pure,Result.andThen_ok];exact run_storeVar_row w g t ty cs cs' h hs hz h1
section
variable {P : Program} {ops : Array Oper} {rest : List Oper} {o : Oper} {a : Act} {w : World} {Q : Exit -> Act -> World -> Prop} {i : Nat} {K : Act -> World -> Prop}
theorem Kq (hw:Region.wanted o (yielded ops a.tmps)=true)(hd:o.dst=none)(ty:TypeId)(x y:Operand)(ho:o.op=.store ty x y)(vx vy:Value)(hx:a.eval x=vx)(hy:a.eval y=vy)(w2:World)
    (hr:(Instr.storeAt ty vx vy).run P w=.ok () w2) (k:wpList P ops Q rest a w2):wpList P ops Q (o::rest) a w:=by
  apply wpList_step;intro K hK;rw[if_pos hw];unfold Oper.wp execOp;simp only[ho,hx,hy,Sem.run_bind,hr,Result.andThen_ok];show K (a.put o.dst undef) _;rw[hd];exact hK _ _ k
theorem Zu {ty:TypeId}{x y:Operand}(ho:o.op=.store ty x y){vx vy:Value}{w2:World}(hr:(Instr.storeAt ty vx vy).run P w=.ok () w2)(k:wpList P ops Q rest a w2)(hw:Region.wanted o (yielded ops a.tmps)=true:=by kernel_rfl)(hd:o.dst=none:=by kernel_rfl)(hx:a.eval x=vx:=by kernel_rfl)(hy:a.eval y=vy:=by kernel_rfl):wpList P ops Q (o::rest) a w:=Kq hw hd ty x y ho vx vy hx hy w2 hr k
theorem Zf (hi:ops[i]?=some o)(hw:Region.wanted o (yielded ops a.tmps)=true)(hd:o.dst=none)(ty:TypeId)(x y:Operand)(ho:o.op=.store ty x y)(vx vy:Value)(hx:a.eval x=vx)(hy:a.eval y=vy)(w2:World)
    (hr:(Instr.storeAt ty vx vy).run P w=.ok () w2) (h:K a w2):wpOp P ops Q i K a w:=by
  refine Fa hi hw ?_;unfold Oper.wp execOp;simp only[ho,hx,hy,Sem.run_bind,hr,Result.andThen_ok];show K (a.put o.dst undef) _;rw[hd];exact h
end
def pl (x n:Int):Int:=if x.tmod n<0 then x.tmod n+n else x.tmod n
theorem Ko (x n:Int)(hn:0<n):-n<x.tmod n/\x.tmod n<n:=by
  rcases Int.le_total 0 x with h | h
  · have h1:=Int.tmod_nonneg n h;have h2:=Int.tmod_lt_of_pos x hn;omega
  · have h1:=Int.tmod_nonneg n (show 0<=-x by omega);have h2:=Int.tmod_lt_of_pos (-x) hn;rw[Int.neg_tmod] at h1 h2;omega
theorem EY (x n:Int)(hn:0<n):0<=pl x n/\pl x n<n:=by
  have:=Ko x n hn;unfold pl
  split <;> omega
theorem gX {ρ:Operand->Value}{o:Oper}{x y:Operand}(ho:o.op=.binOp .rem 3 x y 3)(a b:Int)(hb:b≠0)(hx:ρ x=Z8 a)(hy:ρ y=Z8 b)(w:World) :
    (execOp ρ o).run Tryz.prog w=.ok (.value (Z8 (a.tmod b))) w:=by
  unfold execOp;simp only[ho,hx,hy];simp[hb,go_sem]
theorem nX (x n:Int)(w:World)(hn:0<n)(hn2:n<=1000000) :
    Calls Tryz.prog 35 #[Z8 x,Z8 n] w fun e w'=>e=.returned (Z8 (pl x n))/\w=w':=by
  have hr:=Ko x n hn;have hnz:¬ n=0:=by omega
  unfold pl;obtain⟨r,hr0⟩:=ZR (x.tmod n);have hw:IntKind.i64.wrap r=r:=by rw[IntKind.wrap_i64]; omega
  rw[hr0] at hr ⊢;have HR:=Z9 hr0;clear hr0;obtain⟨Q,hQ⟩:∃ Q,Q=if r<0 then r+n else r:=⟨_,rfl⟩
  rw[<- hQ];have HQ:=Z9 hQ;clear hQ;go_enter Tryz.func35,Tryz.ntmps35;go_upto_region 1 with fail;apply wp_region_lit;refine YH (by kernel_rfl) (some 5) rfl (Z8 x) (by kernel_rfl) ?_;simp only[pu1,pu2,Qe,Qd];refine YH (by kernel_rfl) (some 6) rfl (Z8 n) (by kernel_rfl) ?_;simp only[pu1,pu2,Qe,Qd];refine YH (by kernel_rfl) (some 7) rfl (Z8 (x.tmod n)) (gX rfl x n hnz (by kernel_rfl) (by kernel_rfl) w) ?_;rw[HR.out];simp only[pu1,pu2,Qe,Qd];refine YH (by kernel_rfl) (some 0) rfl (Z8 r) (by kernel_rfl) ?_;simp only[pu1,pu2,Qe,Qd];apply wpList_nil;by_cases h0:r<0
  · have hd:decide (r<0)=true:=decide_eq_true h0;have TG:Hid (Q=r+n):=Z9 (by rw[HQ.out,if_pos h0]);have hw3:IntKind.i64.wrap (r+n)=r+n:=(by rw[IntKind.wrap_i64]; omega);clear HQ HR;go_wp2_with fail;go_ret;exact⟨by rw[TG.out]; rfl,rfl⟩
  · have hd:decide (r<0)=false:=decide_eq_false h0;have TG:Hid (Q=r):=Z9 (by rw[HQ.out,if_neg h0]);clear HQ HR;go_wp2_with fail;go_ret;exact⟨by rw[TG.out]; rfl,rfl⟩
theorem gW (a:Option Addr)(n c:Nat)(w:World):Calls Tryz.prog 29 #[.slice a n c] w fun e w'=>e=.returned (Z5 w.heap.size 0)/\w'=w.alloc (.cells #[.slice a n c,Z8 0] 74):=by
  go_enter Tryz.func29,Tryz.ntmps29;go_upto_region 1 with fail;apply wp_region_lit;refine YH (by kernel_rfl) (some 3) rfl (.slice a n c) (by kernel_rfl) ?_;simp only[pu1,pu2,Qe,Qd];refine YH (by kernel_rfl) (some 4) rfl (.agg #[.slice a n c,Z8 0]) (by kernel_rfl) ?_;simp only[pu1,pu2,Qe,Qd];refine Zy rfl (some 5) rfl (Z5 w.heap.size 0) (w.alloc (.cells #[.slice a n c,Z8 0] 74)) (by kernel_rfl) ?_;simp only[pu1,pu2,Qe,Qd];refine YH (by kernel_rfl) (some 2) rfl (Z5 w.heap.size 0) (by kernel_rfl) ?_;simp only[pu1,pu2,Qe,Qd];apply wpList_nil;go_wp2_with fail;go_ret;exact⟨rfl,rfl⟩
theorem add_one {ρ:Operand->Value}{o:Oper}{x:Operand}(ho:o.op=.binOp .add 3 x (.const (Z8 1)) 3)(m:Nat)(hm:m<=1000000)(hx:ρ x=Z8 m)(w:World)(hρ:ρ (.const (Z8 1))=Z8 1:=by rfl):(execOp ρ o).run Tryz.prog w=.ok (.value (Z8 (m+1:Nat))) w:=by
  unfold execOp;simp only[ho,hx,hρ];simp[go_sem];rw[IntKind.wrap_i64];omega
theorem nV {ρ:Operand->Value}{o:Oper}{x y:Operand}(ho:o.op=.binOp .lss 3 x y 3)(a b:Nat)(hx:ρ x=Z8 a)(hy:ρ y=Z8 b)(w:World):(execOp ρ o).run Tryz.prog w=.ok (.value (.bool (decide (a<b)))) w:=by
  unfold execOp;simp only[ho,hx,hy];simp[go_sem]
theorem yR (g:Nat)(L:List Int)(a:Option Addr)(c N:Nat)(n:Int)(w:World)(hX:Bx w g #[.slice a L.length c,Z8 N] 74)(hL:Cs w a (XL L))(hl:L.length<=100000)(hN:N<=100000)(hn:0<n)(hn2:n<=1000000) :
    Calls Tryz.prog 18 #[Z5 g 0,Z8 n] w fun e w'=>e=.returned (Z8 (pl (L.getD N 0) n))/\But g w w'/\Bx w' g #[.slice a L.length c,Z8 (N+1:Nat)] 74:=by
  have CP:=fun x V=>nX x n V hn hn2;have tail:∀ (V:World) (x:Int),x=L.getD N 0->But g w V->Bx V g #[.slice a L.length c,Z8 N] 74->True:=fun _ _ _ _ _=>trivial;by_cases hlt:N<L.length
  · obtain⟨b,off,rfl,hb,hc⟩:=qP hL hlt;have hd:decide (N<L.length)=true:=decide_eq_true hlt;obtain⟨x,hx⟩:=ZR (L.getD N 0);rw[hx] at hc ⊢;generalize L.length=k at *
    clear hx hL tail;go_enter Tryz.func18,Tryz.ntmps18;go_upto_region 2 with fail;refine ZH (C:=fun w'=>Below w.heap.size w w') (by kernel_rfl) (by kernel_rfl) (Below.refl _ w).drew ?_;refine XU (Z5 g 0) (fun w' _=>by kernel_rfl)<|XU (Z5 g 0) (fun w' _=>by kernel_rfl)<|XU (Z5 g 1) (fun w' _=>by kernel_rfl) <|
      Vy rfl ⟨g,1,none⟩ (Z8 N) (fun w' hC=>(hX.below hX.lt hC).load rfl (by kernel_rfl))<|XU (Z5 g 0) (fun w' _=>by kernel_rfl)<|XU (Z5 g 0) (fun w' _=>by kernel_rfl)<|XU (Z5 g 0) (fun w' _=>by kernel_rfl) <|
      Vy rfl ⟨g,0,none⟩ (.slice (some ⟨b,off,none⟩) k c) (fun w' hC=>(hX.below hX.lt hC).load rfl (by kernel_rfl))<|XU (Z8 k) (fun w' _=>by kernel_rfl)<|XU (.bool (decide (N<k))) (fun w' _=>nV rfl N k (by kernel_rfl) (by kernel_rfl) w') ?_
    rw[hd];simp only[pu1,pu2,Qe,Qd];refine wpQuiet_nil ?_;intro V hV;have uG:=hX.below hX.lt hV;have hcV:=(hV.cell (p:=⟨b,off+N,none⟩) hb).trans hc;have hbV:=Nat.lt_of_lt_of_le hb hV.size;go_upto_region 3 with fail;refine ZH (C:=fun w'=>Below V.heap.size V w') (by kernel_rfl) (by kernel_rfl) (Below.refl _ V).drew ?_;refine XU (Z5 g 0) (fun w' _=>by kernel_rfl)<|XU (Z5 g 0) (fun w' _=>by kernel_rfl)<|XU (Z5 g 0) (fun w' _=>by kernel_rfl) <|
      Vy rfl ⟨g,0,none⟩ (.slice (some ⟨b,off,none⟩) k c) (fun w' hC=>(uG.below uG.lt hC).load rfl (by kernel_rfl))<|XU (Z5 g 0) (fun w' _=>by kernel_rfl)<|XU (Z5 g 0) (fun w' _=>by kernel_rfl) <|
      XU (Z5 g 1) (fun w' _=>by kernel_rfl)<|Vy rfl ⟨g,1,none⟩ (Z8 N) (fun w' hC=>(uG.below uG.lt hC).load rfl (by kernel_rfl))<|XU (Z5 b (off+N)) (fun w' _=>gY b off k c N hlt w' _ _ rfl (by kernel_rfl) (by kernel_rfl)) <|
      Vy rfl ⟨b,off+N,none⟩ (Z8 x) (fun w' hC=>X8 ((hC.cell (p:=⟨b,off+N,none⟩) hbV).trans hcV) (by kernel_rfl))<|XU (Z8 x) (fun w' _=>by kernel_rfl) ?_
    refine wpQuiet_nil ?_;intro V2 hV2;have hX2:=uG.below uG.lt hV2;have hB2:=hV.trans (hV2.mono hV.size);clear uG hcV hbV hV hV2 hc hb;go_upto_region 4 with fail;apply wp_region_lit;refine YH (by kernel_rfl) (some 26) rfl (Z5 g 0) (by kernel_rfl) ?_;simp only[pu1,pu2,Qe,Qd];refine YH (by kernel_rfl) (some 27) rfl (Z5 g 0) (by kernel_rfl) ?_;simp only[pu1,pu2,Qe,Qd];refine YH (by kernel_rfl) (some 28) rfl (Z5 g 1) (by kernel_rfl) ?_;simp only[pu1,pu2,Qe,Qd];refine Mc (by kernel_rfl) (some 29) rfl 3 (.tmp 28) rfl ⟨g,1,none⟩ (Z8 N) (by kernel_rfl) (hX2.load rfl (by kernel_rfl)) ?_;simp only[pu1,pu2,Qe,Qd];refine YH (by kernel_rfl) (some 30) rfl (Z8 (N+1:Nat)) (add_one rfl N (by omega) (by kernel_rfl) V2) ?_;simp only[pu1,pu2,Qe,Qd];refine YH (by kernel_rfl) (some 31) rfl (Z5 g 0) (by kernel_rfl) ?_;simp only[pu1,pu2,Qe,Qd];refine YH (by kernel_rfl) (some 32) rfl (Z5 g 1) (by kernel_rfl) ?_;simp only[pu1,pu2,Qe,Qd];refine Kq (by kernel_rfl) rfl 3 (.tmp 32) (.tmp 30) rfl (Z5 g 1) (Z8 (N+1:Nat)) (by kernel_rfl) (by kernel_rfl) _ (VR hX2 (by simp) rfl (by kernel_rfl)) ?_;apply wpList_nil;have Wj:Bx (V2.setCell ⟨g,1,none⟩ (Z8 (N+1:Nat))) g #[.slice (some ⟨b,off,none⟩) k c,Z8 (N+1:Nat)] 74:=hX2.Bo _;have hB3:=(But.of_below hB2 (Nat.le_of_lt hX.lt)).trans (But.setCell (g:=g) V2 1 (Z8 (N+1:Nat)));generalize V2.setCell ⟨g,1,none⟩ (Z8 (N+1:Nat))=V3 at *
    have XD:=Z9 Wj;have HB3:=Z9 hB3;clear hX2 hB2 Wj hB3 hX;go_wp2_with (go_at_call 35; refine(CP _ _).mono ?_; rintro e w9 ⟨rfl,rfl⟩)
    go_ret;exact⟨rfl,HB3.out,XD.out⟩
  · have hd:decide (N<L.length)=false:=decide_eq_false hlt;have hx:L.getD N 0=0:=(by simp[List.getD,List.getElem?_eq_none (show L.length<=N by omega)]);rw[hx];generalize L.length=k at *
    obtain⟨x,hx0⟩:∃ x:Int,x=0:=⟨_,rfl⟩;clear hx hL tail;go_enter Tryz.func18,Tryz.ntmps18;go_upto_region 2 with fail;refine ZH (C:=fun w'=>Below w.heap.size w w') (by kernel_rfl) (by kernel_rfl) (Below.refl _ w).drew ?_;refine XU (Z5 g 0) (fun w' _=>by kernel_rfl)<|XU (Z5 g 0) (fun w' _=>by kernel_rfl)<|XU (Z5 g 1) (fun w' _=>by kernel_rfl) <|
      Vy rfl ⟨g,1,none⟩ (Z8 N) (fun w' hC=>(hX.below hX.lt hC).load rfl (by kernel_rfl))<|XU (Z5 g 0) (fun w' _=>by kernel_rfl)<|XU (Z5 g 0) (fun w' _=>by kernel_rfl)<|XU (Z5 g 0) (fun w' _=>by kernel_rfl) <|
      Vy rfl ⟨g,0,none⟩ (.slice a k c) (fun w' hC=>(hX.below hX.lt hC).load rfl (by kernel_rfl))<|XU (Z8 k) (fun w' _=>by kernel_rfl)<|XU (.bool (decide (N<k))) (fun w' _=>nV rfl N k (by kernel_rfl) (by kernel_rfl) w') ?_
    rw[hd];simp only[pu1,pu2,Qe,Qd];refine wpQuiet_nil ?_;intro V2 hB2;have hX2:=hX.below hX.lt hB2;rw[<- hx0];go_upto_region 4 with fail;apply wp_region_lit;refine YH (by kernel_rfl) (some 26) rfl (Z5 g 0) (by kernel_rfl) ?_;simp only[pu1,pu2,Qe,Qd];refine YH (by kernel_rfl) (some 27) rfl (Z5 g 0) (by kernel_rfl) ?_;simp only[pu1,pu2,Qe,Qd];refine YH (by kernel_rfl) (some 28) rfl (Z5 g 1) (by kernel_rfl) ?_;simp only[pu1,pu2,Qe,Qd];refine Mc (by kernel_rfl) (some 29) rfl 3 (.tmp 28) rfl ⟨g,1,none⟩ (Z8 N) (by kernel_rfl) (hX2.load rfl (by kernel_rfl)) ?_;simp only[pu1,pu2,Qe,Qd];refine YH (by kernel_rfl) (some 30) rfl (Z8 (N+1:Nat)) (add_one rfl N (by omega) (by kernel_rfl) V2) ?_;simp only[pu1,pu2,Qe,Qd];refine YH (by kernel_rfl) (some 31) rfl (Z5 g 0) (by kernel_rfl) ?_;simp only[pu1,pu2,Qe,Qd];refine YH (by kernel_rfl) (some 32) rfl (Z5 g 1) (by kernel_rfl) ?_;simp only[pu1,pu2,Qe,Qd];refine Kq (by kernel_rfl) rfl 3 (.tmp 32) (.tmp 30) rfl (Z5 g 1) (Z8 (N+1:Nat)) (by kernel_rfl) (by kernel_rfl) _ (VR hX2 (by simp) rfl (by kernel_rfl)) ?_;apply wpList_nil;have Wj:Bx (V2.setCell ⟨g,1,none⟩ (Z8 (N+1:Nat))) g #[.slice a k c,Z8 (N+1:Nat)] 74:=hX2.Bo _;have hB3:=(But.of_below hB2 (Nat.le_of_lt hX.lt)).trans (But.setCell (g:=g) V2 1 (Z8 (N+1:Nat)));generalize V2.setCell ⟨g,1,none⟩ (Z8 (N+1:Nat))=V3 at *
    have XD:=Z9 Wj;have HB3:=Z9 hB3;clear hX2 hB2 Wj hB3 hX;go_wp2_with (go_at_call 35; refine(CP _ _).mono ?_; rintro e w9 ⟨rfl,rfl⟩)
    go_ret;exact⟨rfl,HB3.out,XD.out⟩
theorem gV (b off n c k:Nat)(hk:k<n)(V:World)(ρ:Operand->Value)(o:Oper){x y:Operand}(ho:o.op=.indexAddr 57 x y)(hx:ρ x=.slice (some ⟨b,off,none⟩) n c)(hy:ρ y=Z8 k):(execOp ρ o).run Tryz.prog V=.ok (.value (Z5 b (off+k))) V:=by
  have hs:(sizeOf (Tryz.prog.elem 57)).run Tryz.prog V=.ok 1 V:=by kernel_rfl
  have hlm:(k:Int)<(n:Int):=by omega
  unfold execOp;simp only[ho,hx,hy];go_simp
theorem az5:(Tryz.prog.info? 22).map (fun i=>(i.zero,i.size,i.bytes))=some (some (.slice none 0 0),1,24):=by kernel_rfl
theorem one_row (a:Option Addr)(n c:Nat)(w:World):(Instr.buildSlice 57 1 #[(0,.slice a n c)]).run Tryz.prog w=.ok (.slice (some ⟨w.heap.size,0,none⟩) 1 1) (w.alloc (.cells #[.slice a n c] 22)):=by
  obtain⟨i0,hi,hz0,hz1,hz2⟩:=info_parts az5;refine run_buildSlice w 57 22 1 _ #[.slice a n c] i0 _ Tryz.underlying57 hi hz0 (by rw[hz1]; omega) (by rw[hz1]; omega) ?_;rw[hz1];kernel_rfl
theorem ZF {ρ:Operand->Value}{o:Oper}{x y:Operand}(ho:o.op=.binOp .add 3 x y 3)(a b:Nat)(h:a+b<=9223372036854775807)(hx:ρ x=Z8 a)(hy:ρ y=Z8 b)(w:World):(execOp ρ o).run Tryz.prog w=.ok (.value (Z8 (a+b:Nat))) w:=by
  unfold execOp;simp only[ho,hx,hy];simp[go_sem];rw[IntKind.wrap_i64];omega
theorem LX (g:Nat)(a:Option Addr)(n c:Nat)(w:World)(hX:Bx w g #[.slice a n c] 22)(hn:n<=9223372036854775807):Calls Tryz.prog 6 #[.slice (some ⟨g,0,none⟩) 1 1] w fun e w'=>e=.returned (.bool (decide ((160:Int)<(n:Int))))/\w=w':=by
  have hl:(Instr.loadAt 22 (Z5 g 0)).run Tryz.prog w=.ok (.slice a n c) w:=hX.load rfl (by kernel_rfl);clear hX;go_enter Tryz.func6,Tryz.ntmps6;go_wp2_with fail;go_loopg [3,8] 1 (fun gg s3 s8 wx=>((s3=Z8 (0:Nat)/\s8=Z8 (0:Nat)/\gg=1)∨(s3=Z8 (n:Nat)/\s8=Z8 (1:Nat)/\gg=0))/\w=wx)
  case atStart=>exact⟨.inl ⟨rfl,rfl,rfl⟩,rfl⟩
  case round=>
    obtain⟨⟨rfl,rfl,rfl⟩ | ⟨rfl,rfl,rfl⟩,rfl⟩:=hrel
    · go_upto_region 4 with fail;apply wp_region_lit;refine YH (by kernel_rfl) (some 10) rfl (Z5 g 0) (gV g 0 1 1 0 (by omega) w _ _ rfl (by kernel_rfl) (by kernel_rfl)) ?_;simp only[pu1,pu2,Qe,Qd];refine Mc (by kernel_rfl) (some 11) rfl 22 (.tmp 10) rfl ⟨g,0,none⟩ (.slice a n c) (by kernel_rfl) (hl) ?_;simp only[pu1,pu2,Qe,Qd];refine YH (by kernel_rfl) (some 5) rfl (.slice a n c) (by kernel_rfl) ?_;simp only[pu1,pu2,Qe,Qd];apply wpList_nil;go_upto_region 5 with fail;apply wp_region_lit;refine YH (by kernel_rfl) (some 12) rfl (Z8 (0:Nat)) (by kernel_rfl) ?_;simp only[pu1,pu2,Qe,Qd];refine YH (by kernel_rfl) (some 13) rfl (.slice a n c) (by kernel_rfl) ?_;simp only[pu1,pu2,Qe,Qd];refine YH (by kernel_rfl) (some 14) rfl (Z8 n) (by kernel_rfl) ?_;simp only[pu1,pu2,Qe,Qd];refine YH (by kernel_rfl) (some 15) rfl (Z8 (0+n:Nat)) (ZF rfl 0 n (by omega) (by kernel_rfl) (by kernel_rfl) w) ?_;rw[Nat.zero_add];simp only[pu1,pu2,Qe,Qd];refine YH (by kernel_rfl) (some 3) rfl (Z8 n) (by kernel_rfl) ?_;simp only[pu1,pu2,Qe,Qd];apply wpList_nil;clear hl;go_wp2_with fail;go_roundg 0
      case measure=>omega
      case rel=>exact⟨.inr ⟨rfl,rfl,rfl⟩,rfl⟩
    · clear hl;go_wp2_with fail;go_ret;exact⟨rfl,rfl⟩
theorem oq {c0 c1:Int}{f1 f2 f3:Bool}(h:runN c0 c1 f1 f2 f3=4):((((240<=c0/\c0<245)/\f1=true)/\f2=true)/\f3=true)/\¬ ((c0=240/\c1<144)∨(c0=244/\144<=c1)):=by
 unfold runN at h
 split at h
 ·omega
 split at h
 ·omega
 split at h
 ·split at h <;> omega
 split at h
 ·rename_i h4
  split at h
  ·omega
  ·rename_i h5
   exact⟨h4,h5⟩
 ·omega
theorem pU {L:List Int}{i:Nat}(hb:∀ j,0<=L.getD j 0/\L.getD j 0<256)(h:runK L i≠0)(e:G6 L i=65533):runK L i=3:=by
 have h4:=GX L i;have g0:=hb i;have g1:=hb (i+1);rcases (show runK L i=1∨runK L i=2∨runK L i=3∨runK L i=4 by omega) with k | k | k | k
 ·unfold G6 at e;rw[k] at e;simp only[Gw,if_true] at e;omega
 ·unfold G6 at e;rw[k] at e;have e2:(L.getD i 0-192)*64+(L.getD (i+1) 0-128)=65533:=e;omega
 ·exact k
 ·have q:=oq k;have h1:=WO q.1.1.1.2;have h2:=WO q.1.1.2;have h3:=WO q.1.2;unfold G6 at e;rw[k] at e;have e2:(L.getD i 0-240)*262144+(L.getD (i+1) 0-128)*4096+(L.getD (i+2) 0-128)*64+(L.getD (i+3) 0-128)=65533:=e;omega
def runs (L:List Int)(i:Nat):Option Nat:=
 if h:i<L.length then (if runK L i=0 then none else (runs L (i+runK L i)).map (· + 1)) else some 0
termination_by L.length-i
decreasing_by omega
def Qg (c:Int):Bool:=(decide (97<=c) && decide (c<=122)) || (decide (48<=c) && decide (c<=57)) || decide (c=45)
def isName (L:List Int):Bool:=L.all Qg && (decide (1<=L.length) && decide (L.length<=20))
def XZ (L:List Int):Bool:=match runs L 0 with
 | none=>false
 | some n=>decide (n<=64)
theorem pq {L:List Int}{i:Nat}(h:i<L.length)(hb:Qg (L.getD i 0)=false):isName L=false:=by
 unfold isName;have:L.all Qg=false:=by
  rw[List.all_eq_false];exact⟨L.getD i 0,by rw[List.getD_eq_getElem?_getD,List.getElem?_eq_getElem h]; exact List.getElem_mem h,by rw[hb]; simp⟩
 rw[this];rfl
theorem yJ {L:List Int}(h:∀ j,j<L.length->Qg (L.getD j 0)=true):L.all Qg=true:=by
 rw[List.all_eq_true];intro x hx;obtain⟨j,hj,rfl⟩:=List.mem_iff_getElem.1 hx;have:=h j hj;rwa [List.getD_eq_getElem?_getD,List.getElem?_eq_getElem hj] at this
section
variable {ρ : Operand -> Value} {o : Oper} {x y : Operand}
theorem oh (s:ByteArray)(i:Nat)(h:i<s.size)(ho:o.op=.index 9 x y)(hx:ρ x=.string s)(hy:ρ y=Z8 i)(w:World):(execOp ρ o).run Tryz.prog w=.ok (.value (.int .u8 ((nums s).getD i 0))) w:=by
 unfold execOp;simp only[ho,hx,hy,Sem.run_bind,vT s i h w];rfl
theorem YQ (ho:o.op=.binOp .geq 5 x y 5)(a b:Int){t:Bool}(ht:decide (b<=a)=t)(hx:ρ x=.int .u8 a)(hy:ρ y=.int .u8 b)(w:World):(execOp ρ o).run Tryz.prog w=.ok (.value (.bool t)) w:=by
 rw[<- ht];unfold execOp;simp only[ho,hx,hy];go_simp
theorem WT (ho:o.op=.binOp .leq 5 x y 5)(a b:Int){t:Bool}(ht:decide (a<=b)=t)(hx:ρ x=.int .u8 a)(hy:ρ y=.int .u8 b)(w:World):(execOp ρ o).run Tryz.prog w=.ok (.value (.bool t)) w:=by
 rw[<- ht];unfold execOp;simp only[ho,hx,hy];go_simp
theorem Yh (ho:o.op=.binOp .lss 5 x y 5)(a b:Int){t:Bool}(ht:decide (a<b)=t)(hx:ρ x=.int .u8 a)(hy:ρ y=.int .u8 b)(w:World):(execOp ρ o).run Tryz.prog w=.ok (.value (.bool t)) w:=by
 rw[<- ht];unfold execOp;simp only[ho,hx,hy];go_simp
theorem XC (ho:o.op=.binOp .eql 5 x y 5)(a b:Int){t:Bool}(ht:decide (a=b)=t)(hx:ρ x=.int .u8 a)(hy:ρ y=.int .u8 b)(w:World):(execOp ρ o).run Tryz.prog w=.ok (.value (.bool t)) w:=by
 have e:(a == b)=t:=ht;unfold execOp;simp only[ho,hx,hy];go_simp
theorem UQ (ho:o.op=.binOp .geq 3 x y 3)(a b:Int){t:Bool}(ht:decide (b<=a)=t)(hx:ρ x=Z8 a)(hy:ρ y=Z8 b)(w:World):(execOp ρ o).run Tryz.prog w=.ok (.value (.bool t)) w:=by
 rw[<- ht];unfold execOp;simp only[ho,hx,hy];go_simp
theorem aa1 (ho:o.op=.binOp .leq 3 x y 3)(a b:Int){t:Bool}(ht:decide (a<=b)=t)(hx:ρ x=Z8 a)(hy:ρ y=Z8 b)(w:World):(execOp ρ o).run Tryz.prog w=.ok (.value (.bool t)) w:=by
 rw[<- ht];unfold execOp;simp only[ho,hx,hy];go_simp
theorem Zv (ho:o.op=.binOp .lss 3 x y 3)(a b:Int){t:Bool}(ht:decide (a<b)=t)(hx:ρ x=Z8 a)(hy:ρ y=Z8 b)(w:World):(execOp ρ o).run Tryz.prog w=.ok (.value (.bool t)) w:=by
 rw[<- ht];unfold execOp;simp only[ho,hx,hy];go_simp
end
def az4 (s:ByteArray)(i:Nat)(c:Int):Prop:=∀ (ρ:Operand->Value) (o:Oper) (x y:Operand),o.op=.index 9 x y->ρ x=.string s->ρ y=Z8 i->∀ w,(execOp ρ o).run Tryz.prog w=.ok (.value (.int .u8 c)) w
theorem Gv (s:ByteArray)(i:Nat)(h:i<s.size):az4 s i ((nums s).getD i 0):=fun ρ o x y ho hx hy w=>oh s i h ho hx hy w
end Go.Proofs.YtnhlpahoomcgnaaGreat
namespace Go.Proofs.YtnhlpahoomcgnaaGreat
attribute [local irreducible] wpList wpQuiet
open Go.RowKit
def msg (P:List Ze):List Int:=P.flatMap Ye
theorem TP (P Q:List Ze):msg (P++Q)=msg P++msg Q:=by simp[msg]
theorem oM (P:List Ze)(j:Nat):(msg (P.take j)).length<=(msg P).length:=by
 conv=>rhs; rw[<- List.take_append_drop j P,TP,List.length_append]
 omega
theorem Vd (num kind val:Int)(X:List Int):X.length<=(encI num kind val X).length:=by
 unfold encI;rw[List.length_append,List.length_append];omega
abbrev Xd (x:Ze)(b:Option Addr)(d:Nat):Array Value:=#[Z8 x.num,Z8 x.kind,Z4 x.val,.slice b x.bytes.length d]
theorem S9 {w:World}{g o:Nat}{x:Ze}{b:Option Addr}{d:Nat}(h:Box w g o x.num x.kind x.val b x.bytes.length d):w.rangeAt g o (Xd x b d).toList:=fun j v hj=>by
 obtain⟨h0,h1,h2,h3⟩:=h;have hj4:j<4:=by
  have:=(List.getElem?_eq_some_iff.1 hj).1;simpa using this
 rcases (show j=0∨j=1∨j=2∨j=3 by omega) with rfl | rfl | rfl | rfl
 ·simp at hj; rw[<- hj]; exact h0
 ·simp at hj; rw[<- hj]; exact h1
 ·simp at hj; rw[<- hj]; exact h2
 ·simp at hj; rw[<- hj]; exact h3
theorem RV {w:World}{g o:Nat}{x:Ze}{b:Option Addr}{d:Nat}(h:w.rangeAt g o (Xd x b d).toList):(Instr.loadAt 111 (Z5 g o)).run Tryz.prog w=.ok (.agg (Xd x b d)) w:=
 run_loadAt_mid w g o 111 _ _ h Tryz.underlying111 rfl (by kernel_rfl)
theorem Xr (b off n c k:Nat)(hk:k<n)(V:World)(ρ:Operand->Value)(o:Oper){x y:Operand}(ho:o.op=.indexAddr 106 x y)(hx:ρ x=.slice (some ⟨b,off,none⟩) n c)(hy:ρ y=Z8 k):(execOp ρ o).run Tryz.prog V=.ok (.value (Z5 b (off+k*4))) V:=by
 have hs:(sizeOf (Tryz.prog.elem 106)).run Tryz.prog V=.ok 4 V:=by kernel_rfl
 have hlm:(k:Int)<(n:Int):=by omega
 unfold execOp;simp only[ho,hx,hy];go_simp
theorem iH (x:Ze)(b:Option Addr)(d:Nat):(Xd x b d).all (·.oneCell')=true:=by simp[Value.oneCell']
theorem Hf (V:World)(x:Ze)(b:Option Addr)(d:Nat):∃ V2,(Instr.storeAt 111 (Z5 V.heap.size 0) (.agg (Xd x b d))).run Tryz.prog (V.alloc (.cells (Xd VJ none 0) 111))=.ok () V2/\Below V.heap.size V V2/\Bx V2 V.heap.size (Xd x b d) 111:=
 have hb:Bx (V.alloc (.cells (Xd VJ none 0) 111)) V.heap.size (Xd VJ none 0) 111:=heap_alloc_last V _
 ⟨_,Ya hb rfl (iH x b d) (by kernel_rfl),ZQ ((Below.refl _ V).alloc (Nat.le_refl _) _) (Nat.le_refl _) _,hb.set⟩
theorem OQ {w:World}{g t:Nat}{x:Ze}{b:Option Addr}{d:Nat}(h:Bx w g (Xd x b d) t):(Instr.loadAt 111 (Z5 g 0)).run Tryz.prog w=.ok (.agg (Xd x b d)) w:=
 RV fun j v hv=>by
  rw[cell_of_row w g _ _ _ (0,0) h];simpa using hv
theorem QY (a:Option Addr)(c:Nat)(P:List (Ze×Value))(w:World)(hF:Fs w a P)(hv:∀ p,p∈P->uF p.1.num p.1.kind p.1.val p.1.bytes.length/\W64 p.1.val)(hl:(msg (P.map Prod.fst)).length<=900000)(hn0:P.length<=100000) :
  Calls Tryz.prog 68 #[.slice a P.length c] w fun e w'=>∃ v,e=.returned v/\Own w' w.heap.size v (msg (P.map Prod.fst))/\Below w.heap.size w w':=by
 have HF:=Z9 hF;have HV:=Z9 hv;have HL:=Z9 hl;obtain⟨M,hM⟩:=ZR (P.map Prod.fst);have HM:=Z9 hM;have HPM:Hid (M.length=P.length):=Z9 (by rw[<- hM,List.length_map]);rw[hM] at HL ⊢;obtain⟨n,hn⟩:=ZR P.length;have HN:=Z9 hn;rw[hn] at hn0 HPM ⊢;clear hF hv hl hM hn;go_enter Tryz.func68,Tryz.ntmps68;go_upto_region 1 with fail;refine wl<|ZV (.slice none 0 0)<|wn ?_;simp only[pu];go_upto_region 2 with fail;refine wl<|Yr (.slice a n c) (Z8 n) (Z8 0)<|wn ?_;simp only[pu];go_wp2_with fail;go_loopg [3,8] n (fun gg s3 s8 wx=>∃ (j:Nat) (b:Option Addr) (k d:Nat),s3=.slice b k d/\s8=Z8 j/\j<=n/\Hid (Own wx w.heap.size (.slice b k d) (msg (M.take j)))/\Hid (Below w.heap.size w wx)/\n-j=gg)
 case atStart=>exact⟨0,none,0,0,rfl,rfl,by omega,Z9 (Own.nil _ _),Z9 (Below.refl _ _),by omega⟩
 case round=>
  obtain⟨j,b,k,d,rfl,rfl,hj,HO,HB,hg⟩:=hrel;by_cases hlt:j<n
  ·have HD:Hid (decide ((j:Int)<(n:Int))=true):=Z9 dT;have HG:Hid (n-(j+1)=gk-1/\0<gk/\j+1<=n):=Z9 ⟨by omega,by omega,by omega⟩;have hjP:j<P.length:=(by rw[HN.out]; exact hlt);obtain⟨b0,off,ba,bc,rfl,hp2,hsl,hbox⟩:=HF.out j P[j] (List.getElem?_eq_getElem hjP);have hva:=HV.out P[j] (List.getElem_mem hjP);have htk:msg (M.take (j+1))=msg (M.take j)++Ye P[j].1:=by
    rw[<- HM.out,List.take_succ_eq_append_getElem (by rw[List.length_map]; exact hjP),TP,List.getElem_map];simp[msg]
   have hle:=oM M (j+1);rw[htk,List.length_append] at hle;generalize P[j].1=x at *
   obtain⟨b2,d2,e2,hs2,hc2⟩:=HO.out.sl;simp only[Value.slice.injEq] at e2;obtain⟨rfl,rfl,rfl⟩:=e2;have hLD:=RV (S9 (hbox.below HB.out));obtain⟨V2,hst,hb2,hbx⟩:=Hf wr x ba bc;have hB2:=HB.out.trans (hb2.mono HB.out.size);have hll:=HL.out;have CF:=wB b d (msg (M.take j)) x.num x.kind x.val ba bc x.bytes V2 (by omega) (by have:=Vd x.num x.kind x.val x.bytes; unfold Ye at hle; omega) (ZK hs2 hb2) (ZK hsl hB2) hva.1 hva.2;have HTK:=Z9 htk;have HB2:=Z9 hB2;clear hp2 hsl hbox hva hle hs2 hc2 HO hB2 hll htk hjP hb2 HB hg;generalize msg (M.take j)=L at *
   go_upto_region 3 with fail;refine wl<|Yy ZW (Zv rfl j n HD.out)<|wn ?_;simp only[pu];go_upto_region 4 with fail;refine wl<|YG (Z5 b0 (off+j*4)) (Xr b0 off n c j hlt _ _ _ rfl (by kernel_rfl) (by kernel_rfl))<|ZL rfl ⟨b0,off+j*4,none⟩ (.agg (Xd x ba bc)) hLD ?_;refine Zy rfl (some 5) rfl (Z5 wr.heap.size 0) (wr.alloc (.cells (Xd VJ none 0) 111)) (by kernel_rfl) ?_;refine Zu rfl hst<|wn ?_;obtain⟨g5,hg5⟩:=ZR wr.heap.size;rw[hg5] at hbx ⊢;clear hst hg5 hLD;go_upto_region 5 with fail;refine wl<|ZV (.slice b L.length d)<|ZL rfl ⟨g5,0,none⟩ (.agg (Xd x ba bc)) (OQ hbx) <|
    Yi (fun v w'=>∃ u,v=.tuple #[u,Z8 0]/\Own w' V2.heap.size u (L++encI x.num x.kind x.val x.bytes)/\Below V2.heap.size V2 w') (CF.mono fun e w' q=>by obtain⟨u,he,h⟩:=q; exact⟨_,he,u,rfl,h⟩) (fun v V3 hq=>?_)
   obtain⟨u,rfl,hO3,hb3⟩:=hq;obtain⟨b3,d3,rfl,-,-⟩:=hO3.sl;refine WL (.tuple #[.slice b3 (L++encI x.num x.kind x.val x.bytes).length d3,Z8 0]) (.slice b3 (L++encI x.num x.kind x.val x.bytes).length d3) (Z8 0) (.slice b3 (L++encI x.num x.kind x.val x.bytes).length d3)<|wn ?_;simp only[pu];have HO3:=Z9 (hO3.base (HB2.out.size));have HB3:=Z9 (HB2.out.trans (hb3.mono HB2.out.size));clear hO3 hb3 hbx CF;go_upto_region 6 with fail;refine wl<|Yy (Z8 (j+1:Nat)) (ZF rfl j 1 (by omega))<|ZV (Z8 (j+1:Nat))<|wn ?_;simp only[pu];go_wp2_with fail;go_roundg (gk-1)
   case measure=>have:=HG.out; omega
   case rel=>exact⟨j+1,b3,_,d3,rfl,rfl,HG.out.2.2,Z9 (by rw[HTK.out]; exact HO3.out),HB3,HG.out.1⟩
  ·have HD:Hid (decide ((j:Int)<(n:Int))=false):=Z9 dF;have iG:=Z9 (by have:=HO.out; rwa [List.take_of_length_le (by rw[HPM.out]; omega)] at this:Own wr w.heap.size (.slice b k d) (msg M));clear HO hg;go_upto_region 3 with fail;refine wl<|Yy ZY (Zv rfl j n HD.out)<|wn ?_;simp only[pu];go_upto_region 7 with fail;refine wl<|ZA (.slice b k d) (.slice b k d)<|wn ?_;simp only[pu];go_wp2_with fail;go_ret;exact⟨_,rfl,iG.out,HB.out⟩
theorem PN (s:ByteArray)(k:Nat)(w:World):Calls Tryz.prog 127 #[.string s,Z8 k] w fun e w'=>e=.returned (.bool (MC (nums s) k))/\w=w':=by
 have Jq:=Z9 (fun(h:k<s.size)=>Gv s k h);have HV:Hid (MC (nums s) k=(decide (k<s.size) && (decide (128<=(nums s).getD k 0) && decide ((nums s).getD k 0<192)))):=Z9 (by unfold MC; rw[Zd]);generalize MC (nums s) k=t at *
 generalize (nums s).getD k 0=c at *
 obtain⟨n,hn⟩:=ZR s.size;rw[hn] at Jq HV;go_enter Tryz.func127,Tryz.ntmps127;go_upto_region 1 with fail;rcases (show n<=k∨(k<n/\c<128)∨(k<n/\128<=c/\c<192)∨(k<n/\192<=c) by omega) with hc | hc | hc | hc
 ·have H8:Hid (decide ((k:Int)<(n:Int))=false):=Z9 dF;have HE:Hid (t=false):=Z9 (by rw[HV.out]; rw[Bool.eq_false_iff]; simp only[ne_eq,Bool.and_eq_true,decide_eq_true_eq]; omega);clear Jq HV;refine wl<|ZA (Z8 k) (.string s)<|YG (Z8 n) (by rw[<- hn]; kernel_rfl)<|Yy ZY (Zv rfl k n H8.out)<|YW ZY undef undef undef undef ZY <|
   YW ZY undef undef undef undef ZY<|ZV ZY<|wn ?_
  simp only[pu];go_wp2_with fail;go_ret;rw[HE.out];exact⟨rfl,rfl⟩
 ·have H8:Hid (decide ((k:Int)<(n:Int))=true):=Z9 dT;have HE:Hid (t=false):=Z9 (by rw[HV.out]; rw[Bool.eq_false_iff]; simp only[ne_eq,Bool.and_eq_true,decide_eq_true_eq]; omega);have hix:=Jq.out hc.1;clear Jq HV;refine wl<|ZA (Z8 k) (.string s)<|YG (Z8 n) (by rw[<- hn]; kernel_rfl)<|Yy ZW (Zv rfl k n H8.out)<|Yr ZW (.string s) (Z8 k)<|YG (.int .u8 c) (hix _ _ _ _ rfl (by kernel_rfl) (by kernel_rfl) _) <|
   ZJ (YQ rfl c 128 dF)<|YW ZY ZY undef undef undef undef<|ZA ZY ZY<|wn ?_
  simp only[pu];go_wp2_with fail;go_ret;rw[HE.out];exact⟨rfl,rfl⟩
 ·have H8:Hid (decide ((k:Int)<(n:Int))=true):=Z9 dT;have HE:Hid (t=true):=Z9 (by rw[HV.out]; simp only[Bool.and_eq_true,decide_eq_true_eq]; omega);have hix:=Jq.out hc.1;clear Jq HV;refine wl<|ZA (Z8 k) (.string s)<|YG (Z8 n) (by rw[<- hn]; kernel_rfl)<|Yy ZW (Zv rfl k n H8.out)<|Yr ZW (.string s) (Z8 k)<|YG (.int .u8 c) (hix _ _ _ _ rfl (by kernel_rfl) (by kernel_rfl) _) <|
   ZJ (YQ rfl c 128 dT)<|WL ZW ZW (.string s) (Z8 k)<|YG (.int .u8 c) (hix _ _ _ _ rfl (by kernel_rfl) (by kernel_rfl) _) <|
   ZJ (Yh rfl c 192 dT)<|ZA ZW ZW<|wn ?_
  simp only[pu];go_wp2_with fail;go_ret;rw[HE.out];exact⟨rfl,rfl⟩
 ·have H8:Hid (decide ((k:Int)<(n:Int))=true):=Z9 dT;have HE:Hid (t=false):=Z9 (by rw[HV.out]; rw[Bool.eq_false_iff]; simp only[ne_eq,Bool.and_eq_true,decide_eq_true_eq]; omega);have hix:=Jq.out hc.1;clear Jq HV;refine wl<|ZA (Z8 k) (.string s)<|YG (Z8 n) (by rw[<- hn]; kernel_rfl)<|Yy ZW (Zv rfl k n H8.out)<|Yr ZW (.string s) (Z8 k)<|YG (.int .u8 c) (hix _ _ _ _ rfl (by kernel_rfl) (by kernel_rfl) _) <|
   ZJ (YQ rfl c 128 dT)<|WL ZW ZW (.string s) (Z8 k)<|YG (.int .u8 c) (hix _ _ _ _ rfl (by kernel_rfl) (by kernel_rfl) _) <|
   ZJ (Yh rfl c 192 dF)<|ZA ZY ZY<|wn ?_
  simp only[pu];go_wp2_with fail;go_ret;rw[HE.out];exact⟨rfl,rfl⟩
theorem nT (s:ByteArray)(i:Nat)(w:World)(hi:i<s.size)(hl:s.size<=140737488355328):Calls Tryz.prog 113 #[.string s,Z8 i] w fun e w'=>e=.returned (Z8 (runK (nums s) i:Nat))/\w=w':=by
 have hix:=Gv s i hi;have HI1:=Z9 (fun(h:MC (nums s) (i+1)=true)=>Gv s (i+1) (by have:=(WO h).1; rwa [Zd] at this));have gQ:=PN s (i+1) w;have CF2:=PN s (i+2) w;have CF3:=PN s (i+3) w;have HV:Hid (runK (nums s) i=runN ((nums s).getD i 0) ((nums s).getD (i+1) 0) (MC (nums s) (i+1)) (MC (nums s) (i+2)) (MC (nums s) (i+3))):=Z9 rfl;generalize runK (nums s) i=r at *
 generalize (nums s).getD i 0=c at *
 generalize (nums s).getD (i+1) 0=d at *
 generalize MC (nums s) (i+1)=f1 at *
 generalize MC (nums s) (i+2)=f2 at *
 generalize MC (nums s) (i+3)=f3 at *
 go_enter Tryz.func113,Tryz.ntmps113;go_upto_region 1 with fail;refine wl<|ZA (.string s) (Z8 i)<|YG (.int .u8 c) (hix _ _ _ _ rfl (by kernel_rfl) (by kernel_rfl) _)<|ZV (.int .u8 c)<|wn ?_;simp only[pu];clear hix;go_upto_region 2 with fail;rcases (show(c<128)∨(128<=c/\c<194)∨(194<=c/\c<224)∨(224<=c/\c<240)∨(240<=c/\c<245)∨(245<=c) by omega) with hc | hc | hc | hc | hc | hc
 ·refine wl<|ZV (.int .u8 c)<|ZJ (Yh rfl c 128 dT)<|ZV ZW<|wn ?_;simp only[pu];have HE:Hid (r=1):=by
   refine Z9 ?_;rw[HV.out];unfold runN;try simp only[and_true,and_false,false_and,true_and,if_false,if_true,eq_self,Bool.false_eq_true,reduceCtorEq]
   repeat' split
   all_goals (first | rfl | omega)
  go_upto_region 3 with fail;refine wl<|ZV (Z8 1)<|wn ?_;simp only[pu];go_wp2_with fail;go_ret;rw[HE.out];exact⟨rfl,rfl⟩
 ·refine wl<|ZV (.int .u8 c)<|ZJ (Yh rfl c 128 dF)<|ZV ZY<|wn ?_;simp only[pu];go_upto_region 4 with fail;refine wl<|ZV (.int .u8 c)<|ZJ (YQ rfl c 194 dF)<|YW ZY undef undef ZY ZY undef<|SG undef undef undef ZY ZY<|wn ?_;simp only[pu];go_upto_region 6 with fail;refine wl<|ZV (.int .u8 c)<|ZJ (YQ rfl c 224 dF)<|YW ZY undef undef ZY ZY undef<|YW undef undef undef ZY ZY undef <|
   SG undef undef undef ZY ZY<|wn ?_
  simp only[pu];go_upto_region 10 with fail;refine wl<|ZV (.int .u8 c)<|ZJ (YQ rfl c 240 dF)<|YW ZY undef undef ZY ZY undef<|YW undef undef undef ZY ZY undef <|
   YW undef undef undef ZY ZY undef<|SG undef undef undef ZY ZY<|wn ?_
  simp only[pu];have HE:Hid (r=0):=by
   refine Z9 ?_;rw[HV.out];unfold runN;try simp only[and_true,and_false,false_and,true_and,if_false,if_true,eq_self,Bool.false_eq_true,reduceCtorEq]
   repeat' split
   all_goals (first | rfl | omega)
  go_upto_region 14 with fail;refine wl<|ZV (Z8 0)<|wn ?_;simp only[pu];go_wp2_with fail;go_ret;rw[HE.out];exact⟨rfl,rfl⟩
 ·refine wl<|ZV (.int .u8 c)<|ZJ (Yh rfl c 128 dF)<|ZV ZY<|wn ?_;simp only[pu];cases f1
  ·go_upto_region 4 with fail;refine wl<|ZV (.int .u8 c)<|ZJ (YQ rfl c 194 dT)<|ZA ZW (.int .u8 c)<|ZJ (Yh rfl c 224 dT) <|
    WL ZW ZW (.string s) (Z8 i)<|Yy (Z8 (i+1:Nat)) (ZF rfl i 1 (by omega))<|YS ZY (fun w'=>w=w') gQ (fun W hW=>?_)
   subst hW;refine ZA ZY ZY<|wn ?_;simp only[pu];go_upto_region 6 with fail;refine wl<|ZV (.int .u8 c)<|ZJ (YQ rfl c 224 dF)<|YW ZY undef undef ZY ZY undef<|YW undef undef undef ZY ZY undef <|
    SG undef undef undef ZY ZY<|wn ?_
   simp only[pu];go_upto_region 10 with fail;refine wl<|ZV (.int .u8 c)<|ZJ (YQ rfl c 240 dF)<|YW ZY undef undef ZY ZY undef<|YW undef undef undef ZY ZY undef <|
    YW undef undef undef ZY ZY undef<|SG undef undef undef ZY ZY<|wn ?_
   simp only[pu];have HE:Hid (r=0):=by
    refine Z9 ?_;rw[HV.out];unfold runN;try simp only[and_true,and_false,false_and,true_and,if_false,if_true,eq_self,Bool.false_eq_true,reduceCtorEq]
    repeat' split
    all_goals (first | rfl | omega)
   go_upto_region 14 with fail;refine wl<|ZV (Z8 0)<|wn ?_;simp only[pu];go_wp2_with fail;go_ret;rw[HE.out];exact⟨rfl,rfl⟩
  ·go_upto_region 4 with fail;refine wl<|ZV (.int .u8 c)<|ZJ (YQ rfl c 194 dT)<|ZA ZW (.int .u8 c)<|ZJ (Yh rfl c 224 dT) <|
    WL ZW ZW (.string s) (Z8 i)<|Yy (Z8 (i+1:Nat)) (ZF rfl i 1 (by omega))<|YS ZW (fun w'=>w=w') gQ (fun W hW=>?_)
   subst hW;refine ZA ZW ZW<|wn ?_;simp only[pu];have HE:Hid (r=2):=by
    refine Z9 ?_;rw[HV.out];unfold runN;try simp only[and_true,and_false,false_and,true_and,if_false,if_true,eq_self,Bool.false_eq_true,reduceCtorEq]
    repeat' split
    all_goals (first | rfl | omega)
   go_upto_region 5 with fail;refine wl<|ZV (Z8 2)<|wn ?_;simp only[pu];go_wp2_with fail;go_ret;rw[HE.out];exact⟨rfl,rfl⟩
 ·refine wl<|ZV (.int .u8 c)<|ZJ (Yh rfl c 128 dF)<|ZV ZY<|wn ?_;simp only[pu];cases f1
  ·go_upto_region 4 with fail;refine wl<|ZV (.int .u8 c)<|ZJ (YQ rfl c 194 dT)<|ZA ZW (.int .u8 c)<|ZJ (Yh rfl c 224 dF) <|
    YW ZY ZY undef undef undef undef<|ZA ZY ZY<|wn ?_
   simp only[pu];go_upto_region 6 with fail;refine wl<|ZV (.int .u8 c)<|ZJ (YQ rfl c 224 dT)<|ZA ZW (.int .u8 c)<|ZJ (Yh rfl c 240 dT) <|
    WL ZW ZW (.string s) (Z8 i)<|Yy (Z8 (i+1:Nat)) (ZF rfl i 1 (by omega))<|YS ZY (fun w'=>w=w') gQ (fun W hW=>?_)
   subst hW;refine YW ZY ZY undef undef undef undef<|ZA ZY ZY<|wn ?_;simp only[pu];go_upto_region 10 with fail;refine wl<|ZV (.int .u8 c)<|ZJ (YQ rfl c 240 dF)<|YW ZY undef undef ZY ZY undef<|YW undef undef undef ZY ZY undef <|
    YW undef undef undef ZY ZY undef<|SG undef undef undef ZY ZY<|wn ?_
   simp only[pu];have HE:Hid (r=0):=by
    refine Z9 ?_;rw[HV.out];unfold runN;try simp only[and_true,and_false,false_and,true_and,if_false,if_true,eq_self,Bool.false_eq_true,reduceCtorEq]
    repeat' split
    all_goals (first | rfl | omega)
   go_upto_region 14 with fail;refine wl<|ZV (Z8 0)<|wn ?_;simp only[pu];go_wp2_with fail;go_ret;rw[HE.out];exact⟨rfl,rfl⟩
  ·cases f2
   ·go_upto_region 4 with fail;refine wl<|ZV (.int .u8 c)<|ZJ (YQ rfl c 194 dT)<|ZA ZW (.int .u8 c)<|ZJ (Yh rfl c 224 dF) <|
     YW ZY ZY undef undef undef undef<|ZA ZY ZY<|wn ?_
    simp only[pu];go_upto_region 6 with fail;refine wl<|ZV (.int .u8 c)<|ZJ (YQ rfl c 224 dT)<|ZA ZW (.int .u8 c)<|ZJ (Yh rfl c 240 dT) <|
     WL ZW ZW (.string s) (Z8 i)<|Yy (Z8 (i+1:Nat)) (ZF rfl i 1 (by omega))<|YS ZW (fun w'=>w=w') gQ (fun W hW=>?_)
    subst hW;refine WL ZW ZW (.string s) (Z8 i)<|Yy (Z8 (i+2:Nat)) (ZF rfl i 2 (by omega))<|YS ZY (fun w'=>w=w') CF2 (fun W hW=>?_);subst hW;refine ZA ZY ZY<|wn ?_;simp only[pu];go_upto_region 10 with fail;refine wl<|ZV (.int .u8 c)<|ZJ (YQ rfl c 240 dF)<|YW ZY undef undef ZY ZY undef<|YW undef undef undef ZY ZY undef <|
     YW undef undef undef ZY ZY undef<|SG undef undef undef ZY ZY<|wn ?_
    simp only[pu];have HE:Hid (r=0):=by
     refine Z9 ?_;rw[HV.out];unfold runN;try simp only[and_true,and_false,false_and,true_and,if_false,if_true,eq_self,Bool.false_eq_true,reduceCtorEq]
     repeat' split
     all_goals (first | rfl | omega)
    go_upto_region 14 with fail;refine wl<|ZV (Z8 0)<|wn ?_;simp only[pu];go_wp2_with fail;go_ret;rw[HE.out];exact⟨rfl,rfl⟩
   ·go_upto_region 4 with fail;refine wl<|ZV (.int .u8 c)<|ZJ (YQ rfl c 194 dT)<|ZA ZW (.int .u8 c)<|ZJ (Yh rfl c 224 dF) <|
     YW ZY ZY undef undef undef undef<|ZA ZY ZY<|wn ?_
    simp only[pu];go_upto_region 6 with fail;refine wl<|ZV (.int .u8 c)<|ZJ (YQ rfl c 224 dT)<|ZA ZW (.int .u8 c)<|ZJ (Yh rfl c 240 dT) <|
     WL ZW ZW (.string s) (Z8 i)<|Yy (Z8 (i+1:Nat)) (ZF rfl i 1 (by omega))<|YS ZW (fun w'=>w=w') gQ (fun W hW=>?_)
    subst hW;refine WL ZW ZW (.string s) (Z8 i)<|Yy (Z8 (i+2:Nat)) (ZF rfl i 2 (by omega))<|YS ZW (fun w'=>w=w') CF2 (fun W hW=>?_);subst hW;refine ZA ZW ZW<|wn ?_;simp only[pu];have hid:=HI1.out rfl;clear HI1;go_upto_region 7 with fail;rcases (show(c=224/\d<160)∨(c=224/\160<=d)∨(c=237/\d<160)∨(c=237/\160<=d)∨(c≠224/\c≠237) by omega) with hd | hd | hd | hd | hd
    ·refine wl<|ZV (.int .u8 c)<|ZJ (XC rfl c 224 dT)<|Yr ZW (.string s) (Z8 i)<|Yy (Z8 (i+1:Nat)) (ZF rfl i 1 (by omega)) <|
      YG (.int .u8 d) (hid _ _ _ _ rfl (by kernel_rfl) (by kernel_rfl) _)<|ZJ (Yh rfl d 160 dT)<|YW ZW ZW undef undef undef undef<|YW undef undef undef undef undef ZW <|
      wpList_nil ?_
     simp only[pu];have HE:Hid (r=0):=by
      refine Z9 ?_;rw[HV.out];unfold runN;try simp only[and_true,and_false,false_and,true_and,if_false,if_true,eq_self,Bool.false_eq_true,reduceCtorEq]
      repeat' split
      all_goals (first | rfl | omega)
     go_upto_region 8 with fail;refine wl<|ZV (Z8 0)<|wn ?_;simp only[pu];go_wp2_with fail;go_ret;rw[HE.out];exact⟨rfl,rfl⟩
    ·refine wl<|ZV (.int .u8 c)<|ZJ (XC rfl c 224 dT)<|Yr ZW (.string s) (Z8 i)<|Yy (Z8 (i+1:Nat)) (ZF rfl i 1 (by omega)) <|
      YG (.int .u8 d) (hid _ _ _ _ rfl (by kernel_rfl) (by kernel_rfl) _)<|ZJ (Yh rfl d 160 dF)<|Yr ZY ZY (.int .u8 c) <|
      ZJ (XC rfl c 237 dF)<|YW ZY undef undef undef undef undef<|ZA ZY ZY<|wn ?_
     simp only[pu];have HE:Hid (r=3):=by
      refine Z9 ?_;rw[HV.out];unfold runN;try simp only[and_true,and_false,false_and,true_and,if_false,if_true,eq_self,Bool.false_eq_true,reduceCtorEq]
      repeat' split
      all_goals (first | rfl | omega)
     go_upto_region 9 with fail;refine wl<|ZV (Z8 3)<|wn ?_;simp only[pu];go_wp2_with fail;go_ret;rw[HE.out];exact⟨rfl,rfl⟩
    ·refine wl<|ZV (.int .u8 c)<|ZJ (XC rfl c 224 dF)<|YW ZY undef undef undef undef undef<|Yr ZY ZY (.int .u8 c) <|
      ZJ (XC rfl c 237 dT)<|Yr ZW (.string s) (Z8 i)<|Yy (Z8 (i+1:Nat)) (ZF rfl i 1 (by omega)) <|
      YG (.int .u8 d) (hid _ _ _ _ rfl (by kernel_rfl) (by kernel_rfl) _)<|ZJ (YQ rfl d 160 dF)<|ZA ZY ZY<|wn ?_
     simp only[pu];have HE:Hid (r=3):=by
      refine Z9 ?_;rw[HV.out];unfold runN;try simp only[and_true,and_false,false_and,true_and,if_false,if_true,eq_self,Bool.false_eq_true,reduceCtorEq]
      repeat' split
      all_goals (first | rfl | omega)
     go_upto_region 9 with fail;refine wl<|ZV (Z8 3)<|wn ?_;simp only[pu];go_wp2_with fail;go_ret;rw[HE.out];exact⟨rfl,rfl⟩
    ·refine wl<|ZV (.int .u8 c)<|ZJ (XC rfl c 224 dF)<|YW ZY undef undef undef undef undef<|Yr ZY ZY (.int .u8 c) <|
      ZJ (XC rfl c 237 dT)<|Yr ZW (.string s) (Z8 i)<|Yy (Z8 (i+1:Nat)) (ZF rfl i 1 (by omega)) <|
      YG (.int .u8 d) (hid _ _ _ _ rfl (by kernel_rfl) (by kernel_rfl) _)<|ZJ (YQ rfl d 160 dT)<|ZA ZW ZW<|wn ?_
     simp only[pu];have HE:Hid (r=0):=by
      refine Z9 ?_;rw[HV.out];unfold runN;try simp only[and_true,and_false,false_and,true_and,if_false,if_true,eq_self,Bool.false_eq_true,reduceCtorEq]
      repeat' split
      all_goals (first | rfl | omega)
     go_upto_region 8 with fail;refine wl<|ZV (Z8 0)<|wn ?_;simp only[pu];go_wp2_with fail;go_ret;rw[HE.out];exact⟨rfl,rfl⟩
    ·refine wl<|ZV (.int .u8 c)<|ZJ (XC rfl c 224 dF)<|YW ZY undef undef undef undef undef<|Yr ZY ZY (.int .u8 c) <|
      ZJ (XC rfl c 237 dF)<|YW ZY undef undef undef undef undef<|ZA ZY ZY<|wn ?_
     simp only[pu];have HE:Hid (r=3):=by
      refine Z9 ?_;rw[HV.out];unfold runN;try simp only[and_true,and_false,false_and,true_and,if_false,if_true,eq_self,Bool.false_eq_true,reduceCtorEq]
      repeat' split
      all_goals (first | rfl | omega)
     go_upto_region 9 with fail;refine wl<|ZV (Z8 3)<|wn ?_;simp only[pu];go_wp2_with fail;go_ret;rw[HE.out];exact⟨rfl,rfl⟩
 ·refine wl<|ZV (.int .u8 c)<|ZJ (Yh rfl c 128 dF)<|ZV ZY<|wn ?_;simp only[pu];cases f1
  ·go_upto_region 4 with fail;refine wl<|ZV (.int .u8 c)<|ZJ (YQ rfl c 194 dT)<|ZA ZW (.int .u8 c)<|ZJ (Yh rfl c 224 dF) <|
    YW ZY ZY undef undef undef undef<|ZA ZY ZY<|wn ?_
   simp only[pu];go_upto_region 6 with fail;refine wl<|ZV (.int .u8 c)<|ZJ (YQ rfl c 224 dT)<|ZA ZW (.int .u8 c)<|ZJ (Yh rfl c 240 dF) <|
    YW ZY ZY undef undef undef undef<|YW ZY ZY undef undef undef undef<|ZA ZY ZY<|wn ?_
   simp only[pu];go_upto_region 10 with fail;refine wl<|ZV (.int .u8 c)<|ZJ (YQ rfl c 240 dT)<|ZA ZW (.int .u8 c)<|ZJ (Yh rfl c 245 dT) <|
    WL ZW ZW (.string s) (Z8 i)<|Yy (Z8 (i+1:Nat)) (ZF rfl i 1 (by omega))<|YS ZY (fun w'=>w=w') gQ (fun W hW=>?_)
   subst hW;refine YW ZY ZY undef undef undef undef<|YW ZY ZY undef undef undef undef<|ZA ZY ZY<|wn ?_;simp only[pu];have HE:Hid (r=0):=by
    refine Z9 ?_;rw[HV.out];unfold runN;try simp only[and_true,and_false,false_and,true_and,if_false,if_true,eq_self,Bool.false_eq_true,reduceCtorEq]
    repeat' split
    all_goals (first | rfl | omega)
   go_upto_region 14 with fail;refine wl<|ZV (Z8 0)<|wn ?_;simp only[pu];go_wp2_with fail;go_ret;rw[HE.out];exact⟨rfl,rfl⟩
  ·cases f2
   ·go_upto_region 4 with fail;refine wl<|ZV (.int .u8 c)<|ZJ (YQ rfl c 194 dT)<|ZA ZW (.int .u8 c)<|ZJ (Yh rfl c 224 dF) <|
     YW ZY ZY undef undef undef undef<|ZA ZY ZY<|wn ?_
    simp only[pu];go_upto_region 6 with fail;refine wl<|ZV (.int .u8 c)<|ZJ (YQ rfl c 224 dT)<|ZA ZW (.int .u8 c)<|ZJ (Yh rfl c 240 dF) <|
     YW ZY ZY undef undef undef undef<|YW ZY ZY undef undef undef undef<|ZA ZY ZY<|wn ?_
    simp only[pu];go_upto_region 10 with fail;refine wl<|ZV (.int .u8 c)<|ZJ (YQ rfl c 240 dT)<|ZA ZW (.int .u8 c)<|ZJ (Yh rfl c 245 dT) <|
     WL ZW ZW (.string s) (Z8 i)<|Yy (Z8 (i+1:Nat)) (ZF rfl i 1 (by omega))<|YS ZW (fun w'=>w=w') gQ (fun W hW=>?_)
    subst hW;refine WL ZW ZW (.string s) (Z8 i)<|Yy (Z8 (i+2:Nat)) (ZF rfl i 2 (by omega))<|YS ZY (fun w'=>w=w') CF2 (fun W hW=>?_);subst hW;refine YW ZY ZY undef undef undef undef<|ZA ZY ZY<|wn ?_;simp only[pu];have HE:Hid (r=0):=by
     refine Z9 ?_;rw[HV.out];unfold runN;try simp only[and_true,and_false,false_and,true_and,if_false,if_true,eq_self,Bool.false_eq_true,reduceCtorEq]
     repeat' split
     all_goals (first | rfl | omega)
    go_upto_region 14 with fail;refine wl<|ZV (Z8 0)<|wn ?_;simp only[pu];go_wp2_with fail;go_ret;rw[HE.out];exact⟨rfl,rfl⟩
   ·cases f3
    ·go_upto_region 4 with fail;refine wl<|ZV (.int .u8 c)<|ZJ (YQ rfl c 194 dT)<|ZA ZW (.int .u8 c)<|ZJ (Yh rfl c 224 dF) <|
      YW ZY ZY undef undef undef undef<|ZA ZY ZY<|wn ?_
     simp only[pu];go_upto_region 6 with fail;refine wl<|ZV (.int .u8 c)<|ZJ (YQ rfl c 224 dT)<|ZA ZW (.int .u8 c)<|ZJ (Yh rfl c 240 dF) <|
      YW ZY ZY undef undef undef undef<|YW ZY ZY undef undef undef undef<|ZA ZY ZY<|wn ?_
     simp only[pu];go_upto_region 10 with fail;refine wl<|ZV (.int .u8 c)<|ZJ (YQ rfl c 240 dT)<|ZA ZW (.int .u8 c)<|ZJ (Yh rfl c 245 dT) <|
      WL ZW ZW (.string s) (Z8 i)<|Yy (Z8 (i+1:Nat)) (ZF rfl i 1 (by omega))<|YS ZW (fun w'=>w=w') gQ (fun W hW=>?_)
     subst hW;refine WL ZW ZW (.string s) (Z8 i)<|Yy (Z8 (i+2:Nat)) (ZF rfl i 2 (by omega))<|YS ZW (fun w'=>w=w') CF2 (fun W hW=>?_);subst hW;refine WL ZW ZW (.string s) (Z8 i)<|Yy (Z8 (i+3:Nat)) (ZF rfl i 3 (by omega))<|YS ZY (fun w'=>w=w') CF3 (fun W hW=>?_);subst hW;refine ZA ZY ZY<|wn ?_;simp only[pu];have HE:Hid (r=0):=by
      refine Z9 ?_;rw[HV.out];unfold runN;try simp only[and_true,and_false,false_and,true_and,if_false,if_true,eq_self,Bool.false_eq_true,reduceCtorEq]
      repeat' split
      all_goals (first | rfl | omega)
     go_upto_region 14 with fail;refine wl<|ZV (Z8 0)<|wn ?_;simp only[pu];go_wp2_with fail;go_ret;rw[HE.out];exact⟨rfl,rfl⟩
    ·go_upto_region 4 with fail;refine wl<|ZV (.int .u8 c)<|ZJ (YQ rfl c 194 dT)<|ZA ZW (.int .u8 c)<|ZJ (Yh rfl c 224 dF) <|
      YW ZY ZY undef undef undef undef<|ZA ZY ZY<|wn ?_
     simp only[pu];go_upto_region 6 with fail;refine wl<|ZV (.int .u8 c)<|ZJ (YQ rfl c 224 dT)<|ZA ZW (.int .u8 c)<|ZJ (Yh rfl c 240 dF) <|
      YW ZY ZY undef undef undef undef<|YW ZY ZY undef undef undef undef<|ZA ZY ZY<|wn ?_
     simp only[pu];go_upto_region 10 with fail;refine wl<|ZV (.int .u8 c)<|ZJ (YQ rfl c 240 dT)<|ZA ZW (.int .u8 c)<|ZJ (Yh rfl c 245 dT) <|
      WL ZW ZW (.string s) (Z8 i)<|Yy (Z8 (i+1:Nat)) (ZF rfl i 1 (by omega))<|YS ZW (fun w'=>w=w') gQ (fun W hW=>?_)
     subst hW;refine WL ZW ZW (.string s) (Z8 i)<|Yy (Z8 (i+2:Nat)) (ZF rfl i 2 (by omega))<|YS ZW (fun w'=>w=w') CF2 (fun W hW=>?_);subst hW;refine WL ZW ZW (.string s) (Z8 i)<|Yy (Z8 (i+3:Nat)) (ZF rfl i 3 (by omega))<|YS ZW (fun w'=>w=w') CF3 (fun W hW=>?_);subst hW;refine ZA ZW ZW<|wn ?_;simp only[pu];have hid:=HI1.out rfl;clear HI1;go_upto_region 11 with fail;rcases (show(c=240/\d<144)∨(c=240/\144<=d)∨(c=244/\d<144)∨(c=244/\144<=d)∨(c≠240/\c≠244) by omega) with hd | hd | hd | hd | hd
     ·refine wl<|ZV (.int .u8 c)<|ZJ (XC rfl c 240 dT)<|Yr ZW (.string s) (Z8 i)<|Yy (Z8 (i+1:Nat)) (ZF rfl i 1 (by omega)) <|
       YG (.int .u8 d) (hid _ _ _ _ rfl (by kernel_rfl) (by kernel_rfl) _)<|ZJ (Yh rfl d 144 dT)<|YW ZW ZW undef undef undef undef<|YW undef undef undef undef undef ZW <|
       wpList_nil ?_
      simp only[pu];have HE:Hid (r=0):=by
       refine Z9 ?_;rw[HV.out];unfold runN;try simp only[and_true,and_false,false_and,true_and,if_false,if_true,eq_self,Bool.false_eq_true,reduceCtorEq]
       repeat' split
       all_goals (first | rfl | omega)
      go_upto_region 12 with fail;refine wl<|ZV (Z8 0)<|wn ?_;simp only[pu];go_wp2_with fail;go_ret;rw[HE.out];exact⟨rfl,rfl⟩
     ·refine wl<|ZV (.int .u8 c)<|ZJ (XC rfl c 240 dT)<|Yr ZW (.string s) (Z8 i)<|Yy (Z8 (i+1:Nat)) (ZF rfl i 1 (by omega)) <|
       YG (.int .u8 d) (hid _ _ _ _ rfl (by kernel_rfl) (by kernel_rfl) _)<|ZJ (Yh rfl d 144 dF)<|Yr ZY ZY (.int .u8 c) <|
       ZJ (XC rfl c 244 dF)<|YW ZY undef undef undef undef undef<|ZA ZY ZY<|wn ?_
      simp only[pu];have HE:Hid (r=4):=by
       refine Z9 ?_;rw[HV.out];unfold runN;try simp only[and_true,and_false,false_and,true_and,if_false,if_true,eq_self,Bool.false_eq_true,reduceCtorEq]
       repeat' split
       all_goals (first | rfl | omega)
      go_upto_region 13 with fail;refine wl<|ZV (Z8 4)<|wn ?_;simp only[pu];go_wp2_with fail;go_ret;rw[HE.out];exact⟨rfl,rfl⟩
     ·refine wl<|ZV (.int .u8 c)<|ZJ (XC rfl c 240 dF)<|YW ZY undef undef undef undef undef<|Yr ZY ZY (.int .u8 c) <|
       ZJ (XC rfl c 244 dT)<|Yr ZW (.string s) (Z8 i)<|Yy (Z8 (i+1:Nat)) (ZF rfl i 1 (by omega)) <|
       YG (.int .u8 d) (hid _ _ _ _ rfl (by kernel_rfl) (by kernel_rfl) _)<|ZJ (YQ rfl d 144 dF)<|ZA ZY ZY<|wn ?_
      simp only[pu];have HE:Hid (r=4):=by
       refine Z9 ?_;rw[HV.out];unfold runN;try simp only[and_true,and_false,false_and,true_and,if_false,if_true,eq_self,Bool.false_eq_true,reduceCtorEq]
       repeat' split
       all_goals (first | rfl | omega)
      go_upto_region 13 with fail;refine wl<|ZV (Z8 4)<|wn ?_;simp only[pu];go_wp2_with fail;go_ret;rw[HE.out];exact⟨rfl,rfl⟩
     ·refine wl<|ZV (.int .u8 c)<|ZJ (XC rfl c 240 dF)<|YW ZY undef undef undef undef undef<|Yr ZY ZY (.int .u8 c) <|
       ZJ (XC rfl c 244 dT)<|Yr ZW (.string s) (Z8 i)<|Yy (Z8 (i+1:Nat)) (ZF rfl i 1 (by omega)) <|
       YG (.int .u8 d) (hid _ _ _ _ rfl (by kernel_rfl) (by kernel_rfl) _)<|ZJ (YQ rfl d 144 dT)<|ZA ZW ZW<|wn ?_
      simp only[pu];have HE:Hid (r=0):=by
       refine Z9 ?_;rw[HV.out];unfold runN;try simp only[and_true,and_false,false_and,true_and,if_false,if_true,eq_self,Bool.false_eq_true,reduceCtorEq]
       repeat' split
       all_goals (first | rfl | omega)
      go_upto_region 12 with fail;refine wl<|ZV (Z8 0)<|wn ?_;simp only[pu];go_wp2_with fail;go_ret;rw[HE.out];exact⟨rfl,rfl⟩
     ·refine wl<|ZV (.int .u8 c)<|ZJ (XC rfl c 240 dF)<|YW ZY undef undef undef undef undef<|Yr ZY ZY (.int .u8 c) <|
       ZJ (XC rfl c 244 dF)<|YW ZY undef undef undef undef undef<|ZA ZY ZY<|wn ?_
      simp only[pu];have HE:Hid (r=4):=by
       refine Z9 ?_;rw[HV.out];unfold runN;try simp only[and_true,and_false,false_and,true_and,if_false,if_true,eq_self,Bool.false_eq_true,reduceCtorEq]
       repeat' split
       all_goals (first | rfl | omega)
      go_upto_region 13 with fail;refine wl<|ZV (Z8 4)<|wn ?_;simp only[pu];go_wp2_with fail;go_ret;rw[HE.out];exact⟨rfl,rfl⟩
 ·refine wl<|ZV (.int .u8 c)<|ZJ (Yh rfl c 128 dF)<|ZV ZY<|wn ?_;simp only[pu];go_upto_region 4 with fail;refine wl<|ZV (.int .u8 c)<|ZJ (YQ rfl c 194 dT)<|ZA ZW (.int .u8 c)<|ZJ (Yh rfl c 224 dF) <|
   YW ZY ZY undef undef undef undef<|ZA ZY ZY<|wn ?_
  simp only[pu];go_upto_region 6 with fail;refine wl<|ZV (.int .u8 c)<|ZJ (YQ rfl c 224 dT)<|ZA ZW (.int .u8 c)<|ZJ (Yh rfl c 240 dF) <|
   YW ZY ZY undef undef undef undef<|YW ZY ZY undef undef undef undef<|ZA ZY ZY<|wn ?_
  simp only[pu];go_upto_region 10 with fail;refine wl<|ZV (.int .u8 c)<|ZJ (YQ rfl c 240 dT)<|ZA ZW (.int .u8 c)<|ZJ (Yh rfl c 245 dF) <|
   YW ZY ZY undef undef undef undef<|YW ZY ZY undef undef undef undef<|YW ZY ZY undef undef undef undef<|ZA ZY ZY<|wn ?_
  simp only[pu];have HE:Hid (r=0):=by
   refine Z9 ?_;rw[HV.out];unfold runN;try simp only[and_true,and_false,false_and,true_and,if_false,if_true,eq_self,Bool.false_eq_true,reduceCtorEq]
   repeat' split
   all_goals (first | rfl | omega)
  go_upto_region 14 with fail;refine wl<|ZV (Z8 0)<|wn ?_;simp only[pu];go_wp2_with fail;go_ret;rw[HE.out];exact⟨rfl,rfl⟩
end Go.Proofs.YtnhlpahoomcgnaaGreat
