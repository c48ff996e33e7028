/-
  Texts joined.
-/
import Derived.Test.YtfpnnmeblefkkaaGreatDoorD27
set_option maxRecDepth 100000
set_option maxHeartbeats 8000000
set_option linter.unusedSimpArgs false
set_option linter.unusedVariables false
namespace Go.Proofs.YtfpnnmeblefkkaaGreatDoor
open Go.RowKit
def P3 (w:World)(A B Z:List Int)(V:World):Prop:=Ab V w.heap.size 50 A/\Ab V (w.heap.size+1) 50 B/\Ab V (w.heap.size+2) 50 Z/\Below w.heap.size w V/\w.heap.size+3<=V.heap.size
theorem P3.below {w V V':World}{A B Z:List Int}{g:Nat}(h:P3 w A B Z V)(hb:Below g V V')(hg:w.heap.size+3<=g):P3 w A B Z V':=
  ⟨h.1.below (by omega) hb,h.2.1.below (by omega) hb,h.2.2.1.below (by omega) hb,h.2.2.2.1.trans (hb.mono (by omega)),Nat.le_trans h.2.2.2.2 hb.size⟩
theorem P3.grown {w V V':World}{A B Z:List Int}{g n:Nat}{v:Value}{xs:List Value}(h:P3 w A B Z V)(ho:V.ownsRow g 5 1 v n xs)(hg:V.grownBy V' v.ownBlock)(hw:w.heap.size+3<=g)(hV:g<=V.heap.size):P3 w A B Z V':=
  h.below ((Below.refl g V).grown hg hV (fun j hj=>(ho.lt j hj).1)) hw
theorem Ab.Bz {g t:Nat}:∀ (S P Q:List Int) (w:World),Ab w g t (P++Q)->Q.length=S.length->Ab (w.setCells g P.length (S.map (Value.int .u8))) g t (P++S)
  | [],P,Q,w,h,hl=>by
    obtain rfl:=List.eq_nil_of_length_eq_zero (by simpa using hl);exact h
  | x::S,P,Q,w,h,hl=>by
    cases Q with
    | nil=>simp at hl
    | cons q Q=>
      have h2:=h.set P.length x;rw[NP P Q q x P.length rfl] at h2;have e:P++x::Q=(P++[x])++Q:=(by simp);rw[e] at h2;have ih:=Ab.Bz S (P++[x]) Q _ h2 (by simpa using hl);have e2:P++x::S=(P++[x])++S:=(by simp);have e3:(P++[x]).length=P.length+1:=(by simp);rw[e3] at ih;rw[e2];exact ih
theorem Ab.all {w:World}{g t:Nat}{L:List Int}(h:Ab w g t L)(S:List Int)(hl:L.length=S.length):Ab (w.setCells g 0 (S.map (Value.int .u8))) g t S:=by
  have:=Ab.Bz S [] L w (by simpa using h) hl;simpa using this
theorem Ab.there {w:World}{g t:Nat}{L:List Int}(h:Ab w g t L)(n:Nat)(hn:n<=L.length):w.there g 0 n:=by
  intro j hj;refine⟨?_,h.frozen _⟩;rw[Nat.zero_add,h.cell j (by omega)];rfl
theorem Hw (S:List Int):∀ v:Value,v∈S.map (Value.int .u8)->v.oneCell'=true:=ints_oneCell _ _
theorem as9 {V:World}{g:Nat}{v:Value}{A B:List Int}(hA:A.length=32)(hB:B.length=32)(h:V.ownsRow g 5 1 v (33+32) (([1].map (Value.int .u8)++A.map (Value.int .u8))++B.map (Value.int .u8))):∃ a c,v=.slice a 65 c/\Sl V a c (1::(A++B)):=by
  have e:(([1].map (Value.int .u8)++A.map (Value.int .u8))++B.map (Value.int .u8))=(1::(A++B)).map (Value.int .u8):=by simp
  rw[e] at h;obtain⟨a,c,rfl,hs,-,-⟩:=lZ h;have hl:(1::(A++B)).length=65:=by simp[hA,hB]
  exact⟨a,c,by rw[hl],hs⟩
theorem rU (A B:List Int)(w:World)(hA:A.length=32)(hB:B.length=32)(hA8:∀ x,x∈A->W8 x)(Nb:∀ x,x∈B->W8 x) :
    Calls Tryz.prog 59 #[.agg (ZF A),.agg (ZF B)] w fun e w'=>e=.returned (.agg (ZF (Wi A B)))/\Below w.heap.size w w':=by
  obtain⟨i0,hi,hz0,hz1,hz2⟩:=info_parts info5;have HI:=Z9 hi;have HZ0:=Z9 hz0;have HZ1:=Z9 hz1;have HZ2:=Z9 hz2;clear hi hz0 hz1 hz2;have h1:Ab (w.alloc (.cells (ZF A) 50)) w.heap.size 50 A:=heap_alloc_last w _;have h2:Ab ((w.alloc (.cells (ZF A) 50)).alloc (.cells (ZF B) 50)) (w.heap.size+1) 50 B:=by
    have:=heap_alloc_last (w.alloc (.cells (ZF A) 50)) (.cells (ZF B) 50);simpa [Ab] using this
  have h3:Ab (((w.alloc (.cells (ZF A) 50)).alloc (.cells (ZF B) 50)).alloc (.cells (ZF (List.replicate 32 0)) 50)) (w.heap.size+2) 50 (List.replicate 32 0):=by
    have:=heap_alloc_last ((w.alloc (.cells (ZF A) 50)).alloc (.cells (ZF B) 50)) (.cells (ZF (List.replicate 32 0)) 50);simpa [Ab] using this
  have hA1:=(h1.alloc (.cells (ZF B) 50)).alloc (.cells (ZF (List.replicate 32 0)) 50);have hB1:=h2.alloc (.cells (ZF (List.replicate 32 0)) 50);have hb1:Below w.heap.size w (((w.alloc (.cells (ZF A) 50)).alloc (.cells (ZF B) 50)).alloc (.cells (ZF (List.replicate 32 0)) 50)):=(((Below.refl _ w).alloc (by simp) _).alloc (by simp) _).alloc (by simp; omega) _;have hs1:(((w.alloc (.cells (ZF A) 50)).alloc (.cells (ZF B) 50)).alloc (.cells (ZF (List.replicate 32 0)) 50)).heap.size=w.heap.size+3:=by simp
  obtain⟨S,hSS⟩:∃ S,S=Wi A B:=⟨_,rfl⟩;have hq:S.length=32:=by rw[hSS]; exact WY _
  have CS:=fun(a2:Option Addr) (c2:Nat) (V:World) (h:Sl V a2 c2 (1::(A++B)))=>Fg a2 c2 (1::(A++B)) V h (fun x hx=>by
    rcases List.mem_cons.1 hx with rfl | hx
    · exact⟨by omega,by omega⟩
    · rcases List.mem_append.1 hx with hx | hx
      · exact hA8 x hx
      · exact Nb x hx) (by simp; omega)
  rw[show WO (1::(A++B))=S from hSS.symm,show(1::(A++B)).length=65 by simp[hA,hB]] at CS;rw[<- hSS];have hsS:(ZF S).size=32:=by rw[Sj,hq]
  clear hSS h1 h2 hA8 Nb;go_enter Tryz.func59,Tryz.ntmps59;go_upto_region 1 with fail;change Code.wp _ _ _ _ (((w.alloc (.cells (ZF A) 50)).alloc (.cells (ZF B) 50)).alloc (.cells (ZF (List.replicate 32 0)) 50));generalize ((w.alloc (.cells (ZF A) 50)).alloc (.cells (ZF B) 50)).alloc (.cells (ZF (List.replicate 32 0)) 50)=W at *
  have hP:P3 w A B (List.replicate 32 0) W:=⟨hA1,hB1,h3,hb1,by omega⟩;have hWs:w.heap.size+3<=W.heap.size:=by omega
  have hP0:P3 w A B (List.replicate 32 0) ((W.alloc (.cells #[.int .u8 1] 5)).drew):=hP.below ((Below.refl W.heap.size W).alloc (Nat.le_refl _) (.cells #[.int .u8 1] 5)).drew hWs;have ho0:((W.alloc (.cells #[.int .u8 1] 5)).drew).ownsRow W.heap.size 5 1 (.slice (some ⟨W.heap.size,0,none⟩) 1 1) 1 ([1].map (Value.int .u8)):=Bv W 1;have hz:W.heap.size<=((W.alloc (.cells #[.int .u8 1] 5)).drew).heap.size:=((Below.refl W.heap.size W).alloc (Nat.le_refl _) (.cells #[.int .u8 1] 5)).drew.size;have hsl0:=Qb w.heap.size;have hsl1:=Qb (w.heap.size+1);have HA:=Z9 hA;have HB:=Z9 hB;have Ez:=Z9 hP0;have HO0:=Z9 ho0;have Gz:=Z9 hWs;have h33:1+32<=140737488355328:=by omega
  have h65:33+32<=140737488355328:=by omega
  have hi9:(Tryz.prog.info? 50).map (·.size)=some (ZF S).size:=by rw[hsS]; kernel_rfl
  have hz9:(ZF (List.replicate 32 0)).size=(ZF S).size:=by rw[hsS]; rfl
  have HI9:=Z9 hi9;have HZ9:=Z9 hz9;clear hA hB hs1 hA1 hB1 hb1 h3 hP hP0 ho0 hWs hi9 hz9 hsS;have hone:=Hw S
  go_region_held3 (fun _=>True) (trivial) (first
    | (go_at_call 56; refine(CS a2 c2 w2 hS2).mono ?_; rintro e w3 ⟨rfl,hb3⟩; have hP3:=hP2.below hb3 hP2.2.2.2.2; have hth:w3.there (w.heap.size+1+1) 0 (List.map (Value.int .u8) S).length:=hP3.2.2.1.there _ (by rw[List.length_map,hq]; simp))
    | (refine Sm (w:=w1) rfl _ _ 54 rfl W.heap.size i0 Tryz.underlying54 HI.out HZ0.out HZ1.out HZ2.out v1 33 _ rfl ho1 (some ⟨w.heap.size+1,0,none⟩) 32 32 B rfl HB.out hP1.2.1.sl h65 hz1 ?_; intro v2 w2 ho2 hg2; obtain⟨a2,c2,rfl,hS2⟩:=as9 HA.out HB.out ho2; have hP2:=hP1.grown ho1 hg2 Gz.out hz1)
    | (refine Sm (w:=(W.alloc (.cells #[.int .u8 1] 5)).drew) rfl _ _ 54 rfl W.heap.size i0 Tryz.underlying54 HI.out HZ0.out HZ1.out HZ2.out (.slice (some ⟨W.heap.size,0,none⟩) 1 1) 1 _ rfl HO0.out (some ⟨w.heap.size,0,none⟩) 32 32 A rfl HA.out Ez.out.1.sl h33 hz ?_; intro v1 w1 ho1 hg1; have hP1:=Ez.out.grown HO0.out hg1 Gz.out hz; have hz1:=Nat.le_trans hz hg1.size))
  have Jt:=hP3.2.2.1.all S (by rw[hq]; rfl);have XG:Below w.heap.size w (w3.setCells (w.heap.size+2) 0 (S.map (Value.int .u8))):=hP3.2.2.2.1.trans ((But.setCells _ _ _).below (by omega));have HA9:=Z9 Jt;have Zg:=Z9 XG;clear Jt XG hP3 hP2 hP1 hth hone ho1 ho2 hg1 hg2 hz1 hS2 hb3 CS Ez HO0;generalize w3.setCells (w.heap.size+1+1) 0 (S.map (Value.int .u8))=V9 at *
  go_wp2_with fail;refine bodyPost_ret (v:=.agg (ZF S)) ?_ rfl ⟨rfl,Zg.out⟩;refine results_cell_row (fn:=Tryz.f59) (p:=4) (ty:=50) rfl _ _ (w.heap.size+2) 50 (ZF S) (0,0) (.array 32 5) rfl HA9.out ?_ rfl ?_
  · kernel_rfl
  · exact HI9.out
def RB (w:World)(al:Option Addr)(ls:List (List Int)):Prop:=
  ∀ i,i<ls.length->∃ b off ai ci,al=some ⟨b,off,none⟩/\b<w.heap.size/\w.cell? ⟨b,off+i,none⟩=some (.slice ai (ls.getD i []).length ci)/\Sl w ai ci (ls.getD i [])/\(ls.getD i []).length<=ci/\(∀ x,x∈ls.getD i []->W8 x)/\(ls.getD i []).length<=300000
theorem RB.below {w w':World}{al:Option Addr}{ls:List (List Int)}(h:RB w al ls)(hb:Below w.heap.size w w'):RB w' al ls:=fun i hi=>by
  obtain⟨b,off,ai,ci,e,hlt,hc,hs,hl,h8,h3⟩:=h i hi;exact⟨b,off,ai,ci,e,by have:=hb.size; omega,(hb.cell (p:=⟨b,off+i,none⟩) hlt).trans hc,ZP hs hb,hl,h8,h3⟩
theorem RB.take {w:World}{al:Option Addr}{ls:List (List Int)}(h:RB w al ls)(n:Nat):RB w al (ls.take n):=fun i hi=>by
  have hi':i<ls.length:=by simp at hi; omega
  have q:(ls.take n).getD i []=ls.getD i []:=by
    simp only[List.getD];rw[List.getElem?_take_of_lt (by simp at hi; omega)]
  rw[q];exact h i hi'
theorem RB.from {w:World}{al:Option Addr}{ls:List (List Int)}(h:RB w al ls)(c k:Nat)(hc:ls.length<=c):RB w (YJ al c k) (ls.drop k):=fun i hi=>by
  have hi':k+i<ls.length:=by simp at hi; omega
  have q:(ls.drop k).getD i []=ls.getD (k+i) []:=by
    simp only[List.getD,List.getElem?_drop]
  rw[q];obtain⟨b,off,ai,ci,rfl,hlt,hcl,hs,hl,h8,h3⟩:=h (k+i) hi';refine⟨b,off+k,ai,ci,?_,hlt,by rw[Nat.add_assoc]; exact hcl,hs,hl,h8,h3⟩;unfold YJ;rw[if_neg (by omega)];simp only[Option.map_some];rw[Addr.add_mid]
theorem vZ (a:Option Addr)(n c k:Nat)(w:World)(h:k<=c):(Instr.slice 23 (.slice a n c) none (some (Z8 (k:Int))) none).run Tryz.prog w=.ok (.slice a k c) w:=by
  have hs:(sizeOf (Tryz.prog.elem 23)).run Tryz.prog w=.ok 1 w:=by kernel_rfl
  have e:=run_slice_h (P:=Tryz.prog) w 23 a n c (by kernel_rfl) .i64 (k:Int) (by omega) (by omega);rw[e,hs];cases a <;> simp[sliced,Result.andThen,Addr.add]
theorem Hy (a:Option Addr)(n c k:Nat)(w:World)(h:k<=n):(Instr.slice 23 (.slice a n c) (some (Z8 (k:Int))) none none).run Tryz.prog w=.ok (.slice (YJ a c k) (n-k) (c-k)) w:=by
  have hs:(sizeOf (Tryz.prog.elem 23)).run Tryz.prog w=.ok 1 w:=by kernel_rfl
  have e:=run_slice_l (P:=Tryz.prog) w 23 a n c (by kernel_rfl) .i64 (k:Int) (by omega) (by omega);rw[e,hs];by_cases hk:c=k <;> cases a <;> simp[sliced,Result.andThen,YJ,hk]
theorem NM {P:Program}{C:World->Prop}{ops:Array Oper}{Q:Act->Prop}{a:Act}{op:Oper}{rest:List Oper}(hgd:op.guard=none)(ty:TypeId)(x l:Operand)(ho:op.op=.slice ty x (some l) none none)
    (vx vl v:Value) (hx:a.eval x=vx) (hh:a.eval l=vl) (hs:∀ w,C w->(Instr.sliceAt ty vx (some vl) none none).run P w=.ok v w)
    (hK:wpQuiet P ops C Q rest (a.put op.dst v)):wpQuiet P ops C Q (op::rest) a:=by
  refine XW hgd v (fun w hC=>?_) hK;unfold execOp;simp only[ho,hx,hh,Option.map_some,Option.map_none,Sem.run_bind,hs w hC];rfl
theorem Xw (ls:List (List Int)):(Zb ls).length=32/\∀ x,x∈Zb ls->W8 x:=by
  by_cases h0:ls.length=0
  · rw[MW ls h0];exact⟨WY _,MZ _⟩
  · by_cases h1:ls.length=1
    · rw[MV ls h1];exact⟨WY _,MZ _⟩
    · rw[MS ls (by omega)];exact⟨WY _,MZ _⟩
theorem BA {w:World}{t:TypeId}{a:Addr}{v:Value}(h:w.cell? a=some v)(hag:(isAgg t).run Tryz.prog w=.ok false w):(Instr.loadAt t (.pointer (some a))).run Tryz.prog w=.ok v w:=by
  simp[Instr.loadAt,Instr.sureAddr,loadVar,hag,run_load,h,Result.andThen]
def RC (w:World)(al:Option Addr)(ls:List (List Int))(V:World):Prop:=Ab V w.heap.size 50 (List.replicate 32 0)/\RB V al ls/\Below w.heap.size w V
theorem RC.below {w V V':World}{al:Option Addr}{ls:List (List Int)}(h:RC w al ls V)(hb:Below V.heap.size V V'):RC w al ls V':=⟨h.1.below h.1.lt hb,h.2.1.below hb,h.2.2.trans (hb.mono h.2.2.size)⟩
theorem NK (ls:List (List Int))(al:Option Addr)(c:Nat)(w:World)(hn:ls.length<=1000)(hc:ls.length<=c)(hR:RB w al ls)
    (ih:∀ (BD:List (List Int)) (al2:Option Addr) (c2:Nat) (w2:World),BD.length<ls.length->BD.length<=c2->RB w2 al2 BD->Calls Tryz.prog 30 #[.slice al2 BD.length c2] w2 fun e w'=>e=.returned (.agg (ZF (Zb BD)))/\Below w2.heap.size w2 w') :
    Calls Tryz.prog 30 #[.slice al ls.length c] w fun e w'=>e=.returned (.agg (ZF (Zb ls)))/\Below w.heap.size w w':=by
  have hb0:Below w.heap.size w (w.alloc (.cells (ZF (List.replicate 32 0)) 50)):=(Below.refl _ w).alloc (by simp) _;have hC:RC w al ls (w.alloc (.cells (ZF (List.replicate 32 0)) 50)):=⟨heap_alloc_last w _,hR.below hb0,hb0⟩;have hbytes:=Xw ls;obtain⟨S,hSS⟩:∃ S,S=Zb ls:=⟨_,rfl⟩;have hsS:(ZF S).size=32:=by rw[Sj,hSS]; exact hbytes.1
  rw[<- hSS];rcases (show ls.length=0∨ls.length=1∨2<=ls.length by omega) with h0 | h1 | h2
  · have hS0:S=WO []:=hSS.trans (MW ls h0);rw[h0];have CS:=fun V=>Fg none 0 [] V (.inl ⟨rfl,rfl,rfl⟩) (by simp) (by simp);rw[<- hS0] at CS;clear hS0 hSS h0 ih hR hn hc hbytes;go_enter Tryz.func30,Tryz.ntmps30;go_upto_region 3 with fail;change Code.wp _ _ _ _ (w.alloc (.cells (ZF (List.replicate 32 0)) 50));generalize w.alloc (.cells (ZF (List.replicate 32 0)) 50)=W at *
    apply wp_region_lit;refine TV (by kernel_rfl) (some 8) rfl 56 #[.slice none 0 0] (.agg (ZF S)) (Below W.heap.size W) (by kernel_rfl) (CS W) (fun V1 hb1=>?_);have PI:=hC.below hb1;clear hC hb1 hb0 CS;simp only[Act.put,List.setIfInBounds_toArray,List.set_cons_succ,List.set_cons_zero];apply Zt (ty:=50) (x:=.tmp 2) (y:=.tmp 8) (g:=w.heap.size) (c:=ZF (List.replicate 32 0)) (c':=ZF S)
    case hgd=>rfl
    case ho=>rfl
    case hx=>kernel_rfl
    case hy=>kernel_rfl
    case hg=>exact PI.1
    case hi=>rw[hsS]; kernel_rfl
    case hz=>rw[hsS]; rfl
    case h1=>exact WQ _
    apply wpList_nil;have Jt:Ab (V1.setRow w.heap.size (ZF S)) w.heap.size 50 S:=setRow_heap _ _ _ _ _ _ PI.1;have XG:=ZU PI.2.2 (Nat.le_refl w.heap.size) (ZF S);generalize V1.setRow w.heap.size (ZF S)=V9 at *
    simp only[Act.put];go_wp2_with fail;refine bodyPost_ret (v:=.agg (ZF S)) ?_ rfl ⟨rfl,XG⟩;refine results_cell_row (fn:=Tryz.f30) (p:=2) (ty:=50) rfl _ _ w.heap.size 50 (ZF S) (0,0) (.array 32 5) rfl Jt ?_ rfl ?_
    · kernel_rfl
    · rw[hsS]; kernel_rfl
  · have hS1:S=Po (ls.getD 0 []):=hSS.trans (MV ls h1);obtain⟨b,off,ai,ci,rfl,hlt,hcl,hs,hl,h8,h3⟩:=hC.2.1 0 (by omega);have CL:=fun V (h:Sl V ai ci (ls.getD 0 []))=>jg ai ci (ls.getD 0 []) V h h8 h3;rw[<- hS1] at CL;rw[h1];generalize ls.getD 0 []=B at *
    clear hS1 hSS ih hR hn hc hbytes h8 h3 hl h1;go_enter Tryz.func30,Tryz.ntmps30;go_upto_region 5 with fail;change Code.wp _ _ _ _ (w.alloc (.cells (ZF (List.replicate 32 0)) 50));generalize w.alloc (.cells (ZF (List.replicate 32 0)) 50)=W at *
    apply wp_region_lit;refine YW (by kernel_rfl) (some 11) rfl (.slice (some ⟨b,off,none⟩) 1 c) (by kernel_rfl) ?_;simp only[Act.put,List.setIfInBounds_toArray,List.set_cons_succ,List.set_cons_zero];refine YW (by kernel_rfl) (some 12) rfl (Z5 b off) (by kernel_rfl) ?_;simp only[Act.put,List.setIfInBounds_toArray,List.set_cons_succ,List.set_cons_zero];refine Qc (by kernel_rfl) (some 13) rfl 54 (.tmp 12) rfl ⟨b,off,none⟩ (.slice ai B.length ci) (by kernel_rfl) (BA (by rw[Nat.add_zero] at hcl; exact hcl) (by kernel_rfl)) ?_;simp only[Act.put,List.setIfInBounds_toArray,List.set_cons_succ,List.set_cons_zero];refine TV (by kernel_rfl) (some 14) rfl 57 #[.slice ai B.length ci] (.agg (ZF S)) (Below W.heap.size W) (by kernel_rfl) (CL W hs) (fun V1 hb1=>?_);have PI:=hC.below hb1;clear hC hb1 hb0 CL hs hcl hlt;simp only[Act.put,List.setIfInBounds_toArray,List.set_cons_succ,List.set_cons_zero];apply Zt (ty:=50) (x:=.tmp 2) (y:=.tmp 14) (g:=w.heap.size) (c:=ZF (List.replicate 32 0)) (c':=ZF S)
    case hgd=>rfl
    case ho=>rfl
    case hx=>kernel_rfl
    case hy=>kernel_rfl
    case hg=>exact PI.1
    case hi=>rw[hsS]; kernel_rfl
    case hz=>rw[hsS]; rfl
    case h1=>exact WQ _
    apply wpList_nil;have Jt:Ab (V1.setRow w.heap.size (ZF S)) w.heap.size 50 S:=setRow_heap _ _ _ _ _ _ PI.1;have XG:=ZU PI.2.2 (Nat.le_refl w.heap.size) (ZF S);generalize V1.setRow w.heap.size (ZF S)=V9 at *
    simp only[Act.put];go_wp2_with fail;refine bodyPost_ret (v:=.agg (ZF S)) ?_ rfl ⟨rfl,XG⟩;refine results_cell_row (fn:=Tryz.f30) (p:=2) (ty:=50) rfl _ _ w.heap.size 50 (ZF S) (0,0) (.array 32 5) rfl Jt ?_ rfl ?_
    · kernel_rfl
    · rw[hsS]; kernel_rfl
  · obtain⟨k1,k2,k3⟩:=Ut ls.length h2;have hS2:S=Wi (Zb (ls.take (Zp ls.length))) (Zb (ls.drop (Zp ls.length))):=hSS.trans (MS ls h2);have hX:=Xw (ls.take (Zp ls.length));have hY:=Xw (ls.drop (Zp ls.length));have htl:(ls.take (Zp ls.length)).length=Zp ls.length:=(by rw[List.length_take]; omega);have hdl:(ls.drop (Zp ls.length)).length=ls.length-Zp ls.length:=(by rw[List.length_drop]);have CX:=fun(V:World) (h:RC w al ls V)=>(ih (ls.take (Zp ls.length)) al c V (by omega) (by omega) (h.2.1.take _)).mono fun e w' (q:e=.returned (.agg (ZF (Zb (ls.take (Zp ls.length)))))/\Below V.heap.size V w')=>(⟨q.1,h.below q.2⟩:e=.returned (.agg (ZF (Zb (ls.take (Zp ls.length)))))/\RC w al ls w');have CY:=fun(V:World) (h:RC w al ls V)=>(ih (ls.drop (Zp ls.length)) (YJ al c (Zp ls.length)) (c-Zp ls.length) V (by omega) (by omega) (h.2.1.from c _ hc)).mono fun e w' (q:e=.returned (.agg (ZF (Zb (ls.drop (Zp ls.length)))))/\Below V.heap.size V w')=>(⟨q.1,h.below q.2⟩:e=.returned (.agg (ZF (Zb (ls.drop (Zp ls.length)))))/\RC w al ls w');have CI:=fun(V:World) (h:RC w al ls V)=>(rU (Zb (ls.take (Zp ls.length))) (Zb (ls.drop (Zp ls.length))) V hX.1 hY.1 hX.2 hY.2).mono fun e w' (q:e=.returned (.agg (ZF (Wi (Zb (ls.take (Zp ls.length))) (Zb (ls.drop (Zp ls.length))))))/\Below V.heap.size V w')=>(⟨q.1,h.below q.2⟩:e=.returned (.agg (ZF (Wi (Zb (ls.take (Zp ls.length))) (Zb (ls.drop (Zp ls.length))))))/\RC w al ls w');have CH:=fun V=>je ls.length V (by omega);have e1:=fun V=>vZ al ls.length c (Zp ls.length) V (by omega);have e2:=fun V=>Hy al ls.length c (Zp ls.length) V (by omega);rw[<- hS2] at CI;rw[htl] at CX;rw[hdl] at CY;generalize Zb (ls.take (Zp ls.length))=X at *
    generalize Zb (ls.drop (Zp ls.length))=Y at *
    generalize Zp ls.length=k at *
    generalize hl:ls.length=n at *
    have hd0:((n:Int) == 0)=false:=(by simp; omega);have hd1:((n:Int) == 1)=false:=(by simp; omega);clear hl hS2 hSS ih hR hbytes hX hY htl hdl;go_enter Tryz.func30,Tryz.ntmps30;go_upto_region 6 with fail;change Code.wp _ _ _ _ (w.alloc (.cells (ZF (List.replicate 32 0)) 50));generalize w.alloc (.cells (ZF (List.replicate 32 0)) 50)=W at *
    go_upto_region 7 with (go_at_call 58; refine(CH _).mono ?_; rintro e w1 ⟨rfl,rfl⟩)
    refine XV (RC w al ls) 9 (by kernel_rfl) (by kernel_rfl) (hC.below (Below.refl _ W).drew) ?_;refine Uu (by kernel_rfl) (some 18) rfl (.slice al n c) (fun w' _=>by kernel_rfl) ?_;simp only[Act.put,List.setIfInBounds_toArray,List.set_cons_succ,List.set_cons_zero];refine Uu (by kernel_rfl) (some 19) rfl (Z8 k) (fun w' _=>by kernel_rfl) ?_;simp only[Act.put,List.setIfInBounds_toArray,List.set_cons_succ,List.set_cons_zero];refine NT rfl 23 (.tmp 18) (.tmp 19) rfl (.slice al n c) (Z8 k) (.slice al k c) (by kernel_rfl) (by kernel_rfl) (fun w' _=>e1 w') ?_;simp only[Act.put,List.setIfInBounds_toArray,List.set_cons_succ,List.set_cons_zero];refine Vy (by kernel_rfl) (some 21) rfl 30 #[.slice al k c] (.agg (ZF X)) (fun w' _=>by kernel_rfl) (fun w' hC=>CX w' hC) ?_;simp only[Act.put,List.setIfInBounds_toArray,List.set_cons_succ,List.set_cons_zero];refine Uu (by kernel_rfl) (some 22) rfl (.slice al n c) (fun w' _=>by kernel_rfl) ?_;simp only[Act.put,List.setIfInBounds_toArray,List.set_cons_succ,List.set_cons_zero];refine Uu (by kernel_rfl) (some 23) rfl (Z8 k) (fun w' _=>by kernel_rfl) ?_;simp only[Act.put,List.setIfInBounds_toArray,List.set_cons_succ,List.set_cons_zero];refine NM rfl 23 (.tmp 22) (.tmp 23) rfl (.slice al n c) (Z8 k) (.slice (YJ al c k) (n-k) (c-k)) (by kernel_rfl) (by kernel_rfl) (fun w' _=>e2 w') ?_;simp only[Act.put,List.setIfInBounds_toArray,List.set_cons_succ,List.set_cons_zero];refine Vy (by kernel_rfl) (some 25) rfl 30 #[.slice (YJ al c k) (n-k) (c-k)] (.agg (ZF Y)) (fun w' _=>by kernel_rfl) (fun w' hC=>CY w' hC) ?_;simp only[Act.put,List.setIfInBounds_toArray,List.set_cons_succ,List.set_cons_zero];refine Vy (by kernel_rfl) (some 26) rfl 59 #[.agg (ZF X),.agg (ZF Y)] (.agg (ZF S)) (fun w' _=>by kernel_rfl) (fun w' hC=>CI w' hC) ?_;simp only[Act.put,List.setIfInBounds_toArray,List.set_cons_succ,List.set_cons_zero];refine wpQuiet_nil ?_;intro V1 PI;clear hC hb0 CX CY CI CH e1 e2;apply Zt (ty:=50) (x:=.tmp 2) (y:=.tmp 26) (g:=w.heap.size) (c:=ZF (List.replicate 32 0)) (c':=ZF S)
    case hgd=>rfl
    case ho=>rfl
    case hx=>kernel_rfl
    case hy=>kernel_rfl
    case hg=>exact PI.1
    case hi=>rw[hsS]; kernel_rfl
    case hz=>rw[hsS]; rfl
    case h1=>exact WQ _
    apply wpList_nil;have Jt:Ab (V1.setRow w.heap.size (ZF S)) w.heap.size 50 S:=setRow_heap _ _ _ _ _ _ PI.1;have XG:=ZU PI.2.2 (Nat.le_refl w.heap.size) (ZF S);generalize V1.setRow w.heap.size (ZF S)=V9 at *
    simp only[Act.put];go_wp2_with fail;refine bodyPost_ret (v:=.agg (ZF S)) ?_ rfl ⟨rfl,XG⟩;refine results_cell_row (fn:=Tryz.f30) (p:=2) (ty:=50) rfl _ _ w.heap.size 50 (ZF S) (0,0) (.array 32 5) rfl Jt ?_ rfl ?_
    · kernel_rfl
    · rw[hsS]; kernel_rfl
theorem BF (ls:List (List Int))(al:Option Addr)(c:Nat)(w:World)(hn:ls.length<=1000)(hc:ls.length<=c)(hR:RB w al ls) :
    Calls Tryz.prog 30 #[.slice al ls.length c] w fun e w'=>e=.returned (.agg (ZF (Zb ls)))/\Below w.heap.size w w':=by
  have h:∀ m,∀ (ls:List (List Int)) (al:Option Addr) (c:Nat) (w:World),ls.length<=m->ls.length<=1000->ls.length<=c->RB w al ls ->
      Calls Tryz.prog 30 #[.slice al ls.length c] w fun e w'=>e=.returned (.agg (ZF (Zb ls)))/\Below w.heap.size w w':=by
    intro m;induction m with
    | zero=>exact fun ls al c w hm hn hc hR=>NK ls al c w hn hc hR (fun BD _ _ _ hl _ _=>by omega)
    | succ m ih=>exact fun ls al c w hm hn hc hR=>NK ls al c w hn hc hR (fun BD al2 c2 w2 hl hc2 hR2=>ih BD al2 c2 w2 (by omega) (by omega) hc2 hR2)
  exact h ls.length ls al c w (Nat.le_refl _) hn hc hR
theorem aa7 (B:List Int):(Po B).length=32:=WY _
theorem ji (A B:List Int):(Wi A B).length=32:=WY _
def Bq (x:Nat):Nat:=if x<256 then x.log2+1 else if x<65536 then (x / 256).log2+1+8 else (x / 65536).log2+1+16
theorem yM (x:Nat)(h0:0<x)(h1:x<=1000000):∃ e,Bq x=e+1/\2 ^ e<=x/\x<2*2 ^ e/\e<23:=by
  have key:∀ y,0<y->y<256->2 ^ y.log2<=y/\y<2*2 ^ y.log2/\y.log2<8:=fun y a b=>by
    refine⟨Nat.log2_self_le (by omega),?_,(Nat.log2_lt (by omega)).2 (by omega)⟩;have:=@Nat.lt_log2_self y;rw[Nat.pow_succ] at this;omega
  unfold Bq;by_cases ha:x<256
  · obtain⟨a,b,c⟩:=key x h0 ha;exact⟨x.log2,by rw[if_pos ha],a,b,by omega⟩
  · by_cases hb:x<65536
    · obtain⟨a,b,c⟩:=key (x / 256) (by omega) (by omega);refine⟨(x / 256).log2+8,by rw[if_neg ha,if_pos hb],?_,?_,by omega⟩ <;> (rw[Nat.pow_add]; omega)
    · obtain⟨a,b,c⟩:=key (x / 65536) (by omega) (by omega);have:(x / 65536).log2<4:=(Nat.log2_lt (by omega)).2 (by omega);refine⟨(x / 65536).log2+16,by rw[if_neg ha,if_neg hb],?_,?_,by omega⟩ <;> (rw[Nat.pow_add]; omega)
def jc:ByteArray:={ data:=(([0,1,2,2,3,3,3,3,4,4,4,4,4,4,4,4,5,5,5,5,5,5,5,5,5,5,5,5,5,5,5,5,6,6,6,6,6,6,6,6,6,6,6,6,6,6,6,6,6,6,6,6,6,6,6,6,6,6,6,6,6,6,6,6].append [7,7,7,7,7,7,7,7,7,7,7,7,7,7,7,7,7,7,7,7,7,7,7,7,7,7,7,7,7,7,7,7,7,7,7,7,7,7,7,7,7,7,7,7,7,7,7,7,7,7,7,7,7,7,7,7,7,7,7,7,7,7,7,7]).append ([8,8,8,8,8,8,8,8,8,8,8,8,8,8,8,8,8,8,8,8,8,8,8,8,8,8,8,8,8,8,8,8,8,8,8,8,8,8,8,8,8,8,8,8,8,8,8,8,8,8,8,8,8,8,8,8,8,8,8,8,8,8,8,8].append [8,8,8,8,8,8,8,8,8,8,8,8,8,8,8,8,8,8,8,8,8,8,8,8,8,8,8,8,8,8,8,8,8,8,8,8,8,8,8,8,8,8,8,8,8,8,8,8,8,8,8,8,8,8,8,8,8,8,8,8,8,8,8,8])).toArray }
theorem EZ:∀ y,y<256->0<y->∃ h:y<jc.size,(jc[y]'h).toNat=y.log2+1:=by decide +kernel
theorem rP (x:Nat)(w:World)(h0:0<x)(h1:x<=1000000):Calls Tryz.prog 123 #[.int .u64 x] w fun e w'=>e=.returned (.int .i64 (Bq x))/\w=w':=by
  have hd0:decide ((4294967296:Int)<=(x:Int))=false:=decide_eq_false (by omega);unfold Bq;go_enter Tryz.func123,Tryz.ntmps123;by_cases ha:x<256
  · have hd1:decide ((65536:Int)<=(x:Int))=false:=decide_eq_false (by omega);have hd2:decide ((256:Int)<=(x:Int))=false:=decide_eq_false (by omega);have hl:x.log2<8:=(Nat.log2_lt (by omega)).2 (by omega);obtain⟨hs,he⟩:=EZ x ha h0;rw[if_pos ha];generalize x.log2=l at *
    go_wp2_with fail;go_ret;refine⟨?_,rfl⟩;show Ending.returned (Value.int .i64 (wrap64 (wrap64 ((jc[x]'hs).toNat:Int))))=_;rw[he];congr 2;unfold wrap64;omega
  · have hd2:decide ((256:Int)<=(x:Int))=true:=decide_eq_true (by omega);by_cases hb:x<65536
    · have hd1:decide ((65536:Int)<=(x:Int))=false:=decide_eq_false (by omega);have hl:(x / 256).log2<8:=(Nat.log2_lt (by omega)).2 (by omega);obtain⟨hs,he⟩:=EZ (x / 256) (by omega) (by omega);rw[if_neg ha,if_pos hb];generalize (x / 256).log2=l at *;have hq0:(0:Int)<=(x:Int)/256:=(by omega);have hq1:(x:Int)/256<=255:=(by omega)
      go_wp2_with fail;go_ret;refine⟨?_,rfl⟩;have hq2:Lib.len8 ((x:Int)/256)=((l+1:Nat):Int):=(by unfold Lib.len8; rw[show ((x:Int)/256).toNat=x/256 by omega,show Lib.len8tab=jc from (by decide +kernel),getElem?_pos jc (x/256) hs]; simp only[Option.getD_some]; rw[he]);show Ending.returned (Value.int .i64 (wrap64 (8+wrap64 (Lib.len8 ((x:Int)/256)))))=_;rw[hq2];congr 2;unfold wrap64;omega
    · have hd1:decide ((65536:Int)<=(x:Int))=true:=decide_eq_true (by omega);have hd3:decide ((256:Int)<=(x:Int) / 65536)=false:=decide_eq_false (by omega);have hl:(x / 65536).log2<8:=(Nat.log2_lt (by omega)).2 (by omega);obtain⟨hs,he⟩:=EZ (x / 65536) (by omega) (by omega);rw[if_neg ha,if_neg hb];generalize (x / 65536).log2=l at *;have hq0:(0:Int)<=(x:Int)/65536:=(by omega);have hq1:(x:Int)/65536<=255:=(by omega)
      go_wp2_with fail;go_ret;refine⟨?_,rfl⟩;have hq2:Lib.len8 ((x:Int)/65536)=((l+1:Nat):Int):=(by unfold Lib.len8; rw[show ((x:Int)/65536).toNat=x/65536 by omega,show Lib.len8tab=jc from (by decide +kernel),getElem?_pos jc (x/65536) hs]; simp only[Option.getD_some]; rw[he]);show Ending.returned (Value.int .i64 (wrap64 (16+wrap64 (Lib.len8 ((x:Int)/65536)))))=_;rw[hq2];congr 2;unfold wrap64;omega
theorem iZ (x:Nat)(w:World)(h0:0<x)(h1:x<=1000000):Calls Tryz.prog 93 #[Z7 x] w fun e w'=>e=.returned (Z8 (Bq x))/\w=w':=by
  have C:=rP x;go_enter Tryz.func93,Tryz.ntmps93;go_wp2_with (go_at_call 123; refine(C _ h0 h1).mono ?_; rintro e w' ⟨rfl,rfl⟩)
  go_ret;exact⟨rfl,rfl⟩
theorem rW (n:Nat)(w:World)(h2:2<=n)(hn:n<=1000000):Calls Tryz.prog 53 #[Z8 n] w fun e w'=>e=.returned (Z8 (Zp n))/\w=w':=by
  obtain⟨e,he,ha,hb,hc⟩:=yM (n-1) (by omega) (by omega);have HH:=Z9 (jd n (2 ^ e) e h2 rfl (by omega) (by omega));have C:=fun w=>iZ (n-1) w (by omega) (by omega);rw[he,show((n-1:Nat):Int)=(n:Int)-1 by omega] at C;go_enter Tryz.func53,Tryz.ntmps53;go_wp2_with (go_at_call 93; refine(C _).mono ?_; rintro e w' ⟨rfl,rfl⟩)
  have hp:((2 ^ e:Nat):Int)=(2:Int) ^ e:=by simp
  have hx:wrap64 ((2:Int) ^ e)=((Zp n:Nat):Int):=by
    rw[HH.out,<- hp];have:2 ^ e<=1000000:=(by omega);generalize 2 ^ e=k at *
    unfold wrap64;omega
  rw[hx];go_ret;exact⟨rfl,rfl⟩
theorem Hu (ps:List (List Int))(k:Nat)(h:k<ps.length):(ps.take (k+1)).flatten=(ps.take k).flatten++ps.getD k []:=by
  rw[sZ ps k h,List.flatten_append];simp
theorem jh (ps:List (List Int))(k:Nat):(ps.take k).flatten.length<=ps.flatten.length:=by
  conv=>rhs; rw[<- List.take_append_drop k ps,List.flatten_append,List.length_append]
  omega
theorem Js (ps:List (List Int))(al:Option Addr)(c:Nat)(w:World)(hG:Glob w)(hn:ps.length<=1000)(hR:RB w al ps)(hl:ps.flatten.length<=400000) :
    Calls Tryz.prog 92 #[.slice al ps.length c] w fun e w'=>e=.returned (.agg (ZF (WO ps.flatten)))/\Below w.heap.size w w':=by
  have hg2:=hG.size;have hb0:Below w.heap.size w (w.alloc (.cells (ZF (List.replicate 32 0)) 50)):=(Below.refl _ _).alloc (by simp) _;have hA0:Ab (w.alloc (.cells (ZF (List.replicate 32 0)) 50)) w.heap.size 50 (List.replicate 32 0):=heap_alloc_last _ _;have hs0:(w.alloc (.cells (ZF (List.replicate 32 0)) 50)).heap.size=w.heap.size+1:=by simp
  obtain⟨S,hSS⟩:∃ S,S=WO ps.flatten:=⟨_,rfl⟩;have Qy:(ZF S).size=32:=by rw[hSS]; simp[WY]
  have iM:=Z9 hSS;rw[<- hSS];clear hSS;go_enter Tryz.func92,Tryz.ntmps92;go_upto_region 1 with fail;change Code.wp _ _ _ _ (w.alloc (.cells (ZF (List.replicate 32 0)) 50));generalize w.alloc (.cells (ZF (List.replicate 32 0)) 50)=W at *
  have hGW:=hG.below hg2 hb0;have hN:=DM.new W;have hbN:Below W.heap.size W (W.alloc (.cells (XB I7 z64 0).toArray 162)):=(Below.refl _ _).alloc (Nat.le_refl _) _;have cN:=new_any W hGW;rw[hs0] at hN;generalize W.alloc (.cells (XB I7 z64 0).toArray 162)=V at *
  have aA:=hA0.below (by omega) hbN;have AX:Below w.heap.size w V:=hb0.trans (hbN.mono (by omega));rw[hs0] at cN;have Ru:=Z9 AX;have HR:=Z9 hR;have HG:=Z9 hG;have HL:=Z9 hl;have HN:=Z9 hn;have HDN:=Z9 hN;have HZV:=Z9 aA;clear hb0 hA0 hGW hN hbN AX hR hs0 hl hn aA;go_upto_region 2 with (go_at_call 89; refine cN.mono ?_; rintro e w1 ⟨rfl,rfl⟩)
  clear cN;go_wp2_with fail;go_loopg [9] ps.length (fun g s9 wx=>∃ k:Nat,s9=Z8 k/\k<=ps.length/\DM wx (w.heap.size+1) (ps.take k).flatten/\But (w.heap.size+1) w1 wx/\ps.length-k=g)
  case atStart=>exact⟨0,rfl,by omega,HDN.out,But.refl _ _,rfl⟩
  case round=>
    obtain⟨k,rfl,hk,hD,hB,hgk⟩:=hrel;have hGx:=hB.glob (by omega) (HG.out.below hg2 Ru.out);have hBw:Below w.heap.size w wr:=Ru.out.trans (hB.below (by omega));by_cases hlt:k<ps.length
    · obtain⟨b,off,ai,ci,rfl,hlb,hcl,hs,hlc,h8,h3⟩:=HR.out k hlt;have hfl:=jh ps (k+1);rw[Hu ps k hlt] at hfl;have aR1:(ps.take k).flatten.length+(ps.getD k []).length<=400000:=by
        rw[List.length_append] at hfl;have:=HL.out;omega
      have cW:=write_any (w.heap.size+1) (ps.take k).flatten (ps.getD k []) ai ci wr hGx (by omega) hD (ZP hs hBw) (fun hne=>hs.off (by omega) hne) hlc h8 (by omega);rw[<- Hu ps k hlt] at cW;have hcx:wr.cell? ⟨b,off+k,none⟩=some (.slice ai (ps.getD k []).length ci):=(hBw.cell (p:=⟨b,off+k,none⟩) hlb).trans hcl;have hd:decide ((k:Int)<(ps.length:Int))=true:=decide_eq_true (by omega);have HFN:Hid (ps.length-(k+1)=gk-1):=Z9 (by omega);have HP:Hid (0<gk):=Z9 (by omega);have HB:=Z9 hB;have HK:Hid (k+1<=ps.length):=Z9 (by omega);generalize (ps.getD k []).length=m at *
      clear hfl aR1 hs hlc h8 h3 hD hB hGx hBw hlb hcl;go_wp2_with (go_at_call 90; refine cW.mono ?_; rintro e w2 ⟨rfl,hM2,hb2⟩)
      go_roundg (gk-1)
      case measure=>have:=HP.out; omega
      case rel=>exact⟨k+1,by congr 1; have:=HN.out; unfold wrap64; omega,HK.out,hM2,HB.out.trans hb2,HFN.out⟩
    · have hke:k=ps.length:=(by omega);rw[hke,List.take_length] at hD;have hd:decide ((k:Int)<(ps.length:Int))=false:=decide_eq_false (by omega);have hZ:Ab wr w.heap.size 50 (List.replicate 32 0):=by
        have h:=HZV.out;unfold Ab at h ⊢;rw[hB.2 _ HZV.out.lt (by omega)];exact h
      have cS:=sum_any (w.heap.size+1) ps.flatten wr hGx (by omega) hD (by have:=HL.out; omega);rw[<- iM.out] at cS;clear hGx hB hD;go_upto_region 7 with fail;apply wp_region_lit;refine YW (by kernel_rfl) (some 17) rfl (Z5 (w.heap.size+1) 0) (by kernel_rfl) ?_;simp only[Act.put,List.setIfInBounds_toArray,List.set_cons_succ,List.set_cons_zero];refine TV (by kernel_rfl) (some 18) rfl 91 #[Z5 (w.heap.size+1) 0] (.agg (ZF S)) (Below wr.heap.size wr) (by kernel_rfl) cS (fun V1 hb1=>?_);simp only[Act.put,List.setIfInBounds_toArray,List.set_cons_succ,List.set_cons_zero];have hZ1:=hZ.below hZ.lt hb1;apply Zt (ty:=50) (x:=.tmp 2) (y:=.tmp 18) (g:=w.heap.size) (c:=ZF (List.replicate 32 0)) (c':=ZF S)
      case hgd=>rfl
      case ho=>rfl
      case hx=>kernel_rfl
      case hy=>kernel_rfl
      case hg=>exact hZ1
      case hi=>rw[Qy]; kernel_rfl
      case hz=>rw[Qy]; rfl
      case h1=>exact WQ _
      apply wpList_nil;have Jt:Ab (V1.setRow w.heap.size (ZF S)) w.heap.size 50 S:=setRow_heap _ _ _ _ _ _ hZ1;have XG:=ZU (hBw.trans (hb1.mono hBw.size)) (Nat.le_refl w.heap.size) (ZF S);generalize V1.setRow w.heap.size (ZF S)=V9 at *
      simp only[Act.put];clear hZ hZ1 cS hb1 hBw hke hgk hk hlt hd HL HN HDN HZV Ru HG HR hG hg2;go_wp2_with fail;refine bodyPost_ret (v:=.agg (ZF S)) ?_ rfl ⟨rfl,XG⟩;refine results_cell_row (fn:=Tryz.f92) (p:=2) (ty:=50) rfl _ _ w.heap.size 50 (ZF S) (0,0) (.array 32 5) rfl Jt ?_ rfl ?_
      · kernel_rfl
      · rw[Qy]; kernel_rfl
theorem jl {V:World}{g:Nat}{vs:Array Value}{fr:Nat×Nat}{ls:List (List Int)}(h:V.heap[g]?=some (.cells vs 54 fr))
    (hv:∀ i,i<ls.length->∃ ai ci,vs[i]?=some (.slice ai (ls.getD i []).length ci)/\Sl V ai ci (ls.getD i [])/\(ls.getD i []).length<=ci/\(∀ x,x∈ls.getD i []->W8 x)/\(ls.getD i []).length<=300000):RB V (some ⟨g,0,none⟩) ls:=fun i hi=>by
  obtain⟨ai,ci,e,r⟩:=hv i hi;refine⟨g,0,ai,ci,rfl,(Array.getElem?_eq_some_iff.1 h).1,?_,r⟩;rw[Nat.zero_add,cell_of_row _ g i _ 54 fr h];exact e
theorem Fa (a b:Option Addr)(n1 c1 n2 c2:Nat)(w:World):(Instr.buildSlice 23 2 #[(0,.slice a n1 c1),(1,.slice b n2 c2)]).run Tryz.prog w=.ok (.slice (some ⟨w.heap.size,0,none⟩) 2 2) (w.alloc (.cells #[.slice a n1 c1,.slice b n2 c2] 54)):=by
  obtain⟨i0,hi,hz0,hz1,hz2⟩:=info_parts info22;refine run_buildSlice w 23 54 2 _ #[.slice a n1 c1,.slice b n2 c2] i0 _ (by kernel_rfl) hi hz0 (by rw[hz1]; omega) (by rw[hz1]; omega) ?_;rw[hz1];kernel_rfl
theorem E8 (a b d:Option Addr)(n1 c1 n2 c2 n3 c3:Nat)(w:World):(Instr.buildSlice 23 3 #[(0,.slice a n1 c1),(1,.slice b n2 c2),(2,.slice d n3 c3)]).run Tryz.prog w=.ok (.slice (some ⟨w.heap.size,0,none⟩) 3 3) (w.alloc (.cells #[.slice a n1 c1,.slice b n2 c2,.slice d n3 c3] 54)):=by
  obtain⟨i0,hi,hz0,hz1,hz2⟩:=info_parts info22;refine run_buildSlice w 23 54 3 _ #[.slice a n1 c1,.slice b n2 c2,.slice d n3 c3] i0 _ (by kernel_rfl) hi hz0 (by rw[hz1]; omega) (by rw[hz1]; omega) ?_;rw[hz1];kernel_rfl
theorem rX (B:List Int)(a:Option Addr)(c:Nat)(w:World)(hG:Glob w)(hS:Sl w a c B)(hc:B.length<=c)(h8:∀ x,x∈B->W8 x)(hn:B.length<=300000) :
    Calls Tryz.prog 52 #[.slice a B.length c] w fun e w'=>e=.returned (.agg (ZF (Po B)))/\Below w.heap.size w w':=by
  have hg2:=hG.size;have hb0:Below w.heap.size w (w.alloc (.cells (ZF (List.replicate 32 0)) 50)):=(Below.refl _ _).alloc (by simp) _;have hA0:Ab (w.alloc (.cells (ZF (List.replicate 32 0)) 50)) w.heap.size 50 (List.replicate 32 0):=heap_alloc_last _ _;have hs0:(w.alloc (.cells (ZF (List.replicate 32 0)) 50)).heap.size=w.heap.size+1:=by simp
  obtain⟨S,hSS⟩:∃ S,S=Po B:=⟨_,rfl⟩;have hsS:(ZF S).size=32:=by rw[hSS,Sj]; exact aa7 _
  have CD:=fun(V:World) (al:Option Addr) (h:RB V al [[0],B]) (hV:Glob V)=>Js [[0],B] al 2 V hV (by simp) h (by simp; omega);rw[show WO [[0],B].flatten=S by rw[hSS]; simp[Po]] at CD;rw[<- hSS];clear hSS;go_enter Tryz.func52,Tryz.ntmps52;go_upto_region 1 with fail;change Code.wp _ _ _ _ (w.alloc (.cells (ZF (List.replicate 32 0)) 50));generalize w.alloc (.cells (ZF (List.replicate 32 0)) 50)=W at *
  have hb1:Below W.heap.size W (W.alloc (.cells #[.int .u8 0] 5)):=(Below.refl _ _).alloc (Nat.le_refl _) _;have h01:Sl (W.alloc (.cells #[.int .u8 0] 5)) (some ⟨W.heap.size,0,none⟩) 1 [0]:=Rl W 0 5;have hs1:(W.alloc (.cells #[.int .u8 0] 5)).heap.size=W.heap.size+1:=by simp
  obtain⟨V,hV⟩:∃ V,V=(W.alloc (.cells #[.int .u8 0] 5)).alloc (.cells #[.slice (some ⟨W.heap.size,0,none⟩) 1 1,.slice a B.length c] 54):=⟨_,rfl⟩;have hb2:Below (W.heap.size+1) (W.alloc (.cells #[.int .u8 0] 5)) V:=by rw[hV]; exact(Below.refl _ _).alloc (by omega) _
  have hl2:V.heap[W.heap.size+1]?=some (.cells #[.slice (some ⟨W.heap.size,0,none⟩) 1 1,.slice a B.length c] 54 (0,0)):=by rw[hV,<- hs1]; exact heap_alloc_last _ _
  have jk:Below W.heap.size W V:=hb1.trans (hb2.mono (by omega));have hSV:Sl V a c B:=ZP hS (hb0.trans (jk.mono (by omega)));have aI9:Sl V (some ⟨W.heap.size,0,none⟩) 1 [0]:=ZP h01 (hb2.mono (by omega));have hRB:RB V (some ⟨W.heap.size+1,0,none⟩) [[0],B]:=jl hl2 fun i hi=>by
    have hi2:i=0∨i=1:=(by simp at hi; omega);rcases hi2 with rfl | rfl
    · exact⟨_,_,rfl,aI9,Nat.le_refl _,fun x hx=>by rw[List.mem_singleton.1 hx]; exact⟨by omega,by omega⟩,by simp⟩
    · exact⟨_,_,rfl,hSV,hc,h8,hn⟩
  have qV:Glob V:=hG.below hg2 (hb0.trans (jk.mono (by omega)));have aA:=hA0.below (by omega) (jk.mono (Nat.le_refl _));have hBV:Below w.heap.size w V:=hb0.trans (jk.mono (by omega));have C:=CD V _ hRB qV;have Ey:=Fa (some ⟨W.heap.size,0,none⟩) a 1 1 B.length c (W.alloc (.cells #[.int .u8 0] 5));rw[hs1,<- hV] at Ey;clear CD hRB hSV aI9 hl2 hV h01;apply wp_region_lit;refine Zv (by kernel_rfl) (some 3) rfl 54 1 #[(0,.const (.int .u8 0))] rfl #[(0,.int .u8 0)] (by kernel_rfl) (.slice (some ⟨W.heap.size,0,none⟩) 1 1) (W.alloc (.cells #[.int .u8 0] 5)) (by kernel_rfl) ?_;simp only[Act.put,List.setIfInBounds_toArray,List.set_cons_succ,List.set_cons_zero];refine YW (by kernel_rfl) (some 4) rfl (.slice a B.length c) (by kernel_rfl) ?_;simp only[Act.put,List.setIfInBounds_toArray,List.set_cons_succ,List.set_cons_zero];refine Zv (by kernel_rfl) (some 5) rfl 23 2 #[(0,.tmp 3),(1,.tmp 4)] rfl #[(0,.slice (some ⟨W.heap.size,0,none⟩) 1 1),(1,.slice a B.length c)] (by kernel_rfl) _ _ Ey ?_;simp only[Act.put,List.setIfInBounds_toArray,List.set_cons_succ,List.set_cons_zero];refine TV (by kernel_rfl) (some 6) rfl 92 #[.slice (some ⟨W.heap.size+1,0,none⟩) 2 2] (.agg (ZF S)) (Below V.heap.size V) (by kernel_rfl) C (fun V1 hbx=>?_);simp only[Act.put,List.setIfInBounds_toArray,List.set_cons_succ,List.set_cons_zero];have hZ1:=aA.below aA.lt hbx;have hB1:=hBV.trans (hbx.mono hBV.size);clear aA hBV hbx C Ey qV jk hb2 hb1 hb0 hA0;obtain⟨G0,hG0⟩:∃ G0,G0=w.heap.size:=⟨_,rfl⟩;have KN:w.heap.size<=G0:=by omega
  rw[<- hG0] at hZ1;rw[<- hG0];apply Zt (ty:=50) (x:=.tmp 2) (y:=.tmp 6) (g:=G0) (c:=ZF (List.replicate 32 0)) (c':=ZF S)
  case hgd=>rfl
  case ho=>rfl
  case hx=>kernel_rfl
  case hy=>kernel_rfl
  case hg=>exact hZ1
  case hi=>rw[hsS]; kernel_rfl
  case hz=>rw[hsS]; rfl
  case h1=>exact WQ _
  apply wpList_nil;have Jt:Ab (V1.setRow G0 (ZF S)) G0 50 S:=setRow_heap _ _ _ _ _ _ hZ1;have XG:=ZU hB1 KN (ZF S);generalize V1.setRow G0 (ZF S)=V9 at *
  simp only[Act.put];clear hZ1 hB1;go_wp2_with fail;refine bodyPost_ret (v:=.agg (ZF S)) ?_ rfl ⟨rfl,XG⟩;refine results_cell_row (fn:=Tryz.f52) (p:=2) (ty:=50) rfl _ _ G0 50 (ZF S) (0,0) (.array 32 5) rfl Jt ?_ rfl ?_
  · kernel_rfl
  · rw[hsS]; kernel_rfl
theorem yN (A B:List Int)(w:World)(hG:Glob w)(hA:A.length=32)(hB:B.length=32)(hA8:∀ x,x∈A->W8 x)(Nb:∀ x,x∈B->W8 x) :
    Calls Tryz.prog 54 #[.agg (ZF A),.agg (ZF B)] w fun e w'=>e=.returned (.agg (ZF (Wi A B)))/\Below w.heap.size w w':=by
  have hg2:=hG.size;have h1:Ab (w.alloc (.cells (ZF A) 50)) w.heap.size 50 A:=heap_alloc_last w _;have h2:Ab ((w.alloc (.cells (ZF A) 50)).alloc (.cells (ZF B) 50)) (w.heap.size+1) 50 B:=by
    have:=heap_alloc_last (w.alloc (.cells (ZF A) 50)) (.cells (ZF B) 50);simpa [Ab] using this
  have h3:Ab (((w.alloc (.cells (ZF A) 50)).alloc (.cells (ZF B) 50)).alloc (.cells (ZF (List.replicate 32 0)) 50)) (w.heap.size+2) 50 (List.replicate 32 0):=by
    have:=heap_alloc_last ((w.alloc (.cells (ZF A) 50)).alloc (.cells (ZF B) 50)) (.cells (ZF (List.replicate 32 0)) 50);simpa [Ab] using this
  have hA1:=(h1.alloc (.cells (ZF B) 50)).alloc (.cells (ZF (List.replicate 32 0)) 50);have hB1:=h2.alloc (.cells (ZF (List.replicate 32 0)) 50);have hb1:Below w.heap.size w (((w.alloc (.cells (ZF A) 50)).alloc (.cells (ZF B) 50)).alloc (.cells (ZF (List.replicate 32 0)) 50)):=(((Below.refl _ w).alloc (by simp) _).alloc (by simp) _).alloc (by simp; omega) _;have hs1:(((w.alloc (.cells (ZF A) 50)).alloc (.cells (ZF B) 50)).alloc (.cells (ZF (List.replicate 32 0)) 50)).heap.size=w.heap.size+3:=by simp
  obtain⟨S,hSS⟩:∃ S,S=Wi A B:=⟨_,rfl⟩;have hsS:(ZF S).size=32:=by rw[hSS,Sj]; exact ji _ _
  have CD:=fun(V:World) (al:Option Addr) (h:RB V al [[1],A,B]) (hV:Glob V)=>Js [[1],A,B] al 3 V hV (by simp) h (by simp[hA,hB]);rw[show WO [[1],A,B].flatten=S by rw[hSS]; simp[Wi]] at CD;rw[<- hSS];clear hSS h1 h2;go_enter Tryz.func54,Tryz.ntmps54;go_upto_region 1 with fail;change Code.wp _ _ _ _ (((w.alloc (.cells (ZF A) 50)).alloc (.cells (ZF B) 50)).alloc (.cells (ZF (List.replicate 32 0)) 50));generalize ((w.alloc (.cells (ZF A) 50)).alloc (.cells (ZF B) 50)).alloc (.cells (ZF (List.replicate 32 0)) 50)=W at *
  have hP:P3 w A B (List.replicate 32 0) W:=⟨hA1,hB1,h3,hb1,by omega⟩;have hsl0:=Qb w.heap.size;have hsl1:=Qb (w.heap.size+1);have hbs:=fun V=>E8 (some ⟨W.heap.size,0,none⟩) (some ⟨w.heap.size,0,none⟩) (some ⟨w.heap.size+1,0,none⟩) 1 1 32 32 32 32 V;obtain⟨V,hV⟩:∃ V,V=((W.alloc (.cells #[.int .u8 1] 5)).alloc (.cells #[.slice (some ⟨W.heap.size,0,none⟩) 1 1,.slice (some ⟨w.heap.size,0,none⟩) 32 32,.slice (some ⟨w.heap.size+1,0,none⟩) 32 32] 54)).drew:=⟨_,rfl⟩;have hs1':(W.alloc (.cells #[.int .u8 1] 5)).heap.size=W.heap.size+1:=by simp
  have aJ0:Below W.heap.size W (W.alloc (.cells #[.int .u8 1] 5)):=(Below.refl _ _).alloc (Nat.le_refl _) _;have as8:Below (W.heap.size+1) (W.alloc (.cells #[.int .u8 1] 5)) V:=by rw[hV]; exact((Below.refl _ _).alloc (by omega) _).drew
  have AX:Below W.heap.size W V:=aJ0.trans (as8.mono (by omega));have h01:Sl V (some ⟨W.heap.size,0,none⟩) 1 [1]:=ZP (Rl W 1 5) (as8.mono (by omega));have hl2:V.heap[W.heap.size+1]?=some (.cells #[.slice (some ⟨W.heap.size,0,none⟩) 1 1,.slice (some ⟨w.heap.size,0,none⟩) 32 32,.slice (some ⟨w.heap.size+1,0,none⟩) 32 32] 54 (0,0)):=by
    rw[hV,<- hs1'];exact heap_alloc_last _ _
  have hPV:P3 w A B (List.replicate 32 0) V:=hP.below AX (by omega);have hRB:RB V (some ⟨W.heap.size+1,0,none⟩) [[1],A,B]:=jl hl2 fun i hi=>by
    have hi2:i=0∨i=1∨i=2:=(by simp at hi; omega);rcases hi2 with rfl | rfl | rfl
    · exact⟨_,_,rfl,h01,Nat.le_refl _,fun x hx=>by rw[List.mem_singleton.1 hx]; exact⟨by omega,by omega⟩,by simp⟩
    · exact⟨_,32,by simp[hA],hPV.1.sl,by simp[hA],hA8,by simp[hA]⟩
    · exact⟨_,32,by simp[hB],hPV.2.1.sl,by simp[hB],Nb,by simp[hB]⟩
  have C:=CD V _ hRB (hG.below hg2 hPV.2.2.2.1);rw[hV] at C;have HPV:=Z9 hPV;rw[hV] at HPV;have hq:S.length=32:=by simpa using hsS
  have hi9:(Tryz.prog.info? 50).map (·.size)=some (ZF S).size:=by rw[hsS]; kernel_rfl
  have HI9:=Z9 hi9;have iM:=Z9 hsS;have HQ:=Z9 hq;have hone:=Hw S;clear hA1 hB1 hb1 h3 hV aJ0 as8 AX h01 hl2 hPV hRB hP CD hs1' hs1 hA hB hA8 Nb hi9 hsS hq
  go_region_held3 (fun _=>True) (trivial) (first
    | (go_at_call 92; refine C.mono ?_; rintro e w3 ⟨rfl,hb3⟩; have hP3:=HPV.out.below hb3 HPV.out.2.2.2.2; have hth:w3.there (w.heap.size+1+1) 0 (List.map (Value.int .u8) S).length:=hP3.2.2.1.there _ (by rw[List.length_map,HQ.out]; simp)))
  have Jt:=hP3.2.2.1.all S (by rw[HQ.out]; rfl);have XG:Below w.heap.size w (w3.setCells (w.heap.size+2) 0 (S.map (Value.int .u8))):=hP3.2.2.2.1.trans ((But.setCells _ _ _).below (by omega));have HA9:=Z9 Jt;have Zg:=Z9 XG;clear Jt XG hP3 hth hone hb3 C HPV;generalize w3.setCells (w.heap.size+1+1) 0 (S.map (Value.int .u8))=V9 at *
  go_wp2_with fail;refine bodyPost_ret (v:=.agg (ZF S)) ?_ rfl ⟨rfl,Zg.out⟩;refine results_cell_row (fn:=Tryz.f54) (p:=4) (ty:=50) rfl _ _ (w.heap.size+2) 50 (ZF S) (0,0) (.array 32 5) rfl HA9.out ?_ rfl ?_
  · kernel_rfl
  · exact HI9.out
def jm (w:World)(al:Option Addr)(ls:List (List Int))(V:World):Prop:=Ab V w.heap.size 50 (List.replicate 32 0)/\RB V al ls/\Below w.heap.size w V/\Glob V
theorem jm.below {w V V':World}{al:Option Addr}{ls:List (List Int)}(h:jm w al ls V)(hb:Below V.heap.size V V'):jm w al ls V':=⟨h.1.below h.1.lt hb,h.2.1.below hb,h.2.2.1.trans (hb.mono h.2.2.1.size),h.2.2.2.below h.2.2.2.size hb⟩
theorem Ju (ls:List (List Int))(al:Option Addr)(c:Nat)(w:World)(hG:Glob w)(hn:ls.length<=1000)(hc:ls.length<=c)(hR:RB w al ls)
    (ih:∀ (BD:List (List Int)) (al2:Option Addr) (c2:Nat) (w2:World),BD.length<ls.length->BD.length<=c2->RB w2 al2 BD->Glob w2->Calls Tryz.prog 28 #[.slice al2 BD.length c2] w2 fun e w'=>e=.returned (.agg (ZF (Zb BD)))/\Below w2.heap.size w2 w') :
    Calls Tryz.prog 28 #[.slice al ls.length c] w fun e w'=>e=.returned (.agg (ZF (Zb ls)))/\Below w.heap.size w w':=by
  have hb0:Below w.heap.size w (w.alloc (.cells (ZF (List.replicate 32 0)) 50)):=(Below.refl _ w).alloc (by simp) _;have hC:jm w al ls (w.alloc (.cells (ZF (List.replicate 32 0)) 50)):=⟨heap_alloc_last w _,hR.below hb0,hb0,hG.below hG.size hb0⟩;have hbytes:=Xw ls;obtain⟨S,hSS⟩:∃ S,S=Zb ls:=⟨_,rfl⟩;have hsS:(ZF S).size=32:=by rw[Sj,hSS]; exact hbytes.1
  rw[<- hSS];rcases (show ls.length=0∨ls.length=1∨2<=ls.length by omega) with h0 | h1 | h2
  · have hS0:S=WO []:=hSS.trans (MW ls h0);rw[h0];have CS:=fun V (h:Glob V)=>jL [] none 0 V h (.inl ⟨rfl,rfl,rfl⟩) (fun h=>absurd rfl h) (by simp) (by simp) (by simp);rw[<- hS0] at CS;clear hS0 hSS h0 ih hR hn hc hbytes;go_enter Tryz.func28,Tryz.ntmps28;go_upto_region 3 with fail;change Code.wp _ _ _ _ (w.alloc (.cells (ZF (List.replicate 32 0)) 50));generalize w.alloc (.cells (ZF (List.replicate 32 0)) 50)=W at *
    apply wp_region_lit;refine TV (by kernel_rfl) (some 8) rfl 51 #[.slice none 0 0] (.agg (ZF S)) (Below W.heap.size W) (by kernel_rfl) (CS W hC.2.2.2) (fun V1 hb1=>?_);have PI:=hC.below hb1;clear hC hb1 hb0 CS;simp only[Act.put,List.setIfInBounds_toArray,List.set_cons_succ,List.set_cons_zero];apply Zt (ty:=50) (x:=.tmp 2) (y:=.tmp 8) (g:=w.heap.size) (c:=ZF (List.replicate 32 0)) (c':=ZF S)
    case hgd=>rfl
    case ho=>rfl
    case hx=>kernel_rfl
    case hy=>kernel_rfl
    case hg=>exact PI.1
    case hi=>rw[hsS]; kernel_rfl
    case hz=>rw[hsS]; rfl
    case h1=>exact WQ _
    apply wpList_nil;have Jt:Ab (V1.setRow w.heap.size (ZF S)) w.heap.size 50 S:=setRow_heap _ _ _ _ _ _ PI.1;have XG:=ZU PI.2.2.1 (Nat.le_refl w.heap.size) (ZF S);generalize V1.setRow w.heap.size (ZF S)=V9 at *
    simp only[Act.put];go_wp2_with fail;refine bodyPost_ret (v:=.agg (ZF S)) ?_ rfl ⟨rfl,XG⟩;refine results_cell_row (fn:=Tryz.f28) (p:=2) (ty:=50) rfl _ _ w.heap.size 50 (ZF S) (0,0) (.array 32 5) rfl Jt ?_ rfl ?_
    · kernel_rfl
    · rw[hsS]; kernel_rfl
  · have hS1:S=Po (ls.getD 0 []):=hSS.trans (MV ls h1);obtain⟨b,off,ai,ci,rfl,hlt,hcl,hs,hl,h8,h3⟩:=hC.2.1 0 (by omega);have CL:=fun V (h:Sl V ai ci (ls.getD 0 [])) (hV:Glob V)=>rX (ls.getD 0 []) ai ci V hV h hl h8 h3;rw[<- hS1] at CL;rw[h1];generalize ls.getD 0 []=B at *
    clear hS1 hSS ih hR hn hc hbytes h8 h3 hl h1;go_enter Tryz.func28,Tryz.ntmps28;go_upto_region 5 with fail;change Code.wp _ _ _ _ (w.alloc (.cells (ZF (List.replicate 32 0)) 50));generalize w.alloc (.cells (ZF (List.replicate 32 0)) 50)=W at *
    apply wp_region_lit;refine YW (by kernel_rfl) (some 11) rfl (.slice (some ⟨b,off,none⟩) 1 c) (by kernel_rfl) ?_;simp only[Act.put,List.setIfInBounds_toArray,List.set_cons_succ,List.set_cons_zero];refine YW (by kernel_rfl) (some 12) rfl (Z5 b off) (by kernel_rfl) ?_;simp only[Act.put,List.setIfInBounds_toArray,List.set_cons_succ,List.set_cons_zero];refine Qc (by kernel_rfl) (some 13) rfl 54 (.tmp 12) rfl ⟨b,off,none⟩ (.slice ai B.length ci) (by kernel_rfl) (BA (by rw[Nat.add_zero] at hcl; exact hcl) (by kernel_rfl)) ?_;simp only[Act.put,List.setIfInBounds_toArray,List.set_cons_succ,List.set_cons_zero];refine TV (by kernel_rfl) (some 14) rfl 52 #[.slice ai B.length ci] (.agg (ZF S)) (Below W.heap.size W) (by kernel_rfl) (CL W hs hC.2.2.2) (fun V1 hb1=>?_);have PI:=hC.below hb1;clear hC hb1 hb0 CL hs hcl hlt;simp only[Act.put,List.setIfInBounds_toArray,List.set_cons_succ,List.set_cons_zero];apply Zt (ty:=50) (x:=.tmp 2) (y:=.tmp 14) (g:=w.heap.size) (c:=ZF (List.replicate 32 0)) (c':=ZF S)
    case hgd=>rfl
    case ho=>rfl
    case hx=>kernel_rfl
    case hy=>kernel_rfl
    case hg=>exact PI.1
    case hi=>rw[hsS]; kernel_rfl
    case hz=>rw[hsS]; rfl
    case h1=>exact WQ _
    apply wpList_nil;have Jt:Ab (V1.setRow w.heap.size (ZF S)) w.heap.size 50 S:=setRow_heap _ _ _ _ _ _ PI.1;have XG:=ZU PI.2.2.1 (Nat.le_refl w.heap.size) (ZF S);generalize V1.setRow w.heap.size (ZF S)=V9 at *
    simp only[Act.put];go_wp2_with fail;refine bodyPost_ret (v:=.agg (ZF S)) ?_ rfl ⟨rfl,XG⟩;refine results_cell_row (fn:=Tryz.f28) (p:=2) (ty:=50) rfl _ _ w.heap.size 50 (ZF S) (0,0) (.array 32 5) rfl Jt ?_ rfl ?_
    · kernel_rfl
    · rw[hsS]; kernel_rfl
  · obtain⟨k1,k2,k3⟩:=Ut ls.length h2;have hS2:S=Wi (Zb (ls.take (Zp ls.length))) (Zb (ls.drop (Zp ls.length))):=hSS.trans (MS ls h2);have hX:=Xw (ls.take (Zp ls.length));have hY:=Xw (ls.drop (Zp ls.length));have htl:(ls.take (Zp ls.length)).length=Zp ls.length:=(by rw[List.length_take]; omega);have hdl:(ls.drop (Zp ls.length)).length=ls.length-Zp ls.length:=(by rw[List.length_drop]);have CX:=fun(V:World) (h:jm w al ls V)=>(ih (ls.take (Zp ls.length)) al c V (by omega) (by omega) (h.2.1.take _) h.2.2.2).mono fun e w' (q:e=.returned (.agg (ZF (Zb (ls.take (Zp ls.length)))))/\Below V.heap.size V w')=>(⟨q.1,h.below q.2⟩:e=.returned (.agg (ZF (Zb (ls.take (Zp ls.length)))))/\jm w al ls w');have CY:=fun(V:World) (h:jm w al ls V)=>(ih (ls.drop (Zp ls.length)) (YJ al c (Zp ls.length)) (c-Zp ls.length) V (by omega) (by omega) (h.2.1.from c _ hc) h.2.2.2).mono fun e w' (q:e=.returned (.agg (ZF (Zb (ls.drop (Zp ls.length)))))/\Below V.heap.size V w')=>(⟨q.1,h.below q.2⟩:e=.returned (.agg (ZF (Zb (ls.drop (Zp ls.length)))))/\jm w al ls w');have CI:=fun(V:World) (h:jm w al ls V)=>(yN (Zb (ls.take (Zp ls.length))) (Zb (ls.drop (Zp ls.length))) V h.2.2.2 hX.1 hY.1 hX.2 hY.2).mono fun e w' (q:e=.returned (.agg (ZF (Wi (Zb (ls.take (Zp ls.length))) (Zb (ls.drop (Zp ls.length))))))/\Below V.heap.size V w')=>(⟨q.1,h.below q.2⟩:e=.returned (.agg (ZF (Wi (Zb (ls.take (Zp ls.length))) (Zb (ls.drop (Zp ls.length))))))/\jm w al ls w');have CH:=fun V=>rW ls.length V h2 (by omega);have e1:=fun V=>vZ al ls.length c (Zp ls.length) V (by omega);have e2:=fun V=>Hy al ls.length c (Zp ls.length) V (by omega);rw[<- hS2] at CI;rw[htl] at CX;rw[hdl] at CY;generalize Zb (ls.take (Zp ls.length))=X at *
    generalize Zb (ls.drop (Zp ls.length))=Y at *
    generalize Zp ls.length=k at *
    generalize hl:ls.length=n at *
    have hd0:((n:Int) == 0)=false:=(by simp; omega);have hd1:((n:Int) == 1)=false:=(by simp; omega);clear hl hS2 hSS ih hR hbytes hX hY htl hdl;go_enter Tryz.func28,Tryz.ntmps28;go_upto_region 6 with fail;change Code.wp _ _ _ _ (w.alloc (.cells (ZF (List.replicate 32 0)) 50));generalize w.alloc (.cells (ZF (List.replicate 32 0)) 50)=W at *
    go_upto_region 7 with (go_at_call 53; refine(CH _).mono ?_; rintro e w1 ⟨rfl,rfl⟩)
    refine XV (jm w al ls) 9 (by kernel_rfl) (by kernel_rfl) (hC.below (Below.refl _ W).drew) ?_;refine Uu (by kernel_rfl) (some 18) rfl (.slice al n c) (fun w' _=>by kernel_rfl) ?_;simp only[Act.put,List.setIfInBounds_toArray,List.set_cons_succ,List.set_cons_zero];refine Uu (by kernel_rfl) (some 19) rfl (Z8 k) (fun w' _=>by kernel_rfl) ?_;simp only[Act.put,List.setIfInBounds_toArray,List.set_cons_succ,List.set_cons_zero];refine NT rfl 23 (.tmp 18) (.tmp 19) rfl (.slice al n c) (Z8 k) (.slice al k c) (by kernel_rfl) (by kernel_rfl) (fun w' _=>e1 w') ?_;simp only[Act.put,List.setIfInBounds_toArray,List.set_cons_succ,List.set_cons_zero];refine Vy (by kernel_rfl) (some 21) rfl 28 #[.slice al k c] (.agg (ZF X)) (fun w' _=>by kernel_rfl) (fun w' hC=>CX w' hC) ?_;simp only[Act.put,List.setIfInBounds_toArray,List.set_cons_succ,List.set_cons_zero];refine Uu (by kernel_rfl) (some 22) rfl (.slice al n c) (fun w' _=>by kernel_rfl) ?_;simp only[Act.put,List.setIfInBounds_toArray,List.set_cons_succ,List.set_cons_zero];refine Uu (by kernel_rfl) (some 23) rfl (Z8 k) (fun w' _=>by kernel_rfl) ?_;simp only[Act.put,List.setIfInBounds_toArray,List.set_cons_succ,List.set_cons_zero];refine NM rfl 23 (.tmp 22) (.tmp 23) rfl (.slice al n c) (Z8 k) (.slice (YJ al c k) (n-k) (c-k)) (by kernel_rfl) (by kernel_rfl) (fun w' _=>e2 w') ?_;simp only[Act.put,List.setIfInBounds_toArray,List.set_cons_succ,List.set_cons_zero];refine Vy (by kernel_rfl) (some 25) rfl 28 #[.slice (YJ al c k) (n-k) (c-k)] (.agg (ZF Y)) (fun w' _=>by kernel_rfl) (fun w' hC=>CY w' hC) ?_;simp only[Act.put,List.setIfInBounds_toArray,List.set_cons_succ,List.set_cons_zero];refine Vy (by kernel_rfl) (some 26) rfl 54 #[.agg (ZF X),.agg (ZF Y)] (.agg (ZF S)) (fun w' _=>by kernel_rfl) (fun w' hC=>CI w' hC) ?_;simp only[Act.put,List.setIfInBounds_toArray,List.set_cons_succ,List.set_cons_zero];refine wpQuiet_nil ?_;intro V1 PI;clear hC hb0 CX CY CI CH e1 e2;apply Zt (ty:=50) (x:=.tmp 2) (y:=.tmp 26) (g:=w.heap.size) (c:=ZF (List.replicate 32 0)) (c':=ZF S)
    case hgd=>rfl
    case ho=>rfl
    case hx=>kernel_rfl
    case hy=>kernel_rfl
    case hg=>exact PI.1
    case hi=>rw[hsS]; kernel_rfl
    case hz=>rw[hsS]; rfl
    case h1=>exact WQ _
    apply wpList_nil;have Jt:Ab (V1.setRow w.heap.size (ZF S)) w.heap.size 50 S:=setRow_heap _ _ _ _ _ _ PI.1;have XG:=ZU PI.2.2.1 (Nat.le_refl w.heap.size) (ZF S);generalize V1.setRow w.heap.size (ZF S)=V9 at *
    simp only[Act.put];go_wp2_with fail;refine bodyPost_ret (v:=.agg (ZF S)) ?_ rfl ⟨rfl,XG⟩;refine results_cell_row (fn:=Tryz.f28) (p:=2) (ty:=50) rfl _ _ w.heap.size 50 (ZF S) (0,0) (.array 32 5) rfl Jt ?_ rfl ?_
    · kernel_rfl
    · rw[hsS]; kernel_rfl
theorem rY (ls:List (List Int))(al:Option Addr)(c:Nat)(w:World)(hG:Glob w)(hn:ls.length<=1000)(hc:ls.length<=c)(hR:RB w al ls) :
    Calls Tryz.prog 28 #[.slice al ls.length c] w fun e w'=>e=.returned (.agg (ZF (Zb ls)))/\Below w.heap.size w w':=by
  have h:∀ m,∀ (ls:List (List Int)) (al:Option Addr) (c:Nat) (w:World),ls.length<=m->ls.length<=1000->ls.length<=c->RB w al ls->Glob w ->
      Calls Tryz.prog 28 #[.slice al ls.length c] w fun e w'=>e=.returned (.agg (ZF (Zb ls)))/\Below w.heap.size w w':=by
    intro m;induction m with
    | zero=>exact fun ls al c w hm hn hc hR hG=>Ju ls al c w hG hn hc hR (fun BD _ _ _ hl _ _ _=>by omega)
    | succ m ih=>exact fun ls al c w hm hn hc hR hG=>Ju ls al c w hG hn hc hR (fun BD al2 c2 w2 hl hc2 hR2 hG2=>ih BD al2 c2 w2 (by omega) (by omega) hc2 hR2 hG2)
  exact h ls.length ls al c w (Nat.le_refl _) hn hc hR hG
end Go.Proofs.YtfpnnmeblefkkaaGreatDoor
