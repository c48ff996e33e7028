/-
  PoolReads returns true for every input: what is read of a pool behind any sequence; the arguments read afterwards as before.
  Conditions: none beyond the statement's own: the bound on a word's bytes is the reading's own reach.
-/
import Derived.Test.YtnelmomagdcmnaaGreatJ32
import Derived.ShutString
import Derived.ChangeMaps5
set_option maxRecDepth 100000
set_option maxHeartbeats 8000000
set_option linter.unusedSimpArgs false
set_option linter.unusedVariables false
namespace Go.Proofs.YtnelmomagdcmnaaGreat.poolReads
open Go.ChangeShapes Go.WideShapes Go.ChangeAt Go.RowKit
theorem own:ownKnob Tryz.prog.godebug=none:=by kernel_rfl
theorem laidOut:laidOutB Tryz.prog=true:=by kernel_rfl
theorem walk (a0:Option Addr)(c0:Nat)(L0:List Int)(c1:List Int)(x2:Int)(x3:Int)(x4:Nat->Int)(w:World)(l0:L0.length*8<=140737488351232)(r0:Cs w a0 (ZJ L0))(o1:Cg.VU c1)(w2:(Lit.int .i64 x2).wf=true)(w3:(Lit.int .i64 x3).wf=true) :
    Calls Tryz.prog 4 #[.slice a0 L0.length c0,.agg (Zu c1),.int .i64 x2,.int .i64 x3,.agg (Zv x4)] w fun e w'=>e=.returned (.bool true)/\Below w.heap.size w w':=by
  exact Bc a0 c0 L0 c1 o1 x2 x3 (by have h:=w2; simp[Lit.wf,IntKind.min,IntKind.max,IntKind.signed,IntKind.bits] at h; exact⟨by omega,by omega⟩) (by have h:=w3; simp[Lit.wf,IntKind.min,IntKind.max,IntKind.signed,IntKind.bits] at h; exact⟨by omega,by omega⟩) x4 w (by omega) r0
theorem contract (H:Type)(enc:TypeId×Value->H)(W:World)(base:Nat)(args:Array Value)(ds gs:List (DataW H))(before:List MemPlace)
    (hval0:∀ (j:Nat) t v,Tryz.f4.params[j]?=some t->args[j]?=some v->Value.okWide Tryz.prog W .any base t v)
    (hW:DataW.Whole enc Tryz.prog Tryz.f4.params.toList Rows.poolReadsSpec.vars false W args.toList ds gs before)
    (hz:(DataW.weightsEach Tryz.prog (Tryz.f4.params.toList++Rows.poolReadsSpec.plain.varTypes Tryz.prog) (ds++gs)).all (·<=reachBytes)=true) :
    Calls Tryz.prog 4 args W fun e W'=>∃ v,e=.returned v/\Rows.poolReadsSpec.post enc Tryz.prog Tryz.f4 false true false false W args v W':=by
  have hval:=hval0;have hW':=hW;obtain⟨p,q,hA0,hV,rfl,hfz,hnd⟩:=hW;have hA:=hA0;rw[Tryz.params4] at hA hval;obtain⟨v0,vs0,d0,ds0,p0,q0,hargs,rfl,rfl,h0,rr0⟩:=trodAll_cons hA;obtain⟨v1,vs1,d1,ds1,p1,q1,rfl,rfl,rfl,h1,rr1⟩:=trodAll_cons rr0;obtain⟨v2,vs2,d2,ds2,p2,q2,rfl,rfl,rfl,h2,rr2⟩:=trodAll_cons rr1;obtain⟨v3,vs3,d3,ds3,p3,q3,rfl,rfl,rfl,h3,rr3⟩:=trodAll_cons rr2;obtain⟨v4,vs4,d4,ds4,p4,q4,rfl,rfl,rfl,h4,rr4⟩:=trodAll_cons rr3;obtain⟨rfl,rfl,rfl⟩:=trodAll_nil rr4;obtain rfl:args=#[v0,v1,v2,v3,v4]:=by cases args; simp_all
  obtain⟨rfl,rfl⟩:=trodVars_none hV;have k0:=h0;have lt0:∀ x∈p0,x.block<W.heap.size:=by obtain⟨m,hm⟩:=k0; exact DataW.trod_lt m _ _ _ hm
  obtain⟨a0,_,c0,rfl⟩:=okWide_slice Tryz.underlying22 (hval 0 22 v0 rfl rfl);obtain⟨_,hf0⟩:=h0;obtain⟨_,_,L0,e0,l0,r0⟩:=QH hf0 (fun n hn=>of_decide_eq_true (List.all_eq_true.1 hz _ (DataW.weights_mem_each (j:=0) (t:=22) (by kernel_rfl) rfl n hn)));simp only[Value.cells,List.cons.injEq,Value.slice.injEq,and_true] at e0;obtain⟨rfl,rfl,rfl⟩:=e0;have k1:=h1;have lt1:∀ x∈p1,x.block<W.heap.size:=by obtain⟨m,hm⟩:=k1; exact DataW.trod_lt m _ _ _ hm
  obtain⟨⟨cs1⟩,rfl,_⟩:=okWide_struct Tryz.underlying25 (hval 1 25 v1 rfl rfl);obtain⟨_,hf1⟩:=h1;obtain⟨c1,e1,o1⟩:=zl hf1;simp only[Value.cells] at e1;subst e1;obtain⟨x2,rfl,rfl,rfl,w2⟩:=open_int Tryz.underlying3 (hval 2 3 v2 rfl rfl) h2;obtain⟨x3,rfl,rfl,rfl,w3⟩:=open_int Tryz.underlying3 (hval 3 3 v3 rfl rfl) h3;have k4:=h4;have lt4:∀ x∈p4,x.block<W.heap.size:=by obtain⟨m,hm⟩:=k4; exact DataW.trod_lt m _ _ _ hm
  obtain⟨x4,rfl⟩:∃ x:Nat->Int,v4=.agg (Zv x):=by
    have hv:=hval 4 38 v4 rfl rfl;simp only[Value.okWide,(show Tryz.prog.underlying 38=some (.array 32 5) by kernel_rfl)] at hv;obtain⟨cs,rfl,-⟩:=hv;obtain⟨fuel,hf⟩:=h4;obtain⟨K,e,hl⟩:=iH hf;refine⟨fun i=>K.getD i 0,?_⟩;obtain⟨cl⟩:=cs;have e2:cl=JG (fun i=>K.getD i 0):=(by rw[<- ai0 hl]; exact e);rw[e2]; rfl
  clear hA0 hval0;refine(walk a0 c0 L0 c1 x2 x3 x4 W l0 r0 o1 w2 w3 ).mono fun e W' ⟨he,bel⟩=>?_;subst he;exact⟨_,rfl,_,_,_,[],_,[],hW',trodAll_mk1 (shut_bool Tryz.underlying4 _),(trodAll_cons_mk (Below.trod laidOut (by kernel_rfl) (of_decide_eq_true (by kernel_rfl)) k0 bel lt0) (trodAll_cons_mk (Below.trod laidOut (by kernel_rfl) (of_decide_eq_true (by kernel_rfl)) k1 bel lt1) (trodAll_cons_mk (shut_int Tryz.underlying3 w2) (trodAll_cons_mk (shut_int Tryz.underlying3 w3) (trodAll_cons_mk (Below.trod laidOut (by kernel_rfl) (of_decide_eq_true (by kernel_rfl)) k4 bel lt4) trodAll_mk0))))),rfl,bel.frame _,fun h=>by cases h⟩
theorem lifted (os:Os)(started:os.Started)(H:Type)(enc:TypeId×Value->H) :
    ReturnsInHanded {} Tryz.checked os 4 .any (Rows.poolReadsSpec.pre6 enc Tryz.prog Tryz.f4 Rows.poolReadsRow.domain false) (Rows.poolReadsSpec.post enc Tryz.prog Tryz.f4 false true false false):=by
  refine returnsInHanded_of_change_sized (C:=Tryz.checked) own started (by kernel_rfl) Tryz.func4
    (ChangeSpec.witness6 (enc:=enc) (C:=Tryz.checked) false ⟨#[],#[.slice none 0 0,.agg (Zu Cg.JW),.int .i64 0,.int .i64 0,.agg (Zv fun _=>0)],[]⟩ 8 (by kernel_rfl) (by kernel_rfl) (by kernel_rfl) (by kernel_rfl)) ?_
  intro W base args ds gs before hval hW _ hz _;exact contract H enc W base args ds gs before hval hW hz
theorem proved:Rows.PoolReadsSaid:=
  OpenClaim.holds_of_wide 4 Tryz.f4 rfl rfl rfl rfl rfl rfl rfl ⟨rfl,rfl,rfl,rfl,rfl⟩ rfl rfl rfl rfl rfl (by kernel_rfl) Tryz.func4 (by kernel_rfl)
    (of_decide_eq_true (by kernel_rfl)) (by unfold Func.isWrapper; first | (rw[if_pos (by decide +kernel)]; kernel_rfl) | (rw[if_neg (by decide +kernel)]; exact⟨rfl,rfl⟩))
    (fun os started H enc _=>lifted os started H enc)
#print axioms proved
end Go.Proofs.YtnelmomagdcmnaaGreat.poolReads
