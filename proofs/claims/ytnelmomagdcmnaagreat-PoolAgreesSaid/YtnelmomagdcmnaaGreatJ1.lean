/-
  Texts joined.
-/
import Derived.Test.YtnelmomagdcmnaaGreatChecked
import Derived.Below
import Derived.Lib.Hide
import Derived.Test.YtnelmomagdcmnaaGreatProg
import Derived.WalkKit
import Derived.WalkSpells
import Derived.WalkLawsBesides
import Derived.Laws.BitsAllLaws
import Derived.Deep.LoopGhost
import Derived.Deep.RegionHeld3
import Derived.Deep.QuietTactic
import Derived.Deep.Quiet
import Derived.Deep.Cut
import Derived.Deep.DeepCutAuto
import Derived.Deep.WholeRow
import Derived.Deep.MidRow
import Derived.Deep.Slices
import Derived.Great.BuildSlice
import Derived.KernelRfl
import Derived.OneCell
import Derived.OpenShut
import Derived.Maps.AppendAt
import Derived.Deep.Onto
import Derived.Laws.Tables
import Derived.Lib.SmallJoins
set_option maxRecDepth 100000
set_option maxHeartbeats 8000000
set_option linter.unusedSimpArgs false
set_option linter.unusedVariables false
namespace Go.Proofs.YtnelmomagdcmnaaGreat
open Go.RowKit
abbrev Z7 (b o:Nat):Value:=.pointer (some ⟨b,o,none⟩)
abbrev Z9 (x:Int):Value:=.int .i64 x
abbrev ZV (x:Int):Value:=.int .u64 x
abbrev ZX:Value:=.bool true
abbrev ZY:Value:=.bool false
theorem Z8 {p:Prop}(h:p):Hid p:=Lib.hid h
theorem ZR {α:Sort _}(x:α):∃ y,x=y:=⟨x,rfl⟩
theorem Zj {P:Program}{ops:Array Oper}{rest:List Oper}{o:Oper}{a:Act}{w:World}{Q:Exit->Act->World->Prop}(hgd:o.guard=none)(d:Option Tmp)(hd:o.dst=d)
    (v:Value) (w2:World) (hr:(execOp a.eval o).run P w=.ok (.value v) w2) (k:wpList P ops Q rest (a.put d v) w2):wpList P ops Q (o::rest) a w:=by
  rw[<- hd] at k;apply wpList_plain hgd;intro K hK;rw[Oper.wp,hr,Oper.upon_value];exact hK _ _ k
theorem end_none {P:Program}{fn:Func}{R:Ending->World->Prop}{a:Act}{w:World}(h:fn.results=#[])(hd:a.defers=[])(hR:R (.returned (.tuple #[])) w):bodyPost P fn R .normal a w:=
  bodyPost_end (results_none h _ _ _) hd hR
theorem Xb {P:Program}{ops:Array Oper}{rest:List Oper}{op:Oper}{a:Act}{w:World}{Q:Exit->Act->World->Prop}(hgd:op.guard=none)(ty:TypeId)(x y:Operand)(ho:op.op=.store ty x y)
    (c c':Array Value) (hx:a.eval x=Z7 w.heap.size 0) (hy:a.eval y=.agg c')
    (hi:(P.info? ty).map (·.size)=some c'.size) (hz:c.size=c'.size) (h1:c'.all (·.oneCell')=true)
    (h:wpList P ops Q rest (a.put op.dst undef) (w.alloc (.cells c' ty))):wpList P ops Q (op::rest) a (w.alloc (.cells c ty)):=
  wpList_plain hgd fun K hK=>by
    unfold Oper.wp execOp;simp only[ho,hx,hy,Sem.run_bind,run_storeAt_new w ty c c' hi hz h1];exact hK _ _ h
theorem getD_lt {α:Type}(l:List α)(k:Nat)(d:α)(h:k<l.length):l.getD k d=l[k]:=by rw[List.getD_eq_getElem?_getD,List.getElem?_eq_getElem h]; rfl
theorem ZT {P:Program}{id:Nat}{Q:Exit->Act->World->Prop}{a:Act}{w:World}{l:List Oper}(C:World->Prop)(hm:P.follows .mixedOrders=true)(hB:Region.lexB .any l.toArray=true)(hC:C { w with drawn:=w.drawn+1 })
    (h:wpQuiet P l.toArray C (fun a'=>∀ w',C w'->Q .normal a' w') l a):(Code.region id l.toArray true).wp P Q a w:=
  wp_region_quiet (C:=C) hm hB hC (by simpa using h)
theorem pu1 (a:Act)(t:Tmp)(v:Value):a.put (some t) v={ a with tmps:=a.tmps.setIfInBounds t v }:=rfl
theorem pu2 {α:Type}(l:List α)(i:Nat)(x:α):l.toArray.setIfInBounds i x=(l.set i x).toArray:=List.setIfInBounds_toArray ..
theorem P5 {α:Type}(l:List α)(i:Nat)(x y:α):(x::l).set (i+1) y=x::l.set i y:=rfl
theorem PZ {α:Type}(l:List α)(x y:α):(x::l).set 0 y=y::l:=rfl
theorem YU {P:Program}{w:World}{ops:Array Oper}{rest:List Oper}{o:Oper}{a:Act}{Q:Exit->Act->World->Prop}(hgd:o.guard=none)(d:Option Tmp)(hd:o.dst=d)(ty:TypeId)(hty:o.type=ty)(s x:Operand)(t:TypeId)
    (ho:o.op=.call { callee:=.builtin .append,args:=#[s,x],argTypes:=#[t,t] }) (v u v':Value) (w':World) (hs:a.eval s=v) (hx:a.eval x=u)
    (hr:(Builtin.append_ #[t,t] ty #[v,u]).run P w=.ok v' w') (k:wpList P ops Q rest (a.put d v') w'):wpList P ops Q (o::rest) a w:=by
  subst hd;subst hty;refine wpList_plain hgd fun K hK=>?_;unfold Oper.wp execOp;simp only[ho,resolve,invoke,builtin,Sem.run_bind,Sem.run_pure,Result.andThen_ok,List.map_toArray,List.map_cons,List.map_nil,hs,hx,hr];exact hK _ _ k
section
variable {P : Program} {ops : Array Oper} {rest : List Oper} {o : Oper} {a : Act} {w : World} {Q : Exit -> Act -> World -> Prop}
theorem YN (hw:Region.wanted o (yielded ops a.tmps)=true)(d:Option Tmp)(hd:o.dst=d)(v:Value)(hr:(execOp a.eval o).run P w=.ok (.value v) w)(k:wpList P ops Q rest (a.put d v) w):wpList P ops Q (o::rest) a w:=by
  rw[<- hd] at k;apply wpList_step;intro K hK;rw[if_pos hw,Oper.wp,hr,Oper.upon_value];exact hK _ _ k
theorem Vd (hw:Region.wanted o (yielded ops a.tmps)=true)(d:Option Tmp)(hd:o.dst=d)(v:Value)(w2:World)(hr:(execOp a.eval o).run P w=.ok (.value v) w2)(k:wpList P ops Q rest (a.put d v) w2):wpList P ops Q (o::rest) a w:=by
  rw[<- hd] at k;apply wpList_step;intro K hK;rw[if_pos hw,Oper.wp,hr,Oper.upon_value];exact hK _ _ k
theorem au (hw:Region.wanted o (yielded ops a.tmps)=false)(d:Option Tmp)(hd:o.dst=d)(k:wpList P ops Q rest (a.put d undef) w):wpList P ops Q (o::rest) a w:=by
  rw[<- hd] at k;exact wpList_skip hw k
theorem lD (hw:Region.wanted o (yielded ops a.tmps)=true)(d:Option Tmp)(hd:o.dst=d)(f:FuncId)(args:Array Value)(v:Value)(S:World->Prop)(hr:(execOp a.eval o).run P w=.ok (.enter f args) w)
    (hc:Calls P f args w fun e w'=>e=.returned v/\S w') (k:∀ w',S w'->wpList P ops Q rest (a.put d v) w'):wpList P ops Q (o::rest) a w:=by
  rw[<- hd] at k;apply wpList_step;intro K hK;rw[if_pos hw,Oper.wp,hr];refine hc.mono ?_;rintro e w' ⟨rfl,hS⟩;exact hK _ _ (k w' hS)
theorem MN (hw:Region.wanted o (yielded ops a.tmps)=true)(d:Option Tmp)(hd:o.dst=d)(ty:TypeId)(x:Operand)(ho:o.op=.load ty x)(ad:Addr)(v:Value)
    (hx:a.eval x=.pointer (some ad)) (hl:(Instr.loadAt ty (.pointer (some ad))).run P w=.ok v w) (k:wpList P ops Q rest (a.put d v) w):wpList P ops Q (o::rest) a w:=by
  refine YN hw d hd v ?_ k;unfold execOp;simp only[ho,hx,Sem.run_bind,hl];rfl
theorem Nv (hw:Region.wanted o (yielded ops a.tmps)=true)(d:Option Tmp)(hd:o.dst=d)(ty:TypeId)(x h:Operand)(ho:o.op=.slice ty x none (some h) none)(vx vh v:Value)(hx:a.eval x=vx)(hh:a.eval h=vh)
    (hs:(Instr.sliceAt ty vx none (some vh) none).run P w=.ok v w) (k:wpList P ops Q rest (a.put d v) w):wpList P ops Q (o::rest) a w:=by
  refine YN hw d hd v ?_ k;unfold execOp;simp only[ho,hx,hh,Option.map_some,Option.map_none,Sem.run_bind,hs];rfl
theorem Zm (hw:Region.wanted o (yielded ops a.tmps)=true)(d:Option Tmp)(hd:o.dst=d)(t:TypeId)(len:Nat)(parts:Array (Nat×Operand))(ho:o.op=.buildSlice t len parts)
    (vs:Array (Nat×Value)) (hp:(parts.map fun(i,x)=>(i,a.eval x))=vs) (v:Value) (w2:World) (hr:(Instr.buildSlice t len vs).run P w=.ok v w2) (k:wpList P ops Q rest (a.put d v) w2):wpList P ops Q (o::rest) a w:=by
  refine Vd hw d hd v w2 ?_ k;unfold execOp;simp only[ho,Sem.run_bind,hp,hr,Result.andThen_ok];rfl
end
section
variable {P : Program} {C : World -> Prop} {ops : Array Oper} {Q : Act -> Prop} {a : Act} {o : Oper} {rest : List Oper}
theorem Dc (hw:Region.wanted o (yielded ops a.tmps)=true)(d:Option Tmp)(hd:o.dst=d)(v:Value)(hr:∀ w,C w->(execOp a.eval o).run P w=.ok (.value v) w)(h:wpQuiet P ops C Q rest (a.put d v)):wpQuiet P ops C Q (o::rest) a:=by
  rw[<- hd] at h;unfold wpQuiet;rw[if_pos hw];refine⟨v,fun w hC=>?_,h⟩;unfold Oper.quietAt;rw[hr w hC];exact⟨rfl,rfl⟩
theorem ak (hw:Region.wanted o (yielded ops a.tmps)=false)(d:Option Tmp)(hd:o.dst=d)(h:wpQuiet P ops C Q rest (a.put d undef)):wpQuiet P ops C Q (o::rest) a:=by
  rw[<- hd] at h;unfold wpQuiet;rw[if_neg (by rw[hw]; decide)];exact h
theorem ZA (hw:Region.wanted o (yielded ops a.tmps)=true)(d:Option Tmp)(hd:o.dst=d)(f:FuncId)(args:Array Value)(v:Value)(hr:∀ w,C w->(execOp a.eval o).run P w=.ok (.enter f args) w)
    (hc:∀ w,C w->Calls P f args w (fun e w''=>e=.returned v/\C w'')) (h:wpQuiet P ops C Q rest (a.put d v)):wpQuiet P ops C Q (o::rest) a:=by
  rw[<- hd] at h;unfold wpQuiet;rw[if_pos hw];refine⟨v,fun w hC=>?_,h⟩;unfold Oper.quietAt;rw[hr w hC];exact⟨rfl,hc w hC⟩
theorem lC (hw:Region.wanted o (yielded ops a.tmps)=true)(d:Option Tmp)(hd:o.dst=d)(ty:TypeId)(x:Operand)(ho:o.op=.load ty x)(ad:Addr)(v:Value)
    (hx:a.eval x=.pointer (some ad)) (hl:∀ w,C w->(Instr.loadAt ty (.pointer (some ad))).run P w=.ok v w) (h:wpQuiet P ops C Q rest (a.put d v)):wpQuiet P ops C Q (o::rest) a:=by
  refine Dc hw d hd v (fun w hC=>?_) h;unfold execOp;simp only[ho,hx,Sem.run_bind,hl w hC];rfl
end
theorem uQ {P:Program}{ops:Array Oper}{rest:List Oper}{o:Oper}{a:Act}{w:World}{Q:Exit->Act->World->Prop}(hw:Region.wanted o (yielded ops a.tmps)=true)(d:Option Tmp)(hd:o.dst=d)(f:FuncId)(args:Array Value)(S:Value->World->Prop)(hr:(execOp a.eval o).run P w=.ok (.enter f args) w)
    (hc:Calls P f args w fun e w'=>∃ v,e=.returned v/\S v w') (k:∀ v w',S v w'->wpList P ops Q rest (a.put d v) w'):wpList P ops Q (o::rest) a w:=by
  rw[<- hd] at k;apply wpList_step;intro K hK;rw[if_pos hw,Oper.wp,hr];refine hc.mono ?_;rintro e w' ⟨v,rfl,hS⟩;exact hK _ _ (k v w' hS)
section
variable {P : Program} {Q : Exit -> Act -> World -> Prop} {ops : Array Oper}
def uP (ops:Array Oper):Bool:=(List.range ops.size).all fun i=>((ops[i]?).map fun o=>o.after.all fun e=>!Region.binds .any e || decide (e.on<i)).getD true
theorem KT {listed:Array Bool}(hb:uP ops=true)(hs:listed.size=ops.size)(h:Region.ready .any ops listed=[]):listed=Array.replicate ops.size true:=by
  have key:∀ i,i<ops.size->listed.getD i false=true:=by
    intro i;induction i using Nat.strongRecOn with
    | ind i ih=>
      intro hi;by_cases hl:listed.getD i false=true
      · exact hl
      · exfalso;have hlt:i<listed.size:=(by omega);have hl2:listed.getD i true=false:=by
          simp only[Array.getD,hlt,dif_pos] at hl ⊢;simpa using hl
        have hm:i∈Region.ready .any ops listed:=by
          rw[mem_ready];refine⟨hl2,ops[i],by simp[hi],fun e he hbe=>?_⟩;have hbi:=List.all_eq_true.1 hb i (List.mem_range.2 hi);rw[Array.getElem?_eq_getElem hi] at hbi;have hlt2:e.on<i:=by
            have:=(Array.all_eq_true_iff_forall_mem.1 hbi) e he;rw[hbe] at this;simpa using this
          exact ih e.on hlt2 (by omega)
        rw[h] at hm;cases hm
  apply Array.ext
  · rw[hs]; simp
  · intro i h1 h2;have:=key i (by omega);simp only[Array.getD,h1,dif_pos] at this;simpa using this
theorem ZK {id:Nat}{a:Act}{w:World}(J:Array Bool->Act->World->Prop)(hm:P.follows .mixedOrders=true)(hb:uP ops=true)
    (h0:J (Array.replicate ops.size false) a { w with drawn:=w.drawn+1 })
    (hstep:∀ i listed a w,i<ops.size->i∈Region.ready .any ops listed->J listed a w->wpOp P ops Q i (J (listed.setIfInBounds i true)) a w)
    (hend:∀ a w,J (Array.replicate ops.size true) a w->Q .normal a w):(Code.region id ops true).wp P Q a w:=by
  refine wp_region_any hm ?_;have key:∀ (fuel:Nat) (listed:Array Bool) (a:Act) (w:World),listed.size=ops.size->listed.count false<=fuel->J listed a w->wpAny P .any ops Q fuel listed a w:=by
    intro fuel;induction fuel with
    | zero=>
      intro listed a w hs hc hJ;have hall:listed=Array.replicate ops.size true:=by
        apply Array.ext
        · rw[hs]; simp
        · intro i h1 h2;have h3:false ∉ listed:=Array.count_eq_zero.1 (by omega);have h4:listed[i]≠false:=fun h=>h3 (h ▸ Array.getElem_mem h1);simpa using h4
      have hr:Region.ready .any ops listed=[]:=by
        rw[List.eq_nil_iff_forall_not_mem];intro j hj;obtain⟨h1,o,ho,-⟩:=mem_ready.1 hj;have hjs:j<ops.size:=(Array.getElem?_eq_some_iff.1 ho).1;rw[hall] at h1;simp[hjs] at h1
      exact⟨hr,hend _ _ (hall ▸ hJ)⟩
    | succ fuel ih=>
      intro listed a w hs hc hJ;refine⟨fun h=>hend _ _ ?_,fun i hi=>?_⟩
      · rw[<- KT hb hs h]; exact hJ
      · obtain⟨h1,o,ho,-⟩:=mem_ready.1 hi;have his:i<ops.size:=(Array.getElem?_eq_some_iff.1 ho).1;refine wpOp_mono (fun a' w' hJ'=>ih _ a' w' (by rw[Array.size_setIfInBounds]; exact hs) ?_ hJ') (hstep i listed a w his hi hJ);have hil:i<listed.size:=(by omega);have hf:listed[i]=false:=by
          simp only[Array.getD,hil,dif_pos] at h1;exact h1
        rw[Array.setIfInBounds_def,dif_pos hil,Array.count_set,hf];have:0<listed.count false:=Array.count_pos_iff.2 (hf ▸ Array.getElem_mem hil);simp;omega
  refine key _ _ _ _ (by simp) ?_ h0;rw[Array.count_replicate];simp
theorem Z4 {i:Nat}{listed:Array Bool}(h:i∈Region.ready .any ops listed)(k:Nat)(hk:((ops[i]?).map fun o=>o.after.any fun e=>Region.binds .any e && e.on == k).getD false=true:=by kernel_rfl):listed.getD k false=true:=by
  obtain⟨-,o,ho,hall⟩:=mem_ready.1 h;rw[ho] at hk;simp only[Option.map_some,Option.getD_some] at hk;obtain⟨j,hj,hk⟩:=Array.any_eq_true.1 hk;simp only[Bool.and_eq_true,beq_iff_eq] at hk;rw[<- hk.2];exact hall _ (Array.getElem_mem hj) hk.1
theorem Z5 {i:Nat}{listed:Array Bool}(h:i∈Region.ready .any ops listed):listed.getD i true=false:=(mem_ready.1 h).1
variable {i : Nat} {o : Oper} {a : Act} {w : World} {K : Act -> World -> Prop}
theorem Fj (hi:ops[i]?=some o)(hw:Region.wanted o (yielded ops a.tmps)=true)(h:Oper.wp P o a w K Q):wpOp P ops Q i K a w:=by
  unfold wpOp;rw[hi];simp only;rw[if_pos hw];exact .inl h
theorem ZW (hi:ops[i]?=some o)(hw:Region.wanted o (yielded ops a.tmps)=true)(d:Option Tmp)(hd:o.dst=d)(v:Value)(w2:World)(hr:(execOp a.eval o).run P w=.ok (.value v) w2)(h:K (a.put d v) w2):wpOp P ops Q i K a w:=by
  rw[<- hd] at h;refine Fj hi hw ?_;rw[Oper.wp,hr,Oper.upon_value];exact h
theorem Zl (hi:ops[i]?=some o)(hw:Region.wanted o (yielded ops a.tmps)=true)(d:Option Tmp)(hd:o.dst=d)(f:FuncId)(args:Array Value)(hr:(execOp a.eval o).run P w=.ok (.enter f args) w)
    (hc:Calls P f args w fun e w'=>∃ v,e=.returned v/\K (a.put d v) w'):wpOp P ops Q i K a w:=by
  rw[<- hd] at hc;refine Fj hi hw ?_;rw[Oper.wp,hr];refine hc.mono ?_;rintro e w' ⟨v,rfl,h⟩;exact h
theorem ZI (hi:ops[i]?=some o)(hw:Region.wanted o (yielded ops a.tmps)=true)(d:Option Tmp)(hd:o.dst=d)(ty:TypeId)(x:Operand)(ho:o.op=.load ty x)(ad:Addr)(v:Value)
    (hx:a.eval x=.pointer (some ad)) (hl:(Instr.loadAt ty (.pointer (some ad))).run P w=.ok v w) (h:K (a.put d v) w):wpOp P ops Q i K a w:=by
  refine ZW hi hw d hd v w ?_ h;unfold execOp;simp only[ho,hx,Sem.run_bind,hl];rfl
theorem WB (hi:ops[i]?=some o)(hw:Region.wanted o (yielded ops a.tmps)=true)(d:Option Tmp)(hd:o.dst=d)(ty:TypeId)(x y:Operand)(ho:o.op=.slice ty x none (some y) none)(vx vh v:Value)(hx:a.eval x=vx)(hh:a.eval y=vh)
    (hs:(Instr.sliceAt ty vx none (some vh) none).run P w=.ok v w) (h:K (a.put d v) w):wpOp P ops Q i K a w:=by
  refine ZW hi hw d hd v w ?_ h;unfold execOp;simp only[ho,hx,hh,Option.map_some,Option.map_none,Sem.run_bind,hs];rfl
theorem Xq (hi:ops[i]?=some o)(hw:Region.wanted o (yielded ops a.tmps)=true)(d:Option Tmp)(hd:o.dst=d)(ty:TypeId)(x y:Operand)(ho:o.op=.slice ty x (some y) none none)(vx vh v:Value)(hx:a.eval x=vx)(hh:a.eval y=vh)
    (hs:(Instr.sliceAt ty vx (some vh) none none).run P w=.ok v w) (h:K (a.put d v) w):wpOp P ops Q i K a w:=by
  refine ZW hi hw d hd v w ?_ h;unfold execOp;simp only[ho,hx,hh,Option.map_some,Option.map_none,Sem.run_bind,hs];rfl
theorem Yz (hi:ops[i]?=some o)(hw:Region.wanted o (yielded ops a.tmps)=true)(d:Option Tmp)(hd:o.dst=d)(t:TypeId)(len:Nat)(parts:Array (Nat×Operand))(ho:o.op=.buildSlice t len parts)
    (vs:Array (Nat×Value)) (hp:(parts.map fun(i,x)=>(i,a.eval x))=vs) (v:Value) (w2:World) (hr:(Instr.buildSlice t len vs).run P w=.ok v w2) (h:K (a.put d v) w2):wpOp P ops Q i K a w:=by
  refine ZW hi hw d hd v w2 ?_ h;unfold execOp;simp only[ho,Sem.run_bind,hp,hr,Result.andThen_ok];rfl
theorem Zf (hi:ops[i]?=some o)(hw:Region.wanted o (yielded ops a.tmps)=true)(d:Option Tmp)(hd:o.dst=d)(ty:TypeId)(hty:o.type=ty)(s x:Operand)(t:TypeId)
    (ho:o.op=.call { callee:=.builtin .append,args:=#[s,x],argTypes:=#[t,t] }) (v u v':Value) (w':World) (hs:a.eval s=v) (hx:a.eval x=u)
    (hr:(Builtin.append_ #[t,t] ty #[v,u]).run P w=.ok v' w') (h:K (a.put d v') w'):wpOp P ops Q i K a w:=by
  subst hd;subst hty;refine Fj hi hw ?_;unfold Oper.wp execOp;simp only[ho,resolve,invoke,builtin,Sem.run_bind,Sem.run_pure,Result.andThen_ok,List.map_toArray,List.map_cons,List.map_nil,hs,hx,hr];exact h
end
theorem pu:(∀ (a:Act) (t:Tmp) (v:Value),a.put (some t) v={ a with tmps:=a.tmps.setIfInBounds t v })/\(∀ (l:List Value) (i:Nat) (x:Value),l.toArray.setIfInBounds i x=(l.set i x).toArray)/\(∀ (x:Value) (l:List Value) (n:Nat) (v:Value),(x::l).set (n+1) v=x::l.set n v)/\(∀ (x:Value) (l:List Value) (v:Value),(x::l).set 0 v=v::l):=
  ⟨fun _ _ _=>rfl,fun _ _ _=>List.setIfInBounds_toArray ..,fun _ _ _ _=>rfl,fun _ _ _=>rfl⟩
section
variable {P : Program} {ops : Array Oper} {rest : List Oper} {o o1 o2 o3 o4 o5 o6 o7 o8 : Oper} {a : Act} {w : World} {Q : Exit -> Act -> World -> Prop}
def KR (P:Program)(ops:Array Oper):List Oper->Act->World->Option (Act×World)
  | [],a,w=>some (a,w)
  | o::l,a,w=>bif Region.wanted o (yielded ops a.tmps) then
      match (execOp a.eval o).run P w with
      | .ok (.value v) w'=>KR P ops l (a.put o.dst v) w'
      | _=>none
    else KR P ops l (a.put o.dst undef) w
theorem Ui:∀ (l:List Oper) (a:Act) (w:World) (a':Act) (w':World),KR P ops l a w=some (a',w')->wpList P ops Q rest a' w'->wpList P ops Q (l++rest) a w
  | [],a,w,a',w',h,k=>by
    simp only[KR,Option.some.injEq,Prod.mk.injEq] at h;obtain⟨rfl,rfl⟩:=h;exact k
  | o::l,a,w,a',w',h,k=>by
    unfold KR at h;cases hw:Region.wanted o (yielded ops a.tmps) with
    | true=>
      rw[hw,cond_true] at h
      split at h
      · rename_i v w2 hr
        exact Vd hw o.dst rfl v w2 hr (Ui l _ _ a' w' h k)
      · exact absurd h (by simp)
    | false=>
      rw[hw,cond_false] at h;exact au hw o.dst rfl (Ui l _ _ a' w' h k)
theorem ZQ {d1:Option Tmp}(v1:Value)(k:wpList P ops Q rest (a.put d1 v1) w)(e1:o1.dst=d1:=by rfl)(h:KR P ops [o1] a w=some ((a.put d1 v1),w):=by kernel_rfl):wpList P ops Q (o1::rest) a w:=by
  subst e1;exact Ui [o1] a w _ _ h k
theorem ZB {d1 d2:Option Tmp}(v1 v2:Value)(k:wpList P ops Q rest ((a.put d1 v1).put d2 v2) w)(e1:o1.dst=d1:=by rfl)(e2:o2.dst=d2:=by rfl)(h:KR P ops [o1,o2] a w=some (((a.put d1 v1).put d2 v2),w):=by kernel_rfl):wpList P ops Q (o1::o2::rest) a w:=by
  subst e1 e2;exact Ui [o1,o2] a w _ _ h k
theorem YX {d1 d2 d3:Option Tmp}(v1 v2 v3:Value)(k:wpList P ops Q rest (((a.put d1 v1).put d2 v2).put d3 v3) w)(e1:o1.dst=d1:=by rfl)(e2:o2.dst=d2:=by rfl)(e3:o3.dst=d3:=by rfl)(h:KR P ops [o1,o2,o3] a w=some ((((a.put d1 v1).put d2 v2).put d3 v3),w):=by kernel_rfl):wpList P ops Q (o1::o2::o3::rest) a w:=by
  subst e1 e2 e3;exact Ui [o1,o2,o3] a w _ _ h k
theorem Qc {d1 d2 d3 d4:Option Tmp}(v1 v2 v3 v4:Value)(k:wpList P ops Q rest ((((a.put d1 v1).put d2 v2).put d3 v3).put d4 v4) w)(e1:o1.dst=d1:=by rfl)(e2:o2.dst=d2:=by rfl)(e3:o3.dst=d3:=by rfl)(e4:o4.dst=d4:=by rfl)(h:KR P ops [o1,o2,o3,o4] a w=some (((((a.put d1 v1).put d2 v2).put d3 v3).put d4 v4),w):=by kernel_rfl):wpList P ops Q (o1::o2::o3::o4::rest) a w:=by
  subst e1 e2 e3 e4;exact Ui [o1,o2,o3,o4] a w _ _ h k
theorem Gg {d1 d2 d3 d4 d5:Option Tmp}(v1 v2 v3 v4 v5:Value)(k:wpList P ops Q rest (((((a.put d1 v1).put d2 v2).put d3 v3).put d4 v4).put d5 v5) w)(e1:o1.dst=d1:=by rfl)(e2:o2.dst=d2:=by rfl)(e3:o3.dst=d3:=by rfl)(e4:o4.dst=d4:=by rfl)(e5:o5.dst=d5:=by rfl)(h:KR P ops [o1,o2,o3,o4,o5] a w=some ((((((a.put d1 v1).put d2 v2).put d3 v3).put d4 v4).put d5 v5),w):=by kernel_rfl):wpList P ops Q (o1::o2::o3::o4::o5::rest) a w:=by
  subst e1 e2 e3 e4 e5;exact Ui [o1,o2,o3,o4,o5] a w _ _ h k
theorem Ia {d1 d2 d3 d4 d5 d6:Option Tmp}(v1 v2 v3 v4 v5 v6:Value)(k:wpList P ops Q rest ((((((a.put d1 v1).put d2 v2).put d3 v3).put d4 v4).put d5 v5).put d6 v6) w)(e1:o1.dst=d1:=by rfl)(e2:o2.dst=d2:=by rfl)(e3:o3.dst=d3:=by rfl)(e4:o4.dst=d4:=by rfl)(e5:o5.dst=d5:=by rfl)(e6:o6.dst=d6:=by rfl)(h:KR P ops [o1,o2,o3,o4,o5,o6] a w=some (((((((a.put d1 v1).put d2 v2).put d3 v3).put d4 v4).put d5 v5).put d6 v6),w):=by kernel_rfl):wpList P ops Q (o1::o2::o3::o4::o5::o6::rest) a w:=by
  subst e1 e2 e3 e4 e5 e6;exact Ui [o1,o2,o3,o4,o5,o6] a w _ _ h k
theorem Za {d:Option Tmp}(v:Value)(hr:(execOp a.eval o).run P w=.ok (.value v) w)(k:wpList P ops Q rest (a.put d v) w)(hd:o.dst=d:=by rfl)(hw:Region.wanted o (yielded ops a.tmps)=true:=by kernel_rfl):wpList P ops Q (o::rest) a w:=YN hw d hd v hr k
theorem ZC {d:Option Tmp}{ty:TypeId}{x:Operand}(ho:o.op=.load ty x)(ad:Addr)(v:Value)(hl:(Instr.loadAt ty (.pointer (some ad))).run P w=.ok v w)(k:wpList P ops Q rest (a.put d v) w)(hd:o.dst=d:=by rfl)(hw:Region.wanted o (yielded ops a.tmps)=true:=by kernel_rfl)(hx:a.eval x=.pointer (some ad):=by kernel_rfl):wpList P ops Q (o::rest) a w:=MN hw d hd ty x ho ad v hx hl k
theorem YD {d:Option Tmp}(v:Value)(S:World->Prop){f:FuncId}{args:Array Value}(hc:Calls P f args w fun e w'=>e=.returned v/\S w')(k:∀ w',S w'->wpList P ops Q rest (a.put d v) w')(hd:o.dst=d:=by rfl)(hw:Region.wanted o (yielded ops a.tmps)=true:=by kernel_rfl)(hr:(execOp a.eval o).run P w=.ok (.enter f args) w:=by kernel_rfl):wpList P ops Q (o::rest) a w:=lD hw d hd f args v S hr hc k
theorem XQ {d:Option Tmp}(S:Value->World->Prop){f:FuncId}{args:Array Value}(hc:Calls P f args w fun e w'=>∃ v,e=.returned v/\S v w')(k:∀ v w',S v w'->wpList P ops Q rest (a.put d v) w')(hd:o.dst=d:=by rfl)(hw:Region.wanted o (yielded ops a.tmps)=true:=by kernel_rfl)(hr:(execOp a.eval o).run P w=.ok (.enter f args) w:=by kernel_rfl):wpList P ops Q (o::rest) a w:=uQ hw d hd f args S hr hc k
theorem Yd {d:Option Tmp}{x y:Operand}{X Y:Value}(v:Value)(hr:a.eval x=X->a.eval y=Y->∀ w,(execOp a.eval o).run P w=.ok (.value v) w)(k:wpList P ops Q rest (a.put d v) w)(hd:o.dst=d:=by rfl)(hw:Region.wanted o (yielded ops a.tmps)=true:=by kernel_rfl)(hx:a.eval x=X:=by kernel_rfl)(hy:a.eval y=Y:=by kernel_rfl):wpList P ops Q (o::rest) a w:=YN hw d hd v (hr hx hy w) k
theorem Zg {d:Option Tmp}{x y:Operand}{X Y v:Value}(hr:a.eval x=X->a.eval y=Y->∀ w,(execOp a.eval o).run P w=.ok (.value v) w)(k:wpList P ops Q rest (a.put d v) w)(hd:o.dst=d:=by rfl)(hw:Region.wanted o (yielded ops a.tmps)=true:=by kernel_rfl)(hx:a.eval x=X:=by kernel_rfl)(hy:a.eval y=Y:=by kernel_rfl):wpList P ops Q (o::rest) a w:=YN hw d hd v (hr hx hy w) k
theorem dT {p:Prop}[Decidable p](h:p:=by omega):decide p=true:=decide_eq_true h
theorem dF {p:Prop}[Decidable p](h:¬p:=by omega):decide p=false:=decide_eq_false h
theorem wl {id:Nat}{l:List Oper}(h:wpList P l.toArray Q l a w):(Code.region id l.toArray false).wp P Q a w:=wp_region_lit h
theorem wn (h:Q .normal a w):wpList P ops Q [] a w:=wpList_nil h
end
section
variable {P : Program} {C : World -> Prop} {ops : Array Oper} {Q : Act -> Prop} {a : Act} {o : Oper} {rest : List Oper}
theorem gy {d:Option Tmp}(v:Value)(k:wpQuiet P ops C Q rest (a.put d v))(hd:o.dst=d:=by rfl)(hw:Region.wanted o (yielded ops a.tmps)=true:=by kernel_rfl)(hr:∀ w,(execOp a.eval o).run P w=.ok (.value v) w:=by intro w; kernel_rfl):wpQuiet P ops C Q (o::rest) a:=Dc hw d hd v (fun w _=>hr w) k
theorem Zh {d:Option Tmp}(k:wpQuiet P ops C Q rest (a.put d undef))(hd:o.dst=d:=by rfl)(hw:Region.wanted o (yielded ops a.tmps)=false:=by kernel_rfl):wpQuiet P ops C Q (o::rest) a:=ak hw d hd k
theorem Ze {d:Option Tmp}(v:Value)(hr:∀ w,C w->(execOp a.eval o).run P w=.ok (.value v) w)(k:wpQuiet P ops C Q rest (a.put d v))(hd:o.dst=d:=by rfl)(hw:Region.wanted o (yielded ops a.tmps)=true:=by kernel_rfl):wpQuiet P ops C Q (o::rest) a:=Dc hw d hd v hr k
theorem Zx {d:Option Tmp}{ty:TypeId}{x:Operand}(ho:o.op=.load ty x)(ad:Addr)(v:Value)(hl:∀ w,C w->(Instr.loadAt ty (.pointer (some ad))).run P w=.ok v w)(k:wpQuiet P ops C Q rest (a.put d v))(hd:o.dst=d:=by rfl)(hw:Region.wanted o (yielded ops a.tmps)=true:=by kernel_rfl)(hx:a.eval x=.pointer (some ad):=by kernel_rfl):wpQuiet P ops C Q (o::rest) a:=lC hw d hd ty x ho ad v hx hl k
end
def Cs (w:World)(a:Option Addr)(cs:List Value):Prop:=∀ j v,cs[j]?=some v->∃ b off,a=some ⟨b,off,none⟩/\b<w.heap.size/\w.cell? ⟨b,off+j,none⟩=some v
theorem Cs.nil (w:World)(a:Option Addr):Cs w a []:=fun j v h=>by simp at h
theorem Cs.below {w w':World}{a:Option Addr}{cs:List Value}(h:Cs w a cs)(hb:Below w.heap.size w w'):Cs w' a cs:=fun j v hj=>by
  obtain⟨b,off,e,hlt,hc⟩:=h j v hj;exact⟨b,off,e,Nat.lt_of_lt_of_le hlt hb.size,(hb.cell (p:=⟨b,off+j,none⟩) hlt).trans hc⟩
theorem Cs.take {w:World}{a:Option Addr}{cs:List Value}(h:Cs w a cs)(k:Nat):Cs w a (cs.take k):=fun j v hj=>by
  rw[List.getElem?_take] at hj
  split at hj
  · exact h j v hj
  · cases hj
def Zb (s:Nat)(a:Option Addr)(c k:Nat):Option Addr:=if c=k then a else a.map (·.add (k*s))
theorem Cs.from {w:World}{a:Option Addr}{cs:List Value}(h:Cs w a cs)(s c k:Nat)(hc:cs.length<=c*s):Cs w (Zb s a c k) (cs.drop (k*s)):=fun j v hj=>by
  rw[List.getElem?_drop] at hj;have hlt:k*s+j<cs.length:=(List.getElem?_eq_some_iff.1 hj).1;obtain⟨b,off,rfl,hb,hcell⟩:=h _ v hj;refine⟨b,off+k*s,?_,hb,by rw[Nat.add_assoc]; exact hcell⟩;unfold Zb;rw[if_neg (by rintro rfl; omega)];simp only[Option.map_some];rw[Addr.add_mid]
theorem Cs.block {w:World}{g t:Nat}{cs:List Value}{fr:Nat×Nat}(h:w.heap[g]?=some (.cells cs.toArray t fr)):Cs w (some ⟨g,0,none⟩) cs:=fun j v hj=>by
  refine⟨g,0,rfl,(Array.getElem?_eq_some_iff.1 h).1,?_⟩;rw[Nat.zero_add,cell_of_row w g j _ t fr h];simpa using hj
theorem Yy {w:World}{B e s n:Nat}{v:Value}{cs:List Value}(h:w.ownsRow B e s v n cs):∃ a c,v=.slice a n c/\Cs w a cs/\n<=c:=by
  have hlen:=h.1;rcases h.2 with⟨rfl,h0⟩ | ⟨g,cap,cur,rfl,hb,hg,hcap,hm,hcs,htk⟩
  · refine⟨none,0,by rw[h0],?_,by omega⟩;have:cs=[]:=List.eq_nil_of_length_eq_zero (by rw[hlen,h0]; simp);rw[this];exact Cs.nil _ _
  · refine⟨some ⟨g,0,none⟩,cap,rfl,fun j v hj=>⟨g,0,rfl,(Array.getElem?_eq_some_iff.1 hg).1,?_⟩,hcap⟩;have:=h.cells (g:=g) rfl j v hj;rw[<- this,Go.WideShapes.add_plain]
theorem own_below {w w':World}{B e size n:Nat}{v:Value}{xs:List Value}(h:w.ownsRow B e size v n xs)(hb:Below w.heap.size w w'):w'.ownsRow B e size v n xs:=by
  refine⟨h.1,?_⟩;rcases h.2 with h0 | ⟨g,cap,cur,ev,hB,hg,r⟩
  · exact .inl h0
  · exact .inr ⟨g,cap,cur,ev,hB,(hb.block g (Array.getElem?_eq_some_iff.1 hg).1).trans hg,r⟩
theorem own_base {w:World}{B B' e size n:Nat}{v:Value}{xs:List Value}(h:w.ownsRow B' e size v n xs)(hB:B<=B'):w.ownsRow B e size v n xs:=World.ownsRow.mono h hB
section
variable {P : Program} {t e s bytes : Nat} {z : Value}
theorem Qx (hu:P.underlying t=some (.slice e))(hinfo:(P.info? e).map (fun i=>(i.zero,i.size,i.bytes))=some (some z,s,bytes))(hzs:z.cells.size=s)(hs:0<s)(hby:bytes<=1000)
    {w:World} {B n m:Nat} {v:Value} {xs:List Value} (hO:w.ownsRow B e s v n xs) (pa:Option Addr) (cp:Nat) (ys:List Value) (hP:Cs w pa ys) (hl:ys.length=m*s) (h1:∀ u∈ys,u.oneCell'=true) (hB:B<=w.heap.size) (hn:n<=100000) (hm:m<=100000) :
    ∃ v' w',(Builtin.append_ #[t,t] t #[v,.slice pa m cp]).run P w=.ok v' w'/\w'.ownsRow B e s v' (n+m) (xs++ys)/\Below B w w'/\w.grownBy w' v.ownBlock:=by
  obtain⟨i0,hi,hz0,hz1,hz2⟩:=info_parts hinfo;by_cases hy:ys=[]
  · subst hy;obtain rfl:m=0:=by
      rcases Nat.eq_zero_or_pos m with h | h
      · exact h
      · have:=Nat.mul_pos h hs;rw[<- hl] at this;simp at this
    cases pa with
    | none=>
      refine⟨v,w,?_,by simpa using hO,Below.refl _ _,World.grownBy.refl w _⟩;rcases hO.2 with⟨rfl,h0⟩ | ⟨g,cap,cur,rfl,_,_,hnc,_⟩
      · simp[Builtin.append_,run_underlying hu,sizeOf,typeInfo,hi,Builtin.lenOf,Builtin.firstCells]
      · simp[Builtin.append_,run_underlying hu,sizeOf,typeInfo,hi,Builtin.lenOf,Builtin.firstCells,hnc,storeCells]
    | some x=>
      obtain⟨v',w',hr,h2,h3,-,-⟩:=run_append_own_at (P:=P) w B t t e i0 z s bytes hu hi hz0 hz1 hz2 hzs hs v n xs hO x 0 cp [] (by simp) (fun j u h=>by simp at h) (by simp) (by unfold maxLen; omega) (by have:=Nat.mul_le_mul (show n+0<=100000 by omega) hby; omega) hB;exact⟨v',w',hr,h2,(Below.refl _ w).grown h3 hB (fun j hj=>(hO.lt j hj).1),h3⟩
  · obtain⟨y,hy0⟩:∃ y,ys[0]?=some y:=by
      cases ys with
      | nil=>exact absurd rfl hy
      | cons y r=>exact⟨y,rfl⟩
    obtain⟨b,off,rfl,-⟩:=hP 0 y hy0;have hcells:∀ j u,ys[j]?=some u->w.cell? ((⟨b,off,none⟩:Addr).add j)=some u:=fun j u hu=>by
      obtain⟨b2,off2,e2,-,hc⟩:=hP j u hu;simp only[Option.some.injEq,Addr.mk.injEq,and_true] at e2;obtain⟨rfl,rfl⟩:=e2;rw[Addr.add_mid];exact hc
    obtain⟨v',w',hr,h2,h3,-,-⟩:=run_append_own_at (P:=P) w B t t e i0 z s bytes hu hi hz0 hz1 hz2 hzs hs v n xs hO ⟨b,off,none⟩ m cp ys hl hcells h1 (by unfold maxLen; omega) (by have:=Nat.mul_le_mul (show n+m<=200000 by omega) hby; omega) hB;exact⟨v',w',hr,h2,(Below.refl _ w).grown h3 hB (fun j hj=>(hO.lt j hj).1),h3⟩
theorem yJ (hu:P.underlying t=some (.slice e))(hinfo:(P.info? e).map (fun i=>(i.zero,i.size,i.bytes))=some (some z,s,bytes))(w:World):(Instr.buildSlice t 0 #[]).run P w=.ok (.slice (some ⟨w.heap.size,0,none⟩) 0 0) (w.alloc (.cells #[] e)):=by
  obtain⟨i0,hi,hz0,hz1,hz2⟩:=info_parts hinfo;simp[Instr.buildSlice,run_underlying hu,sizeOf,typeInfo,hi,newRow,go_sem]
theorem lF (w:World)(e s:Nat):(w.alloc (.cells #[] e)).ownsRow w.heap.size e s (.slice (some ⟨w.heap.size,0,none⟩) 0 0) 0 []:=
  ⟨by simp,.inr ⟨w.heap.size,0,#[],rfl,Nat.le_refl _,heap_alloc_last w _,Nat.le_refl _,by simp[maxLen],by simp,by simp⟩⟩
theorem Ib (hu:P.underlying t=some (.slice (P.elem t)))(hs:∀ w,(sizeOf (P.elem t)).run P w=.ok s w)(a:Option Addr)(n c k:Nat)(w:World)(h:k<=c):(Instr.slice t (.slice a n c) none (some (Z9 (k:Int))) none).run P w=.ok (.slice a k c) w:=by
  have q:=run_slice_h (P:=P) w t a n c hu .i64 (k:Int) (by omega) (by omega);rw[q,hs];cases a <;> simp[sliced,Result.andThen,Addr.add]
theorem KW (hu:P.underlying t=some (.slice (P.elem t)))(hs:∀ w,(sizeOf (P.elem t)).run P w=.ok s w)(a:Option Addr)(n c k:Nat)(w:World)(h:k<=n):(Instr.slice t (.slice a n c) (some (Z9 (k:Int))) none none).run P w=.ok (.slice (Zb s a c k) (n-k) (c-k)) w:=by
  have q:=run_slice_l (P:=P) w t a n c hu .i64 (k:Int) (by omega) (by omega);rw[q,hs];by_cases hk:c=k <;> cases a <;> simp[sliced,Result.andThen,Zb,hk]
end
def ZJ (L:List Int):List Value:=L.map (Value.int .i64)
theorem VH (L:List Int):(ZJ L).length=L.length:=by simp[ZJ]
theorem SB (A B:List Int):ZJ (A++B)=ZJ A++ZJ B:=by simp[ZJ]
theorem VP (L:List Int)(k:Nat)(h:k<L.length):(ZJ L)[k]?=some (Z9 (L.getD k 0)):=by
  simp[ZJ,List.getD,List.getElem?_eq_getElem h]
theorem SA (L:List Int):∀ u∈ZJ L,u.oneCell'=true:=fun u hu=>by
  obtain⟨x,-,rfl⟩:=List.mem_map.1 hu;rfl
theorem XH {w:World}{t:TypeId}{a:Addr}{v:Value}(h:w.cell? a=some v)(hag:(isAgg t).run Tryz.prog w=.ok false w):(Instr.loadAt t (.pointer (some a))).run Tryz.prog w=.ok v w:=by
  simp[Instr.loadAt,Instr.sureAddr,loadVar,hag,run_load,h,Result.andThen]
def Bx (w:World)(g:Nat)(cs:Array Value)(t:Nat):Prop:=w.heap[g]?=some (.cells cs t (0,0))
theorem Bx.lt {w:World}{g t:Nat}{cs:Array Value}(h:Bx w g cs t):g<w.heap.size:=(Array.getElem?_eq_some_iff.1 h).1
theorem Bx.below {w w':World}{g t B:Nat}{cs:Array Value}(h:Bx w g cs t)(hg:g<B)(hb:Below B w w'):Bx w' g cs t:=(hb.block g hg).trans h
theorem Bx.load {w:World}{g t i:Nat}{cs:Array Value}{v:Value}{ty:TypeId}(h:Bx w g cs t)(hv:cs[i]?=some v)(hag:(isAgg ty).run Tryz.prog w=.ok false w):(Instr.loadAt ty (Z7 g i)).run Tryz.prog w=.ok v w:=
  XH ((cell_of_row w g i _ t (0,0) h).trans hv) hag
theorem Bx.ZM {w:World}{g t:Nat}{cs:Array Value}(h:Bx w g cs t)(i:Nat){v:Value}{ty:TypeId}(hv:cs[i]?=some v:=by rfl)(hag:(isAgg ty).run Tryz.prog w=.ok false w:=by kernel_rfl):(Instr.loadAt ty (.pointer (some ⟨g,i,none⟩))).run Tryz.prog w=.ok v w:=h.load hv hag
theorem Wn (b off n c k:Nat)(hk:k<n)(V:World)(ρ:Operand->Value)(o:Oper){x y:Operand}(ho:o.op=.indexAddr 22 x y)(hx:ρ x=.slice (some ⟨b,off,none⟩) n c)(hy:ρ y=Z9 k):(execOp ρ o).run Tryz.prog V=.ok (.value (Z7 b (off+k))) V:=by
  have hs:(sizeOf (Tryz.prog.elem 22)).run Tryz.prog V=.ok 1 V:=by kernel_rfl
  have hlm:(k:Int)<(n:Int):=by omega
  unfold execOp;simp only[ho,hx,hy];go_simp
theorem PU {w:World}{a:Option Addr}{L:List Int}(h:Cs w a (ZJ L)){k:Nat}(hk:k<L.length):∃ b off,a=some ⟨b,off,none⟩/\b<w.heap.size/\w.cell? ⟨b,off+k,none⟩=some (Z9 (L.getD k 0)):=h _ _ (VP L k hk)
theorem OC {w w0:World}{g B:Nat}(h:Below B w0 w)(hn:B<=g)(cs:Array Value):Below B w0 (w.setRow g cs):=
  ⟨h.os,h.tape,h.output,by rw[size_setRow]; exact h.size,fun k hk=>(setRow_other w g k cs (by omega)).trans (h.block k hk)⟩
def But (g:Nat)(w w':World):Prop:=Below g w w'/\∀ k,k<w.heap.size->k≠g->w'.heap[k]?=w.heap[k]?
theorem But.refl (g:Nat)(w:World):But g w w:=⟨Below.refl _ _,fun _ _ _=>rfl⟩
theorem But.trans {g:Nat}{a b c:World}(h:But g a b)(k:But g b c):But g a c:=
  ⟨h.1.trans k.1,fun i hi hn=>(k.2 i (by have:=h.1.size; omega) hn).trans (h.2 i hi hn)⟩
theorem But.of_below {g:Nat}{w w':World}(h:Below w.heap.size w w')(hg:g<=w.heap.size):But g w w':=⟨h.mono hg,fun k hk _=>h.block k hk⟩
theorem But.setRow {g:Nat}(w:World)(cs:Array Value):But g w (w.setRow g cs):=
  ⟨OC (Below.refl _ _) (Nat.le_refl _) cs,fun k _ hn=>setRow_other w g k cs hn⟩
theorem Bx.but {w w':World}{g k t:Nat}{cs:Array Value}(h:Bx w k cs t)(hb:But g w w')(hn:k≠g):Bx w' k cs t:=(hb.2 k h.lt hn).trans h
theorem Bx.set {w:World}{g t:Nat}{cs cs':Array Value}(h:Bx w g cs t):Bx (w.setRow g cs') g cs' t:=setRow_heap _ _ _ _ _ _ h
theorem Cs.but {w w':World}{g:Nat}{a:Option Addr}{cs:List Value}(h:Cs w a cs)(hb:But g w w')(hn:∀ x,a=some x->x.block≠g):Cs w' a cs:=fun j v hj=>by
  obtain⟨b,off,e,hlt,hc⟩:=h j v hj;refine⟨b,off,e,Nat.lt_of_lt_of_le hlt hb.1.size,?_⟩;rw[<- hc];unfold World.cell?;rw[hb.2 b hlt (hn _ e)]
theorem YT {w:World}{g t i:Nat}{cs:Array Value}{v:Value}{ty:TypeId}(h:Bx w g cs t)(hi:i<cs.size)(h1:v.oneCell'=true)(hs:(Tryz.prog.info? ty).map (·.size)=some 1) :
    (Instr.storeAt ty (Z7 g i) v).run Tryz.prog w=.ok () (w.setCell ⟨g,i,none⟩ v):=by
  have hc:v.cells=#[v]:=by cases v <;> first | rfl | cases h1
  have hcell:w.cell? ⟨g,i,none⟩=some cs[i]:=by rw[cell_of_row w g i _ t (0,0) h]; simp[hi]
  have hfz:w.frozen? ⟨g,i,none⟩=false:=frozen_of_row w g i _ t h;have ha:(⟨g,i,none⟩:Addr).add 0=⟨g,i,none⟩:=by simp[Addr.add]
  cases hq:Tryz.prog.info? ty with
  | none=>simp[hq] at hs
  | some j=>
    have hs:j.size=1:=(by simpa [hq] using hs);simp[Instr.storeAt,Instr.sureAddr,storeVar,sizeOf,typeInfo,hq,hc,hs,storeCells,run_store _ _ _ _ _ h1,ha,hcell,hfz]
theorem But.setCell {g:Nat}(w:World)(o:Nat)(v:Value):But g w (w.setCell ⟨g,o,none⟩ v):=
  ⟨(Below.refl g w).setCell (Nat.le_refl _) v,fun k _ hn=>heap_setCell_other w _ k v hn⟩
theorem Bx.Gs {w:World}{g t i:Nat}{cs:Array Value}(h:Bx w g cs t)(v:Value):Bx (w.setCell ⟨g,i,none⟩ v) g (cs.setIfInBounds i v) t:=Joins.block_setCell h v
theorem VE {w:World}{g t:Nat}{cs cs':Array Value}{ty:TypeId}(h:Bx w g cs t)(hz:cs.size=cs'.size)(h1:cs'.all (·.oneCell')=true)(hs:(Tryz.prog.info? ty).map (·.size)=some cs'.size) :
    (Instr.storeAt ty (Z7 g 0) (.agg cs')).run Tryz.prog w=.ok () (w.setRow g cs'):=by
  simp only[Instr.storeAt,Instr.sureAddr,Sem.run_bind,Sem.run_pure,Result.andThen_ok];exact run_storeVar_row w g t ty cs cs' h hs hz h1
section
variable {P : Program} {ops : Array Oper} {rest : List Oper} {o : Oper} {a : Act} {w : World} {Q : Exit -> Act -> World -> Prop} {i : Nat} {K : Act -> World -> Prop}
theorem La (hw:Region.wanted o (yielded ops a.tmps)=true)(hd:o.dst=none)(ty:TypeId)(x y:Operand)(ho:o.op=.store ty x y)(vx vy:Value)(hx:a.eval x=vx)(hy:a.eval y=vy)(w2:World)
    (hr:(Instr.storeAt ty vx vy).run P w=.ok () w2) (k:wpList P ops Q rest a w2):wpList P ops Q (o::rest) a w:=by
  apply wpList_step;intro K hK;rw[if_pos hw];unfold Oper.wp execOp;simp only[ho,hx,hy,Sem.run_bind,hr,Result.andThen_ok];show K (a.put o.dst undef) _;rw[hd];exact hK _ _ k
theorem Yb {ty:TypeId}{x y:Operand}(ho:o.op=.store ty x y){vx vy:Value}{w2:World}(hr:(Instr.storeAt ty vx vy).run P w=.ok () w2)(k:wpList P ops Q rest a w2)(hw:Region.wanted o (yielded ops a.tmps)=true:=by kernel_rfl)(hd:o.dst=none:=by kernel_rfl)(hx:a.eval x=vx:=by kernel_rfl)(hy:a.eval y=vy:=by kernel_rfl):wpList P ops Q (o::rest) a w:=La hw hd ty x y ho vx vy hx hy w2 hr k
theorem YL (hi:ops[i]?=some o)(hw:Region.wanted o (yielded ops a.tmps)=true)(hd:o.dst=none)(ty:TypeId)(x y:Operand)(ho:o.op=.store ty x y)(vx vy:Value)(hx:a.eval x=vx)(hy:a.eval y=vy)(w2:World)
    (hr:(Instr.storeAt ty vx vy).run P w=.ok () w2) (h:K a w2):wpOp P ops Q i K a w:=by
  refine Fj hi hw ?_;unfold Oper.wp execOp;simp only[ho,hx,hy,Sem.run_bind,hr,Result.andThen_ok];show K (a.put o.dst undef) _;rw[hd];exact h
end
theorem OB:(Tryz.prog.info? 3).map (fun i=>(i.zero,i.size,i.bytes))=some (some (Z9 0),1,8):=by kernel_rfl
theorem Df {w:World}{B n m:Nat}{v:Value}{xs:List Value}(hO:w.ownsRow B 3 1 v n xs)(pa:Option Addr)(cp:Nat)(L:List Int)(hP:Cs w pa (ZJ L))(hl:L.length=m)(hB:B<=w.heap.size)(hn:n<=100000)(hm:m<=100000) :
    ∃ v' w',(Builtin.append_ #[22,22] 22 #[v,.slice pa m cp]).run Tryz.prog w=.ok v' w'/\w'.ownsRow B 3 1 v' (n+m) (xs++ZJ L)/\Below B w w'/\w.grownBy w' v.ownBlock:=
  Qx Tryz.underlying22 OB rfl (by omega) (by omega) hO pa cp _ hP (by rw[VH,hl,Nat.mul_one]) (SA _) hB hn hm
theorem MV (x:Int)(w:World):(Instr.buildSlice 22 1 #[(0,Z9 x)]).run Tryz.prog w=.ok (.slice (some ⟨w.heap.size,0,none⟩) 1 1) (w.alloc (.cells #[Z9 x] 3)):=by
  obtain⟨i0,hi,hz0,hz1,hz2⟩:=info_parts OB;refine run_buildSlice w 22 3 1 _ #[Z9 x] i0 _ Tryz.underlying22 hi hz0 (by rw[hz1]; omega) (by rw[hz1]; omega) ?_;rw[hz1];kernel_rfl
def I64 (x:Int):Prop:=-9223372036854775808<=x/\x<=9223372036854775807
def pl (x n:Int):Int:=if x.tmod n<0 then x.tmod n+n else x.tmod n
theorem KZ (x n:Int)(hn:0<n):-n<x.tmod n/\x.tmod n<n:=by
  rcases Int.le_total 0 x with h | h
  · have h1:=Int.tmod_nonneg n h;have h2:=Int.tmod_lt_of_pos x hn;omega
  · have h1:=Int.tmod_nonneg n (show 0<=-x by omega);have h2:=Int.tmod_lt_of_pos (-x) hn;rw[Int.neg_tmod] at h1 h2;omega
theorem Ry (x n:Int)(hn:0<n):0<=pl x n/\pl x n<n:=by
  have:=KZ x n hn;unfold pl
  split <;> omega
theorem lI {ρ:Operand->Value}{o:Oper}{x y:Operand}(ho:o.op=.binOp .rem 3 x y 3)(a b:Int)(hb:b≠0)(hx:ρ x=Z9 a)(hy:ρ y=Z9 b)(w:World) :
    (execOp ρ o).run Tryz.prog w=.ok (.value (Z9 (a.tmod b))) w:=by
  unfold execOp;simp only[ho,hx,hy];simp[hb,go_sem]
theorem KY (x n:Int)(w:World)(hn:0<n)(hn2:n<=1000000) :
    Calls Tryz.prog 17 #[Z9 x,Z9 n] w fun e w'=>e=.returned (Z9 (pl x n))/\w=w':=by
  have hr:=KZ x n hn;have hnz:¬ n=0:=by omega
  unfold pl;obtain⟨r,hr0⟩:=ZR (x.tmod n);have hw:IntKind.i64.wrap r=r:=by rw[IntKind.wrap_i64]; omega
  rw[hr0] at hr ⊢;have HR:=Z8 hr0;clear hr0;obtain⟨Q,hQ⟩:∃ Q,Q=if r<0 then r+n else r:=⟨_,rfl⟩
  rw[<- hQ];have HQ:=Z8 hQ;clear hQ;go_enter Tryz.func17,Tryz.ntmps17;go_upto_region 1 with fail;apply wp_region_lit;refine YN (by kernel_rfl) (some 5) rfl (Z9 x) (by kernel_rfl) ?_;simp only[pu1,pu2,P5,PZ];refine YN (by kernel_rfl) (some 6) rfl (Z9 n) (by kernel_rfl) ?_;simp only[pu1,pu2,P5,PZ];refine YN (by kernel_rfl) (some 7) rfl (Z9 (x.tmod n)) (lI rfl x n hnz (by kernel_rfl) (by kernel_rfl) w) ?_;rw[HR.out];simp only[pu1,pu2,P5,PZ];refine YN (by kernel_rfl) (some 0) rfl (Z9 r) (by kernel_rfl) ?_;simp only[pu1,pu2,P5,PZ];apply wpList_nil;by_cases h0:r<0
  · have hd:decide (r<0)=true:=decide_eq_true h0;have fC:Hid (Q=r+n):=Z8 (by rw[HQ.out,if_pos h0]);have hw3:IntKind.i64.wrap (r+n)=r+n:=(by rw[IntKind.wrap_i64]; omega);clear HQ HR;go_wp2_with fail;go_ret;exact⟨by rw[fC.out]; rfl,rfl⟩
  · have hd:decide (r<0)=false:=decide_eq_false h0;have fC:Hid (Q=r):=Z8 (by rw[HQ.out,if_neg h0]);clear HQ HR;go_wp2_with fail;go_ret;exact⟨by rw[fC.out]; rfl,rfl⟩
theorem A8 (a:Option Addr)(n c:Nat)(w:World):Calls Tryz.prog 28 #[.slice a n c] w fun e w'=>e=.returned (Z7 w.heap.size 0)/\w'=w.alloc (.cells #[.slice a n c,Z9 0] 66):=by
  go_enter Tryz.func28,Tryz.ntmps28;go_upto_region 1 with fail;apply wp_region_lit;refine YN (by kernel_rfl) (some 3) rfl (.slice a n c) (by kernel_rfl) ?_;simp only[pu1,pu2,P5,PZ];refine YN (by kernel_rfl) (some 4) rfl (.agg #[.slice a n c,Z9 0]) (by kernel_rfl) ?_;simp only[pu1,pu2,P5,PZ];refine Zj rfl (some 5) rfl (Z7 w.heap.size 0) (w.alloc (.cells #[.slice a n c,Z9 0] 66)) (by kernel_rfl) ?_;simp only[pu1,pu2,P5,PZ];refine YN (by kernel_rfl) (some 2) rfl (Z7 w.heap.size 0) (by kernel_rfl) ?_;simp only[pu1,pu2,P5,PZ];apply wpList_nil;go_wp2_with fail;go_ret;exact⟨rfl,rfl⟩
theorem add_one {ρ:Operand->Value}{o:Oper}{x:Operand}(ho:o.op=.binOp .add 3 x (.const (Z9 1)) 3)(m:Nat)(hm:m<=1000000)(hx:ρ x=Z9 m)(w:World)(hρ:ρ (.const (Z9 1))=Z9 1:=by rfl):(execOp ρ o).run Tryz.prog w=.ok (.value (Z9 (m+1:Nat))) w:=by
  unfold execOp;simp only[ho,hx,hρ];simp[go_sem];rw[IntKind.wrap_i64];omega
theorem Q9 {ρ:Operand->Value}{o:Oper}{x y:Operand}(ho:o.op=.binOp .lss 3 x y 3)(a b:Nat)(hx:ρ x=Z9 a)(hy:ρ y=Z9 b)(w:World):(execOp ρ o).run Tryz.prog w=.ok (.value (.bool (decide (a<b)))) w:=by
  unfold execOp;simp only[ho,hx,hy];simp[go_sem]
theorem lG (g:Nat)(L:List Int)(a:Option Addr)(c N:Nat)(n:Int)(w:World)(hX:Bx w g #[.slice a L.length c,Z9 N] 66)(hL:Cs w a (ZJ L))(hl:L.length<=100000)(hN:N<=100000)(hn:0<n)(hn2:n<=1000000) :
    Calls Tryz.prog 30 #[Z7 g 0,Z9 n] w fun e w'=>e=.returned (Z9 (pl (L.getD N 0) n))/\But g w w'/\Bx w' g #[.slice a L.length c,Z9 (N+1:Nat)] 66:=by
  have CP:=fun x V=>KY x n V hn hn2;have tail:∀ (V:World) (x:Int),x=L.getD N 0->But g w V->Bx V g #[.slice a L.length c,Z9 N] 66->True:=fun _ _ _ _ _=>trivial;by_cases hlt:N<L.length
  · obtain⟨b,off,rfl,hb,hc⟩:=PU hL hlt;have hd:decide (N<L.length)=true:=decide_eq_true hlt;obtain⟨x,hx⟩:=ZR (L.getD N 0);rw[hx] at hc ⊢;generalize L.length=k at *
    clear hx hL tail;go_enter Tryz.func30,Tryz.ntmps30;go_upto_region 2 with fail;refine ZT (C:=fun w'=>Below w.heap.size w w') (by kernel_rfl) (by kernel_rfl) (Below.refl _ w).drew ?_;refine Ze (Z7 g 0) (fun w' _=>by kernel_rfl)<|Ze (Z7 g 0) (fun w' _=>by kernel_rfl)<|Ze (Z7 g 1) (fun w' _=>by kernel_rfl) <|
      Zx rfl ⟨g,1,none⟩ (Z9 N) (fun w' hC=>(hX.below hX.lt hC).load rfl (by kernel_rfl))<|Ze (Z7 g 0) (fun w' _=>by kernel_rfl)<|Ze (Z7 g 0) (fun w' _=>by kernel_rfl)<|Ze (Z7 g 0) (fun w' _=>by kernel_rfl) <|
      Zx rfl ⟨g,0,none⟩ (.slice (some ⟨b,off,none⟩) k c) (fun w' hC=>(hX.below hX.lt hC).load rfl (by kernel_rfl))<|Ze (Z9 k) (fun w' _=>by kernel_rfl)<|Ze (.bool (decide (N<k))) (fun w' _=>Q9 rfl N k (by kernel_rfl) (by kernel_rfl) w') ?_
    rw[hd];simp only[pu1,pu2,P5,PZ];refine wpQuiet_nil ?_;intro V hV;have Nc:=hX.below hX.lt hV;have hcV:=(hV.cell (p:=⟨b,off+N,none⟩) hb).trans hc;have hbV:=Nat.lt_of_lt_of_le hb hV.size;go_upto_region 3 with fail;refine ZT (C:=fun w'=>Below V.heap.size V w') (by kernel_rfl) (by kernel_rfl) (Below.refl _ V).drew ?_;refine Ze (Z7 g 0) (fun w' _=>by kernel_rfl)<|Ze (Z7 g 0) (fun w' _=>by kernel_rfl)<|Ze (Z7 g 0) (fun w' _=>by kernel_rfl) <|
      Zx rfl ⟨g,0,none⟩ (.slice (some ⟨b,off,none⟩) k c) (fun w' hC=>(Nc.below Nc.lt hC).load rfl (by kernel_rfl))<|Ze (Z7 g 0) (fun w' _=>by kernel_rfl)<|Ze (Z7 g 0) (fun w' _=>by kernel_rfl) <|
      Ze (Z7 g 1) (fun w' _=>by kernel_rfl)<|Zx rfl ⟨g,1,none⟩ (Z9 N) (fun w' hC=>(Nc.below Nc.lt hC).load rfl (by kernel_rfl))<|Ze (Z7 b (off+N)) (fun w' _=>Wn b off k c N hlt w' _ _ rfl (by kernel_rfl) (by kernel_rfl)) <|
      Zx rfl ⟨b,off+N,none⟩ (Z9 x) (fun w' hC=>XH ((hC.cell (p:=⟨b,off+N,none⟩) hbV).trans hcV) (by kernel_rfl))<|Ze (Z9 x) (fun w' _=>by kernel_rfl) ?_
    refine wpQuiet_nil ?_;intro V2 hV2;have hX2:=Nc.below Nc.lt hV2;have hB2:=hV.trans (hV2.mono hV.size);clear Nc hcV hbV hV hV2 hc hb;go_upto_region 4 with fail;apply wp_region_lit;refine YN (by kernel_rfl) (some 26) rfl (Z7 g 0) (by kernel_rfl) ?_;simp only[pu1,pu2,P5,PZ];refine YN (by kernel_rfl) (some 27) rfl (Z7 g 0) (by kernel_rfl) ?_;simp only[pu1,pu2,P5,PZ];refine YN (by kernel_rfl) (some 28) rfl (Z7 g 1) (by kernel_rfl) ?_;simp only[pu1,pu2,P5,PZ];refine MN (by kernel_rfl) (some 29) rfl 3 (.tmp 28) rfl ⟨g,1,none⟩ (Z9 N) (by kernel_rfl) (hX2.load rfl (by kernel_rfl)) ?_;simp only[pu1,pu2,P5,PZ];refine YN (by kernel_rfl) (some 30) rfl (Z9 (N+1:Nat)) (add_one rfl N (by omega) (by kernel_rfl) V2) ?_;simp only[pu1,pu2,P5,PZ];refine YN (by kernel_rfl) (some 31) rfl (Z7 g 0) (by kernel_rfl) ?_;simp only[pu1,pu2,P5,PZ];refine YN (by kernel_rfl) (some 32) rfl (Z7 g 1) (by kernel_rfl) ?_;simp only[pu1,pu2,P5,PZ];refine La (by kernel_rfl) rfl 3 (.tmp 32) (.tmp 30) rfl (Z7 g 1) (Z9 (N+1:Nat)) (by kernel_rfl) (by kernel_rfl) _ (YT hX2 (by simp) rfl (by kernel_rfl)) ?_;apply wpList_nil;have Zr:Bx (V2.setCell ⟨g,1,none⟩ (Z9 (N+1:Nat))) g #[.slice (some ⟨b,off,none⟩) k c,Z9 (N+1:Nat)] 66:=hX2.Gs _;have hB3:=(But.of_below hB2 (Nat.le_of_lt hX.lt)).trans (But.setCell (g:=g) V2 1 (Z9 (N+1:Nat)));generalize V2.setCell ⟨g,1,none⟩ (Z9 (N+1:Nat))=V3 at *
    have LD:=Z8 Zr;have HB3:=Z8 hB3;clear hX2 hB2 Zr hB3 hX;go_wp2_with (go_at_call 17; refine(CP _ _).mono ?_; rintro e w9 ⟨rfl,rfl⟩)
    go_ret;exact⟨rfl,HB3.out,LD.out⟩
  · have hd:decide (N<L.length)=false:=decide_eq_false hlt;have hx:L.getD N 0=0:=(by simp[List.getD,List.getElem?_eq_none (show L.length<=N by omega)]);rw[hx];generalize L.length=k at *
    obtain⟨x,hx0⟩:∃ x:Int,x=0:=⟨_,rfl⟩;clear hx hL tail;go_enter Tryz.func30,Tryz.ntmps30;go_upto_region 2 with fail;refine ZT (C:=fun w'=>Below w.heap.size w w') (by kernel_rfl) (by kernel_rfl) (Below.refl _ w).drew ?_;refine Ze (Z7 g 0) (fun w' _=>by kernel_rfl)<|Ze (Z7 g 0) (fun w' _=>by kernel_rfl)<|Ze (Z7 g 1) (fun w' _=>by kernel_rfl) <|
      Zx rfl ⟨g,1,none⟩ (Z9 N) (fun w' hC=>(hX.below hX.lt hC).load rfl (by kernel_rfl))<|Ze (Z7 g 0) (fun w' _=>by kernel_rfl)<|Ze (Z7 g 0) (fun w' _=>by kernel_rfl)<|Ze (Z7 g 0) (fun w' _=>by kernel_rfl) <|
      Zx rfl ⟨g,0,none⟩ (.slice a k c) (fun w' hC=>(hX.below hX.lt hC).load rfl (by kernel_rfl))<|Ze (Z9 k) (fun w' _=>by kernel_rfl)<|Ze (.bool (decide (N<k))) (fun w' _=>Q9 rfl N k (by kernel_rfl) (by kernel_rfl) w') ?_
    rw[hd];simp only[pu1,pu2,P5,PZ];refine wpQuiet_nil ?_;intro V2 hB2;have hX2:=hX.below hX.lt hB2;rw[<- hx0];go_upto_region 4 with fail;apply wp_region_lit;refine YN (by kernel_rfl) (some 26) rfl (Z7 g 0) (by kernel_rfl) ?_;simp only[pu1,pu2,P5,PZ];refine YN (by kernel_rfl) (some 27) rfl (Z7 g 0) (by kernel_rfl) ?_;simp only[pu1,pu2,P5,PZ];refine YN (by kernel_rfl) (some 28) rfl (Z7 g 1) (by kernel_rfl) ?_;simp only[pu1,pu2,P5,PZ];refine MN (by kernel_rfl) (some 29) rfl 3 (.tmp 28) rfl ⟨g,1,none⟩ (Z9 N) (by kernel_rfl) (hX2.load rfl (by kernel_rfl)) ?_;simp only[pu1,pu2,P5,PZ];refine YN (by kernel_rfl) (some 30) rfl (Z9 (N+1:Nat)) (add_one rfl N (by omega) (by kernel_rfl) V2) ?_;simp only[pu1,pu2,P5,PZ];refine YN (by kernel_rfl) (some 31) rfl (Z7 g 0) (by kernel_rfl) ?_;simp only[pu1,pu2,P5,PZ];refine YN (by kernel_rfl) (some 32) rfl (Z7 g 1) (by kernel_rfl) ?_;simp only[pu1,pu2,P5,PZ];refine La (by kernel_rfl) rfl 3 (.tmp 32) (.tmp 30) rfl (Z7 g 1) (Z9 (N+1:Nat)) (by kernel_rfl) (by kernel_rfl) _ (YT hX2 (by simp) rfl (by kernel_rfl)) ?_;apply wpList_nil;have Zr:Bx (V2.setCell ⟨g,1,none⟩ (Z9 (N+1:Nat))) g #[.slice a k c,Z9 (N+1:Nat)] 66:=hX2.Gs _;have hB3:=(But.of_below hB2 (Nat.le_of_lt hX.lt)).trans (But.setCell (g:=g) V2 1 (Z9 (N+1:Nat)));generalize V2.setCell ⟨g,1,none⟩ (Z9 (N+1:Nat))=V3 at *
    have LD:=Z8 Zr;have HB3:=Z8 hB3;clear hX2 hB2 Zr hB3 hX;go_wp2_with (go_at_call 17; refine(CP _ _).mono ?_; rintro e w9 ⟨rfl,rfl⟩)
    go_ret;exact⟨rfl,HB3.out,LD.out⟩
theorem Ic (b off n c k:Nat)(hk:k<n)(V:World)(ρ:Operand->Value)(o:Oper){x y:Operand}(ho:o.op=.indexAddr 74 x y)(hx:ρ x=.slice (some ⟨b,off,none⟩) n c)(hy:ρ y=Z9 k):(execOp ρ o).run Tryz.prog V=.ok (.value (Z7 b (off+k))) V:=by
  have hs:(sizeOf (Tryz.prog.elem 74)).run Tryz.prog V=.ok 1 V:=by kernel_rfl
  have hlm:(k:Int)<(n:Int):=by omega
  unfold execOp;simp only[ho,hx,hy];go_simp
theorem fB:(Tryz.prog.info? 22).map (fun i=>(i.zero,i.size,i.bytes))=some (some (.slice none 0 0),1,24):=by kernel_rfl
theorem one_row (a:Option Addr)(n c:Nat)(w:World):(Instr.buildSlice 74 1 #[(0,.slice a n c)]).run Tryz.prog w=.ok (.slice (some ⟨w.heap.size,0,none⟩) 1 1) (w.alloc (.cells #[.slice a n c] 22)):=by
  obtain⟨i0,hi,hz0,hz1,hz2⟩:=info_parts fB;refine run_buildSlice w 74 22 1 _ #[.slice a n c] i0 _ Tryz.underlying74 hi hz0 (by rw[hz1]; omega) (by rw[hz1]; omega) ?_;rw[hz1];kernel_rfl
theorem Yk {ρ:Operand->Value}{o:Oper}{x y:Operand}(ho:o.op=.binOp .add 3 x y 3)(a b:Nat)(h:a+b<=9223372036854775807)(hx:ρ x=Z9 a)(hy:ρ y=Z9 b)(w:World):(execOp ρ o).run Tryz.prog w=.ok (.value (Z9 (a+b:Nat))) w:=by
  unfold execOp;simp only[ho,hx,hy];simp[go_sem];rw[IntKind.wrap_i64];omega
theorem KX (g:Nat)(a:Option Addr)(n c:Nat)(w:World)(hX:Bx w g #[.slice a n c] 22)(hn:n<=9223372036854775807):Calls Tryz.prog 8 #[.slice (some ⟨g,0,none⟩) 1 1] w fun e w'=>e=.returned (.bool (decide ((160:Int)<(n:Int))))/\w=w':=by
  have hl:(Instr.loadAt 22 (Z7 g 0)).run Tryz.prog w=.ok (.slice a n c) w:=hX.load rfl (by kernel_rfl);clear hX;go_enter Tryz.func8,Tryz.ntmps8;go_wp2_with fail;go_loopg [3,8] 1 (fun gg s3 s8 wx=>((s3=Z9 (0:Nat)/\s8=Z9 (0:Nat)/\gg=1)∨(s3=Z9 (n:Nat)/\s8=Z9 (1:Nat)/\gg=0))/\w=wx)
  case atStart=>exact⟨.inl ⟨rfl,rfl,rfl⟩,rfl⟩
  case round=>
    obtain⟨⟨rfl,rfl,rfl⟩ | ⟨rfl,rfl,rfl⟩,rfl⟩:=hrel
    · go_upto_region 4 with fail;apply wp_region_lit;refine YN (by kernel_rfl) (some 10) rfl (Z7 g 0) (Ic g 0 1 1 0 (by omega) w _ _ rfl (by kernel_rfl) (by kernel_rfl)) ?_;simp only[pu1,pu2,P5,PZ];refine MN (by kernel_rfl) (some 11) rfl 22 (.tmp 10) rfl ⟨g,0,none⟩ (.slice a n c) (by kernel_rfl) (hl) ?_;simp only[pu1,pu2,P5,PZ];refine YN (by kernel_rfl) (some 5) rfl (.slice a n c) (by kernel_rfl) ?_;simp only[pu1,pu2,P5,PZ];apply wpList_nil;go_upto_region 5 with fail;apply wp_region_lit;refine YN (by kernel_rfl) (some 12) rfl (Z9 (0:Nat)) (by kernel_rfl) ?_;simp only[pu1,pu2,P5,PZ];refine YN (by kernel_rfl) (some 13) rfl (.slice a n c) (by kernel_rfl) ?_;simp only[pu1,pu2,P5,PZ];refine YN (by kernel_rfl) (some 14) rfl (Z9 n) (by kernel_rfl) ?_;simp only[pu1,pu2,P5,PZ];refine YN (by kernel_rfl) (some 15) rfl (Z9 (0+n:Nat)) (Yk rfl 0 n (by omega) (by kernel_rfl) (by kernel_rfl) w) ?_;rw[Nat.zero_add];simp only[pu1,pu2,P5,PZ];refine YN (by kernel_rfl) (some 3) rfl (Z9 n) (by kernel_rfl) ?_;simp only[pu1,pu2,P5,PZ];apply wpList_nil;clear hl;go_wp2_with fail;go_roundg 0
      case measure=>omega
      case rel=>exact⟨.inr ⟨rfl,rfl,rfl⟩,rfl⟩
    · clear hl;go_wp2_with fail;go_ret;exact⟨rfl,rfl⟩
end Go.Proofs.YtnelmomagdcmnaaGreat
