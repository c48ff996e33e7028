/-
  Texts joined.
-/
import Derived.Deep.QuietTactic
import Derived.Deep.Quiet
import Derived.Deep.Cut
import Derived.Deep.DeepCutAuto
import Derived.Deep.WholeRow
import Derived.Deep.MidRow
import Derived.Deep.Slices
import Derived.Great.BuildSlice
import Derived.KernelRfl
import Derived.OneCell
import Derived.Maps.AppendAt
import Derived.Test.YtnhlpahoomcgnaaGreatJ1
import GoSem.Core.Utf8
set_option maxRecDepth 100000
set_option maxHeartbeats 8000000
set_option linter.unusedSimpArgs false
set_option linter.unusedVariables false
namespace Go.Proofs.YtnhlpahoomcgnaaGreat
open Go.RowKit
theorem Zy {P:Program}{ops:Array Oper}{rest:List Oper}{o:Oper}{a:Act}{w:World}{Q:Exit->Act->World->Prop}(hgd:o.guard=none)(d:Option Tmp)(hd:o.dst=d)
    (v:Value) (w2:World) (hr:(execOp a.eval o).run P w=.ok (.value v) w2) (k:wpList P ops Q rest (a.put d v) w2):wpList P ops Q (o::rest) a w:=by
  rw[<- hd] at k;apply wpList_plain hgd;intro K hK;rw[Oper.wp,hr,Oper.upon_value];exact hK _ _ k
theorem ZH {P:Program}{id:Nat}{Q:Exit->Act->World->Prop}{a:Act}{w:World}{l:List Oper}(C:World->Prop)(hm:P.follows .mixedOrders=true)(hB:Region.lexB .any l.toArray=true)(hC:C { w with drawn:=w.drawn+1 })
    (h:wpQuiet P l.toArray C (fun a'=>∀ w',C w'->Q .normal a' w') l a):(Code.region id l.toArray true).wp P Q a w:=
  wp_region_quiet (C:=C) hm hB hC (by simpa using h)
theorem pu1 (a:Act)(t:Tmp)(v:Value):a.put (some t) v={ a with tmps:=a.tmps.setIfInBounds t v }:=rfl
theorem pu2 {α:Type}(l:List α)(i:Nat)(x:α):l.toArray.setIfInBounds i x=(l.set i x).toArray:=List.setIfInBounds_toArray ..
theorem Qe {α:Type}(l:List α)(i:Nat)(x y:α):(x::l).set (i+1) y=x::l.set i y:=rfl
theorem Qd {α:Type}(l:List α)(x y:α):(x::l).set 0 y=y::l:=rfl
theorem Zh {P:Program}{w:World}{ops:Array Oper}{rest:List Oper}{o:Oper}{a:Act}{Q:Exit->Act->World->Prop}(hgd:o.guard=none)(d:Option Tmp)(hd:o.dst=d)(ty:TypeId)(hty:o.type=ty)(s x:Operand)(t:TypeId)
    (ho:o.op=.call { callee:=.builtin .append,args:=#[s,x],argTypes:=#[t,t] }) (v u v':Value) (w':World) (hs:a.eval s=v) (hx:a.eval x=u)
    (hr:(Builtin.append_ #[t,t] ty #[v,u]).run P w=.ok v' w') (k:wpList P ops Q rest (a.put d v') w'):wpList P ops Q (o::rest) a w:=by
  subst hd;subst hty;refine wpList_plain hgd fun K hK=>?_;unfold Oper.wp execOp;simp only[ho,resolve,invoke,builtin,Sem.run_bind,Sem.run_pure,Result.andThen_ok,List.map_toArray,List.map_cons,List.map_nil,hs,hx,hr];exact hK _ _ k
section
variable {P : Program} {ops : Array Oper} {rest : List Oper} {o : Oper} {a : Act} {w : World} {Q : Exit -> Act -> World -> Prop}
theorem YH (hw:Region.wanted o (yielded ops a.tmps)=true)(d:Option Tmp)(hd:o.dst=d)(v:Value)(hr:(execOp a.eval o).run P w=.ok (.value v) w)(k:wpList P ops Q rest (a.put d v) w):wpList P ops Q (o::rest) a w:=by
  rw[<- hd] at k;apply wpList_step;intro K hK;rw[if_pos hw,Oper.wp,hr,Oper.upon_value];exact hK _ _ k
theorem PV (hw:Region.wanted o (yielded ops a.tmps)=true)(d:Option Tmp)(hd:o.dst=d)(v:Value)(w2:World)(hr:(execOp a.eval o).run P w=.ok (.value v) w2)(k:wpList P ops Q rest (a.put d v) w2):wpList P ops Q (o::rest) a w:=by
  rw[<- hd] at k;apply wpList_step;intro K hK;rw[if_pos hw,Oper.wp,hr,Oper.upon_value];exact hK _ _ k
theorem aj9 (hw:Region.wanted o (yielded ops a.tmps)=false)(d:Option Tmp)(hd:o.dst=d)(k:wpList P ops Q rest (a.put d undef) w):wpList P ops Q (o::rest) a w:=by
  rw[<- hd] at k;exact wpList_skip hw k
theorem ig (hw:Region.wanted o (yielded ops a.tmps)=true)(d:Option Tmp)(hd:o.dst=d)(f:FuncId)(args:Array Value)(v:Value)(S:World->Prop)(hr:(execOp a.eval o).run P w=.ok (.enter f args) w)
    (hc:Calls P f args w fun e w'=>e=.returned v/\S w') (k:∀ w',S w'->wpList P ops Q rest (a.put d v) w'):wpList P ops Q (o::rest) a w:=by
  rw[<- hd] at k;apply wpList_step;intro K hK;rw[if_pos hw,Oper.wp,hr];refine hc.mono ?_;rintro e w' ⟨rfl,hS⟩;exact hK _ _ (k w' hS)
theorem Mc (hw:Region.wanted o (yielded ops a.tmps)=true)(d:Option Tmp)(hd:o.dst=d)(ty:TypeId)(x:Operand)(ho:o.op=.load ty x)(ad:Addr)(v:Value)
    (hx:a.eval x=.pointer (some ad)) (hl:(Instr.loadAt ty (.pointer (some ad))).run P w=.ok v w) (k:wpList P ops Q rest (a.put d v) w):wpList P ops Q (o::rest) a w:=by
  refine YH hw d hd v ?_ k;unfold execOp;simp only[ho,hx,Sem.run_bind,hl];rfl
theorem ND (hw:Region.wanted o (yielded ops a.tmps)=true)(d:Option Tmp)(hd:o.dst=d)(ty:TypeId)(x h:Operand)(ho:o.op=.slice ty x none (some h) none)(vx vh v:Value)(hx:a.eval x=vx)(hh:a.eval h=vh)
    (hs:(Instr.sliceAt ty vx none (some vh) none).run P w=.ok v w) (k:wpList P ops Q rest (a.put d v) w):wpList P ops Q (o::rest) a w:=by
  refine YH hw d hd v ?_ k;unfold execOp;simp only[ho,hx,hh,Option.map_some,Option.map_none,Sem.run_bind,hs];rfl
theorem Zr (hw:Region.wanted o (yielded ops a.tmps)=true)(d:Option Tmp)(hd:o.dst=d)(t:TypeId)(len:Nat)(parts:Array (Nat×Operand))(ho:o.op=.buildSlice t len parts)
    (vs:Array (Nat×Value)) (hp:(parts.map fun(i,x)=>(i,a.eval x))=vs) (v:Value) (w2:World) (hr:(Instr.buildSlice t len vs).run P w=.ok v w2) (k:wpList P ops Q rest (a.put d v) w2):wpList P ops Q (o::rest) a w:=by
  refine PV hw d hd v w2 ?_ k;unfold execOp;simp only[ho,Sem.run_bind,hp,hr,Result.andThen_ok];rfl
end
section
variable {P : Program} {C : World -> Prop} {ops : Array Oper} {Q : Act -> Prop} {a : Act} {o : Oper} {rest : List Oper}
theorem AP (hw:Region.wanted o (yielded ops a.tmps)=true)(d:Option Tmp)(hd:o.dst=d)(v:Value)(hr:∀ w,C w->(execOp a.eval o).run P w=.ok (.value v) w)(h:wpQuiet P ops C Q rest (a.put d v)):wpQuiet P ops C Q (o::rest) a:=by
  rw[<- hd] at h;unfold wpQuiet;rw[if_pos hw];refine⟨v,fun w hC=>?_,h⟩;unfold Oper.quietAt;rw[hr w hC];exact⟨rfl,rfl⟩
theorem ak0 (hw:Region.wanted o (yielded ops a.tmps)=false)(d:Option Tmp)(hd:o.dst=d)(h:wpQuiet P ops C Q rest (a.put d undef)):wpQuiet P ops C Q (o::rest) a:=by
  rw[<- hd] at h;unfold wpQuiet;rw[if_neg (by rw[hw]; decide)];exact h
theorem L9 (hw:Region.wanted o (yielded ops a.tmps)=true)(d:Option Tmp)(hd:o.dst=d)(f:FuncId)(args:Array Value)(v:Value)(hr:∀ w,C w->(execOp a.eval o).run P w=.ok (.enter f args) w)
    (hc:∀ w,C w->Calls P f args w (fun e w''=>e=.returned v/\C w'')) (h:wpQuiet P ops C Q rest (a.put d v)):wpQuiet P ops C Q (o::rest) a:=by
  rw[<- hd] at h;unfold wpQuiet;rw[if_pos hw];refine⟨v,fun w hC=>?_,h⟩;unfold Oper.quietAt;rw[hr w hC];exact⟨rfl,hc w hC⟩
theorem gZ (hw:Region.wanted o (yielded ops a.tmps)=true)(d:Option Tmp)(hd:o.dst=d)(ty:TypeId)(x:Operand)(ho:o.op=.load ty x)(ad:Addr)(v:Value)
    (hx:a.eval x=.pointer (some ad)) (hl:∀ w,C w->(Instr.loadAt ty (.pointer (some ad))).run P w=.ok v w) (h:wpQuiet P ops C Q rest (a.put d v)):wpQuiet P ops C Q (o::rest) a:=by
  refine AP hw d hd v (fun w hC=>?_) h;unfold execOp;simp only[ho,hx,Sem.run_bind,hl w hC];rfl
end
theorem nZ {P:Program}{ops:Array Oper}{rest:List Oper}{o:Oper}{a:Act}{w:World}{Q:Exit->Act->World->Prop}(hw:Region.wanted o (yielded ops a.tmps)=true)(d:Option Tmp)(hd:o.dst=d)(f:FuncId)(args:Array Value)(S:Value->World->Prop)(hr:(execOp a.eval o).run P w=.ok (.enter f args) w)
    (hc:Calls P f args w fun e w'=>∃ v,e=.returned v/\S v w') (k:∀ v w',S v w'->wpList P ops Q rest (a.put d v) w'):wpList P ops Q (o::rest) a w:=by
  rw[<- hd] at k;apply wpList_step;intro K hK;rw[if_pos hw,Oper.wp,hr];refine hc.mono ?_;rintro e w' ⟨v,rfl,hS⟩;exact hK _ _ (k v w' hS)
theorem NC {P:Program}{ops:Array Oper}{rest:List Oper}{o:Oper}{a:Act}{w:World}{Q:Exit->Act->World->Prop}(hw:Region.wanted o (yielded ops a.tmps)=true)(d:Option Tmp)(hd:o.dst=d)(ty:TypeId)(x l:Operand)(ho:o.op=.slice ty x (some l) none none)(vx vl v:Value)(hx:a.eval x=vx)(hl:a.eval l=vl)
    (hs:(Instr.sliceAt ty vx (some vl) none none).run P w=.ok v w) (k:wpList P ops Q rest (a.put d v) w):wpList P ops Q (o::rest) a w:=by
  refine YH hw d hd v ?_ k;unfold execOp;simp only[ho,hx,hl,Option.map_some,Option.map_none,Sem.run_bind,hs];rfl
section
variable {P : Program} {Q : Exit -> Act -> World -> Prop} {ops : Array Oper}
def nY (ops:Array Oper):Bool:=(List.range ops.size).all fun i=>((ops[i]?).map fun o=>o.after.all fun e=>!Region.binds .any e || decide (e.on<i)).getD true
theorem Kt {listed:Array Bool}(hb:nY ops=true)(hs:listed.size=ops.size)(h:Region.ready .any ops listed=[]):listed=Array.replicate ops.size true:=by
  have key:∀ i,i<ops.size->listed.getD i false=true:=by
    intro i;induction i using Nat.strongRecOn with
    | ind i ih=>
      intro hi;by_cases hl:listed.getD i false=true
      · exact hl
      · exfalso;have hlt:i<listed.size:=(by omega);have hl2:listed.getD i true=false:=by
          simp only[Array.getD,hlt,dif_pos] at hl ⊢;simpa using hl
        have hm:i∈Region.ready .any ops listed:=by
          rw[mem_ready];refine⟨hl2,ops[i],by simp[hi],fun e he hbe=>?_⟩;have hbi:=List.all_eq_true.1 hb i (List.mem_range.2 hi);rw[Array.getElem?_eq_getElem hi] at hbi;have hlt2:e.on<i:=by
            have:=(Array.all_eq_true_iff_forall_mem.1 hbi) e he;rw[hbe] at this;simpa using this
          exact ih e.on hlt2 (by omega)
        rw[h] at hm;cases hm
  apply Array.ext
  · rw[hs]; simp
  · intro i h1 h2;have:=key i (by omega);simp only[Array.getD,h1,dif_pos] at this;simpa using this
theorem Zw {id:Nat}{a:Act}{w:World}(J:Array Bool->Act->World->Prop)(hm:P.follows .mixedOrders=true)(hb:nY ops=true)
    (h0:J (Array.replicate ops.size false) a { w with drawn:=w.drawn+1 })
    (hstep:∀ i listed a w,i<ops.size->i∈Region.ready .any ops listed->J listed a w->wpOp P ops Q i (J (listed.setIfInBounds i true)) a w)
    (hend:∀ a w,J (Array.replicate ops.size true) a w->Q .normal a w):(Code.region id ops true).wp P Q a w:=by
  refine wp_region_any hm ?_;have key:∀ (fuel:Nat) (listed:Array Bool) (a:Act) (w:World),listed.size=ops.size->listed.count false<=fuel->J listed a w->wpAny P .any ops Q fuel listed a w:=by
    intro fuel;induction fuel with
    | zero=>
      intro listed a w hs hc hJ;have hall:listed=Array.replicate ops.size true:=by
        apply Array.ext
        · rw[hs]; simp
        · intro i h1 h2;have h3:false ∉ listed:=Array.count_eq_zero.1 (by omega);have h4:listed[i]≠false:=fun h=>h3 (h ▸ Array.getElem_mem h1);simpa using h4
      have hr:Region.ready .any ops listed=[]:=by
        rw[List.eq_nil_iff_forall_not_mem];intro j hj;obtain⟨h1,o,ho,-⟩:=mem_ready.1 hj;have hjs:j<ops.size:=(Array.getElem?_eq_some_iff.1 ho).1;rw[hall] at h1;simp[hjs] at h1
      exact⟨hr,hend _ _ (hall ▸ hJ)⟩
    | succ fuel ih=>
      intro listed a w hs hc hJ;refine⟨fun h=>hend _ _ ?_,fun i hi=>?_⟩
      · rw[<- Kt hb hs h]; exact hJ
      · obtain⟨h1,o,ho,-⟩:=mem_ready.1 hi;have his:i<ops.size:=(Array.getElem?_eq_some_iff.1 ho).1;refine wpOp_mono (fun a' w' hJ'=>ih _ a' w' (by rw[Array.size_setIfInBounds]; exact hs) ?_ hJ') (hstep i listed a w his hi hJ);have hil:i<listed.size:=(by omega);have hf:listed[i]=false:=by
          simp only[Array.getD,hil,dif_pos] at h1;exact h1
        rw[Array.setIfInBounds_def,dif_pos hil,Array.count_set,hf];have:0<listed.count false:=Array.count_pos_iff.2 (hf ▸ Array.getElem_mem hil);simp;omega
  refine key _ _ _ _ (by simp) ?_ h0;rw[Array.count_replicate];simp
theorem ZX {i:Nat}{listed:Array Bool}(h:i∈Region.ready .any ops listed)(k:Nat)(hk:((ops[i]?).map fun o=>o.after.any fun e=>Region.binds .any e && e.on == k).getD false=true:=by kernel_rfl):listed.getD k false=true:=by
  obtain⟨-,o,ho,hall⟩:=mem_ready.1 h;rw[ho] at hk;simp only[Option.map_some,Option.getD_some] at hk;obtain⟨j,hj,hk⟩:=Array.any_eq_true.1 hk;simp only[Bool.and_eq_true,beq_iff_eq] at hk;rw[<- hk.2];exact hall _ (Array.getElem_mem hj) hk.1
theorem Z7 {i:Nat}{listed:Array Bool}(h:i∈Region.ready .any ops listed):listed.getD i true=false:=(mem_ready.1 h).1
variable {i : Nat} {o : Oper} {a : Act} {w : World} {K : Act -> World -> Prop}
theorem Fa (hi:ops[i]?=some o)(hw:Region.wanted o (yielded ops a.tmps)=true)(h:Oper.wp P o a w K Q):wpOp P ops Q i K a w:=by
  unfold wpOp;rw[hi];simp only;rw[if_pos hw];exact .inl h
theorem Xh (hi:ops[i]?=some o)(hw:Region.wanted o (yielded ops a.tmps)=false)(h:K (a.put o.dst undef) w):wpOp P ops Q i K a w:=by
  unfold wpOp;rw[hi];simp only;rw[if_neg (by rw[hw]; decide)];exact h
theorem ZT (hi:ops[i]?=some o)(hw:Region.wanted o (yielded ops a.tmps)=true)(d:Option Tmp)(hd:o.dst=d)(v:Value)(w2:World)(hr:(execOp a.eval o).run P w=.ok (.value v) w2)(h:K (a.put d v) w2):wpOp P ops Q i K a w:=by
  rw[<- hd] at h;refine Fa hi hw ?_;rw[Oper.wp,hr,Oper.upon_value];exact h
theorem Zc (hi:ops[i]?=some o)(hw:Region.wanted o (yielded ops a.tmps)=true)(d:Option Tmp)(hd:o.dst=d)(f:FuncId)(args:Array Value)(hr:(execOp a.eval o).run P w=.ok (.enter f args) w)
    (hc:Calls P f args w fun e w'=>∃ v,e=.returned v/\K (a.put d v) w'):wpOp P ops Q i K a w:=by
  rw[<- hd] at hc;refine Fa hi hw ?_;rw[Oper.wp,hr];refine hc.mono ?_;rintro e w' ⟨v,rfl,h⟩;exact h
theorem ZE (hi:ops[i]?=some o)(hw:Region.wanted o (yielded ops a.tmps)=true)(d:Option Tmp)(hd:o.dst=d)(ty:TypeId)(x:Operand)(ho:o.op=.load ty x)(ad:Addr)(v:Value)
    (hx:a.eval x=.pointer (some ad)) (hl:(Instr.loadAt ty (.pointer (some ad))).run P w=.ok v w) (h:K (a.put d v) w):wpOp P ops Q i K a w:=by
  refine ZT hi hw d hd v w ?_ h;unfold execOp;simp only[ho,hx,Sem.run_bind,hl];rfl
theorem NK (hi:ops[i]?=some o)(hw:Region.wanted o (yielded ops a.tmps)=true)(d:Option Tmp)(hd:o.dst=d)(ty:TypeId)(x y:Operand)(ho:o.op=.slice ty x none (some y) none)(vx vh v:Value)(hx:a.eval x=vx)(hh:a.eval y=vh)
    (hs:(Instr.sliceAt ty vx none (some vh) none).run P w=.ok v w) (h:K (a.put d v) w):wpOp P ops Q i K a w:=by
  refine ZT hi hw d hd v w ?_ h;unfold execOp;simp only[ho,hx,hh,Option.map_some,Option.map_none,Sem.run_bind,hs];rfl
theorem Vo (hi:ops[i]?=some o)(hw:Region.wanted o (yielded ops a.tmps)=true)(d:Option Tmp)(hd:o.dst=d)(ty:TypeId)(x y:Operand)(ho:o.op=.slice ty x (some y) none none)(vx vh v:Value)(hx:a.eval x=vx)(hh:a.eval y=vh)
    (hs:(Instr.sliceAt ty vx (some vh) none none).run P w=.ok v w) (h:K (a.put d v) w):wpOp P ops Q i K a w:=by
  refine ZT hi hw d hd v w ?_ h;unfold execOp;simp only[ho,hx,hh,Option.map_some,Option.map_none,Sem.run_bind,hs];rfl
theorem Vk (hi:ops[i]?=some o)(hw:Region.wanted o (yielded ops a.tmps)=true)(d:Option Tmp)(hd:o.dst=d)(t:TypeId)(len:Nat)(parts:Array (Nat×Operand))(ho:o.op=.buildSlice t len parts)
    (vs:Array (Nat×Value)) (hp:(parts.map fun(i,x)=>(i,a.eval x))=vs) (v:Value) (w2:World) (hr:(Instr.buildSlice t len vs).run P w=.ok v w2) (h:K (a.put d v) w2):wpOp P ops Q i K a w:=by
  refine ZT hi hw d hd v w2 ?_ h;unfold execOp;simp only[ho,Sem.run_bind,hp,hr,Result.andThen_ok];rfl
theorem Vw (hi:ops[i]?=some o)(hw:Region.wanted o (yielded ops a.tmps)=true)(d:Option Tmp)(hd:o.dst=d)(ty:TypeId)(hty:o.type=ty)(s x:Operand)(t:TypeId)
    (ho:o.op=.call { callee:=.builtin .append,args:=#[s,x],argTypes:=#[t,t] }) (v u v':Value) (w':World) (hs:a.eval s=v) (hx:a.eval x=u)
    (hr:(Builtin.append_ #[t,t] ty #[v,u]).run P w=.ok v' w') (h:K (a.put d v') w'):wpOp P ops Q i K a w:=by
  subst hd;subst hty;refine Fa hi hw ?_;unfold Oper.wp execOp;simp only[ho,resolve,invoke,builtin,Sem.run_bind,Sem.run_pure,Result.andThen_ok,List.map_toArray,List.map_cons,List.map_nil,hs,hx,hr];exact h
end
theorem pu:(∀ (a:Act) (t:Tmp) (v:Value),a.put (some t) v={ a with tmps:=a.tmps.setIfInBounds t v })/\(∀ (l:List Value) (i:Nat) (x:Value),l.toArray.setIfInBounds i x=(l.set i x).toArray)/\(∀ (x:Value) (l:List Value) (n:Nat) (v:Value),(x::l).set (n+1) v=x::l.set n v)/\(∀ (x:Value) (l:List Value) (v:Value),(x::l).set 0 v=v::l):=
  ⟨fun _ _ _=>rfl,fun _ _ _=>List.setIfInBounds_toArray ..,fun _ _ _ _=>rfl,fun _ _ _=>rfl⟩
section
variable {P : Program} {ops : Array Oper} {rest : List Oper} {o o1 o2 o3 o4 o5 o6 o7 o8 : Oper} {a : Act} {w : World} {Q : Exit -> Act -> World -> Prop}
def Kr (P:Program)(ops:Array Oper):List Oper->Act->World->Option (Act×World)
  | [],a,w=>some (a,w)
  | o::l,a,w=>bif Region.wanted o (yielded ops a.tmps) then
      match (execOp a.eval o).run P w with
      | .ok (.value v) w'=>Kr P ops l (a.put o.dst v) w'
      | _=>none
    else Kr P ops l (a.put o.dst undef) w
theorem TM:∀ (l:List Oper) (a:Act) (w:World) (a':Act) (w':World),Kr P ops l a w=some (a',w')->wpList P ops Q rest a' w'->wpList P ops Q (l++rest) a w
  | [],a,w,a',w',h,k=>by
    simp only[Kr,Option.some.injEq,Prod.mk.injEq] at h;obtain⟨rfl,rfl⟩:=h;exact k
  | o::l,a,w,a',w',h,k=>by
    unfold Kr at h;cases hw:Region.wanted o (yielded ops a.tmps) with
    | true=>
      rw[hw,cond_true] at h
      split at h
      · rename_i v w2 hr
        exact PV hw o.dst rfl v w2 hr (TM l _ _ a' w' h k)
      · exact absurd h (by simp)
    | false=>
      rw[hw,cond_false] at h;exact aj9 hw o.dst rfl (TM l _ _ a' w' h k)
theorem ZV {d1:Option Tmp}(v1:Value)(k:wpList P ops Q rest (a.put d1 v1) w)(e1:o1.dst=d1:=by rfl)(h:Kr P ops [o1] a w=some ((a.put d1 v1),w):=by kernel_rfl):wpList P ops Q (o1::rest) a w:=by
  subst e1;exact TM [o1] a w _ _ h k
theorem ZA {d1 d2:Option Tmp}(v1 v2:Value)(k:wpList P ops Q rest ((a.put d1 v1).put d2 v2) w)(e1:o1.dst=d1:=by rfl)(e2:o2.dst=d2:=by rfl)(h:Kr P ops [o1,o2] a w=some (((a.put d1 v1).put d2 v2),w):=by kernel_rfl):wpList P ops Q (o1::o2::rest) a w:=by
  subst e1 e2;exact TM [o1,o2] a w _ _ h k
theorem Yr {d1 d2 d3:Option Tmp}(v1 v2 v3:Value)(k:wpList P ops Q rest (((a.put d1 v1).put d2 v2).put d3 v3) w)(e1:o1.dst=d1:=by rfl)(e2:o2.dst=d2:=by rfl)(e3:o3.dst=d3:=by rfl)(h:Kr P ops [o1,o2,o3] a w=some ((((a.put d1 v1).put d2 v2).put d3 v3),w):=by kernel_rfl):wpList P ops Q (o1::o2::o3::rest) a w:=by
  subst e1 e2 e3;exact TM [o1,o2,o3] a w _ _ h k
theorem WL {d1 d2 d3 d4:Option Tmp}(v1 v2 v3 v4:Value)(k:wpList P ops Q rest ((((a.put d1 v1).put d2 v2).put d3 v3).put d4 v4) w)(e1:o1.dst=d1:=by rfl)(e2:o2.dst=d2:=by rfl)(e3:o3.dst=d3:=by rfl)(e4:o4.dst=d4:=by rfl)(h:Kr P ops [o1,o2,o3,o4] a w=some (((((a.put d1 v1).put d2 v2).put d3 v3).put d4 v4),w):=by kernel_rfl):wpList P ops Q (o1::o2::o3::o4::rest) a w:=by
  subst e1 e2 e3 e4;exact TM [o1,o2,o3,o4] a w _ _ h k
theorem SG {d1 d2 d3 d4 d5:Option Tmp}(v1 v2 v3 v4 v5:Value)(k:wpList P ops Q rest (((((a.put d1 v1).put d2 v2).put d3 v3).put d4 v4).put d5 v5) w)(e1:o1.dst=d1:=by rfl)(e2:o2.dst=d2:=by rfl)(e3:o3.dst=d3:=by rfl)(e4:o4.dst=d4:=by rfl)(e5:o5.dst=d5:=by rfl)(h:Kr P ops [o1,o2,o3,o4,o5] a w=some ((((((a.put d1 v1).put d2 v2).put d3 v3).put d4 v4).put d5 v5),w):=by kernel_rfl):wpList P ops Q (o1::o2::o3::o4::o5::rest) a w:=by
  subst e1 e2 e3 e4 e5;exact TM [o1,o2,o3,o4,o5] a w _ _ h k
theorem YW {d1 d2 d3 d4 d5 d6:Option Tmp}(v1 v2 v3 v4 v5 v6:Value)(k:wpList P ops Q rest ((((((a.put d1 v1).put d2 v2).put d3 v3).put d4 v4).put d5 v5).put d6 v6) w)(e1:o1.dst=d1:=by rfl)(e2:o2.dst=d2:=by rfl)(e3:o3.dst=d3:=by rfl)(e4:o4.dst=d4:=by rfl)(e5:o5.dst=d5:=by rfl)(e6:o6.dst=d6:=by rfl)(h:Kr P ops [o1,o2,o3,o4,o5,o6] a w=some (((((((a.put d1 v1).put d2 v2).put d3 v3).put d4 v4).put d5 v5).put d6 v6),w):=by kernel_rfl):wpList P ops Q (o1::o2::o3::o4::o5::o6::rest) a w:=by
  subst e1 e2 e3 e4 e5 e6;exact TM [o1,o2,o3,o4,o5,o6] a w _ _ h k
theorem YG {d:Option Tmp}(v:Value)(hr:(execOp a.eval o).run P w=.ok (.value v) w)(k:wpList P ops Q rest (a.put d v) w)(hd:o.dst=d:=by rfl)(hw:Region.wanted o (yielded ops a.tmps)=true:=by kernel_rfl):wpList P ops Q (o::rest) a w:=YH hw d hd v hr k
theorem ZL {d:Option Tmp}{ty:TypeId}{x:Operand}(ho:o.op=.load ty x)(ad:Addr)(v:Value)(hl:(Instr.loadAt ty (.pointer (some ad))).run P w=.ok v w)(k:wpList P ops Q rest (a.put d v) w)(hd:o.dst=d:=by rfl)(hw:Region.wanted o (yielded ops a.tmps)=true:=by kernel_rfl)(hx:a.eval x=.pointer (some ad):=by kernel_rfl):wpList P ops Q (o::rest) a w:=Mc hw d hd ty x ho ad v hx hl k
theorem YS {d:Option Tmp}(v:Value)(S:World->Prop){f:FuncId}{args:Array Value}(hc:Calls P f args w fun e w'=>e=.returned v/\S w')(k:∀ w',S w'->wpList P ops Q rest (a.put d v) w')(hd:o.dst=d:=by rfl)(hw:Region.wanted o (yielded ops a.tmps)=true:=by kernel_rfl)(hr:(execOp a.eval o).run P w=.ok (.enter f args) w:=by kernel_rfl):wpList P ops Q (o::rest) a w:=ig hw d hd f args v S hr hc k
theorem Yi {d:Option Tmp}(S:Value->World->Prop){f:FuncId}{args:Array Value}(hc:Calls P f args w fun e w'=>∃ v,e=.returned v/\S v w')(k:∀ v w',S v w'->wpList P ops Q rest (a.put d v) w')(hd:o.dst=d:=by rfl)(hw:Region.wanted o (yielded ops a.tmps)=true:=by kernel_rfl)(hr:(execOp a.eval o).run P w=.ok (.enter f args) w:=by kernel_rfl):wpList P ops Q (o::rest) a w:=nZ hw d hd f args S hr hc k
theorem Yy {d:Option Tmp}{x y:Operand}{X Y:Value}(v:Value)(hr:a.eval x=X->a.eval y=Y->∀ w,(execOp a.eval o).run P w=.ok (.value v) w)(k:wpList P ops Q rest (a.put d v) w)(hd:o.dst=d:=by rfl)(hw:Region.wanted o (yielded ops a.tmps)=true:=by kernel_rfl)(hx:a.eval x=X:=by kernel_rfl)(hy:a.eval y=Y:=by kernel_rfl):wpList P ops Q (o::rest) a w:=YH hw d hd v (hr hx hy w) k
theorem ZJ {d:Option Tmp}{x y:Operand}{X Y v:Value}(hr:a.eval x=X->a.eval y=Y->∀ w,(execOp a.eval o).run P w=.ok (.value v) w)(k:wpList P ops Q rest (a.put d v) w)(hd:o.dst=d:=by rfl)(hw:Region.wanted o (yielded ops a.tmps)=true:=by kernel_rfl)(hx:a.eval x=X:=by kernel_rfl)(hy:a.eval y=Y:=by kernel_rfl):wpList P ops Q (o::rest) a w:=YH hw d hd v (hr hx hy w) k
theorem dT {p:Prop}[Decidable p](h:p:=by omega):decide p=true:=decide_eq_true h
theorem dF {p:Prop}[Decidable p](h:¬p:=by omega):decide p=false:=decide_eq_false h
theorem wl {id:Nat}{l:List Oper}(h:wpList P l.toArray Q l a w):(Code.region id l.toArray false).wp P Q a w:=wp_region_lit h
theorem wn (h:Q .normal a w):wpList P ops Q [] a w:=wpList_nil h
end
section
variable {P : Program} {C : World -> Prop} {ops : Array Oper} {Q : Act -> Prop} {a : Act} {o : Oper} {rest : List Oper}
theorem gy {d:Option Tmp}(v:Value)(k:wpQuiet P ops C Q rest (a.put d v))(hd:o.dst=d:=by rfl)(hw:Region.wanted o (yielded ops a.tmps)=true:=by kernel_rfl)(hr:∀ w,(execOp a.eval o).run P w=.ok (.value v) w:=by intro w; kernel_rfl):wpQuiet P ops C Q (o::rest) a:=AP hw d hd v (fun w _=>hr w) k
theorem UD {d:Option Tmp}(k:wpQuiet P ops C Q rest (a.put d undef))(hd:o.dst=d:=by rfl)(hw:Region.wanted o (yielded ops a.tmps)=false:=by kernel_rfl):wpQuiet P ops C Q (o::rest) a:=ak0 hw d hd k
theorem XU {d:Option Tmp}(v:Value)(hr:∀ w,C w->(execOp a.eval o).run P w=.ok (.value v) w)(k:wpQuiet P ops C Q rest (a.put d v))(hd:o.dst=d:=by rfl)(hw:Region.wanted o (yielded ops a.tmps)=true:=by kernel_rfl):wpQuiet P ops C Q (o::rest) a:=AP hw d hd v hr k
theorem Vy {d:Option Tmp}{ty:TypeId}{x:Operand}(ho:o.op=.load ty x)(ad:Addr)(v:Value)(hl:∀ w,C w->(Instr.loadAt ty (.pointer (some ad))).run P w=.ok v w)(k:wpQuiet P ops C Q rest (a.put d v))(hd:o.dst=d:=by rfl)(hw:Region.wanted o (yielded ops a.tmps)=true:=by kernel_rfl)(hx:a.eval x=.pointer (some ad):=by kernel_rfl):wpQuiet P ops C Q (o::rest) a:=gZ hw d hd ty x ho ad v hx hl k
end
def nums (s:ByteArray):List Int:=s.data.toList.map fun x=>(x.toNat:Int)
theorem Zd (s:ByteArray):(nums s).length=s.size:=by
 unfold nums;rw[List.length_map,Array.length_toList];rfl
theorem yA (s:ByteArray)(i:Nat)(h:i<s.size):(nums s).getD i 0=((s[i]'h).toNat:Int):=by
 have h2:i<s.data.toList.length:=by rw[Array.length_toList]; exact h
 unfold nums;rw[getD_lt _ i 0 (by simpa using h2),List.getElem_map];rfl
theorem wE (s:ByteArray):∀ x,x∈nums s->W8 x:=by
 intro x hx;obtain⟨b,-,rfl⟩:=List.mem_map.1 hx;have:=b.toNat_lt;exact⟨by omega,by omega⟩
theorem QZ (L:List Int)(h:∀ x,x∈L->W8 x):nums (strOfNums L)=L:=by
 unfold nums;rw[strOfNums_data,List.map_map]
 conv=>rhs; rw[<- List.map_id L]
 apply List.map_congr_left;intro x hx;obtain⟨h0,h1⟩:=h x hx;simp;omega
theorem SV (s:ByteArray):strOfNums (nums s)=s:=by
 apply ByteArray.ext;apply Array.toList_inj.1;rw[strOfNums_data,nums,List.map_map]
 conv=>rhs; rw[<- List.map_id s.data.toList]
 apply List.map_congr_left;intro x _;simp
theorem vT (s:ByteArray)(i:Nat)(h:i<s.size)(w:World):(Instr.index 9 (.string s) (Z8 (i:Int))).run Tryz.prog w=.ok (.int .u8 ((nums s).getD i 0)) w:=by
 have hc:0<=(i:Int)/\(i:Int)<s.size:=by omega
 rw[run_index_string _ _ _ _ _ Tryz.underlying9,dif_pos hc,yA s i h];rfl
end Go.Proofs.YtnhlpahoomcgnaaGreat
namespace Go.Proofs.YtnhlpahoomcgnaaGreat
def runN (c0 c1:Int)(f1 f2 f3:Bool):Nat:=
 if c0<128 then 1
 else if (194<=c0/\c0<224)/\f1=true then 2
 else if ((224<=c0/\c0<240)/\f1=true)/\f2=true then (if (c0=224/\c1<160)∨(c0=237/\160<=c1) then 0 else 3)
 else if (((240<=c0/\c0<245)/\f1=true)/\f2=true)/\f3=true then (if (c0=240/\c1<144)∨(c0=244/\144<=c1) then 0 else 4)
 else 0
def Gw (k:Nat)(c0 c1 c2 c3:Int):Int:=
 if k=1 then c0
 else if k=2 then (c0-192)*64+(c1-128)
 else if k=3 then (c0-224)*4096+(c1-128)*64+(c2-128)
 else if k=4 then (c0-240)*262144+(c1-128)*4096+(c2-128)*64+(c3-128)
 else 65533
def cnt (s:ByteArray)(i k:Nat):Bool:=i+k<s.size && (s.get! (i+k)).toNat / 64 == 2
theorem SL (n:Nat):Utf8.valid (n:Int)=decide (n<55296∨(57344<=n/\n<=1114111)):=by
 unfold Utf8.valid;rw[Bool.eq_iff_iff];simp only[Bool.or_eq_true,Bool.and_eq_true,decide_eq_true_eq];omega
theorem og (s:ByteArray)(i b0 b1 b2 b3:Nat)(f1 f2 f3:Bool)(e0:(s.get! (i+0)).toNat=b0)(e1:(s.get! (i+1)).toNat=b1)(e2:(s.get! (i+2)).toNat=b2)(e3:(s.get! (i+3)).toNat=b3)(c1:(decide (i+1<s.size) && b1 / 64 == 2)=f1)(c2:(decide (i+2<s.size) && b2 / 64 == 2)=f2)(c3:(decide (i+3<s.size) && b3 / 64 == 2)=f3)(q0:b0<256)(h1:f1=true->128<=b1/\b1<192)(h2:f2=true->128<=b2/\b2<192)(h3:f3=true->128<=b3/\b3<192) :
  (Utf8.decode s i).2=(if runN b0 b1 f1 f2 f3=0 then 1 else runN b0 b1 f1 f2 f3)/\((Utf8.decode s i).1:Int)=(if runN b0 b1 f1 f2 f3=0 then 65533 else Gw (runN b0 b1 f1 f2 f3) b0 b1 b2 b3):=by
 have fin:∀ (k c:Nat),runN b0 b1 f1 f2 f3=k->Utf8.decode s i=(c,if k=0 then 1 else k)->(c:Int)=(if k=0 then 65533 else Gw k b0 b1 b2 b3) ->
   (Utf8.decode s i).2=(if runN b0 b1 f1 f2 f3=0 then 1 else runN b0 b1 f1 f2 f3)/\((Utf8.decode s i).1:Int)=(if runN b0 b1 f1 f2 f3=0 then 65533 else Gw (runN b0 b1 f1 f2 f3) b0 b1 b2 b3):=fun k c hr hd hc=>by
  rw[hr,hd];exact⟨rfl,hc⟩
 by_cases k1:b0<128
 ·refine fin 1 b0 ?_ ?_ ?_
  ·unfold runN; rw[if_pos (by omega)]
  ·unfold Utf8.decode; simp only[e0,e1,e2,e3,c1,c2,c3]; rw[if_pos k1]; rfl
  ·simp[Gw]
 have k1':¬ (b0:Int)<128:=by omega
 by_cases k2:b0 / 32=6
 ·have z3:¬ (((224<=(b0:Int)/\(b0:Int)<240)/\f1=true)/\f2=true):=by rintro⟨⟨⟨_,_⟩,_⟩,_⟩; omega
  have z4:¬ ((((240<=(b0:Int)/\(b0:Int)<245)/\f1=true)/\f2=true)/\f3=true):=by rintro⟨⟨⟨⟨_,_⟩,_⟩,_⟩,_⟩; omega
  by_cases y1:f1=true
  ·have hb1:=h1 y1;by_cases k3:194<=b0
   ·refine fin 2 (b0 % 32*64+b1 % 64) ?_ ?_ ?_
    ·unfold runN; rw[if_neg k1',if_pos ⟨⟨by omega,by omega⟩,y1⟩]
    ·unfold Utf8.decode; simp only[e0,e1,e2,e3,c1,c2,c3]; rw[if_neg k1,if_pos (by simp[k2,y1]),if_pos (by omega)]; rfl
    ·simp[Gw]; omega
   ·refine fin 0 65533 ?_ ?_ rfl
    ·unfold runN; rw[if_neg k1',if_neg (by rintro⟨⟨_,_⟩,_⟩; omega),if_neg z3,if_neg z4]
    ·unfold Utf8.decode; simp only[e0,e1,e2,e3,c1,c2,c3]; rw[if_neg k1,if_pos (by simp[k2,y1]),if_neg (by omega)]; rfl
  ·refine fin 0 65533 ?_ ?_ rfl
   ·unfold runN; rw[if_neg k1',if_neg (fun h=>y1 h.2),if_neg z3,if_neg z4]
   ·unfold Utf8.decode; simp only[e0,e1,e2,e3,c1,c2,c3]; rw[if_neg k1,if_neg (by simp[y1]),if_neg (by simp[y1]),if_neg (by simp[y1])]; rfl
 have z2:¬ ((194<=(b0:Int)/\(b0:Int)<224)/\f1=true):=by rintro⟨⟨_,_⟩,_⟩; omega
 have d2:¬ ((b0 / 32 == 6 && f1)=true):=by simp[k2]
 by_cases k3:b0 / 16=14
 ·have z4:¬ ((((240<=(b0:Int)/\(b0:Int)<245)/\f1=true)/\f2=true)/\f3=true):=by rintro⟨⟨⟨⟨_,_⟩,_⟩,_⟩,_⟩; omega
  have d4:¬ ((b0 / 8 == 30 && f1 && f2 && f3)=true):=by
   have:b0 / 8≠30:=(by omega);simp[this]
  by_cases y1:f1=true/\f2=true
  ·have hb1:=h1 y1.1;have hb2:=h2 y1.2;have d3:(b0 / 16 == 14 && f1 && f2)=true:=(by simp[k3,y1.1,y1.2]);have z3:((224<=(b0:Int)/\(b0:Int)<240)/\f1=true)/\f2=true:=⟨⟨⟨by omega,by omega⟩,y1.1⟩,y1.2⟩;by_cases k4:(b0=224/\b1<160)∨(b0=237/\160<=b1)
   ·refine fin 0 65533 ?_ ?_ rfl
    ·unfold runN; rw[if_neg k1',if_neg z2,if_pos z3,if_pos (by omega)]
    ·unfold Utf8.decode; simp only[e0,e1,e2,e3,c1,c2,c3]; rw[if_neg k1,if_neg d2,if_pos d3,SL,if_neg (by simp only[Bool.and_eq_true,decide_eq_true_eq]; omega)]; rfl
   ·refine fin 3 (b0 % 16*4096+b1 % 64*64+b2 % 64) ?_ ?_ ?_
    ·unfold runN; rw[if_neg k1',if_neg z2,if_pos z3,if_neg (by omega)]
    ·unfold Utf8.decode; simp only[e0,e1,e2,e3,c1,c2,c3]; rw[if_neg k1,if_neg d2,if_pos d3,SL,if_pos (by simp only[Bool.and_eq_true,decide_eq_true_eq]; omega)]; rfl
    ·simp[Gw]; omega
  ·have z3:¬ (((224<=(b0:Int)/\(b0:Int)<240)/\f1=true)/\f2=true):=fun h=>y1 ⟨h.1.2,h.2⟩;have d3:¬ ((b0 / 16 == 14 && f1 && f2)=true):=by
    simp only[Bool.and_eq_true];exact fun h=>y1 ⟨h.1.2,h.2⟩
   refine fin 0 65533 ?_ ?_ rfl
   ·unfold runN; rw[if_neg k1',if_neg z2,if_neg z3,if_neg z4]
   ·unfold Utf8.decode; simp only[e0,e1,e2,e3,c1,c2,c3]; rw[if_neg k1,if_neg d2,if_neg d3,if_neg d4]; rfl
 have z3:¬ (((224<=(b0:Int)/\(b0:Int)<240)/\f1=true)/\f2=true):=by rintro⟨⟨⟨_,_⟩,_⟩,_⟩; omega
 have d3:¬ ((b0 / 16 == 14 && f1 && f2)=true):=by simp[k3]
 by_cases k5:b0 / 8=30
 ·by_cases y1:(f1=true/\f2=true)/\f3=true
  ·have hb1:=h1 y1.1.1;have hb2:=h2 y1.1.2;have hb3:=h3 y1.2;have d4:(b0 / 8 == 30 && f1 && f2 && f3)=true:=(by simp[k5,y1.1.1,y1.1.2,y1.2]);by_cases k6:b0<245
   ·have z4:(((240<=(b0:Int)/\(b0:Int)<245)/\f1=true)/\f2=true)/\f3=true:=⟨⟨⟨⟨by omega,by omega⟩,y1.1.1⟩,y1.1.2⟩,y1.2⟩;by_cases k4:(b0=240/\b1<144)∨(b0=244/\144<=b1)
    ·refine fin 0 65533 ?_ ?_ rfl
     ·unfold runN; rw[if_neg k1',if_neg z2,if_neg z3,if_pos z4,if_pos (by omega)]
     ·unfold Utf8.decode; simp only[e0,e1,e2,e3,c1,c2,c3]; rw[if_neg k1,if_neg d2,if_neg d3,if_pos d4,SL,if_neg (by simp only[Bool.and_eq_true,decide_eq_true_eq]; omega)]; rfl
    ·refine fin 4 (b0 % 8*262144+b1 % 64*4096+b2 % 64*64+b3 % 64) ?_ ?_ ?_
     ·unfold runN; rw[if_neg k1',if_neg z2,if_neg z3,if_pos z4,if_neg (by omega)]
     ·unfold Utf8.decode; simp only[e0,e1,e2,e3,c1,c2,c3]; rw[if_neg k1,if_neg d2,if_neg d3,if_pos d4,SL,if_pos (by simp only[Bool.and_eq_true,decide_eq_true_eq]; omega)]; rfl
     ·simp[Gw]; omega
   ·have z4:¬ ((((240<=(b0:Int)/\(b0:Int)<245)/\f1=true)/\f2=true)/\f3=true):=(by rintro⟨⟨⟨⟨_,_⟩,_⟩,_⟩,_⟩; omega);refine fin 0 65533 ?_ ?_ rfl
    ·unfold runN; rw[if_neg k1',if_neg z2,if_neg z3,if_neg z4]
    ·unfold Utf8.decode; simp only[e0,e1,e2,e3,c1,c2,c3]; rw[if_neg k1,if_neg d2,if_neg d3,if_pos d4,SL,if_neg (by simp only[Bool.and_eq_true,decide_eq_true_eq]; omega)]; rfl
  ·have z4:¬ ((((240<=(b0:Int)/\(b0:Int)<245)/\f1=true)/\f2=true)/\f3=true):=fun h=>y1 ⟨⟨h.1.1.2,h.1.2⟩,h.2⟩;have d4:¬ ((b0 / 8 == 30 && f1 && f2 && f3)=true):=by
    simp only[Bool.and_eq_true];exact fun h=>y1 ⟨⟨h.1.1.2,h.1.2⟩,h.2⟩
   refine fin 0 65533 ?_ ?_ rfl
   ·unfold runN; rw[if_neg k1',if_neg z2,if_neg z3,if_neg z4]
   ·unfold Utf8.decode; simp only[e0,e1,e2,e3,c1,c2,c3]; rw[if_neg k1,if_neg d2,if_neg d3,if_neg d4]; rfl
 have z4:¬ ((((240<=(b0:Int)/\(b0:Int)<245)/\f1=true)/\f2=true)/\f3=true):=by rintro⟨⟨⟨⟨_,_⟩,_⟩,_⟩,_⟩; omega
 have d4:¬ ((b0 / 8 == 30 && f1 && f2 && f3)=true):=by simp[k5]
 refine fin 0 65533 ?_ ?_ rfl
 ·unfold runN; rw[if_neg k1',if_neg z2,if_neg z3,if_neg z4]
 ·unfold Utf8.decode; simp only[e0,e1,e2,e3,c1,c2,c3]; rw[if_neg k1,if_neg d2,if_neg d3,if_neg d4]; rfl
def MC (L:List Int)(i:Nat):Bool:=decide (i<L.length) && (decide (128<=L.getD i 0) && decide (L.getD i 0<192))
def runK (L:List Int)(i:Nat):Nat:=runN (L.getD i 0) (L.getD (i+1) 0) (MC L (i+1)) (MC L (i+2)) (MC L (i+3))
def G6 (L:List Int)(i:Nat):Int:=Gw (runK L i) (L.getD i 0) (L.getD (i+1) 0) (L.getD (i+2) 0) (L.getD (i+3) 0)
theorem Ul (s:ByteArray)(j:Nat):(nums s).getD j 0=((s.get! j).toNat:Int):=by
 by_cases h:j<s.size
 ·rw[yA s j h];congr 1;show _=(s.data[j]!).toNat;rw[getElem!_pos s.data j h];rfl
 ·have hl:(nums s).length<=j:=by rw[Zd]; omega
  rw[List.getD_eq_getElem?_getD,List.getElem?_eq_none hl];show 0=((s.data[j]!).toNat:Int);rw[getElem!_neg s.data j h];rfl
theorem Md (s:ByteArray)(i k:Nat):MC (nums s) (i+k)=cnt s i k:=by
 unfold MC cnt;rw[Ul,Zd];generalize (s.get! (i+k)).toNat=b;rw[Bool.eq_iff_iff];simp only[Bool.and_eq_true,decide_eq_true_eq,beq_iff_eq];omega
theorem WO {L:List Int}{i:Nat}(h:MC L i=true):i<L.length/\128<=L.getD i 0/\L.getD i 0<192:=by
 unfold MC at h;simp only[Bool.and_eq_true,decide_eq_true_eq] at h;exact h
theorem G5 {L:List Int}{i:Nat}(h:i<L.length):i+runK L i<=L.length:=by
 unfold runK runN;have h1:=@WO L (i+1);have h2:=@WO L (i+2);have h3:=@WO L (i+3)
 repeat' split
 ·omega
 ·rename_i h4; have:=h1 h4.2; omega
 ·omega
 ·rename_i h4 _; have:=h2 h4.2; omega
 ·omega
 ·rename_i h4 _; have:=h3 h4.2; omega
 ·omega
theorem GX (L:List Int)(i:Nat):runK L i<=4:=by
 unfold runK runN
 repeat' split
 all_goals omega
theorem iQ (s:ByteArray)(i:Nat):(Utf8.decode s i).2=(if runK (nums s) i=0 then 1 else runK (nums s) i)/\((Utf8.decode s i).1:Int)=(if runK (nums s) i=0 then 65533 else G6 (nums s) i):=by
 have h1:=@WO (nums s) (i+1);have h2:=@WO (nums s) (i+2);have h3:=@WO (nums s) (i+3);unfold G6 runK;rw[Md] at h1 h2 h3;rw[Md,Md,Md];rw[Ul] at h1 h2 h3;rw[Ul,Ul,Ul,Ul];have q0:(s.get! (i+0)).toNat<256:=(s.get! (i+0)).toNat_lt;exact og s i _ _ _ _ _ _ _ rfl rfl rfl rfl rfl rfl rfl q0 (fun h=>by have:=h1 h; omega) (fun h=>by have:=h2 h; omega) (fun h=>by have:=h3 h; omega)
end Go.Proofs.YtnhlpahoomcgnaaGreat
namespace Go.Proofs.YtnhlpahoomcgnaaGreat
open Go.RowKit
def Cs (w:World)(a:Option Addr)(cs:List Value):Prop:=∀ j v,cs[j]?=some v->∃ b off,a=some ⟨b,off,none⟩/\b<w.heap.size/\w.cell? ⟨b,off+j,none⟩=some v
theorem Cs.nil (w:World)(a:Option Addr):Cs w a []:=fun j v h=>by simp at h
theorem Cs.below {w w':World}{a:Option Addr}{cs:List Value}(h:Cs w a cs)(hb:Below w.heap.size w w'):Cs w' a cs:=fun j v hj=>by
  obtain⟨b,off,e,hlt,hc⟩:=h j v hj;exact⟨b,off,e,Nat.lt_of_lt_of_le hlt hb.size,(hb.cell (p:=⟨b,off+j,none⟩) hlt).trans hc⟩
theorem Cs.take {w:World}{a:Option Addr}{cs:List Value}(h:Cs w a cs)(k:Nat):Cs w a (cs.take k):=fun j v hj=>by
  rw[List.getElem?_take] at hj
  split at hj
  · exact h j v hj
  · cases hj
def Yt (s:Nat)(a:Option Addr)(c k:Nat):Option Addr:=if c=k then a else a.map (·.add (k*s))
theorem Cs.from {w:World}{a:Option Addr}{cs:List Value}(h:Cs w a cs)(s c k:Nat)(hc:cs.length<=c*s):Cs w (Yt s a c k) (cs.drop (k*s)):=fun j v hj=>by
  rw[List.getElem?_drop] at hj;have hlt:k*s+j<cs.length:=(List.getElem?_eq_some_iff.1 hj).1;obtain⟨b,off,rfl,hb,hcell⟩:=h _ v hj;refine⟨b,off+k*s,?_,hb,by rw[Nat.add_assoc]; exact hcell⟩;unfold Yt;rw[if_neg (by rintro rfl; omega)];simp only[Option.map_some];rw[Addr.add_mid]
theorem Cs.block {w:World}{g t:Nat}{cs:List Value}{fr:Nat×Nat}(h:w.heap[g]?=some (.cells cs.toArray t fr)):Cs w (some ⟨g,0,none⟩) cs:=fun j v hj=>by
  refine⟨g,0,rfl,(Array.getElem?_eq_some_iff.1 h).1,?_⟩;rw[Nat.zero_add,cell_of_row w g j _ t fr h];simpa using hj
theorem Yq {w:World}{B e s n:Nat}{v:Value}{cs:List Value}(h:w.ownsRow B e s v n cs):∃ a c,v=.slice a n c/\Cs w a cs/\n<=c:=by
  have hlen:=h.1;rcases h.2 with⟨rfl,h0⟩ | ⟨g,cap,cur,rfl,hb,hg,hcap,hm,hcs,htk⟩
  · refine⟨none,0,by rw[h0],?_,by omega⟩;have:cs=[]:=List.eq_nil_of_length_eq_zero (by rw[hlen,h0]; simp);rw[this];exact Cs.nil _ _
  · refine⟨some ⟨g,0,none⟩,cap,rfl,fun j v hj=>⟨g,0,rfl,(Array.getElem?_eq_some_iff.1 hg).1,?_⟩,hcap⟩;have:=h.cells (g:=g) rfl j v hj;rw[<- this,Go.WideShapes.add_plain]
section
variable {P : Program} {t e s bytes : Nat} {z : Value}
theorem Og (hu:P.underlying t=some (.slice e))(hinfo:(P.info? e).map (fun i=>(i.zero,i.size,i.bytes))=some (some z,s,bytes))(hzs:z.cells.size=s)(hs:0<s)(hby:bytes<=1000)
    {w:World} {B n m:Nat} {v:Value} {xs:List Value} (hO:w.ownsRow B e s v n xs) (pa:Option Addr) (cp:Nat) (ys:List Value) (hP:Cs w pa ys) (hl:ys.length=m*s) (h1:∀ u∈ys,u.oneCell'=true) (hB:B<=w.heap.size) (hn:n<=100000) (hm:m<=100000) :
    ∃ v' w',(Builtin.append_ #[t,t] t #[v,.slice pa m cp]).run P w=.ok v' w'/\w'.ownsRow B e s v' (n+m) (xs++ys)/\Below B w w'/\w.grownBy w' v.ownBlock:=by
  obtain⟨i0,hi,hz0,hz1,hz2⟩:=info_parts hinfo;by_cases hy:ys=[]
  · subst hy;obtain rfl:m=0:=by
      rcases Nat.eq_zero_or_pos m with h | h
      · exact h
      · have:=Nat.mul_pos h hs;rw[<- hl] at this;simp at this
    cases pa with
    | none=>
      refine⟨v,w,?_,by simpa using hO,Below.refl _ _,World.grownBy.refl w _⟩;rcases hO.2 with⟨rfl,h0⟩ | ⟨g,cap,cur,rfl,_,_,hnc,_⟩
      · simp[Builtin.append_,run_underlying hu,sizeOf,typeInfo,hi,Builtin.lenOf,Builtin.firstCells]
      · simp[Builtin.append_,run_underlying hu,sizeOf,typeInfo,hi,Builtin.lenOf,Builtin.firstCells,hnc,storeCells]
    | some x=>
      obtain⟨v',w',hr,h2,h3,-,-⟩:=run_append_own_at (P:=P) w B t t e i0 z s bytes hu hi hz0 hz1 hz2 hzs hs v n xs hO x 0 cp [] (by simp) (fun j u h=>by simp at h) (by simp) (by unfold maxLen; omega) (by have:=Nat.mul_le_mul (show n+0<=100000 by omega) hby; omega) hB;exact⟨v',w',hr,h2,(Below.refl _ w).grown h3 hB (fun j hj=>(hO.lt j hj).1),h3⟩
  · obtain⟨y,hy0⟩:∃ y,ys[0]?=some y:=by
      cases ys with
      | nil=>exact absurd rfl hy
      | cons y r=>exact⟨y,rfl⟩
    obtain⟨b,off,rfl,-⟩:=hP 0 y hy0;have hcells:∀ j u,ys[j]?=some u->w.cell? ((⟨b,off,none⟩:Addr).add j)=some u:=fun j u hu=>by
      obtain⟨b2,off2,e2,-,hc⟩:=hP j u hu;simp only[Option.some.injEq,Addr.mk.injEq,and_true] at e2;obtain⟨rfl,rfl⟩:=e2;rw[Addr.add_mid];exact hc
    obtain⟨v',w',hr,h2,h3,-,-⟩:=run_append_own_at (P:=P) w B t t e i0 z s bytes hu hi hz0 hz1 hz2 hzs hs v n xs hO ⟨b,off,none⟩ m cp ys hl hcells h1 (by unfold maxLen; omega) (by have:=Nat.mul_le_mul (show n+m<=200000 by omega) hby; omega) hB;exact⟨v',w',hr,h2,(Below.refl _ w).grown h3 hB (fun j hj=>(hO.lt j hj).1),h3⟩
theorem Om (hu:P.underlying t=some (.slice e))(hinfo:(P.info? e).map (fun i=>(i.zero,i.size,i.bytes))=some (some z,s,bytes))(w:World):(Instr.buildSlice t 0 #[]).run P w=.ok (.slice (some ⟨w.heap.size,0,none⟩) 0 0) (w.alloc (.cells #[] e)):=by
  obtain⟨i0,hi,hz0,hz1,hz2⟩:=info_parts hinfo;simp[Instr.buildSlice,run_underlying hu,sizeOf,typeInfo,hi,newRow,go_sem]
theorem Py (w:World)(e s:Nat):(w.alloc (.cells #[] e)).ownsRow w.heap.size e s (.slice (some ⟨w.heap.size,0,none⟩) 0 0) 0 []:=
  ⟨by simp,.inr ⟨w.heap.size,0,#[],rfl,Nat.le_refl _,heap_alloc_last w _,Nat.le_refl _,by simp[maxLen],by simp,by simp⟩⟩
theorem ae3 (hu:P.underlying t=some (.slice (P.elem t)))(hs:∀ w,(sizeOf (P.elem t)).run P w=.ok s w)(a:Option Addr)(n c k:Nat)(w:World)(h:k<=c):(Instr.slice t (.slice a n c) none (some (Z8 (k:Int))) none).run P w=.ok (.slice a k c) w:=by
  have q:=run_slice_h (P:=P) w t a n c hu .i64 (k:Int) (by omega) (by omega);rw[q,hs];cases a <;> simp[sliced,Result.andThen,Addr.add]
theorem Fb (hu:P.underlying t=some (.slice (P.elem t)))(hs:∀ w,(sizeOf (P.elem t)).run P w=.ok s w)(a:Option Addr)(n c k:Nat)(w:World)(h:k<=n):(Instr.slice t (.slice a n c) (some (Z8 (k:Int))) none none).run P w=.ok (.slice (Yt s a c k) (n-k) (c-k)) w:=by
  have q:=run_slice_l (P:=P) w t a n c hu .i64 (k:Int) (by omega) (by omega);rw[q,hs];by_cases hk:c=k <;> cases a <;> simp[sliced,Result.andThen,Yt,hk]
end
end Go.Proofs.YtnhlpahoomcgnaaGreat
