/-
  Operations one at a time: in a plain region, in a region that draws its order and keeps a class of worlds, and by an invariant. No function of the program.
-/
import Derived.Test.YtgkckblcekbafaaProg
import Derived.WalkKit
import Derived.WalkSpells
import Derived.WalkLawsBesides
import Derived.Laws.BitsAllLaws
import Derived.Deep.LoopGhost
import Derived.Deep.RegionHeld3
import Derived.Deep.QuietTactic
import Derived.Deep.Quiet
import Derived.Deep.Cut
import Derived.Deep.DeepCutAuto
import Derived.Deep.WholeRow
import Derived.Deep.MidRow
import Derived.Deep.Slices
import Derived.Great.BuildSlice
import Derived.Lib.Hide
import Derived.KernelRfl
import Derived.OneCell
import Derived.OpenShut
import Derived.Below
import Derived.Maps.AppendAt
namespace Go.Proofs.Ytgkckblcekbafaa
open Go.RowKit

/-- An operation with a known result. -/
theorem run_to {P : Program} {ops : Array Oper} {rest : List Oper} {o : Oper} {a : Act} {w : World} {Q : Exit → Act → World → Prop} (hgd : o.guard = none) (d : Option Tmp) (hd : o.dst = d)
    (v : Value) (w2 : World) (hr : (execOp a.eval o).run P w = .ok (.value v) w2) (k : wpList P ops Q rest (a.put d v) w2) : wpList P ops Q (o :: rest) a w := by
  rw [← hd] at k
  apply wpList_plain hgd
  intro K hK
  rw [Oper.wp, hr, Oper.upon_value]
  exact hK _ _ k
/-- The end of a function without results. -/
theorem end_none {P : Program} {fn : Func} {R : Ending → World → Prop} {a : Act} {w : World} (h : fn.results = #[]) (hd : a.defers = []) (hR : R (.returned (.tuple #[])) w) : bodyPost P fn R .normal a w :=
  bodyPost_end (results_none h _ _ _) hd hR
/-- A whole array goes into the block that was made last: at a plain region's list. -/
theorem wpList_store_new {P : Program} {ops : Array Oper} {rest : List Oper} {op : Oper} {a : Act} {w : World} {Q : Exit → Act → World → Prop} (hgd : op.guard = none) (ty : TypeId) (x y : Operand) (ho : op.op = .store ty x y)
    (c c' : Array Value) (hx : a.eval x = .pointer (some ⟨w.heap.size, 0, none⟩)) (hy : a.eval y = .agg c')
    (hi : (P.info? ty).map (·.size) = some c'.size) (hz : c.size = c'.size) (h1 : c'.all (·.oneCell') = true)
    (h : wpList P ops Q rest (a.put op.dst undef) (w.alloc (.cells c' ty))) : wpList P ops Q (op :: rest) a (w.alloc (.cells c ty)) :=
  wpList_plain hgd fun K hK => by
    unfold Oper.wp execOp
    simp only [ho, hx, hy, Sem.run_bind, run_storeAt_new w ty c c' hi hz h1]
    exact hK _ _ h
theorem getD_lt {α : Type} (l : List α) (k : Nat) (d : α) (h : k < l.length) : l.getD k d = l[k] := by rw [List.getD_eq_getElem?_getD, List.getElem?_eq_getElem h]; rfl
theorem wp_region_class {P : Program} {id : Nat} {Q : Exit → Act → World → Prop} {a : Act} {w : World} {l : List Oper} (C : World → Prop) (hm : P.follows .mixedOrders = true) (hB : Region.lexB .any l.toArray = true) (hC : C { w with drawn := w.drawn + 1 })
    (h : wpQuiet P l.toArray C (fun a' => ∀ w', C w' → Q .normal a' w') l a) : (Code.region id l.toArray true).wp P Q a w :=
  wp_region_quiet (C := C) hm hB hC (by simpa using h)
/-- 'append' at the operation, its run known. -/
theorem pu1 (a : Act) (t : Tmp) (v : Value) : a.put (some t) v = { a with tmps := a.tmps.setIfInBounds t v } := rfl
theorem pu2 {α : Type} (l : List α) (i : Nat) (x : α) : l.toArray.setIfInBounds i x = (l.set i x).toArray := List.setIfInBounds_toArray ..
theorem pu3 {α : Type} (l : List α) (i : Nat) (x y : α) : (x :: l).set (i + 1) y = x :: l.set i y := rfl
theorem pu4 {α : Type} (l : List α) (x y : α) : (x :: l).set 0 y = y :: l := rfl
theorem append_step {P : Program} {w : World} {ops : Array Oper} {rest : List Oper} {o : Oper} {a : Act} {Q : Exit → Act → World → Prop} (hgd : o.guard = none) (d : Option Tmp) (hd : o.dst = d) (ty : TypeId) (hty : o.type = ty) (s x : Operand) (t : TypeId)
    (ho : o.op = .call { callee := .builtin .append, args := #[s, x], argTypes := #[t, t] }) (v u v' : Value) (w' : World) (hs : a.eval s = v) (hx : a.eval x = u)
    (hr : (Builtin.append_ #[t, t] ty #[v, u]).run P w = .ok v' w') (k : wpList P ops Q rest (a.put d v') w') : wpList P ops Q (o :: rest) a w := by
  subst hd
  subst hty
  refine wpList_plain hgd fun K hK => ?_
  unfold Oper.wp execOp
  simp only [ho, resolve, invoke, builtin, Sem.run_bind, Sem.run_pure, Result.andThen_ok, List.map_toArray, List.map_cons, List.map_nil, hs, hx, hr]
  exact hK _ _ k
/-- A slice that is written out, at the operation. -/
theorem build_to {P : Program} {ops : Array Oper} {rest : List Oper} {o : Oper} {a : Act} {w : World} {Q : Exit → Act → World → Prop} (hgd : o.guard = none) (d : Option Tmp) (hd : o.dst = d) (t : TypeId) (len : Nat) (parts : Array (Nat × Operand)) (ho : o.op = .buildSlice t len parts)
    (vs : Array (Nat × Value)) (hp : (parts.map fun (i, x) => (i, a.eval x)) = vs) (v : Value) (w2 : World) (hr : (Instr.buildSlice t len vs).run P w = .ok v w2) (k : wpList P ops Q rest (a.put d v) w2) : wpList P ops Q (o :: rest) a w := by
  refine run_to hgd d hd v w2 ?_ k
  unfold execOp
  simp only [ho, Sem.run_bind, hp, hr, Result.andThen_ok]
  rfl
section
variable {P : Program} {ops : Array Oper} {rest : List Oper} {o : Oper} {a : Act} {w : World} {Q : Exit → Act → World → Prop}

theorem gw_val (hw : Region.wanted o (yielded ops a.tmps) = true) (d : Option Tmp) (hd : o.dst = d) (v : Value) (hr : (execOp a.eval o).run P w = .ok (.value v) w) (k : wpList P ops Q rest (a.put d v) w) : wpList P ops Q (o :: rest) a w := by
  rw [← hd] at k
  apply wpList_step
  intro K hK
  rw [if_pos hw, Oper.wp, hr, Oper.upon_value]
  exact hK _ _ k
theorem gw_new (hw : Region.wanted o (yielded ops a.tmps) = true) (d : Option Tmp) (hd : o.dst = d) (v : Value) (w2 : World) (hr : (execOp a.eval o).run P w = .ok (.value v) w2) (k : wpList P ops Q rest (a.put d v) w2) : wpList P ops Q (o :: rest) a w := by
  rw [← hd] at k
  apply wpList_step
  intro K hK
  rw [if_pos hw, Oper.wp, hr, Oper.upon_value]
  exact hK _ _ k
theorem gw_not (hw : Region.wanted o (yielded ops a.tmps) = false) (d : Option Tmp) (hd : o.dst = d) (k : wpList P ops Q rest (a.put d undef) w) : wpList P ops Q (o :: rest) a w := by
  rw [← hd] at k
  exact wpList_skip hw k
theorem gw_call (hw : Region.wanted o (yielded ops a.tmps) = true) (d : Option Tmp) (hd : o.dst = d) (f : FuncId) (args : Array Value) (v : Value) (S : World → Prop) (hr : (execOp a.eval o).run P w = .ok (.enter f args) w)
    (hc : Calls P f args w fun e w' => e = .returned v ∧ S w') (k : ∀ w', S w' → wpList P ops Q rest (a.put d v) w') : wpList P ops Q (o :: rest) a w := by
  rw [← hd] at k
  apply wpList_step
  intro K hK
  rw [if_pos hw, Oper.wp, hr]
  refine hc.mono ?_
  rintro e w' ⟨rfl, hS⟩
  exact hK _ _ (k w' hS)
theorem gw_load (hw : Region.wanted o (yielded ops a.tmps) = true) (d : Option Tmp) (hd : o.dst = d) (ty : TypeId) (x : Operand) (ho : o.op = .load ty x) (ad : Addr) (v : Value)
    (hx : a.eval x = .pointer (some ad)) (hl : (Instr.loadAt ty (.pointer (some ad))).run P w = .ok v w) (k : wpList P ops Q rest (a.put d v) w) : wpList P ops Q (o :: rest) a w := by
  refine gw_val hw d hd v ?_ k
  unfold execOp
  simp only [ho, hx, Sem.run_bind, hl]
  rfl
theorem gw_slice_to (hw : Region.wanted o (yielded ops a.tmps) = true) (d : Option Tmp) (hd : o.dst = d) (ty : TypeId) (x h : Operand) (ho : o.op = .slice ty x none (some h) none) (vx vh v : Value) (hx : a.eval x = vx) (hh : a.eval h = vh)
    (hs : (Instr.sliceAt ty vx none (some vh) none).run P w = .ok v w) (k : wpList P ops Q rest (a.put d v) w) : wpList P ops Q (o :: rest) a w := by
  refine gw_val hw d hd v ?_ k
  unfold execOp
  simp only [ho, hx, hh, Option.map_some, Option.map_none, Sem.run_bind, hs]
  rfl
theorem gw_build (hw : Region.wanted o (yielded ops a.tmps) = true) (d : Option Tmp) (hd : o.dst = d) (t : TypeId) (len : Nat) (parts : Array (Nat × Operand)) (ho : o.op = .buildSlice t len parts)
    (vs : Array (Nat × Value)) (hp : (parts.map fun (i, x) => (i, a.eval x)) = vs) (v : Value) (w2 : World) (hr : (Instr.buildSlice t len vs).run P w = .ok v w2) (k : wpList P ops Q rest (a.put d v) w2) : wpList P ops Q (o :: rest) a w := by
  refine gw_new hw d hd v w2 ?_ k
  unfold execOp
  simp only [ho, Sem.run_bind, hp, hr, Result.andThen_ok]
  rfl
end
section
variable {P : Program} {C : World → Prop} {ops : Array Oper} {Q : Act → Prop} {a : Act} {o : Oper} {rest : List Oper}

theorem gq_val (hw : Region.wanted o (yielded ops a.tmps) = true) (d : Option Tmp) (hd : o.dst = d) (v : Value) (hr : ∀ w, C w → (execOp a.eval o).run P w = .ok (.value v) w) (h : wpQuiet P ops C Q rest (a.put d v)) : wpQuiet P ops C Q (o :: rest) a := by
  rw [← hd] at h
  unfold wpQuiet
  rw [if_pos hw]
  refine ⟨v, fun w hC => ?_, h⟩
  unfold Oper.quietAt
  rw [hr w hC]
  exact ⟨rfl, rfl⟩
theorem gq_not (hw : Region.wanted o (yielded ops a.tmps) = false) (d : Option Tmp) (hd : o.dst = d) (h : wpQuiet P ops C Q rest (a.put d undef)) : wpQuiet P ops C Q (o :: rest) a := by
  rw [← hd] at h
  unfold wpQuiet
  rw [if_neg (by rw [hw]; decide)]
  exact h
theorem gq_call (hw : Region.wanted o (yielded ops a.tmps) = true) (d : Option Tmp) (hd : o.dst = d) (f : FuncId) (args : Array Value) (v : Value) (hr : ∀ w, C w → (execOp a.eval o).run P w = .ok (.enter f args) w)
    (hc : ∀ w, C w → Calls P f args w (fun e w'' => e = .returned v ∧ C w'')) (h : wpQuiet P ops C Q rest (a.put d v)) : wpQuiet P ops C Q (o :: rest) a := by
  rw [← hd] at h
  unfold wpQuiet
  rw [if_pos hw]
  refine ⟨v, fun w hC => ?_, h⟩
  unfold Oper.quietAt
  rw [hr w hC]
  exact ⟨rfl, hc w hC⟩
theorem gq_load (hw : Region.wanted o (yielded ops a.tmps) = true) (d : Option Tmp) (hd : o.dst = d) (ty : TypeId) (x : Operand) (ho : o.op = .load ty x) (ad : Addr) (v : Value)
    (hx : a.eval x = .pointer (some ad)) (hl : ∀ w, C w → (Instr.loadAt ty (.pointer (some ad))).run P w = .ok v w) (h : wpQuiet P ops C Q rest (a.put d v)) : wpQuiet P ops C Q (o :: rest) a := by
  refine gq_val hw d hd v (fun w hC => ?_) h
  unfold execOp
  simp only [ho, hx, Sem.run_bind, hl w hC]
  rfl
end
/-- A call whose value is not known beforehand. -/
theorem gw_callE {P : Program} {ops : Array Oper} {rest : List Oper} {o : Oper} {a : Act} {w : World} {Q : Exit → Act → World → Prop} (hw : Region.wanted o (yielded ops a.tmps) = true) (d : Option Tmp) (hd : o.dst = d) (f : FuncId) (args : Array Value) (S : Value → World → Prop) (hr : (execOp a.eval o).run P w = .ok (.enter f args) w)
    (hc : Calls P f args w fun e w' => ∃ v, e = .returned v ∧ S v w') (k : ∀ v w', S v w' → wpList P ops Q rest (a.put d v) w') : wpList P ops Q (o :: rest) a w := by
  rw [← hd] at k
  apply wpList_step
  intro K hK
  rw [if_pos hw, Oper.wp, hr]
  refine hc.mono ?_
  rintro e w' ⟨v, rfl, hS⟩
  exact hK _ _ (k v w' hS)
theorem gw_slice_hi {P : Program} {ops : Array Oper} {rest : List Oper} {o : Oper} {a : Act} {w : World} {Q : Exit → Act → World → Prop} (hw : Region.wanted o (yielded ops a.tmps) = true) (d : Option Tmp) (hd : o.dst = d) (ty : TypeId) (x l : Operand) (ho : o.op = .slice ty x (some l) none none) (vx vl v : Value) (hx : a.eval x = vx) (hl : a.eval l = vl)
    (hs : (Instr.sliceAt ty vx (some vl) none none).run P w = .ok v w) (k : wpList P ops Q rest (a.put d v) w) : wpList P ops Q (o :: rest) a w := by
  refine gw_val hw d hd v ?_ k
  unfold execOp
  simp only [ho, hx, hl, Option.map_some, Option.map_none, Sem.run_bind, hs]
  rfl
section
variable {P : Program} {Q : Exit → Act → World → Prop} {ops : Array Oper}

/-- Every operation waits for earlier ones alone. -/
def backB (ops : Array Oper) : Bool := (List.range ops.size).all fun i => ((ops[i]?).map fun o => o.after.all fun e => !Region.binds .any e || decide (e.on < i)).getD true
theorem ready_none {listed : Array Bool} (hb : backB ops = true) (hs : listed.size = ops.size) (h : Region.ready .any ops listed = []) : listed = Array.replicate ops.size true := by
  have key : ∀ i, i < ops.size → listed.getD i false = true := by
    intro i
    induction i using Nat.strongRecOn with
    | ind i ih =>
      intro hi
      by_cases hl : listed.getD i false = true
      · exact hl
      · exfalso
        have hlt : i < listed.size := by omega
        have hl2 : listed.getD i true = false := by
          simp only [Array.getD, hlt, dif_pos] at hl ⊢
          simpa using hl
        have hm : i ∈ Region.ready .any ops listed := by
          rw [mem_ready]
          refine ⟨hl2, ops[i], by simp [hi], fun e he hbe => ?_⟩
          have hbi := List.all_eq_true.1 hb i (List.mem_range.2 hi)
          rw [Array.getElem?_eq_getElem hi] at hbi
          have hlt2 : e.on < i := by
            have := (Array.all_eq_true_iff_forall_mem.1 hbi) e he
            rw [hbe] at this
            simpa using this
          exact ih e.on hlt2 (by omega)
        rw [h] at hm
        cases hm
  apply Array.ext
  · rw [hs]; simp
  · intro i h1 h2
    have := key i (by omega)
    simp only [Array.getD, h1, dif_pos] at this
    simpa using this
/-- THE REGION BY AN INVARIANT. -/
theorem wp_region_inv {id : Nat} {a : Act} {w : World} (J : Array Bool → Act → World → Prop) (hm : P.follows .mixedOrders = true) (hb : backB ops = true)
    (h0 : J (Array.replicate ops.size false) a { w with drawn := w.drawn + 1 })
    (hstep : ∀ i listed a w, i < ops.size → i ∈ Region.ready .any ops listed → J listed a w → wpOp P ops Q i (J (listed.setIfInBounds i true)) a w)
    (hend : ∀ a w, J (Array.replicate ops.size true) a w → Q .normal a w) : (Code.region id ops true).wp P Q a w := by
  refine wp_region_any hm ?_
  have key : ∀ (fuel : Nat) (listed : Array Bool) (a : Act) (w : World), listed.size = ops.size → listed.count false ≤ fuel → J listed a w → wpAny P .any ops Q fuel listed a w := by
    intro fuel
    induction fuel with
    | zero =>
      intro listed a w hs hc hJ
      have hall : listed = Array.replicate ops.size true := by
        apply Array.ext
        · rw [hs]; simp
        · intro i h1 h2
          have h3 : false ∉ listed := Array.count_eq_zero.1 (by omega)
          have h4 : listed[i] ≠ false := fun h => h3 (h ▸ Array.getElem_mem h1)
          simpa using h4
      have hr : Region.ready .any ops listed = [] := by
        rw [List.eq_nil_iff_forall_not_mem]
        intro j hj
        obtain ⟨h1, o, ho, -⟩ := mem_ready.1 hj
        have hjs : j < ops.size := (Array.getElem?_eq_some_iff.1 ho).1
        rw [hall] at h1
        simp [hjs] at h1
      exact ⟨hr, hend _ _ (hall ▸ hJ)⟩
    | succ fuel ih =>
      intro listed a w hs hc hJ
      refine ⟨fun h => hend _ _ ?_, fun i hi => ?_⟩
      · rw [← ready_none hb hs h]; exact hJ
      · obtain ⟨h1, o, ho, -⟩ := mem_ready.1 hi
        have his : i < ops.size := (Array.getElem?_eq_some_iff.1 ho).1
        refine wpOp_mono (fun a' w' hJ' => ih _ a' w' (by rw [Array.size_setIfInBounds]; exact hs) ?_ hJ') (hstep i listed a w his hi hJ)
        have hil : i < listed.size := by omega
        have hf : listed[i] = false := by
          simp only [Array.getD, hil, dif_pos] at h1
          exact h1
        rw [Array.setIfInBounds_def, dif_pos hil, Array.count_set, hf]
        have : 0 < listed.count false := Array.count_pos_iff.2 (hf ▸ Array.getElem_mem hil)
        simp
        omega
  refine key _ _ _ _ (by simp) ?_ h0
  rw [Array.count_replicate]
  simp
/-- What an operation that is ready waits for is done. -/
theorem ready_dep {i : Nat} {listed : Array Bool} (h : i ∈ Region.ready .any ops listed) (k : Nat) (hk : ((ops[i]?).map fun o => o.after.any fun e => Region.binds .any e && e.on == k).getD false = true) : listed.getD k false = true := by
  obtain ⟨-, o, ho, hall⟩ := mem_ready.1 h
  rw [ho] at hk
  simp only [Option.map_some, Option.getD_some] at hk
  obtain ⟨j, hj, hk⟩ := Array.any_eq_true.1 hk
  simp only [Bool.and_eq_true, beq_iff_eq] at hk
  rw [← hk.2]
  exact hall _ (Array.getElem_mem hj) hk.1
theorem ready_self {i : Nat} {listed : Array Bool} (h : i ∈ Region.ready .any ops listed) : listed.getD i true = false := (mem_ready.1 h).1

variable {i : Nat} {o : Oper} {a : Act} {w : World} {K : Act → World → Prop}
theorem st_of (hi : ops[i]? = some o) (hw : Region.wanted o (yielded ops a.tmps) = true) (h : Oper.wp P o a w K Q) : wpOp P ops Q i K a w := by
  unfold wpOp
  rw [hi]
  simp only
  rw [if_pos hw]
  exact .inl h
theorem st_not (hi : ops[i]? = some o) (hw : Region.wanted o (yielded ops a.tmps) = false) (h : K (a.put o.dst undef) w) : wpOp P ops Q i K a w := by
  unfold wpOp
  rw [hi]
  simp only
  rw [if_neg (by rw [hw]; decide)]
  exact h
theorem st_val (hi : ops[i]? = some o) (hw : Region.wanted o (yielded ops a.tmps) = true) (d : Option Tmp) (hd : o.dst = d) (v : Value) (w2 : World) (hr : (execOp a.eval o).run P w = .ok (.value v) w2) (h : K (a.put d v) w2) : wpOp P ops Q i K a w := by
  rw [← hd] at h
  refine st_of hi hw ?_
  rw [Oper.wp, hr, Oper.upon_value]
  exact h
theorem st_call (hi : ops[i]? = some o) (hw : Region.wanted o (yielded ops a.tmps) = true) (d : Option Tmp) (hd : o.dst = d) (f : FuncId) (args : Array Value) (hr : (execOp a.eval o).run P w = .ok (.enter f args) w)
    (hc : Calls P f args w fun e w' => ∃ v, e = .returned v ∧ K (a.put d v) w') : wpOp P ops Q i K a w := by
  rw [← hd] at hc
  refine st_of hi hw ?_
  rw [Oper.wp, hr]
  refine hc.mono ?_
  rintro e w' ⟨v, rfl, h⟩
  exact h
theorem st_load (hi : ops[i]? = some o) (hw : Region.wanted o (yielded ops a.tmps) = true) (d : Option Tmp) (hd : o.dst = d) (ty : TypeId) (x : Operand) (ho : o.op = .load ty x) (ad : Addr) (v : Value)
    (hx : a.eval x = .pointer (some ad)) (hl : (Instr.loadAt ty (.pointer (some ad))).run P w = .ok v w) (h : K (a.put d v) w) : wpOp P ops Q i K a w := by
  refine st_val hi hw d hd v w ?_ h
  unfold execOp
  simp only [ho, hx, Sem.run_bind, hl]
  rfl
theorem st_slice_to (hi : ops[i]? = some o) (hw : Region.wanted o (yielded ops a.tmps) = true) (d : Option Tmp) (hd : o.dst = d) (ty : TypeId) (x y : Operand) (ho : o.op = .slice ty x none (some y) none) (vx vh v : Value) (hx : a.eval x = vx) (hh : a.eval y = vh)
    (hs : (Instr.sliceAt ty vx none (some vh) none).run P w = .ok v w) (h : K (a.put d v) w) : wpOp P ops Q i K a w := by
  refine st_val hi hw d hd v w ?_ h
  unfold execOp
  simp only [ho, hx, hh, Option.map_some, Option.map_none, Sem.run_bind, hs]
  rfl
theorem st_slice_from (hi : ops[i]? = some o) (hw : Region.wanted o (yielded ops a.tmps) = true) (d : Option Tmp) (hd : o.dst = d) (ty : TypeId) (x y : Operand) (ho : o.op = .slice ty x (some y) none none) (vx vh v : Value) (hx : a.eval x = vx) (hh : a.eval y = vh)
    (hs : (Instr.sliceAt ty vx (some vh) none none).run P w = .ok v w) (h : K (a.put d v) w) : wpOp P ops Q i K a w := by
  refine st_val hi hw d hd v w ?_ h
  unfold execOp
  simp only [ho, hx, hh, Option.map_some, Option.map_none, Sem.run_bind, hs]
  rfl
theorem st_slice_all (hi : ops[i]? = some o) (hw : Region.wanted o (yielded ops a.tmps) = true) (d : Option Tmp) (hd : o.dst = d) (ty : TypeId) (x : Operand) (ho : o.op = .slice ty x none none none) (vx v : Value) (hx : a.eval x = vx)
    (hs : (Instr.sliceAt ty vx none none none).run P w = .ok v w) (h : K (a.put d v) w) : wpOp P ops Q i K a w := by
  refine st_val hi hw d hd v w ?_ h
  unfold execOp
  simp only [ho, hx, Option.map_none, Sem.run_bind, hs]
  rfl
theorem st_build (hi : ops[i]? = some o) (hw : Region.wanted o (yielded ops a.tmps) = true) (d : Option Tmp) (hd : o.dst = d) (t : TypeId) (len : Nat) (parts : Array (Nat × Operand)) (ho : o.op = .buildSlice t len parts)
    (vs : Array (Nat × Value)) (hp : (parts.map fun (i, x) => (i, a.eval x)) = vs) (v : Value) (w2 : World) (hr : (Instr.buildSlice t len vs).run P w = .ok v w2) (h : K (a.put d v) w2) : wpOp P ops Q i K a w := by
  refine st_val hi hw d hd v w2 ?_ h
  unfold execOp
  simp only [ho, Sem.run_bind, hp, hr, Result.andThen_ok]
  rfl
theorem st_append (hi : ops[i]? = some o) (hw : Region.wanted o (yielded ops a.tmps) = true) (d : Option Tmp) (hd : o.dst = d) (ty : TypeId) (hty : o.type = ty) (s x : Operand) (t : TypeId)
    (ho : o.op = .call { callee := .builtin .append, args := #[s, x], argTypes := #[t, t] }) (v u v' : Value) (w' : World) (hs : a.eval s = v) (hx : a.eval x = u)
    (hr : (Builtin.append_ #[t, t] ty #[v, u]).run P w = .ok v' w') (h : K (a.put d v') w') : wpOp P ops Q i K a w := by
  subst hd
  subst hty
  refine st_of hi hw ?_
  unfold Oper.wp execOp
  simp only [ho, resolve, invoke, builtin, Sem.run_bind, Sem.run_pure, Result.andThen_ok, List.map_toArray, List.map_cons, List.map_nil, hs, hx, hr]
  exact h
/-- A whole array is stored. -/
theorem st_store (hi : ops[i]? = some o) (hw : Region.wanted o (yielded ops a.tmps) = true) (hd : o.dst = none) (ty : TypeId) (x y : Operand) (ho : o.op = .store ty x y)
    (g : Nat) (c c' : Array Value) (hx : a.eval x = .pointer (some ⟨g, 0, none⟩)) (hy : a.eval y = .agg c') (hg : w.heap[g]? = some (.cells c ty (0, 0)))
    (hin : (P.info? ty).map (·.size) = some c'.size) (hz : c.size = c'.size) (h1 : c'.all (·.oneCell') = true)
    (h : K a (w.setRow g c')) : wpOp P ops Q i K a w := by
  refine st_of hi hw ?_
  unfold Oper.wp execOp
  simp only [ho, hx, hy, Instr.storeAt, Instr.sureAddr, Sem.run_bind, Sem.run_pure, Result.andThen_ok, run_storeVar_row w g ty ty c c' hg hin hz h1]
  show K (a.put o.dst undef) _
  rw [hd]
  exact h
end
/-! Runs of operations that the kernel reckons by itself, and short forms. -/
theorem pu : (∀ (a : Act) (t : Tmp) (v : Value), a.put (some t) v = { a with tmps := a.tmps.setIfInBounds t v }) ∧ (∀ (l : List Value) (i : Nat) (x : Value), l.toArray.setIfInBounds i x = (l.set i x).toArray) ∧ (∀ (x : Value) (l : List Value) (n : Nat) (v : Value), (x :: l).set (n + 1) v = x :: l.set n v) ∧ (∀ (x : Value) (l : List Value) (v : Value), (x :: l).set 0 v = v :: l) :=
  ⟨fun _ _ _ => rfl, fun _ _ _ => List.setIfInBounds_toArray .., fun _ _ _ _ => rfl, fun _ _ _ => rfl⟩
section
variable {P : Program} {ops : Array Oper} {rest : List Oper} {o o1 o2 o3 o4 o5 o6 o7 o8 : Oper} {a : Act} {w : World} {Q : Exit → Act → World → Prop}
def runG (P : Program) (ops : Array Oper) : List Oper → Act → World → Option (Act × World)
  | [], a, w => some (a, w)
  | o :: l, a, w => bif Region.wanted o (yielded ops a.tmps) then
      match (execOp a.eval o).run P w with
      | .ok (.value v) w' => runG P ops l (a.put o.dst v) w'
      | _ => none
    else runG P ops l (a.put o.dst undef) w
theorem runG_ok : ∀ (l : List Oper) (a : Act) (w : World) (a' : Act) (w' : World), runG P ops l a w = some (a', w') → wpList P ops Q rest a' w' → wpList P ops Q (l ++ rest) a w
  | [], a, w, a', w', h, k => by
    simp only [runG, Option.some.injEq, Prod.mk.injEq] at h
    obtain ⟨rfl, rfl⟩ := h
    exact k
  | o :: l, a, w, a', w', h, k => by
    unfold runG at h
    cases hw : Region.wanted o (yielded ops a.tmps) with
    | true =>
      rw [hw, cond_true] at h
      split at h
      · rename_i v w2 hr
        exact gw_new hw o.dst rfl v w2 hr (runG_ok l _ _ a' w' h k)
      · exact absurd h (by simp)
    | false =>
      rw [hw, cond_false] at h
      exact gw_not hw o.dst rfl (runG_ok l _ _ a' w' h k)
theorem gz1 {d1 : Option Tmp} (v1 : Value) (k : wpList P ops Q rest (a.put d1 v1) w) (e1 : o1.dst = d1 := by rfl) (h : runG P ops [o1] a w = some ((a.put d1 v1), w) := by kernel_rfl) : wpList P ops Q (o1 :: rest) a w := by
  subst e1
  exact runG_ok [o1] a w _ _ h k
theorem gz2 {d1 d2 : Option Tmp} (v1 v2 : Value) (k : wpList P ops Q rest ((a.put d1 v1).put d2 v2) w) (e1 : o1.dst = d1 := by rfl) (e2 : o2.dst = d2 := by rfl) (h : runG P ops [o1, o2] a w = some (((a.put d1 v1).put d2 v2), w) := by kernel_rfl) : wpList P ops Q (o1 :: o2 :: rest) a w := by
  subst e1 e2
  exact runG_ok [o1, o2] a w _ _ h k
theorem gz3 {d1 d2 d3 : Option Tmp} (v1 v2 v3 : Value) (k : wpList P ops Q rest (((a.put d1 v1).put d2 v2).put d3 v3) w) (e1 : o1.dst = d1 := by rfl) (e2 : o2.dst = d2 := by rfl) (e3 : o3.dst = d3 := by rfl) (h : runG P ops [o1, o2, o3] a w = some ((((a.put d1 v1).put d2 v2).put d3 v3), w) := by kernel_rfl) : wpList P ops Q (o1 :: o2 :: o3 :: rest) a w := by
  subst e1 e2 e3
  exact runG_ok [o1, o2, o3] a w _ _ h k
theorem gz4 {d1 d2 d3 d4 : Option Tmp} (v1 v2 v3 v4 : Value) (k : wpList P ops Q rest ((((a.put d1 v1).put d2 v2).put d3 v3).put d4 v4) w) (e1 : o1.dst = d1 := by rfl) (e2 : o2.dst = d2 := by rfl) (e3 : o3.dst = d3 := by rfl) (e4 : o4.dst = d4 := by rfl) (h : runG P ops [o1, o2, o3, o4] a w = some (((((a.put d1 v1).put d2 v2).put d3 v3).put d4 v4), w) := by kernel_rfl) : wpList P ops Q (o1 :: o2 :: o3 :: o4 :: rest) a w := by
  subst e1 e2 e3 e4
  exact runG_ok [o1, o2, o3, o4] a w _ _ h k
theorem gz5 {d1 d2 d3 d4 d5 : Option Tmp} (v1 v2 v3 v4 v5 : Value) (k : wpList P ops Q rest (((((a.put d1 v1).put d2 v2).put d3 v3).put d4 v4).put d5 v5) w) (e1 : o1.dst = d1 := by rfl) (e2 : o2.dst = d2 := by rfl) (e3 : o3.dst = d3 := by rfl) (e4 : o4.dst = d4 := by rfl) (e5 : o5.dst = d5 := by rfl) (h : runG P ops [o1, o2, o3, o4, o5] a w = some ((((((a.put d1 v1).put d2 v2).put d3 v3).put d4 v4).put d5 v5), w) := by kernel_rfl) : wpList P ops Q (o1 :: o2 :: o3 :: o4 :: o5 :: rest) a w := by
  subst e1 e2 e3 e4 e5
  exact runG_ok [o1, o2, o3, o4, o5] a w _ _ h k
theorem gz6 {d1 d2 d3 d4 d5 d6 : Option Tmp} (v1 v2 v3 v4 v5 v6 : Value) (k : wpList P ops Q rest ((((((a.put d1 v1).put d2 v2).put d3 v3).put d4 v4).put d5 v5).put d6 v6) w) (e1 : o1.dst = d1 := by rfl) (e2 : o2.dst = d2 := by rfl) (e3 : o3.dst = d3 := by rfl) (e4 : o4.dst = d4 := by rfl) (e5 : o5.dst = d5 := by rfl) (e6 : o6.dst = d6 := by rfl) (h : runG P ops [o1, o2, o3, o4, o5, o6] a w = some (((((((a.put d1 v1).put d2 v2).put d3 v3).put d4 v4).put d5 v5).put d6 v6), w) := by kernel_rfl) : wpList P ops Q (o1 :: o2 :: o3 :: o4 :: o5 :: o6 :: rest) a w := by
  subst e1 e2 e3 e4 e5 e6
  exact runG_ok [o1, o2, o3, o4, o5, o6] a w _ _ h k
/-- One operation with its value, an operation that makes memory, a load, a store, a call. -/
theorem gzv {d : Option Tmp} (v : Value) (hr : (execOp a.eval o).run P w = .ok (.value v) w) (k : wpList P ops Q rest (a.put d v) w) (hd : o.dst = d := by rfl) (hw : Region.wanted o (yielded ops a.tmps) = true := by kernel_rfl) : wpList P ops Q (o :: rest) a w := gw_val hw d hd v hr k
theorem gzl {d : Option Tmp} {ty : TypeId} {x : Operand} (ho : o.op = .load ty x) (ad : Addr) (v : Value) (hl : (Instr.loadAt ty (.pointer (some ad))).run P w = .ok v w) (k : wpList P ops Q rest (a.put d v) w) (hd : o.dst = d := by rfl) (hw : Region.wanted o (yielded ops a.tmps) = true := by kernel_rfl) (hx : a.eval x = .pointer (some ad) := by kernel_rfl) : wpList P ops Q (o :: rest) a w := gw_load hw d hd ty x ho ad v hx hl k
theorem gzc {d : Option Tmp} (v : Value) (S : World → Prop) {f : FuncId} {args : Array Value} (hc : Calls P f args w fun e w' => e = .returned v ∧ S w') (k : ∀ w', S w' → wpList P ops Q rest (a.put d v) w') (hd : o.dst = d := by rfl) (hw : Region.wanted o (yielded ops a.tmps) = true := by kernel_rfl) (hr : (execOp a.eval o).run P w = .ok (.enter f args) w := by kernel_rfl) : wpList P ops Q (o :: rest) a w := gw_call hw d hd f args v S hr hc k
theorem gze {d : Option Tmp} (S : Value → World → Prop) {f : FuncId} {args : Array Value} (hc : Calls P f args w fun e w' => ∃ v, e = .returned v ∧ S v w') (k : ∀ v w', S v w' → wpList P ops Q rest (a.put d v) w') (hd : o.dst = d := by rfl) (hw : Region.wanted o (yielded ops a.tmps) = true := by kernel_rfl) (hr : (execOp a.eval o).run P w = .ok (.enter f args) w := by kernel_rfl) : wpList P ops Q (o :: rest) a w := gw_callE hw d hd f args S hr hc k
/-- An operation with two operands: the law wants them, the kernel finds them. -/
theorem gzw {d : Option Tmp} {x y : Operand} {X Y : Value} (v : Value) (hr : a.eval x = X → a.eval y = Y → ∀ w, (execOp a.eval o).run P w = .ok (.value v) w) (k : wpList P ops Q rest (a.put d v) w) (hd : o.dst = d := by rfl) (hw : Region.wanted o (yielded ops a.tmps) = true := by kernel_rfl) (hx : a.eval x = X := by kernel_rfl) (hy : a.eval y = Y := by kernel_rfl) : wpList P ops Q (o :: rest) a w := gw_val hw d hd v (hr hx hy w) k
theorem gzb {d : Option Tmp} {x y : Operand} {X Y v : Value} (hr : a.eval x = X → a.eval y = Y → ∀ w, (execOp a.eval o).run P w = .ok (.value v) w) (k : wpList P ops Q rest (a.put d v) w) (hd : o.dst = d := by rfl) (hw : Region.wanted o (yielded ops a.tmps) = true := by kernel_rfl) (hx : a.eval x = X := by kernel_rfl) (hy : a.eval y = Y := by kernel_rfl) : wpList P ops Q (o :: rest) a w := gw_val hw d hd v (hr hx hy w) k
theorem dT {p : Prop} [Decidable p] (h : p := by omega) : decide p = true := decide_eq_true h
theorem dF {p : Prop} [Decidable p] (h : ¬p := by omega) : decide p = false := decide_eq_false h
theorem wl {id : Nat} {l : List Oper} (h : wpList P l.toArray Q l a w) : (Code.region id l.toArray false).wp P Q a w := wp_region_lit h
theorem wn (h : Q .normal a w) : wpList P ops Q [] a w := wpList_nil h
end
section
variable {P : Program} {C : World → Prop} {ops : Array Oper} {Q : Act → Prop} {a : Act} {o : Oper} {rest : List Oper}
/-- Short forms in a region that draws its order. -/
theorem gy {d : Option Tmp} (v : Value) (k : wpQuiet P ops C Q rest (a.put d v)) (hd : o.dst = d := by rfl) (hw : Region.wanted o (yielded ops a.tmps) = true := by kernel_rfl) (hr : ∀ w, (execOp a.eval o).run P w = .ok (.value v) w := by intro w; kernel_rfl) : wpQuiet P ops C Q (o :: rest) a := gq_val hw d hd v (fun w _ => hr w) k
theorem gyn {d : Option Tmp} (k : wpQuiet P ops C Q rest (a.put d undef)) (hd : o.dst = d := by rfl) (hw : Region.wanted o (yielded ops a.tmps) = false := by kernel_rfl) : wpQuiet P ops C Q (o :: rest) a := gq_not hw d hd k
theorem gyv {d : Option Tmp} (v : Value) (hr : ∀ w, C w → (execOp a.eval o).run P w = .ok (.value v) w) (k : wpQuiet P ops C Q rest (a.put d v)) (hd : o.dst = d := by rfl) (hw : Region.wanted o (yielded ops a.tmps) = true := by kernel_rfl) : wpQuiet P ops C Q (o :: rest) a := gq_val hw d hd v hr k
theorem gyl {d : Option Tmp} {ty : TypeId} {x : Operand} (ho : o.op = .load ty x) (ad : Addr) (v : Value) (hl : ∀ w, C w → (Instr.loadAt ty (.pointer (some ad))).run P w = .ok v w) (k : wpQuiet P ops C Q rest (a.put d v)) (hd : o.dst = d := by rfl) (hw : Region.wanted o (yielded ops a.tmps) = true := by kernel_rfl) (hx : a.eval x = .pointer (some ad) := by kernel_rfl) : wpQuiet P ops C Q (o :: rest) a := gq_load hw d hd ty x ho ad v hx hl k
end
end Go.Proofs.Ytgkckblcekbafaa
