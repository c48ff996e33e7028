/-
  A region that draws its order, by an invariant: what holds whichever operations are done, each operation tried once.
-/
import Derived.Test.YtbhnbcpllhefgaaDoorKE
namespace Go.Proofs.YtbhnbcpllhefgaaDoor
open Go.RowKit
section
variable {P : Program} {Q : Exit → Act → World → Prop} {ops : Array Oper}

/-- Every operation waits for earlier ones alone. -/
def backB (ops : Array Oper) : Bool := (List.range ops.size).all fun i => ((ops[i]?).map fun o => o.after.all fun e => e.on < i).getD true
theorem ready_none {listed : Array Bool} (hb : backB ops = true) (hs : listed.size = ops.size) (h : Region.ready .any ops listed = []) : listed = Array.replicate ops.size true := by
  have key : ∀ i, i < ops.size → listed.getD i false = true := by
    intro i
    induction i using Nat.strongRecOn with
    | ind i ih =>
      intro hi
      by_cases hl : listed.getD i false = true
      · exact hl
      · exfalso
        have hlt : i < listed.size := by omega
        have hl2 : listed.getD i true = false := by
          simp only [Array.getD, hlt, dif_pos] at hl ⊢
          simpa using hl
        have hm : i ∈ Region.ready .any ops listed := by
          rw [mem_ready]
          refine ⟨hl2, ops[i], by simp [hi], fun e he _ => ?_⟩
          have hbi := List.all_eq_true.1 hb i (List.mem_range.2 hi)
          rw [Array.getElem?_eq_getElem hi] at hbi
          have hlt2 : e.on < i := by
            have := (Array.all_eq_true_iff_forall_mem.1 hbi) e he
            simpa using this
          exact ih e.on hlt2 (by omega)
        rw [h] at hm
        cases hm
  apply Array.ext
  · rw [hs]; simp
  · intro i h1 h2
    have := key i (by omega)
    simp only [Array.getD, h1, dif_pos] at this
    simpa using this
/-- THE REGION BY AN INVARIANT. -/
theorem wp_region_inv {id : Nat} {a : Act} {w : World} (J : Array Bool → Act → World → Prop) (hm : P.follows .mixedOrders = true) (hb : backB ops = true)
    (h0 : J (Array.replicate ops.size false) a { w with drawn := w.drawn + 1 })
    (hstep : ∀ i listed a w, i < ops.size → i ∈ Region.ready .any ops listed → J listed a w → wpOp P ops Q i (J (listed.setIfInBounds i true)) a w)
    (hend : ∀ a w, J (Array.replicate ops.size true) a w → Q .normal a w) : (Code.region id ops true).wp P Q a w := by
  refine wp_region_any hm ?_
  have key : ∀ (fuel : Nat) (listed : Array Bool) (a : Act) (w : World), listed.size = ops.size → listed.count false ≤ fuel → J listed a w → wpAny P .any ops Q fuel listed a w := by
    intro fuel
    induction fuel with
    | zero =>
      intro listed a w hs hc hJ
      have hall : listed = Array.replicate ops.size true := by
        apply Array.ext
        · rw [hs]; simp
        · intro i h1 h2
          have h3 : false ∉ listed := Array.count_eq_zero.1 (by omega)
          have h4 : listed[i] ≠ false := fun h => h3 (h ▸ Array.getElem_mem h1)
          simpa using h4
      have hr : Region.ready .any ops listed = [] := by
        rw [List.eq_nil_iff_forall_not_mem]
        intro j hj
        obtain ⟨h1, o, ho, -⟩ := mem_ready.1 hj
        have hjs : j < ops.size := (Array.getElem?_eq_some_iff.1 ho).1
        rw [hall] at h1
        simp [hjs] at h1
      exact ⟨hr, hend _ _ (hall ▸ hJ)⟩
    | succ fuel ih =>
      intro listed a w hs hc hJ
      refine ⟨fun h => hend _ _ ?_, fun i hi => ?_⟩
      · rw [← ready_none hb hs h]; exact hJ
      · obtain ⟨h1, o, ho, -⟩ := mem_ready.1 hi
        have his : i < ops.size := (Array.getElem?_eq_some_iff.1 ho).1
        refine wpOp_mono (fun a' w' hJ' => ih _ a' w' (by rw [Array.size_setIfInBounds]; exact hs) ?_ hJ') (hstep i listed a w his hi hJ)
        have hil : i < listed.size := by omega
        have hf : listed[i] = false := by
          simp only [Array.getD, hil, dif_pos] at h1
          exact h1
        rw [Array.setIfInBounds_def, dif_pos hil, Array.count_set, hf]
        have : 0 < listed.count false := Array.count_pos_iff.2 (hf ▸ Array.getElem_mem hil)
        simp
        omega
  refine key _ _ _ _ (by simp) ?_ h0
  rw [Array.count_replicate]
  simp
/-- What an operation that is ready waits for is done. -/
theorem ready_dep {i : Nat} {listed : Array Bool} (h : i ∈ Region.ready .any ops listed) (k : Nat) (hk : ((ops[i]?).map fun o => o.after.any fun e => Region.binds .any e && e.on == k).getD false = true) : listed.getD k false = true := by
  obtain ⟨-, o, ho, hall⟩ := mem_ready.1 h
  rw [ho] at hk
  simp only [Option.map_some, Option.getD_some] at hk
  obtain ⟨j, hj, hk⟩ := Array.any_eq_true.1 hk
  simp only [Bool.and_eq_true, beq_iff_eq] at hk
  rw [← hk.2]
  exact hall _ (Array.getElem_mem hj) hk.1
theorem ready_self {i : Nat} {listed : Array Bool} (h : i ∈ Region.ready .any ops listed) : listed.getD i true = false := (mem_ready.1 h).1

variable {i : Nat} {o : Oper} {a : Act} {w : World} {K : Act → World → Prop}
theorem st_of (hi : ops[i]? = some o) (hw : Region.wanted o (yielded ops a.tmps) = true) (h : Oper.wp P o a w K Q) : wpOp P ops Q i K a w := by
  unfold wpOp
  rw [hi]
  simp only
  rw [if_pos hw]
  exact .inl h
theorem st_not (hi : ops[i]? = some o) (hw : Region.wanted o (yielded ops a.tmps) = false) (h : K (a.put o.dst undef) w) : wpOp P ops Q i K a w := by
  unfold wpOp
  rw [hi]
  simp only
  rw [if_neg (by rw [hw]; decide)]
  exact h
theorem st_val (hi : ops[i]? = some o) (hw : Region.wanted o (yielded ops a.tmps) = true) (d : Option Tmp) (hd : o.dst = d) (v : Value) (w2 : World) (hr : (execOp a.eval o).run P w = .ok (.value v) w2) (h : K (a.put d v) w2) : wpOp P ops Q i K a w := by
  rw [← hd] at h
  refine st_of hi hw ?_
  rw [Oper.wp, hr, Oper.upon_value]
  exact h
theorem st_call (hi : ops[i]? = some o) (hw : Region.wanted o (yielded ops a.tmps) = true) (d : Option Tmp) (hd : o.dst = d) (f : FuncId) (args : Array Value) (hr : (execOp a.eval o).run P w = .ok (.enter f args) w)
    (hc : Calls P f args w fun e w' => ∃ v, e = .returned v ∧ K (a.put d v) w') : wpOp P ops Q i K a w := by
  rw [← hd] at hc
  refine st_of hi hw ?_
  rw [Oper.wp, hr]
  refine hc.mono ?_
  rintro e w' ⟨v, rfl, h⟩
  exact h
theorem st_load (hi : ops[i]? = some o) (hw : Region.wanted o (yielded ops a.tmps) = true) (d : Option Tmp) (hd : o.dst = d) (ty : TypeId) (x : Operand) (ho : o.op = .load ty x) (ad : Addr) (v : Value)
    (hx : a.eval x = .pointer (some ad)) (hl : (Instr.loadAt ty (.pointer (some ad))).run P w = .ok v w) (h : K (a.put d v) w) : wpOp P ops Q i K a w := by
  refine st_val hi hw d hd v w ?_ h
  unfold execOp
  simp only [ho, hx, Sem.run_bind, hl]
  rfl
theorem st_slice_to (hi : ops[i]? = some o) (hw : Region.wanted o (yielded ops a.tmps) = true) (d : Option Tmp) (hd : o.dst = d) (ty : TypeId) (x y : Operand) (ho : o.op = .slice ty x none (some y) none) (vx vh v : Value) (hx : a.eval x = vx) (hh : a.eval y = vh)
    (hs : (Instr.sliceAt ty vx none (some vh) none).run P w = .ok v w) (h : K (a.put d v) w) : wpOp P ops Q i K a w := by
  refine st_val hi hw d hd v w ?_ h
  unfold execOp
  simp only [ho, hx, hh, Option.map_some, Option.map_none, Sem.run_bind, hs]
  rfl
theorem st_slice_from (hi : ops[i]? = some o) (hw : Region.wanted o (yielded ops a.tmps) = true) (d : Option Tmp) (hd : o.dst = d) (ty : TypeId) (x y : Operand) (ho : o.op = .slice ty x (some y) none none) (vx vh v : Value) (hx : a.eval x = vx) (hh : a.eval y = vh)
    (hs : (Instr.sliceAt ty vx (some vh) none none).run P w = .ok v w) (h : K (a.put d v) w) : wpOp P ops Q i K a w := by
  refine st_val hi hw d hd v w ?_ h
  unfold execOp
  simp only [ho, hx, hh, Option.map_some, Option.map_none, Sem.run_bind, hs]
  rfl
theorem st_slice_all (hi : ops[i]? = some o) (hw : Region.wanted o (yielded ops a.tmps) = true) (d : Option Tmp) (hd : o.dst = d) (ty : TypeId) (x : Operand) (ho : o.op = .slice ty x none none none) (vx v : Value) (hx : a.eval x = vx)
    (hs : (Instr.sliceAt ty vx none none none).run P w = .ok v w) (h : K (a.put d v) w) : wpOp P ops Q i K a w := by
  refine st_val hi hw d hd v w ?_ h
  unfold execOp
  simp only [ho, hx, Option.map_none, Sem.run_bind, hs]
  rfl
theorem st_build (hi : ops[i]? = some o) (hw : Region.wanted o (yielded ops a.tmps) = true) (d : Option Tmp) (hd : o.dst = d) (t : TypeId) (len : Nat) (parts : Array (Nat × Operand)) (ho : o.op = .buildSlice t len parts)
    (vs : Array (Nat × Value)) (hp : (parts.map fun (i, x) => (i, a.eval x)) = vs) (v : Value) (w2 : World) (hr : (Instr.buildSlice t len vs).run P w = .ok v w2) (h : K (a.put d v) w2) : wpOp P ops Q i K a w := by
  refine st_val hi hw d hd v w2 ?_ h
  unfold execOp
  simp only [ho, Sem.run_bind, hp, hr, Result.andThen_ok]
  rfl
theorem st_append (hi : ops[i]? = some o) (hw : Region.wanted o (yielded ops a.tmps) = true) (d : Option Tmp) (hd : o.dst = d) (ty : TypeId) (hty : o.type = ty) (s x : Operand) (t : TypeId)
    (ho : o.op = .call { callee := .builtin .append, args := #[s, x], argTypes := #[t, t] }) (v u v' : Value) (w' : World) (hs : a.eval s = v) (hx : a.eval x = u)
    (hr : (Builtin.append_ #[t, t] ty #[v, u]).run P w = .ok v' w') (h : K (a.put d v') w') : wpOp P ops Q i K a w := by
  subst hd
  subst hty
  refine st_of hi hw ?_
  unfold Oper.wp execOp
  simp only [ho, resolve, invoke, builtin, Sem.run_bind, Sem.run_pure, Result.andThen_ok, List.map_toArray, List.map_cons, List.map_nil, hs, hx, hr]
  exact h
/-- A whole array is stored. -/
theorem st_store (hi : ops[i]? = some o) (hw : Region.wanted o (yielded ops a.tmps) = true) (hd : o.dst = none) (ty : TypeId) (x y : Operand) (ho : o.op = .store ty x y)
    (g : Nat) (c c' : Array Value) (hx : a.eval x = .pointer (some ⟨g, 0, none⟩)) (hy : a.eval y = .agg c') (hg : w.heap[g]? = some (.cells c ty (0, 0)))
    (hin : (P.info? ty).map (·.size) = some c'.size) (hz : c.size = c'.size) (h1 : c'.all (·.oneCell') = true)
    (h : K a (w.setRow g c')) : wpOp P ops Q i K a w := by
  refine st_of hi hw ?_
  unfold Oper.wp execOp
  simp only [ho, hx, hy, Instr.storeAt, Instr.sureAddr, Sem.run_bind, Sem.run_pure, Result.andThen_ok, run_storeVar_row w g ty ty c c' hg hin hz h1]
  show K (a.put o.dst undef) _
  rw [hd]
  exact h
end
end Go.Proofs.YtbhnbcpllhefgaaDoor
