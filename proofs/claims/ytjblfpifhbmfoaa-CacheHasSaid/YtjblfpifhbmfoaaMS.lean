/-
  Maps at the operation.
-/
import Derived.Test.YtjblfpifhbmfoaaMK
import Derived.Test.YtjblfpifhbmfoaaGS
namespace Go.Proofs.Ytjblfpifhbmfoaa
open Go.RowKit
set_option linter.unusedSimpArgs false
set_option linter.unusedVariables false

section
variable {P : Program} {o : Oper} {a : Act} {w w2 : World}
theorem ex_look (ty : TypeId) (x y : Operand) (b : Bool) (ho : o.op = .lookup ty x y b) (vx vy v : Value) (hx : a.eval x = vx) (hy : a.eval y = vy) (hr : (Instr.lookup ty vx vy b).run P w = .ok v w) : (execOp a.eval o).run P w = .ok (.value v) w := by
  unfold execOp
  simp only [ho, hx, hy, Sem.run_bind, hr]
  rfl
theorem ex_put (ty : TypeId) (x y z : Operand) (ho : o.op = .mapUpdate ty x y z) (vx vy vz : Value) (hx : a.eval x = vx) (hy : a.eval y = vy) (hz : a.eval z = vz) (hr : (Instr.mapUpdate ty vx vy vz).run P w = .ok () w2) : (execOp a.eval o).run P w = .ok .skip w2 := by
  unfold execOp
  simp only [ho, hx, hy, hz, Sem.run_bind, hr]
  rfl
theorem ex_new (ty : TypeId) (ho : o.op = .makeMap ty none) : (execOp a.eval o).run P w = .ok (.value (.map (some w.heap.size))) (w.alloc (.map #[] 0)) := by
  unfold execOp
  simp only [ho]
  rfl
theorem ex_del (x y : Operand) (t u : TypeId) (ho : o.op = .call { callee := .builtin .delete, args := #[x, y], argTypes := #[t, u] }) (vx vy v : Value) (hx : a.eval x = vx) (hy : a.eval y = vy) (hr : (Builtin.delete_ #[t, u] o.type #[vx, vy]).run P w = .ok v w2) : (execOp a.eval o).run P w = .ok (.value v) w2 := by
  unfold execOp
  simp only [ho, resolve, invoke, builtin, Sem.run_bind, Sem.run_pure, Result.andThen_ok, List.map_toArray, List.map_cons, List.map_nil, hx, hy, hr]
theorem ex_clear (x : Operand) (t : TypeId) (ho : o.op = .call { callee := .builtin .clear, args := #[x], argTypes := #[t] }) (vx v : Value) (hx : a.eval x = vx) (hr : (Builtin.clear_ #[t] o.type #[vx]).run P w = .ok v w2) : (execOp a.eval o).run P w = .ok (.value v) w2 := by
  unfold execOp
  simp only [ho, resolve, invoke, builtin, Sem.run_bind, Sem.run_pure, Result.andThen_ok, List.map_toArray, List.map_cons, List.map_nil, hx, hr]
end
/-- An operation that yields no value, in a plain region. -/
theorem gw_skip {P : Program} {ops : Array Oper} {rest : List Oper} {o : Oper} {a : Act} {w : World} {Q : Exit → Act → World → Prop} (hw : Region.wanted o (yielded ops a.tmps) = true) (hd : o.dst = none) (w2 : World) (hr : (execOp a.eval o).run P w = .ok .skip w2) (k : wpList P ops Q rest a w2) : wpList P ops Q (o :: rest) a w := by
  apply wpList_step
  intro K hK
  rw [if_pos hw, Oper.wp, hr]
  refine hK _ _ ?_
  rw [hd]
  exact k
/-- The same in a region walked by its invariant. -/
theorem st_skip {P : Program} {ops : Array Oper} {i : Nat} {o : Oper} {a : Act} {w : World} {Q : Exit → Act → World → Prop} {K : Act → World → Prop} (hi : ops[i]? = some o) (hw : Region.wanted o (yielded ops a.tmps) = true) (hd : o.dst = none) (w2 : World) (hr : (execOp a.eval o).run P w = .ok .skip w2) (h : K a w2) : wpOp P ops Q i K a w := by
  refine st_of hi hw ?_
  rw [Oper.wp, hr]
  show K (a.put o.dst undef) w2
  rw [hd]
  exact h
theorem same_key (A : List Int) : Instr.sameBits 10000 (.agg (w8s A)) (.agg (w8s A)) = true := by
  rw [show (10000 : Nat) = 9999 + 1 from rfl, Instr.sameBits]
  simp only [List.toList_toArray, BEq.rfl, Bool.true_and, List.all_eq_true]
  rintro ⟨x, y⟩ hm
  have hz : ∀ (l : List Value), (x, y) ∈ l.zip l → x = y ∧ x ∈ l := by
    intro l
    induction l with
    | nil => intro h; simp at h
    | cons v l ih =>
      intro h
      rw [List.zip_cons_cons, List.mem_cons] at h
      rcases h with h | h
      · rw [Prod.mk.injEq] at h
        exact ⟨h.1.trans h.2.symm, by simp [h.1]⟩
      · exact ⟨(ih h).1, List.mem_cons_of_mem _ (ih h).2⟩
  obtain ⟨rfl, hx⟩ := hz _ hm
  obtain ⟨n, -, rfl⟩ := List.mem_map.1 hx
  rw [show (9999 : Nat) = 9998 + 1 from rfl]
  simp [Instr.sameBits]
theorem map_modify {α β : Type} (f : α → β) (g : α → α) (g' : β → β) (h : ∀ x, f (g x) = g' (f x)) : ∀ (l : List α) (i : Nat), (l.modify i g).map f = (l.map f).modify i g'
  | [], i => by cases i <;> rfl
  | x :: r, 0 => by simp [List.modify_cons, h]
  | x :: r, i + 1 => by simp [List.modify_cons, map_modify f g g' h r i]
theorem modify_get {α : Type} (l : List α) (i : Nat) (x : α) (g : α → α) (h : l[i]? = some x) : l.modify i g = l.set i (g x) := by
  apply List.ext_getElem?
  intro j
  rw [List.getElem?_modify, List.getElem?_set]
  by_cases hj : i = j
  · subst hj
    obtain ⟨hl, hv⟩ := List.getElem?_eq_some_iff.1 h
    simp [hl, hv]
  · simp [hj]
/-- A key that is there gets another number. -/
theorem map_set {w : World} {B : Nat} {L : List (List Int × Int)} (h : Mk w B L) (hk : ∀ p ∈ L, p.1.length = 32) (x : List Int) (hx : x.length = 32) (v u : Int) (j : Nat) (hn : foundK x L 0 = some (j, u)) :
    ∃ w', (Instr.mapUpdate 51 (.map (some B)) (.agg (w8s x)) (.int .i64 v)).run Try.prog w = .ok () w' ∧ Mk w' B (L.set j (x, v)) ∧ w'.heap.size = w.heap.size ∧ w.grownBy w' (some B) := by
  obtain ⟨es, c, hb, he⟩ := h
  have hu : (Go.underlying 51).run Try.prog w = .ok (.map 34 3) w := run_underlying (by kernel_rfl) w
  have hr := find_key w x hx es.toList L he hk
  rw [hn] at hr
  have hlt : B < w.heap.size := (Array.getElem?_eq_some_iff.1 hb).1
  obtain ⟨k, hj, hkl, hg⟩ := foundK_some hn
  obtain rfl : j = k := by omega
  have hlen : es.size = L.length := by
    have := congrArg List.length he
    simpa using this
  have hes : j < es.size := by omega
  have hkey : es[j].key = .agg (w8s x) := by
    have h1 := congrArg (fun l => l[j]?) he
    simp only [List.getElem?_map, hg, Array.getElem?_toList, Array.getElem?_eq_getElem hes, Option.map_some, Option.some.injEq, Prod.mk.injEq] at h1
    exact h1.1
  have hst : (Instr.keyThatStays (((es[j]?).map (·.key)).getD (.agg (w8s x))) (.agg (w8s x))).run Try.prog w = .ok (.agg (w8s x)) w := by
    simp only [Array.getElem?_eq_getElem hes, Option.map_some, Option.getD_some, hkey, Instr.keyThatStays, same_key, if_true]
    rfl
  refine ⟨{ w with heap := w.heap.setIfInBounds B (.map (es.modify j fun e => { e with key := .agg (w8s x), val := .int .i64 v }) c) },
    by simp only [Instr.mapUpdate, Sem.run_bind, hu, MapKept.run_getObj_map hb, check_key w _ x hx, hr, Option.map_some, hst, MapKept.run_setObj_map _ hb, Result.andThen], ⟨_, _, by simp [hlt]; exact ⟨rfl, rfl⟩, ?_⟩, by simp, rfl, rfl, rfl, by simp, fun i _ hi => ?_⟩
  · rw [Array.toList_modify, map_modify (fun e : MapEntry => (e.key, e.val)) _ (fun _ => (Value.agg (w8s x), Value.int .i64 v)) (fun _ => rfl), he,
      modify_get _ j (Value.agg (w8s x), Value.int .i64 u) _ (by simp [hg]), List.map_set]
  · have hne : B ≠ i := fun e => hi (by rw [e])
    simp [Array.getElem?_setIfInBounds_ne hne]
/-- All keys go. -/
theorem map_clear {w : World} {B : Nat} {L : List (List Int × Int)} (h : Mk w B L) (ty : TypeId) :
    ∃ w', (Builtin.clear_ #[51] ty #[.map (some B)]).run Try.prog w = .ok (.tuple #[]) w' ∧ Mk w' B [] ∧ w'.heap.size = w.heap.size ∧ w.grownBy w' (some B) := by
  obtain ⟨es, c, hb, he⟩ := h
  have hu : (Go.underlying 51).run Try.prog w = .ok (.map 34 3) w := run_underlying (by kernel_rfl) w
  have hlt : B < w.heap.size := (Array.getElem?_eq_some_iff.1 hb).1
  refine ⟨{ w with heap := w.heap.setIfInBounds B (.map #[] c) }, by simp [Builtin.clear_, hu, MapKept.run_getObj_map hb, MapKept.run_setObj_map _ hb, Result.andThen], ⟨#[], c, by simp [hlt], rfl⟩, by simp, rfl, rfl, rfl, by simp, fun i _ hi => ?_⟩
  have hne : B ≠ i := fun e => hi (by rw [e])
  simp [Array.getElem?_setIfInBounds_ne hne]
end Go.Proofs.Ytjblfpifhbmfoaa
