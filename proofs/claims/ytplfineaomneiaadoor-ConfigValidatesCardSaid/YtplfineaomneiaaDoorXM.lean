/-
 A map from strings to bools: what it holds as a function, a look-up, an update, a delete.
-/
import Derived.Test.YtplfineaomneiaaDoorXL
import Derived.Test.YtplfineaomneiaaDoorRT
import Derived.Maps.Own
namespace Go.Proofs.YtplfineaomneiaaDoor
attribute [local irreducible] wpList wpQuiet
open Go.RowKit
set_option maxRecDepth 100000
set_option linter.unusedSimpArgs false
set_option linter.unusedVariables false

section
variable {P : Program} {o : Oper} {a : Act} {w w2 : World}
theorem ex_look (ty : TypeId) (x y : Operand) (b : Bool) (ho : o.op = .lookup ty x y b) (vx vy v : Value) (hx : a.eval x = vx) (hy : a.eval y = vy) (hr : (Instr.lookup ty vx vy b).run P w = .ok v w) : (execOp a.eval o).run P w = .ok (.value v) w := by
 unfold execOp
 simp only [ho, hx, hy, Sem.run_bind, hr]
 rfl
theorem ex_put (ty : TypeId) (x y z : Operand) (ho : o.op = .mapUpdate ty x y z) (vx vy vz : Value) (hx : a.eval x = vx) (hy : a.eval y = vy) (hz : a.eval z = vz) (hr : (Instr.mapUpdate ty vx vy vz).run P w = .ok () w2) : (execOp a.eval o).run P w = .ok .skip w2 := by
 unfold execOp
 simp only [ho, hx, hy, hz, Sem.run_bind, hr]
 rfl
theorem ex_new (ty : TypeId) (ho : o.op = .makeMap ty none) : (execOp a.eval o).run P w = .ok (.value (.map (some w.heap.size))) (w.alloc (.map #[] 0)) := by
 unfold execOp
 simp only [ho]
 rfl
theorem ex_del (x y : Operand) (t u : TypeId) (ho : o.op = .call { callee := .builtin .delete, args := #[x, y], argTypes := #[t, u] }) (vx vy v : Value) (hx : a.eval x = vx) (hy : a.eval y = vy) (hr : (Builtin.delete_ #[t, u] o.type #[vx, vy]).run P w = .ok v w2) : (execOp a.eval o).run P w = .ok (.value v) w2 := by
 unfold execOp
 simp only [ho, resolve, invoke, builtin, Sem.run_bind, Sem.run_pure, Result.andThen_ok, List.map_toArray, List.map_cons, List.map_nil, hx, hy, hr]
theorem ex_clear (x : Operand) (t : TypeId) (ho : o.op = .call { callee := .builtin .clear, args := #[x], argTypes := #[t] }) (vx v : Value) (hx : a.eval x = vx) (hr : (Builtin.clear_ #[t] o.type #[vx]).run P w = .ok v w2) : (execOp a.eval o).run P w = .ok (.value v) w2 := by
 unfold execOp
 simp only [ho, resolve, invoke, builtin, Sem.run_bind, Sem.run_pure, Result.andThen_ok, List.map_toArray, List.map_cons, List.map_nil, hx, hr]
end
/-- An operation that yields no value, in a plain region. -/
theorem gw_skip {P : Program} {ops : Array Oper} {rest : List Oper} {o : Oper} {a : Act} {w : World} {Q : Exit → Act → World → Prop} (hw : Region.wanted o (yielded ops a.tmps) = true) (hd : o.dst = none) (w2 : World) (hr : (execOp a.eval o).run P w = .ok .skip w2) (k : wpList P ops Q rest a w2) : wpList P ops Q (o :: rest) a w := by
 apply wpList_step
 intro K hK
 rw [if_pos hw, Oper.wp, hr]
 refine hK _ _ ?_
 rw [hd]
 exact k
/-- The same in a region walked by its invariant. -/
theorem st_skip {P : Program} {ops : Array Oper} {i : Nat} {o : Oper} {a : Act} {w : World} {Q : Exit → Act → World → Prop} {K : Act → World → Prop} (hi : ops[i]? = some o) (hw : Region.wanted o (yielded ops a.tmps) = true) (hd : o.dst = none) (w2 : World) (hr : (execOp a.eval o).run P w = .ok .skip w2) (h : K a w2) : wpOp P ops Q i K a w := by
 refine st_of hi hw ?_
 rw [Oper.wp, hr]
 show K (a.put o.dst undef) w2
 rw [hd]
 exact h
theorem map_modify {α β : Type} (f : α → β) (g : α → α) (g' : β → β) (h : ∀ x, f (g x) = g' (f x)) : ∀ (l : List α) (i : Nat), (l.modify i g).map f = (l.map f).modify i g'
 | [], i => by cases i <;> rfl
 | x :: r, 0 => by simp [List.modify_cons, h]
 | x :: r, i + 1 => by simp [List.modify_cons, map_modify f g g' h r i]
theorem modify_get {α : Type} (l : List α) (i : Nat) (x : α) (g : α → α) (h : l[i]? = some x) : l.modify i g = l.set i (g x) := by
 apply List.ext_getElem?
 intro j
 rw [List.getElem?_modify, List.getElem?_set]
 by_cases hj : i = j
 ·subst hj
  obtain ⟨hl, hv⟩ := List.getElem?_eq_some_iff.1 h
  simp [hl, hv]
 ·simp [hj]
/-- A function with one value turned. -/
def updF (f : ByteArray → Option Value) (x : ByteArray) (v : Option Value) : ByteArray → Option Value := fun y => if y = x then v else f y
/-- The map at block B holds just these keys with these numbers. -/
def Mi (w : World) (B : Nat) (L : List (ByteArray × Value)) : Prop :=
 ∃ es clock, w.heap[B]? = some (.map es clock) ∧ es.toList.map (fun e => (e.key, e.val)) = L.map (fun x => (Value.string x.1, x.2)) ∧ MapKept.Stamped es clock
/-- Where a key is, and its number. -/
def fndI (x : ByteArray) : List (ByteArray × Value) → Nat → Option (Nat × Value)
 | [], _ => none
 | p :: r, i => if p.1 = x then some (i, p.2) else fndI x r (i + 1)
theorem fndI_some {x : ByteArray} : ∀ {L : List (ByteArray × Value)} {i j : Nat} {v : Value}, fndI x L i = some (j, v) → ∃ k, j = i + k ∧ k < L.length ∧ L[k]? = some (x, v)
 | [], i, j, v, h => by cases h
 | p :: r, i, j, v, h => by
  unfold fndI at h
  by_cases hp : p.1 = x
  ·rw [if_pos hp] at h
   simp only [Option.some.injEq, Prod.mk.injEq] at h
   exact ⟨0, by omega, by simp, by simp [← hp, ← h.2]⟩
  ·rw [if_neg hp] at h
   obtain ⟨k, h1, h2, h3⟩ := fndI_some h
   exact ⟨k + 1, by omega, by simpa using h2, by simpa using h3⟩
theorem fndI_none {x : ByteArray} : ∀ {L : List (ByteArray × Value)} {i : Nat}, fndI x L i = none ↔ ∀ p ∈ L, p.1 ≠ x
 | [], i => by simp [fndI]
 | p :: r, i => by
  unfold fndI
  by_cases hp : p.1 = x
  ·simp [hp]
  ·rw [if_neg hp, fndI_none]
   simp [hp]
def lkI (L : List (ByteArray × Value)) (x : ByteArray) : Option Value := (fndI x L 0).map (·.2)
theorem fnd_shift (x : ByteArray) : ∀ (L : List (ByteArray × Value)) (i j : Nat), (fndI x L i).map (·.2) = (fndI x L j).map (·.2)
 | [], i, j => rfl
 | p :: r, i, j => by
  unfold fndI
  split
  ·rfl
  ·exact fnd_shift x r _ _
theorem lkI_cons (p : ByteArray × Value) (r : List (ByteArray × Value)) (x : ByteArray) : lkI (p :: r) x = if p.1 = x then some p.2 else lkI r x := by
 unfold lkI
 rw [fndI]
 split
 ·rfl
 ·exact fnd_shift x r _ _
theorem lkI_app (x : ByteArray) (p : ByteArray × Value) : ∀ (L : List (ByteArray × Value)), (∀ q ∈ L, q.1 ≠ p.1) → lkI (L ++ [p]) x = if x = p.1 then some p.2 else lkI L x
 | [], _ => by
  rw [List.nil_append, lkI_cons]
  by_cases h : p.1 = x
  ·rw [if_pos h, if_pos h.symm]
  ·rw [if_neg h, if_neg (fun e => h e.symm)]
 | q :: r, hq => by
  have h1 := hq q (by simp)
  rw [List.cons_append, lkI_cons, lkI_app x p r (fun z hz => hq z (by simp [hz])), lkI_cons]
  by_cases h : q.1 = x
  ·rw [if_pos h, if_neg (fun e => h1 (h.trans e)), if_pos h]
  ·rw [if_neg h, if_neg h]
theorem lkI_set (x k : ByteArray) (v u : Value) : ∀ (L : List (ByteArray × Value)) (j : Nat), L[j]? = some (k, u) → (L.map (·.1)).Nodup → lkI (L.set j (k, v)) x = if x = k then some v else lkI L x
 | [], j, h, _ => by simp at h
 | p :: r, 0, h, hn => by
  simp only [List.getElem?_cons_zero, Option.some.injEq] at h
  subst h
  rw [List.set_cons_zero, lkI_cons, lkI_cons]
  by_cases h : k = x
  ·rw [if_pos h, if_pos h.symm]
  ·rw [if_neg h, if_neg (fun e => h e.symm), if_neg h]
 | p :: r, j + 1, h, hn => by
  rw [List.getElem?_cons_succ] at h
  rw [List.map_cons, List.nodup_cons] at hn
  have hpk : p.1 ≠ k := fun e => hn.1 (by rw [e]; exact List.mem_map.2 ⟨(k, u), List.mem_of_getElem? h, rfl⟩)
  rw [List.set_cons_succ, lkI_cons, lkI_set x k v u r j h hn.2, lkI_cons]
  by_cases h1 : p.1 = x
  ·rw [if_pos h1, if_neg (fun e => hpk (h1.trans e)), if_pos h1]
  ·rw [if_neg h1, if_neg h1]
theorem lkI_none {L : List (ByteArray × Value)} {x : ByteArray} (h : ∀ p ∈ L, p.1 ≠ x) : lkI L x = none := by
 unfold lkI
 rw [fndI_none.2 h]
 rfl
theorem lkI_del (x k : ByteArray) (u : Value) : ∀ (L : List (ByteArray × Value)) (j : Nat), L[j]? = some (k, u) → (L.map (·.1)).Nodup → lkI (L.eraseIdx j) x = if x = k then none else lkI L x
 | [], j, h, _ => by simp at h
 | p :: r, 0, h, hn => by
  simp only [List.getElem?_cons_zero, Option.some.injEq] at h
  subst h
  rw [List.map_cons, List.nodup_cons] at hn
  rw [List.eraseIdx_cons_zero, lkI_cons]
  by_cases h : k = x
  ·rw [if_pos h.symm]
   exact lkI_none fun q hq e => hn.1 (List.mem_map.2 ⟨q, hq, e.trans h.symm⟩)
  ·rw [if_neg (fun e => h e.symm), if_neg h]
 | p :: r, j + 1, h, hn => by
  rw [List.getElem?_cons_succ] at h
  rw [List.map_cons, List.nodup_cons] at hn
  have hpk : p.1 ≠ k := fun e => hn.1 (by rw [e]; exact List.mem_map.2 ⟨(k, u), List.mem_of_getElem? h, rfl⟩)
  rw [List.eraseIdx_cons_succ, lkI_cons, lkI_del x k u r j h hn.2, lkI_cons]
  by_cases h1 : p.1 = x
  ·rw [if_pos h1, if_neg (fun e => hpk (h1.trans e)), if_pos h1]
  ·rw [if_neg h1, if_neg h1]
theorem check_int (w : World) (b : Bool) (x : ByteArray) : (Instr.checkKey b 10000 9 (.string x)).run Tryd.prog w = .ok () w := by
 rw [show (10000 : Nat) = 9999 + 1 from rfl, Instr.checkKey]
 simp [run_underlying Tryd.underlying9]
theorem find_now (x : ByteArray) : ∀ (es : List MapEntry) (L : List (ByteArray × Value)) (i : Nat), es.map (fun e => (e.key, e.val)) = L.map (fun x => (Value.string x.1, x.2)) →
  Instr.findNow .string (.string x) es i = some ((fndI x L i).map fun p => (p.1, p.2))
 | [], [], i, _ => by simp [Instr.findNow, fndI]
 | [], _ :: _, i, h => by simp at h
 | _ :: _, [], i, h => by simp at h
 | e :: es, p :: L, i, h => by
  simp only [List.map_cons, List.cons.injEq, Prod.mk.injEq] at h
  obtain ⟨⟨h1, h2⟩, h3⟩ := h
  have ih := find_now x es L (i + 1) h3
  unfold fndI
  rw [Instr.findNow, h1]
  simp only [Instr.sameNow]
  by_cases hx : p.1 = x
  ·have : (x == p.1) = true := by rw [beqB]; exact decide_eq_true hx.symm
   simp [hx, h2, str_self]
  ·have : (x == p.1) = false := by rw [beqB]; exact decide_eq_false fun h => hx h.symm
   simp [this, hx, ih]
theorem find_int (w : World) (x : ByteArray) (es : List MapEntry) (L : List (ByteArray × Value)) (h : es.map (fun e => (e.key, e.val)) = L.map (fun x => (Value.string x.1, x.2))) :
  (Instr.findKey 9 (.string x) es).run Tryd.prog w = .ok ((fndI x L 0).map fun p => (p.1, p.2)) w := by
 simp [Instr.findKey, run_underlying Tryd.underlying9, find_now x es L 0 h]
/-- What a look-up yields. -/
def lkV (o : Option Value) (b : Bool) : Value :=
 match o with
 | some v => if b then .tuple #[v, .bool true] else v
 | none => if b then .tuple #[.bool false, .bool false] else .bool false
theorem mi_look {w : World} {B : Nat} {L : List (ByteArray × Value)} (h : Mi w B L) (x : ByteArray) (b : Bool) : (Instr.lookup 75 (.map (some B)) (.string x) b).run Tryd.prog w = .ok (lkV (lkI L x) b) w := by
 obtain ⟨es, c, hb, he, hst9⟩ := h
 have hu : (Go.underlying 75).run Tryd.prog w = .ok (.map 9 4) w := run_underlying (by kernel_rfl) w
 have hz : (zeroValue 4).run Tryd.prog w = .ok (.bool false) w := by kernel_rfl
 have hr := find_int w x es.toList L he
 unfold lkV lkI
 cases hf : fndI x L 0 with
 | none =>
  rw [hf] at hr
  cases b <;> simp [Instr.lookup, hu, MapKept.run_getObj_map hb, check_int w _ x, hr, hz, Result.andThen]
 | some p =>
  rw [hf] at hr
  cases b <;> simp [Instr.lookup, hu, MapKept.run_getObj_map hb, check_int w _ x, hr, hz, Result.andThen]
theorem mi_put {w : World} {B : Nat} {L : List (ByteArray × Value)} (h : Mi w B L) (x : ByteArray) (v : Value) (hn : fndI x L 0 = none) :
  ∃ w', (Instr.mapUpdate 75 (.map (some B)) (.string x) v).run Tryd.prog w = .ok () w' ∧ Mi w' B (L ++ [(x, v)]) ∧ w'.heap.size = w.heap.size ∧ w.grownBy w' (some B) := by
 obtain ⟨es, c, hb, he, hst9⟩ := h
 have hu : (Go.underlying 75).run Tryd.prog w = .ok (.map 9 4) w := run_underlying (by kernel_rfl) w
 have hr := find_int w x es.toList L he
 rw [hn] at hr
 have hlt : B < w.heap.size := (Array.getElem?_eq_some_iff.1 hb).1
 refine ⟨{ w with heap := w.heap.setIfInBounds B (.map (es.push { key := .string x, val := v, born := c }) (c + 1)) },
  by simp [Instr.mapUpdate, hu, MapKept.run_getObj_map hb, check_int w _ x, hr, MapKept.run_setObj_map _ hb, Result.andThen], ⟨es.push { key := .string x, val := v, born := c }, c + 1, by simp [hlt], by simp [he], MapKept.stamped_push hst9 fun y hy e => ?_⟩, by simp, rfl, rfl, rfl, by simp, fun i _ hi => ?_⟩
 ·have hm : (y.key, y.val) ∈ L.map (fun x => (Value.string x.1, x.2)) := by rw [← he]; exact List.mem_map.2 ⟨y, hy, rfl⟩
  obtain ⟨q, hq, hq2⟩ := List.mem_map.1 hm
  have h3 := congrArg Prod.fst hq2
  simp only [e, Value.string.injEq] at h3
  exact fndI_none.1 hn q hq h3
 ·have hne : B ≠ i := fun e => hi (by rw [e])
  simp [Array.getElem?_setIfInBounds_ne hne]
theorem mi_set {w : World} {B : Nat} {L : List (ByteArray × Value)} (h : Mi w B L) (x : ByteArray) (v u : Value) (j : Nat) (hn : fndI x L 0 = some (j, u)) :
  ∃ w', (Instr.mapUpdate 75 (.map (some B)) (.string x) v).run Tryd.prog w = .ok () w' ∧ Mi w' B (L.set j (x, v)) ∧ w'.heap.size = w.heap.size ∧ w.grownBy w' (some B) := by
 obtain ⟨es, c, hb, he, hst9⟩ := h
 have hu : (Go.underlying 75).run Tryd.prog w = .ok (.map 9 4) w := run_underlying (by kernel_rfl) w
 have hr := find_int w x es.toList L he
 rw [hn] at hr
 have hlt : B < w.heap.size := (Array.getElem?_eq_some_iff.1 hb).1
 obtain ⟨k, hj, hkl, hg⟩ := fndI_some hn
 obtain rfl : j = k := by omega
 have hlen : es.size = L.length := by
  have := congrArg List.length he
  simpa using this
 have hes : j < es.size := by omega
 have hkey : es[j].key = .string x := by
  have h1 := congrArg (fun l => l[j]?) he
  simp only [List.getElem?_map, hg, Array.getElem?_toList, Array.getElem?_eq_getElem hes, Option.map_some, Option.some.injEq, Prod.mk.injEq] at h1
  exact h1.1
 have hsb : Instr.sameBits 10000 (.string x) (.string x) = true := by
  rw [show (10000 : Nat) = 9999 + 1 from rfl]
  simp [Instr.sameBits, str_self]
 have hst : (Instr.keyThatStays (((es[j]?).map (·.key)).getD (.string x)) (.string x)).run Tryd.prog w = .ok (.string x) w := by
  simp only [Array.getElem?_eq_getElem hes, Option.map_some, Option.getD_some, hkey, Instr.keyThatStays, hsb, if_true]
  rfl
 refine ⟨{ w with heap := w.heap.setIfInBounds B (.map (es.modify j fun e => { e with key := .string x, val := v }) c) },
  by simp only [Instr.mapUpdate, Sem.run_bind, hu, MapKept.run_getObj_map hb, check_int w _ x, hr, Option.map_some, hst, MapKept.run_setObj_map _ hb, Result.andThen], ⟨es.modify j fun e => { e with key := .string x, val := v }, c, by simp [hlt], ?_, MapKept.stamped_modify hst9 j _ (fun _ _ => rfl) fun e _ he2 => by rw [Array.getElem?_eq_getElem hes] at he2; cases he2; exact hkey.symm⟩, by simp, rfl, rfl, rfl, by simp, fun i _ hi => ?_⟩
 ·rw [Array.toList_modify, map_modify (fun e : MapEntry => (e.key, e.val)) _ (fun _ => (Value.string x, v)) (fun _ => rfl), he,
   modify_get _ j (Value.string x, u) _ (by simp [hg]), List.map_set]
 ·have hne : B ≠ i := fun e => hi (by rw [e])
  simp [Array.getElem?_setIfInBounds_ne hne]
theorem map_eraseI {α β : Type} (f : α → β) : ∀ (l : List α) (i : Nat), (l.eraseIdx i).map f = (l.map f).eraseIdx i
 | [], i => by simp
 | x :: r, 0 => by simp
 | x :: r, i + 1 => by simp [map_eraseI f r i]
theorem mi_del {w : World} {B : Nat} {L : List (ByteArray × Value)} (h : Mi w B L) (x : ByteArray) (ty : TypeId) :
  ∃ w', (Builtin.delete_ #[75, 9] ty #[.map (some B), .string x]).run Tryd.prog w = .ok (.tuple #[]) w' ∧ Mi w' B (match fndI x L 0 with | some (j, _) => L.eraseIdx j | none => L) ∧ w'.heap.size = w.heap.size ∧ w.grownBy w' (some B) := by
 obtain ⟨es, c, hb, he, hst9⟩ := h
 have hu : (Go.underlying 75).run Tryd.prog w = .ok (.map 9 4) w := run_underlying (by kernel_rfl) w
 have hr := find_int w x es.toList L he
 have hlt : B < w.heap.size := (Array.getElem?_eq_some_iff.1 hb).1
 have hg : ∀ o : Obj, w.grownBy { w with heap := w.heap.setIfInBounds B o } (some B) := fun o => ⟨rfl, rfl, rfl, by simp, fun i _ hi => by
  have hne : B ≠ i := fun e => hi (by rw [e])
  simp [Array.getElem?_setIfInBounds_ne hne]⟩
 cases hf : fndI x L 0 with
 | none =>
  rw [hf] at hr
  exact ⟨{ w with heap := w.heap.setIfInBounds B (.map es c) }, by simp [Builtin.delete_, hu, MapKept.run_getObj_map hb, check_int w _ x, hr, MapKept.run_setObj_map _ hb, Result.andThen], ⟨es, c, by simp [hlt], he, hst9⟩, by simp, hg _⟩
 | some p =>
  rw [hf] at hr
  obtain ⟨k, hj, hkl, -⟩ := fndI_some (show fndI x L 0 = some (p.1, p.2) from hf)
  have hlen : es.size = L.length := by
   have := congrArg List.length he
   simpa using this
  refine ⟨{ w with heap := w.heap.setIfInBounds B (.map (es.eraseIdxIfInBounds p.1) c) }, by simp [Builtin.delete_, hu, MapKept.run_getObj_map hb, check_int w _ x, hr, MapKept.run_setObj_map _ hb, Result.andThen], ⟨es.eraseIdxIfInBounds p.1, c, by simp [hlt], ?_, MapKept.stamped_erase hst9 _⟩, by simp, hg _⟩
  have hin : p.1 < es.size := by omega
  show (es.eraseIdxIfInBounds p.1).toList.map _ = (L.eraseIdx p.1).map _
  rw [Array.eraseIdxIfInBounds, dif_pos hin, Array.toList_eraseIdx, map_eraseI, he, map_eraseI]
/-- THE MAP AS A FUNCTION. -/
def Mf (w : World) (B : Nat) (f : ByteArray → Option Value) : Prop := ∃ L, Mi w B L ∧ (L.map (·.1)).Nodup ∧ ∀ x, lkI L x = f x
theorem Mf.lt {w : World} {B : Nat} {f : ByteArray → Option Value} (h : Mf w B f) : B < w.heap.size := by
 obtain ⟨L, ⟨es, c, h1, -⟩, -⟩ := h
 exact (Array.getElem?_eq_some_iff.1 h1).1
theorem Mf.same {w w' : World} {B : Nat} {f : ByteArray → Option Value} (h : Mf w B f) (hs : w'.heap[B]? = w.heap[B]?) : Mf w' B f := by
 obtain ⟨L, ⟨es, c, h1, h2⟩, h3⟩ := h
 exact ⟨L, ⟨es, c, hs.trans h1, h2⟩, h3⟩
theorem Mf.new (w : World) : Mf (w.alloc (.map #[] 0)) w.heap.size fun _ => none := ⟨[], ⟨#[], 0, heap_alloc_last w _, rfl, MapKept.stamped_empty 0⟩, by simp, fun _ => rfl⟩
theorem Mf.look {w : World} {B : Nat} {f : ByteArray → Option Value} (h : Mf w B f) (x : ByteArray) (b : Bool) : (Instr.lookup 75 (.map (some B)) (.string x) b).run Tryd.prog w = .ok (lkV (f x) b) w := by
 obtain ⟨L, h1, -, h3⟩ := h
 rw [← h3 x]
 exact mi_look h1 x b
theorem Mf.put {w : World} {B : Nat} {f : ByteArray → Option Value} (h : Mf w B f) (x : ByteArray) (v : Value) :
  ∃ w', (Instr.mapUpdate 75 (.map (some B)) (.string x) v).run Tryd.prog w = .ok () w' ∧ Mf w' B (updF f x (some v)) ∧ w'.heap.size = w.heap.size ∧ w.grownBy w' (some B) := by
 obtain ⟨L, h1, h2, h3⟩ := h
 cases hf : fndI x L 0 with
 | none =>
  have hno := fndI_none.1 hf
  obtain ⟨w', hr, hm, hz, hg⟩ := mi_put h1 x v hf
  refine ⟨w', hr, ⟨_, hm, ?_, fun y => ?_⟩, hz, hg⟩
  ·rw [List.map_append, List.nodup_append]
   refine ⟨h2, by simp, fun a ha b hb e => ?_⟩
   obtain ⟨q, hq, rfl⟩ := List.mem_map.1 ha
   simp only [List.map_cons, List.map_nil, List.mem_singleton] at hb
   exact hno q hq (e.trans hb)
  ·rw [lkI_app y (x, v) L hno, h3 y]
   rfl
 | some p =>
  obtain ⟨w', hr, hm, hz, hg⟩ := mi_set h1 x v p.2 p.1 hf
  obtain ⟨k, hj, hkl, hgt⟩ := fndI_some (show fndI x L 0 = some (p.1, p.2) from hf)
  have hk : p.1 = k := by omega
  rw [← hk] at hgt
  refine ⟨w', hr, ⟨_, hm, ?_, fun y => ?_⟩, hz, hg⟩
  ·have e : (L.set p.1 (x, v)).map (·.1) = L.map (·.1) := by
    rw [List.map_set]
    apply List.ext_getElem?
    intro i
    rw [List.getElem?_set]
    by_cases hi : p.1 = i
    ·subst hi
     simp [hgt]
     omega
    ·rw [if_neg hi]
   rw [e]
   exact h2
  ·rw [lkI_set y x v p.2 L p.1 hgt h2, h3 y]
   rfl
theorem Mf.del {w : World} {B : Nat} {f : ByteArray → Option Value} (h : Mf w B f) (x : ByteArray) (ty : TypeId) :
  ∃ w', (Builtin.delete_ #[75, 9] ty #[.map (some B), .string x]).run Tryd.prog w = .ok (.tuple #[]) w' ∧ Mf w' B (updF f x none) ∧ w'.heap.size = w.heap.size ∧ w.grownBy w' (some B) := by
 obtain ⟨L, h1, h2, h3⟩ := h
 obtain ⟨w', hr, hm, hz, hg⟩ := mi_del h1 x ty
 refine ⟨w', hr, ?_, hz, hg⟩
 cases hf : fndI x L 0 with
 | none =>
  rw [hf] at hm
  refine ⟨L, hm, h2, fun y => ?_⟩
  rw [h3 y]
  unfold updF
  by_cases e : y = x
  ·rw [if_pos e, e, ← h3 x]
   exact lkI_none (fndI_none.1 hf)
  ·rw [if_neg e]
 | some p =>
  rw [hf] at hm
  obtain ⟨k, hj, hkl, hgt⟩ := fndI_some (show fndI x L 0 = some (p.1, p.2) from hf)
  have hk : p.1 = k := by omega
  rw [← hk] at hgt
  refine ⟨_, hm, ?_, fun y => ?_⟩
  ·rw [map_eraseI]
   exact h2.sublist (List.eraseIdx_sublist _ _)
  ·rw [lkI_del y x p.2 L p.1 hgt h2, h3 y]
   rfl
end Go.Proofs.YtplfineaomneiaaDoor
