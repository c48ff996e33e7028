/-
  Guarded operations, one at a time: in a plain region, and in a region that draws its order.
-/
import Derived.Test.YtapojahoaglgaaaDoorKC10
namespace Go.Proofs.YtapojahoaglgaaaDoor
open Go.RowKit
section
variable {P : Program} {ops : Array Oper} {rest : List Oper} {o : Oper} {a : Act} {w : World} {Q : Exit → Act → World → Prop}

theorem gw_val (hw : Region.wanted o (yielded ops a.tmps) = true) (d : Option Tmp) (hd : o.dst = d) (v : Value) (hr : (execOp a.eval o).run P w = .ok (.value v) w) (k : wpList P ops Q rest (a.put d v) w) : wpList P ops Q (o :: rest) a w := by
  rw [← hd] at k
  apply wpList_step
  intro K hK
  rw [if_pos hw, Oper.wp, hr, Oper.upon_value]
  exact hK _ _ k
theorem gw_new (hw : Region.wanted o (yielded ops a.tmps) = true) (d : Option Tmp) (hd : o.dst = d) (v : Value) (w2 : World) (hr : (execOp a.eval o).run P w = .ok (.value v) w2) (k : wpList P ops Q rest (a.put d v) w2) : wpList P ops Q (o :: rest) a w := by
  rw [← hd] at k
  apply wpList_step
  intro K hK
  rw [if_pos hw, Oper.wp, hr, Oper.upon_value]
  exact hK _ _ k
theorem gw_not (hw : Region.wanted o (yielded ops a.tmps) = false) (d : Option Tmp) (hd : o.dst = d) (k : wpList P ops Q rest (a.put d undef) w) : wpList P ops Q (o :: rest) a w := by
  rw [← hd] at k
  exact wpList_skip hw k
theorem gw_call (hw : Region.wanted o (yielded ops a.tmps) = true) (d : Option Tmp) (hd : o.dst = d) (f : FuncId) (args : Array Value) (v : Value) (S : World → Prop) (hr : (execOp a.eval o).run P w = .ok (.enter f args) w)
    (hc : Calls P f args w fun e w' => e = .returned v ∧ S w') (k : ∀ w', S w' → wpList P ops Q rest (a.put d v) w') : wpList P ops Q (o :: rest) a w := by
  rw [← hd] at k
  apply wpList_step
  intro K hK
  rw [if_pos hw, Oper.wp, hr]
  refine hc.mono ?_
  rintro e w' ⟨rfl, hS⟩
  exact hK _ _ (k w' hS)
theorem gw_load (hw : Region.wanted o (yielded ops a.tmps) = true) (d : Option Tmp) (hd : o.dst = d) (ty : TypeId) (x : Operand) (ho : o.op = .load ty x) (ad : Addr) (v : Value)
    (hx : a.eval x = .pointer (some ad)) (hl : (Instr.loadAt ty (.pointer (some ad))).run P w = .ok v w) (k : wpList P ops Q rest (a.put d v) w) : wpList P ops Q (o :: rest) a w := by
  refine gw_val hw d hd v ?_ k
  unfold execOp
  simp only [ho, hx, Sem.run_bind, hl]
  rfl
theorem gw_slice_to (hw : Region.wanted o (yielded ops a.tmps) = true) (d : Option Tmp) (hd : o.dst = d) (ty : TypeId) (x h : Operand) (ho : o.op = .slice ty x none (some h) none) (vx vh v : Value) (hx : a.eval x = vx) (hh : a.eval h = vh)
    (hs : (Instr.sliceAt ty vx none (some vh) none).run P w = .ok v w) (k : wpList P ops Q rest (a.put d v) w) : wpList P ops Q (o :: rest) a w := by
  refine gw_val hw d hd v ?_ k
  unfold execOp
  simp only [ho, hx, hh, Option.map_some, Option.map_none, Sem.run_bind, hs]
  rfl
theorem gw_build (hw : Region.wanted o (yielded ops a.tmps) = true) (d : Option Tmp) (hd : o.dst = d) (t : TypeId) (len : Nat) (parts : Array (Nat × Operand)) (ho : o.op = .buildSlice t len parts)
    (vs : Array (Nat × Value)) (hp : (parts.map fun (i, x) => (i, a.eval x)) = vs) (v : Value) (w2 : World) (hr : (Instr.buildSlice t len vs).run P w = .ok v w2) (k : wpList P ops Q rest (a.put d v) w2) : wpList P ops Q (o :: rest) a w := by
  refine gw_new hw d hd v w2 ?_ k
  unfold execOp
  simp only [ho, Sem.run_bind, hp, hr, Result.andThen_ok]
  rfl
end
section
variable {P : Program} {C : World → Prop} {ops : Array Oper} {Q : Act → Prop} {a : Act} {o : Oper} {rest : List Oper}

theorem gq_val (hw : Region.wanted o (yielded ops a.tmps) = true) (d : Option Tmp) (hd : o.dst = d) (v : Value) (hr : ∀ w, C w → (execOp a.eval o).run P w = .ok (.value v) w) (h : wpQuiet P ops C Q rest (a.put d v)) : wpQuiet P ops C Q (o :: rest) a := by
  rw [← hd] at h
  unfold wpQuiet
  rw [if_pos hw]
  refine ⟨v, fun w hC => ?_, h⟩
  unfold Oper.quietAt
  rw [hr w hC]
  exact ⟨rfl, rfl⟩
theorem gq_not (hw : Region.wanted o (yielded ops a.tmps) = false) (d : Option Tmp) (hd : o.dst = d) (h : wpQuiet P ops C Q rest (a.put d undef)) : wpQuiet P ops C Q (o :: rest) a := by
  rw [← hd] at h
  unfold wpQuiet
  rw [if_neg (by rw [hw]; decide)]
  exact h
theorem gq_call (hw : Region.wanted o (yielded ops a.tmps) = true) (d : Option Tmp) (hd : o.dst = d) (f : FuncId) (args : Array Value) (v : Value) (hr : ∀ w, C w → (execOp a.eval o).run P w = .ok (.enter f args) w)
    (hc : ∀ w, C w → Calls P f args w (fun e w'' => e = .returned v ∧ C w'')) (h : wpQuiet P ops C Q rest (a.put d v)) : wpQuiet P ops C Q (o :: rest) a := by
  rw [← hd] at h
  unfold wpQuiet
  rw [if_pos hw]
  refine ⟨v, fun w hC => ?_, h⟩
  unfold Oper.quietAt
  rw [hr w hC]
  exact ⟨rfl, hc w hC⟩
theorem gq_load (hw : Region.wanted o (yielded ops a.tmps) = true) (d : Option Tmp) (hd : o.dst = d) (ty : TypeId) (x : Operand) (ho : o.op = .load ty x) (ad : Addr) (v : Value)
    (hx : a.eval x = .pointer (some ad)) (hl : ∀ w, C w → (Instr.loadAt ty (.pointer (some ad))).run P w = .ok v w) (h : wpQuiet P ops C Q rest (a.put d v)) : wpQuiet P ops C Q (o :: rest) a := by
  refine gq_val hw d hd v (fun w hC => ?_) h
  unfold execOp
  simp only [ho, hx, Sem.run_bind, hl w hC]
  rfl
end
/-- A key in memory is loaded. -/
theorem load_key {w : World} {g t : Nat} {K : List Int} (h : Ab w g t K) (hK : K.length = 32) : (Instr.loadAt 25 (.pointer (some ⟨g, 0, none⟩))).run Tryd.prog w = .ok (.agg (w8s K)) w :=
  run_loadAt_mid w g 0 25 (K.map (Value.int .u8)) (.array 32 5) h.range (by kernel_rfl) rfl (by rw [List.length_map, hK]; kernel_rfl)
theorem key_guard25 : Tryd.prog.eqGuardType Tryd.prog.depth 25 = false := by kernel_rfl
/-- Two keys by == and by !=. -/
theorem eq_key {ρ : Operand → Value} {o : Oper} {x y : Operand} (ho : o.op = .binOp .eql 25 x y 25) (A B : List Int) (hA : A.length = 32) (hB : B.length = 32) (hx : ρ x = .agg (w8s A)) (hy : ρ y = .agg (w8s B)) (w : World) :
    (execOp ρ o).run Tryd.prog w = .ok (.value (.bool (A == B))) w := by
  have h1 := key_cmp A B hA hB w
  have h2 := key_guard25
  unfold execOp
  simp only [ho, hx, hy]
  simp [h1, h2, go_sem]
theorem ne_key {ρ : Operand → Value} {o : Oper} {x y : Operand} (ho : o.op = .binOp .neq 25 x y 25) (A B : List Int) (hA : A.length = 32) (hB : B.length = 32) (hx : ρ x = .agg (w8s A)) (hy : ρ y = .agg (w8s B)) (w : World) :
    (execOp ρ o).run Tryd.prog w = .ok (.value (.bool (!(A == B)))) w := by
  have h1 := key_cmp A B hA hB w
  have h2 := key_guard25
  unfold execOp
  simp only [ho, hx, hy]
  simp [h1, h2, go_sem]
end Go.Proofs.YtapojahoaglgaaaDoor
