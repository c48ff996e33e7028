/-
  The contract of Write.
-/
import Derived.Test.YtgkckblcekbafaaSK5
import Derived.Test.YtgkckblcekbafaaSQC
namespace Go.Proofs.Ytgkckblcekbafaa
set_option maxRecDepth 100000
open Go.RowKit

theorem digs_block (H Bl X : List Int) (n u : Nat) (hH : H.length = 8) (hB : Bl.length = 64) (hu : u + X.length ≤ 64) :
    ((digs H Bl n).take (8 + u) ++ (X.map (Value.int .u8) ++ (digs H Bl n).drop (8 + u + X.length))) = digs H (Bl.take u ++ (X ++ Bl.drop (u + X.length))) n := by
  have h8 : (H.map (Value.int .u32)).length = 8 := by simp [hH]
  simp only [digs]
  rw [List.take_append, List.drop_append, h8]
  rw [List.take_of_length_le (by omega), List.drop_eq_nil_of_le (by omega : (H.map (Value.int .u32)).length ≤ 8 + u + X.length)]
  rw [show 8 + u - 8 = u by omega, show 8 + u + X.length - 8 = u + X.length by omega]
  rw [List.take_append_of_le_length (by simp; omega), List.drop_append_of_le_length (by simp; omega)]
  simp [List.append_assoc]

theorem But.setCells {g : Nat} : ∀ (vs : List Value) (o : Nat) (w : World), But g w (w.setCells g o vs)
  | [], _, w => But.refl g w
  | v :: r, o, w => (But.setCell w o v).trans (But.setCells r (o + 1) _)
/-- A load yields v. -/
theorem wpQ_load {P : Program} {C : World → Prop} {ops : Array Oper} {Q : Act → Prop} {a : Act} {o : Oper} {rest : List Oper} (hgd : o.guard = none) (ty : TypeId) (x : Operand) (ho : o.op = .load ty x) (ad : Addr) (v : Value)
    (hx : a.eval x = .pointer (some ad)) (hl : ∀ w, C w → (Instr.loadAt ty (.pointer (some ad))).run P w = .ok v w) (h : wpQuiet P ops C Q rest (a.put o.dst v)) : wpQuiet P ops C Q (o :: rest) a := by
  refine wpQ_val hgd v (fun w hC => ?_) h
  unfold execOp
  simp only [ho, hx, Sem.run_bind, hl w hC]
  rfl

end Go.Proofs.Ytgkckblcekbafaa
