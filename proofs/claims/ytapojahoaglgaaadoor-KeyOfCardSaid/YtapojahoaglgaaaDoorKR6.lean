/-
  For the reference's Distinct: what it returns, and the laws that its drawn region wants.
-/
import Derived.Test.YtapojahoaglgaaaDoorKR5
namespace Go.Proofs.YtapojahoaglgaaaDoor
open Go.RowKit

theorem wp_region_class {P : Program} {id : Nat} {Q : Exit → Act → World → Prop} {a : Act} {w : World} {l : List Oper} (C : World → Prop) (hm : P.follows .mixedOrders = true) (hB : Region.lexB .any l.toArray = true) (hC : C { w with drawn := w.drawn + 1 })
    (h : wpQuiet P l.toArray C (fun a' => ∀ w', C w' → Q .normal a' w') l a) : (Code.region id l.toArray true).wp P Q a w :=
  wp_region_quiet (C := C) hm hB hC (by simpa using h)
theorem Ab.range {w : World} {g t : Nat} {L : List Int} (h : Ab w g t L) : w.rangeAt g 0 (L.map (Value.int .u8)) := fun j v hv => by
  rw [cell_of_row w g _ _ t (0, 0) h]
  simpa using hv
theorem Rk.take {w : World} {al : Option Addr} {Ks : List (List Int)} (h : Rk w al Ks) (n : Nat) : Rk w al (Ks.take n) := fun i hi => by
  have hi' : i < Ks.length := by simp at hi; omega
  obtain ⟨b, off, e, hb, hr, hl⟩ := h i hi'
  have q : (Ks.take n).getD i [] = Ks.getD i [] := by
    simp only [List.getD]
    rw [List.getElem?_take_of_lt (by simp at hi; omega)]
  exact ⟨b, off, e, hb, by rw [q]; exact hr, by rw [q]; exact hl⟩
theorem keys_to (a : Option Addr) (n c k : Nat) (w : World) (h : k ≤ c) : (Instr.slice 36 (.slice a n c) none (some (.int .i64 (k : Int))) none).run Tryd.prog w = .ok (.slice a k c) w := by
  have hs : (sizeOf (Tryd.prog.elem 36)).run Tryd.prog w = .ok 32 w := by kernel_rfl
  have e := run_slice_h (P := Tryd.prog) w 36 a n c (by kernel_rfl) .i64 (k : Int) (by omega) (by omega)
  rw [e, hs]
  cases a <;> simp [sliced, Result.andThen, Addr.add]
theorem distL_no (Ks : List (List Int)) (i n : Nat) (h : i < n) (hh : hasL (Ks.getD i []) (Ks.take i) = true) : distL Ks n = false := by
  unfold distL
  rw [List.all_eq_false]
  exact ⟨i, List.mem_range.2 h, by rw [hh]; decide⟩
theorem distL_next (Ks : List (List Int)) (i : Nat) (h : distL Ks i = true) (hh : hasL (Ks.getD i []) (Ks.take i) = false) : distL Ks (i + 1) = true := by
  unfold distL at h ⊢
  rw [List.range_succ, List.all_append, h]
  simp only [List.all_cons, List.all_nil, hh]
  rfl
/-- 'l[:h]' yields v. -/
theorem wpQ_slice_to {P : Program} {C : World → Prop} {ops : Array Oper} {Q : Act → Prop} {a : Act} {op : Oper} {rest : List Oper} (hgd : op.guard = none) (ty : TypeId) (x h : Operand) (ho : op.op = .slice ty x none (some h) none)
    (vx vh v : Value) (hx : a.eval x = vx) (hh : a.eval h = vh) (hs : ∀ w, C w → (Instr.sliceAt ty vx none (some vh) none).run P w = .ok v w)
    (hK : wpQuiet P ops C Q rest (a.put op.dst v)) : wpQuiet P ops C Q (op :: rest) a := by
  refine wpQ_val hgd v (fun w hC => ?_) hK
  unfold execOp
  simp only [ho, hx, hh, Option.map_some, Option.map_none, Sem.run_bind, hs w hC]
  rfl

end Go.Proofs.YtapojahoaglgaaaDoor
