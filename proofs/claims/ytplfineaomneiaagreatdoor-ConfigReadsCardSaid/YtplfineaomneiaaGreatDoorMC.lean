/-
 The statements' changed: contract.
-/
import Derived.Test.YtplfineaomneiaaGreatDoorMK
namespace Go.Proofs.YtplfineaomneiaaGreatDoor
open Go.RowKit
set_option maxRecDepth 100000
set_option linter.unusedSimpArgs false
set_option linter.unusedVariables false

theorem setj {c : List Int} (hc : c.length = 12) (j : Nat) (hj : j < 12) (h6 : j ≠ 6) (h9 : j ≠ 9) (n : Int) : (cfA c).setIfInBounds j (.int .i64 n) = cfA (c.set j n) := by
 obtain ⟨x0, x1, x2, x3, x4, x5, x6, x7, x8, x9, x10, x11, rfl⟩ := cf_all hc
 match j, hj, h6, h9 with
 | 0, _, _, _ => rfl
 | 1, _, _, _ => rfl
 | 2, _, _, _ => rfl
 | 3, _, _, _ => rfl
 | 4, _, _, _ => rfl
 | 5, _, _, _ => rfl
 | 7, _, _, _ => rfl
 | 8, _, _, _ => rfl
 | 10, _, _, _ => rfl
 | 11, _, _, _ => rfl
theorem cf_set {c : List Int} (hc : CfOk c) {j : Nat} (hj : j < 12) (h6 : j ≠ 6) {n : Int} (hn : (j = 9 → 0 ≤ n ∧ n < 18446744073709551616) ∧ (j ≠ 9 → -9223372036854775808 ≤ n ∧ n < 9223372036854775808)) : CfOk (c.set j n) := by
 obtain ⟨h1, h6a, h9a, h9b, hI⟩ := hc
 have g1 : ∀ k, (c.set j n).getD k 0 = if j = k then n else c.getD k 0 := fun k => by
  by_cases e : j = k
  ·subst e
   rw [if_pos rfl, getD_set_eq _ _ _ _ (by rw [h1]; exact hj)]
  ·rw [if_neg e, getD_set_ne _ _ _ _ _ e]
 refine ⟨by rw [List.length_set]; exact h1, ?_, ?_, ?_, ?_⟩
 ·rw [g1, if_neg h6]; exact h6a
 ·rw [g1]; split
  ·rename_i e; exact (hn.1 e).1
  ·exact h9a
 ·rw [g1]; split
  ·rename_i e; exact (hn.1 e).2
  ·exact h9b
 ·intro k hk hk9
  rw [g1]; split
  ·rename_i e; exact hn.2 (by omega)
  ·exact hI k hk hk9
/-- Numbers from a slice. -/
def FrO (w : World) (a : Option Addr) (c : Nat) (L : List Int) (v : Value) (w' : World) : Prop := ∃ g, v = .pointer (some ⟨g, 0, none⟩) ∧ Nm w' g a c L 0 ∧ w.heap.size ≤ g ∧ Below w.heap.size w w'
theorem mk_fromN {w : World} {a : Option Addr} {c : Nat} {L : List Int} (h : Cs w a (icells L)) : Calls Tryz.prog 8 #[.slice a L.length c] w fun e w' => ∃ v, e = .returned v ∧ FrO w a c L v w' := (mk_from a L.length c w).mono fun e w' z => by
 obtain ⟨h1, h2⟩ := z
 have hb : Below w.heap.size w w' := by rw [h2]; exact (Below.refl _ w).alloc (Nat.le_refl _) _
 refine ⟨_, h1, w.heap.size, rfl, ⟨by rw [h2]; exact heap_alloc_last w _, h.below hb, fun hne x hx => ?_⟩, Nat.le_refl _, hb⟩
 obtain ⟨b, off, e2, hb, -⟩ := h 0 _ (icells_at L 0 (List.length_pos_iff.2 hne))
 rw [hx] at e2; cases e2; exact hb
/-- A made configuration, with what was there kept. -/
def MdO (w : World) (g : Nat) (a : Option Addr) (c : Nat) (L : List Int) (v : Value) (w' : World) : Prop := ∃ cf N2, v = .agg (cfA cf) ∧ MadeC cf ∧ N2 ≤ 14 ∧ Nm w' g a c L N2 ∧ But g w w'
theorem mk_configN {w : World} {g c : Nat} {a : Option Addr} {L : List Int} (h : Nm w g a c L 0) (hl : L.length ≤ 100000) : Calls Tryz.prog 7 #[.pointer (some ⟨g, 0, none⟩)] w fun e w' => ∃ v, e = .returned v ∧ MdO w g a c L v w' := (mk_config h hl (by omega)).mono fun e w' z => by
 obtain ⟨cf, N2, h1, h2, h3, h4, h5⟩ := z
 exact ⟨_, h1, cf, N2, rfl, h2, by omega, h4, h5⟩
/-- Some good configuration. -/
def CfO (w : World) (v : Value) (w' : World) : Prop := ∃ cf, v = .agg (cfA cf) ∧ CfOk cf ∧ Below w.heap.size w w'
theorem cv_ww {ρ : Operand → Value} {o : Oper} {x : Operand} (ho : o.op = .convert 3 28 x) (a : Int) (hx : ρ x = .int .i64 a) (w : World) : (execOp ρ o).run Tryz.prog w = .ok (.value (.int .u64 (IntKind.u64.wrap a))) w := by
 unfold execOp
 go_simp
end Go.Proofs.YtplfineaomneiaaGreatDoor
