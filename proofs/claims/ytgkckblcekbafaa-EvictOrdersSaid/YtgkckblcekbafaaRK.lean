/-
 The reference's Late and Gone: contracts.
-/
import Derived.Test.YtgkckblcekbafaaRG
namespace Go.Proofs.Ytgkckblcekbafaa
open Go.RowKit
set_option maxRecDepth 100000
set_option linter.unusedSimpArgs false
set_option linter.unusedVariables false

def late (now than lim : Int) : Bool := decide (0 < lim ∧ than < now ∧ lim < now - than)
theorem uw_sub {a b : Int} (ha : I64 a) (hb : I64 b) (h : b < a) : IntKind.u64.wrap (IntKind.u64.wrap a - IntKind.u64.wrap b) = a - b := by
 obtain ⟨h1, h2⟩ := ha
 obtain ⟨h3, h4⟩ := hb
 rw [IntKind.wrap_u64, IntKind.wrap_u64, IntKind.wrap_u64]
 omega
theorem uw_id {a : Int} (h : 0 ≤ a) (ha : I64 a) : IntKind.u64.wrap a = a := by
 obtain ⟨h1, h2⟩ := ha
 rw [IntKind.wrap_u64]
 omega
section
variable {ρ : Operand → Value} {o : Oper} {x y : Operand}
theorem cv6 (ho : o.op = .convert 3 33 x) (a : Int) (hx : ρ x = .int .i64 a) (w : World) : (execOp ρ o).run Try.prog w = .ok (.value (.int .u64 (IntKind.u64.wrap a))) w := by
 unfold execOp
 go_simp
theorem sb6 (ho : o.op = .binOp .sub 33 x y 33) (a b : Int) (hx : ρ x = .int .u64 a) (hy : ρ y = .int .u64 b) (w : World) : (execOp ρ o).run Try.prog w = .ok (.value (.int .u64 (IntKind.u64.wrap (a - b)))) w := by
 unfold execOp
 go_simp
theorem gt6 (ho : o.op = .binOp .gtr 33 x y 33) (a b : Int) {t : Bool} (ht : decide (b < a) = t) (hx : ρ x = .int .u64 a) (hy : ρ y = .int .u64 b) (w : World) : (execOp ρ o).run Try.prog w = .ok (.value (.bool t)) w := by
 rw [← ht]
 unfold execOp
 go_simp
end
theorem kcl_one (k : Nat → Int) : ∀ u ∈ kcl k, u.oneCell' = true := List.all_eq_true.1 (show (kcl k).all (·.oneCell') = true by kernel_rfl)
theorem kcl_len (k : Nat → Int) : (kcl k).length = 32 := rfl
def kys (L : List (Nat → Int)) : List Value := L.flatMap kcl
theorem kys_len (L : List (Nat → Int)) : (kys L).length = L.length * 32 := fl_len kcl kcl_len L
theorem kys_one (L : List (Nat → Int)) : ∀ u ∈ kys L, u.oneCell' = true := fl_one kcl kcl_one L
theorem kys_app (A B : List (Nat → Int)) : kys (A ++ B) = kys A ++ kys B := List.flatMap_append
theorem infoKy : (Try.prog.info? 47).map (fun i => (i.zero, i.size, i.bytes)) = some (some (.agg (kcA fun _ => 0)), 32, 32) := by kernel_rfl
theorem build_ky (k : Nat → Int) (V : World) : (Instr.buildSlice 39 1 #[(0, .agg (kcA k))]).run Try.prog V = .ok (.slice (some ⟨V.heap.size, 0, none⟩) 1 1) (V.alloc (.cells (kcA k) 47)) := by
 obtain ⟨i0, hi, hz0, hz1, hz2⟩ := info_parts infoKy
 refine run_buildSlice V 39 47 1 _ (kcA k) i0 _ Try.underlying39 hi hz0 (by rw [hz1]; omega) (by rw [hz1]; omega) ?_
 rw [hz1]
 kernel_rfl
/-- Keys in a row of the call's own. -/
def Rowky (w : World) (B : Nat) (v : Value) (L : List (Nat → Int)) : Prop := w.ownsRow B 47 32 v L.length (kys L)
theorem Rowky.below {w w' : World} {B : Nat} {v : Value} {L : List (Nat → Int)} (h : Rowky w B v L) (hb : Below w.heap.size w w') : Rowky w' B v L := own_below h hb
/-- One key more. -/
theorem grow_ky {w : World} {B : Nat} {v : Value} {A : List (Nat → Int)} (h : Rowky w B v A) (hB : B ≤ w.heap.size) (k : Nat → Int) (hl : A.length ≤ 100000) :
  ∃ v2 V2, (Builtin.append_ #[39, 39] 39 #[v, .slice (some ⟨w.heap.size, 0, none⟩) 1 1]).run Try.prog (w.alloc (.cells (kcA k) 47)) = .ok v2 V2 ∧ Rowky V2 B v2 (A ++ [k]) ∧ Below B w V2 := by
 have hb : Below w.heap.size w (w.alloc (.cells (kcA k) 47)) := (Below.refl _ w).alloc (Nat.le_refl _) _
 have hc : Cs (w.alloc (.cells (kcA k) 47)) (some ⟨w.heap.size, 0, none⟩) (kys [k]) := by
  have := Cs.block (cs := kcl k) (t := 47) (fr := (0, 0)) (heap_alloc_last w (.cells (kcA k) 47))
  unfold kys
  simpa using this
 obtain ⟨v2, V2, hr, hO, h3⟩ := app_at (P := Try.prog) (t := 39) (m := 1) Try.underlying39 infoKy (by kernel_rfl) (by omega) (by omega) (h.below hb) (some ⟨w.heap.size, 0, none⟩) 1 (kys [k]) hc (kys_len [k]) (kys_one [k]) (Nat.le_trans hB hb.size) hl (by omega)
 refine ⟨v2, V2, hr, ?_, (hb.mono hB).trans h3.1⟩
 unfold Rowky
 rw [kys_app, List.length_append]
 exact hO
def goneB (cf : List Int) (h t : Int) (e : En) : Bool := late h e.ht (cf.getD 4 0) || late t e.tm (cf.getD 5 0)
end Go.Proofs.Ytgkckblcekbafaa
