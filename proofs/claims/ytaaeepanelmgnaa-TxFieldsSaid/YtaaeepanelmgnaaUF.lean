/-
  The reference's number: contract.
-/
import Derived.Test.YtaaeepanelmgnaaUG
import Derived.Test.YtaaeepanelmgnaaUV
namespace Go.Proofs.Ytaaeepanelmgnaa
open Go.RowKit
set_option linter.unusedSimpArgs false
set_option linter.unusedVariables false

/-- A row of fields of the call's own is one longer, or the same. -/
def FldO (w : World) (B : Nat) (ps : List (Fld × Value)) (X : List Fld) (e : Ending) (w' : World) : Prop := ∃ v qs, e = .returned v ∧ qs.map Prod.fst = ps.map Prod.fst ++ X ∧ RowB w' B v qs ∧ Below B w w'
theorem build_fd (x : Fld) (b : Option Addr) (d : Nat) (V : World) : (Instr.buildSlice 50 1 #[(0, .agg (fdA x b d))]).run Try.prog V = .ok (.slice (some ⟨V.heap.size, 0, none⟩) 1 1) (V.alloc (.cells (fdA x b d) 54)) := by
  obtain ⟨i0, hi, hz0, hz1, hz2⟩ := info_parts info25
  refine run_buildSlice V 50 54 1 _ (fdA x b d) i0 _ Try.underlying50 hi hz0 (by rw [hz1]; omega) (by rw [hz1]; omega) ?_
  rw [hz1]
  kernel_rfl
/-- A field is appended to a row of the call's own. -/
theorem grow_fd {w : World} {B : Nat} {v : Value} {ps : List (Fld × Value)} (h : RowB w B v ps) (hB : B ≤ w.heap.size) (x : Fld) (b : Option Addr) (d : Nat) (hx : Own w B (.slice b x.bytes.length d) x.bytes) (hl : ps.length ≤ 100000) :
    ∃ v2 V2, (Builtin.append_ #[50, 50] 50 #[v, .slice (some ⟨w.heap.size, 0, none⟩) 1 1]).run Try.prog (w.alloc (.cells (fdA x b d) 54)) = .ok v2 V2 ∧ RowB V2 B v2 (ps ++ [(x, .slice b x.bytes.length d)]) ∧ Below B w V2 := by
  have hO := World.ownsRow.alloc h.1 (.cells (fdA x b d) 54)
  have hc : Cs (w.alloc (.cells (fdA x b d) 54)) (some ⟨w.heap.size, 0, none⟩) (cellsOf (x, .slice b x.bytes.length d)) := Cs.block (t := 54) (fr := (0, 0)) (heap_alloc_last w _)
  obtain ⟨v2, V2, hr, hO2, hb, hg⟩ := append_cs (P := Try.prog) (t := 50) (m := 1) Try.underlying50 info25 (by kernel_rfl) (by omega) (by omega) hO (some ⟨w.heap.size, 0, none⟩) 1 (cellsOf (x, .slice b x.bytes.length d)) hc rfl (cells_one hx) (by simp; omega) hl (by omega)
  exact ⟨v2, V2, hr, RowB.step h hx hO2 hg, ((Below.refl _ w).alloc hB _).trans hb⟩
set_option maxRecDepth 100000 in
set_option maxHeartbeats 8000000 in
theorem ref_number (v : Value) (ps : List (Fld × Value)) (B : Nat) (k val : Int) (w : World) (h : RowB w B v ps) (hB : B ≤ w.heap.size) (hl : ps.length ≤ 100000) :
    Calls Try.prog 38 #[v, .int .i64 k, .int .u64 val] w (FldO w B ps (if val = 0 then [] else [⟨k, 0, val, []⟩])) := by
  by_cases h0 : val = 0
  · rw [if_pos h0]
    have HE := Lib.hid (⟨v, ps, rfl, by simp, h, Below.refl _ _⟩ : FldO w B ps [] (.returned v) w)
    clear h
    go_enter Try.func38, Try.ntmps38
    go_upto_region 1 with fail
    apply wp_region_lit
    refine gw_val (by kernel_rfl) (some 7) rfl (.int .u64 val) (by kernel_rfl) ?_
    simp only [pu1, pu2, pu3, pu4]
    refine gw_val (by kernel_rfl) (some 8) rfl (.bool true) (eql_u0 rfl val (decide_eq_true h0) (by kernel_rfl) (by kernel_rfl) _) ?_
    simp only [pu1, pu2, pu3, pu4]
    apply wpList_nil
    go_upto_region 2 with fail
    apply wp_region_lit
    refine gw_val (by kernel_rfl) (some 9) rfl (v) (by kernel_rfl) ?_
    simp only [pu1, pu2, pu3, pu4]
    refine gw_val (by kernel_rfl) (some 6) rfl (v) (by kernel_rfl) ?_
    simp only [pu1, pu2, pu3, pu4]
    apply wpList_nil
    go_wp2_with fail
    go_ret
    exact HE.out
  · rw [if_neg h0]
    obtain ⟨v2, V2, hap, hr2, hb2⟩ := grow_fd h hB ⟨k, 0, val, []⟩ none 0 (Own.nil w B) hl
    have HE := Lib.hid (⟨v2, _, rfl, by simp, hr2, hb2⟩ : FldO w B ps [⟨k, 0, val, []⟩] (.returned v2) V2)
    clear h hr2 hb2
    go_enter Try.func38, Try.ntmps38
    go_upto_region 1 with fail
    apply wp_region_lit
    refine gw_val (by kernel_rfl) (some 7) rfl (.int .u64 val) (by kernel_rfl) ?_
    simp only [pu1, pu2, pu3, pu4]
    refine gw_val (by kernel_rfl) (some 8) rfl (.bool false) (eql_u0 rfl val (decide_eq_false h0) (by kernel_rfl) (by kernel_rfl) _) ?_
    simp only [pu1, pu2, pu3, pu4]
    apply wpList_nil
    go_upto_region 3 with fail
    apply wp_region_lit
    refine gw_val (by kernel_rfl) (some 10) rfl (v) (by kernel_rfl) ?_
    simp only [pu1, pu2, pu3, pu4]
    refine gw_val (by kernel_rfl) (some 11) rfl (.int .i64 k) (by kernel_rfl) ?_
    simp only [pu1, pu2, pu3, pu4]
    refine gw_val (by kernel_rfl) (some 12) rfl (.int .u64 val) (by kernel_rfl) ?_
    simp only [pu1, pu2, pu3, pu4]
    refine gw_val (by kernel_rfl) (some 13) rfl (.agg (fdA (⟨k, 0, val, []⟩ : Fld) none 0)) (by kernel_rfl) ?_
    simp only [pu1, pu2, pu3, pu4]
    refine gw_build (by kernel_rfl) (some 14) rfl 50 1 #[(0, .tmp 13)] rfl #[(0, .agg (fdA (⟨k, 0, val, []⟩ : Fld) none 0))] (by kernel_rfl) (.slice (some ⟨w.heap.size, 0, none⟩) 1 1) _ (build_fd (⟨k, 0, val, []⟩ : Fld) none 0 w) ?_
    simp only [pu1, pu2, pu3, pu4]
    refine append_step rfl (some 15) rfl 50 rfl (.tmp 10) (.tmp 14) 50 rfl (v) (.slice (some ⟨w.heap.size, 0, none⟩) 1 1) (v2) V2 (by kernel_rfl) (by kernel_rfl) hap ?_
    simp only [pu1, pu2, pu3, pu4]
    refine gw_val (by kernel_rfl) (some 6) rfl (v2) (by kernel_rfl) ?_
    simp only [pu1, pu2, pu3, pu4]
    apply wpList_nil
    clear hap
    go_wp2_with fail
    go_ret
    exact HE.out
end Go.Proofs.Ytaaeepanelmgnaa
