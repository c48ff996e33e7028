/-
 The walk of ConfigFormats.
-/
import Derived.Test.YtplfineaomneiaaGreatDoorPZ
namespace Go.Proofs.YtplfineaomneiaaGreatDoor
open Go.RowKit
set_option maxRecDepth 100000
set_option linter.unusedSimpArgs false
set_option linter.unusedVariables false

theorem flat_len {k : Nat} : ∀ ls : List (List Int), (∀ l ∈ ls, l.length ≤ k) → (joinL ls).length ≤ (k + 1) * ls.length
 | [], _ => Nat.zero_le _
 | l :: r, h => by
  have h1 := h l (by simp)
  have h2 := flat_len (k := k) r (fun x hx => h x (by simp [hx]))
  have e : joinL (l :: r) = l ++ 10 :: joinL r := by unfold joinL; simp
  rw [e, List.length_append, List.length_cons, List.length_cons, Nat.mul_succ]
  omega
section
variable {c : List Int}
theorem line_facts (h : valL c = 0) (h9 : 0 ≤ c.getD 9 0 ∧ c.getD 9 0 ≤ 18446744073709551615) {i : Nat} (hi : i < 12) : (lineL c i).length ≤ 33 ∧ ∀ x ∈ lineL c i, W8 x := by
 have hr := inR_rng hi (valL_inR h h9 hi)
 have hk := keys_tok _ (keys_mem i hi)
 have hkl : (keysL.getD i []).length ≤ 12 := by
  have q : ∀ j, j < 12 → (keysL.getD j []).length ≤ 12 := by decide
  exact q i hi
 have hd := plain_dec (c.getD i 0) hr.1
 have hdl := decI_len hr.1 hr.2
 unfold lineL
 refine ⟨by rw [List.length_append, List.length_cons]; omega, fun x hx => ?_⟩
 rcases List.mem_append.1 hx with hx | hx
 ·have := hk.2 x hx; exact ⟨by omega, by omega⟩
 ·rcases List.mem_cons.1 hx with rfl | hx
  ·exact ⟨by omega, by omega⟩
  ·have := hd.1 x hx; exact ⟨by omega, by omega⟩
theorem fmt_w8 (h : valL c = 0) (h9 : 0 ≤ c.getD 9 0 ∧ c.getD 9 0 ≤ 18446744073709551615) : ∀ x, x ∈ fmtL c → W8 x := fun x hx => by
 unfold fmtL joinL at hx
 rw [List.mem_flatten] at hx
 obtain ⟨l, hl, hx⟩ := hx
 rw [List.mem_map] at hl
 obtain ⟨l2, hl2, rfl⟩ := hl
 rw [List.mem_map] at hl2
 obtain ⟨i, hi, rfl⟩ := hl2
 rcases List.mem_append.1 hx with hx | hx
 ·exact (line_facts h h9 (List.mem_range.1 hi)).2 x hx
 ·rw [List.mem_singleton] at hx
  subst hx
  exact ⟨by omega, by omega⟩
theorem fmt_len (h : valL c = 0) (h9 : 0 ≤ c.getD 9 0 ∧ c.getD 9 0 ≤ 18446744073709551615) : (fmtL c).length ≤ 408 := by
 unfold fmtL
 refine Nat.le_trans (flat_len (k := 33) _ fun l hl => ?_) (by rw [List.length_map, List.length_range]; exact Nat.le_refl _)
 rw [List.mem_map] at hl
 obtain ⟨i, hi, rfl⟩ := hl
 exact (line_facts h h9 (List.mem_range.1 hi)).1
theorem par_back (hc : CfOk c) (h : valL c = 0) : parV (nums (strOfNums (fmtL c))) = .tuple #[.agg (cfA c), .int .i64 0, .int .i64 0] := by
 obtain ⟨h1, -, h9a, h9b, -⟩ := hc
 have h9 : 0 ≤ c.getD 9 0 ∧ c.getD 9 0 ≤ 18446744073709551615 := ⟨h9a, by omega⟩
 rw [nums_str _ (fmt_w8 h h9)]
 unfold parV
 rw [par_fmt h1 h h9]
 rfl
end
end Go.Proofs.YtplfineaomneiaaGreatDoor
