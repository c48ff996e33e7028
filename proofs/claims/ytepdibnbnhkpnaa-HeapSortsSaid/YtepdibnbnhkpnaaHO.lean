/-
  The program's compare and Before, the reference's Before.
-/
import Derived.Test.YtepdibnbnhkpnaaHF
namespace Go.Proofs.Ytepdibnbnhkpnaa
open Go.RowKit
set_option linter.unusedSimpArgs false
set_option linter.unusedVariables false

def fnz : List Int → Int
  | [] => 0
  | x :: r => if x = 0 then fnz r else x
theorem ne_i {ρ : Operand → Value} {o : Oper} {x y : Operand} (ho : o.op = .binOp .neq 3 x y 3) (a b : Int) (hx : ρ x = .int .i64 a) (hy : ρ y = .int .i64 b) (w : World) : (execOp ρ o).run Try.prog w = .ok (.value (.bool (a != b))) w := by
  unfold execOp
  simp only [ho, hx, hy]
  go_simp
theorem lss_i {ρ : Operand → Value} {o : Oper} {x y : Operand} (ho : o.op = .binOp .lss 3 x y 3) (a b : Int) (hx : ρ x = .int .i64 a) (hy : ρ y = .int .i64 b) (w : World) : (execOp ρ o).run Try.prog w = .ok (.value (.bool (decide (a < b)))) w := by
  unfold execOp
  simp only [ho, hx, hy]
  go_simp
theorem eq_i {ρ : Operand → Value} {o : Oper} {x y : Operand} (ho : o.op = .binOp .eql 3 x y 3) (a b : Int) (hx : ρ x = .int .i64 a) (hy : ρ y = .int .i64 b) (w : World) : (execOp ρ o).run Try.prog w = .ok (.value (.bool (decide (a = b)))) w := by
  unfold execOp
  simp only [ho, hx, hy]
  go_simp
  rw [Bool.eq_iff_iff]
  simp
theorem fnz_at (L : List Int) (k : Nat) (h : k < L.length) : fnz (L.drop k) = if L.getD k 0 = 0 then fnz (L.drop (k + 1)) else L.getD k 0 := by
  rw [List.drop_eq_getElem_cons h, getD_lt L k 0 h]
  rfl
set_option maxRecDepth 100000 in
set_option maxHeartbeats 2000000 in
theorem or_any (L : List Int) (g c : Nat) (w : World) (hl : L.length ≤ 1000) (hX : Cs w (some ⟨g, 0, none⟩) (icells L)) : Calls Try.prog 30 #[.slice (some ⟨g, 0, none⟩) L.length c] w fun e w' => e = .returned (.int .i64 (fnz L)) ∧ w = w' := by
  have HR := Lib.hid (show fnz (L.drop 0) = fnz L from rfl)
  have HC := Lib.hid hX
  generalize fnz L = R at *
  obtain ⟨n, hn⟩ : ∃ n, L.length = n := ⟨_, rfl⟩
  have HN := Lib.hid hn
  rw [hn] at hl ⊢
  clear hn hX
  go_enter Try.func30, Try.ntmps30
  go_wp2_with fail
  go_loopg [8] n (fun gg s8 wx => ∃ i : Nat, s8 = .int .i64 i ∧ i ≤ n ∧ Hid (fnz (L.drop i) = R) ∧ w = wx ∧ n - i = gg)
  case atStart => exact ⟨0, rfl, by omega, HR, rfl, rfl⟩
  case round =>
    obtain ⟨i, rfl, hi, hR, rfl, hg⟩ := hrel
    by_cases hlt : i < n
    · have hd : decide (i < n) = true := decide_eq_true hlt
      obtain ⟨b, off, e2, hbb, hrx⟩ := int_at HC.out (k := i) (by rw [HN.out]; exact hlt)
      simp only [Option.some.injEq, Addr.mk.injEq, and_true] at e2
      obtain ⟨rfl, rfl⟩ := e2
      have hR1 := hR.out
      rw [fnz_at L i (by rw [HN.out]; exact hlt)] at hR1
      rw [Nat.zero_add] at hrx
      generalize L.getD i 0 = x at *
      have HR1 := Lib.hid hR1
      have HG : Hid (n - (i + 1) = gk - 1 ∧ 0 < gk ∧ i + 1 ≤ n) := Lib.hid ⟨by omega, by omega, by omega⟩
      have HX := Lib.hid hrx
      clear hR1 hR hg hrx
      go_upto_region 3 with fail
      apply wp_region_lit
      refine gw_val (by kernel_rfl) (some 9) rfl (.bool (decide (i < n))) (lt_nat rfl i n (by kernel_rfl) (by kernel_rfl) _) ?_
      simp only [Act.put, List.setIfInBounds_toArray, List.set_cons_succ, List.set_cons_zero]
      rw [hd]
      apply wpList_nil
      go_upto_region 4 with fail
      apply wp_region_lit
      refine gw_val (by kernel_rfl) (some 10) rfl (.pointer (some ⟨g, 0 + i, none⟩)) (idx_int g 0 n c i hlt _ _ _ rfl (by kernel_rfl) (by kernel_rfl)) ?_
      simp only [Act.put, List.setIfInBounds_toArray, List.set_cons_succ, List.set_cons_zero]
      refine gw_load (by kernel_rfl) (some 11) rfl 3 (.tmp 10) rfl ⟨g, 0 + i, none⟩ (.int .i64 x) (by kernel_rfl) (load_cell (by rw [Nat.zero_add]; exact HX.out) (by kernel_rfl)) ?_
      simp only [Act.put, List.setIfInBounds_toArray, List.set_cons_succ, List.set_cons_zero]
      refine gw_val (by kernel_rfl) (some 5) rfl (.int .i64 x) (by kernel_rfl) ?_
      simp only [Act.put, List.setIfInBounds_toArray, List.set_cons_succ, List.set_cons_zero]
      apply wpList_nil
      by_cases hx0 : x = 0
      · have hR2 := HR1.out
        rw [if_pos hx0] at hR2
        have HR2 := Lib.hid hR2
        obtain rfl := hx0
        clear hR2 HR1 HX
        go_upto_region 5 with fail
        apply wp_region_lit
        refine gw_val (by kernel_rfl) (some 12) rfl (.int .i64 0) (by kernel_rfl) ?_
        simp only [Act.put, List.setIfInBounds_toArray, List.set_cons_succ, List.set_cons_zero]
        refine gw_val (by kernel_rfl) (some 13) rfl (.int .i64 0) (by kernel_rfl) ?_
        simp only [Act.put, List.setIfInBounds_toArray, List.set_cons_succ, List.set_cons_zero]
        refine gw_val (by kernel_rfl) (some 14) rfl (.bool false) (by kernel_rfl) ?_
        simp only [Act.put, List.setIfInBounds_toArray, List.set_cons_succ, List.set_cons_zero]
        apply wpList_nil
        go_upto_region 7 with fail
        apply wp_region_lit
        refine gw_val (by kernel_rfl) (some 16) rfl (.int .i64 (i + 1 : Nat)) (add_one rfl i (by omega) (by kernel_rfl) _) ?_
        simp only [Act.put, List.setIfInBounds_toArray, List.set_cons_succ, List.set_cons_zero]
        refine gw_val (by kernel_rfl) (some 8) rfl (.int .i64 (i + 1 : Nat)) (by kernel_rfl) ?_
        simp only [Act.put, List.setIfInBounds_toArray, List.set_cons_succ, List.set_cons_zero]
        apply wpList_nil
        go_wp2_with fail
        go_roundg (gk - 1)
        case measure => have := HG.out; omega
        case rel => exact ⟨i + 1, rfl, HG.out.2.2, HR2, rfl, HG.out.1⟩
      · have hR2 := HR1.out
        rw [if_neg hx0] at hR2
        have HR2 := Lib.hid hR2
        have HN0 : (x != 0) = true := by simpa using hx0
        clear hR2 HR1 HX
        go_upto_region 5 with fail
        apply wp_region_lit
        refine gw_val (by kernel_rfl) (some 12) rfl (.int .i64 x) (by kernel_rfl) ?_
        simp only [Act.put, List.setIfInBounds_toArray, List.set_cons_succ, List.set_cons_zero]
        refine gw_val (by kernel_rfl) (some 13) rfl (.int .i64 0) (by kernel_rfl) ?_
        simp only [Act.put, List.setIfInBounds_toArray, List.set_cons_succ, List.set_cons_zero]
        refine gw_val (by kernel_rfl) (some 14) rfl (.bool (x != 0)) (ne_i rfl x 0 (by kernel_rfl) (by kernel_rfl) _) ?_
        simp only [Act.put, List.setIfInBounds_toArray, List.set_cons_succ, List.set_cons_zero]
        rw [HN0]
        apply wpList_nil
        have HN1 := Lib.hid HN0
        have HN2 := Lib.hid hx0
        clear HN0 hx0
        go_upto_region 6 with fail
        apply wp_region_lit
        refine gw_val (by kernel_rfl) (some 15) rfl (.int .i64 x) (by kernel_rfl) ?_
        simp only [Act.put, List.setIfInBounds_toArray, List.set_cons_succ, List.set_cons_zero]
        refine gw_val (by kernel_rfl) (some 2) rfl (.int .i64 x) (by kernel_rfl) ?_
        simp only [Act.put, List.setIfInBounds_toArray, List.set_cons_succ, List.set_cons_zero]
        apply wpList_nil
        go_wp2_with fail
        go_ret
        exact ⟨by rw [HR2.out]; rfl, rfl⟩
    · have hd : decide (i < n) = false := decide_eq_false hlt
      have hR1 := hR.out
      rw [List.drop_eq_nil_of_le (by rw [HN.out]; omega)] at hR1
      have HR1 := Lib.hid hR1
      clear hR1 hR hg
      go_upto_region 3 with fail
      apply wp_region_lit
      refine gw_val (by kernel_rfl) (some 9) rfl (.bool (decide (i < n))) (lt_nat rfl i n (by kernel_rfl) (by kernel_rfl) _) ?_
      simp only [Act.put, List.setIfInBounds_toArray, List.set_cons_succ, List.set_cons_zero]
      rw [hd]
      apply wpList_nil
      go_upto_region 8 with fail
      apply wp_region_lit
      refine gw_val (by kernel_rfl) (some 17) rfl (.int .i64 0) (by kernel_rfl) ?_
      simp only [Act.put, List.setIfInBounds_toArray, List.set_cons_succ, List.set_cons_zero]
      refine gw_val (by kernel_rfl) (some 2) rfl (.int .i64 0) (by kernel_rfl) ?_
      simp only [Act.put, List.setIfInBounds_toArray, List.set_cons_succ, List.set_cons_zero]
      apply wpList_nil
      go_wp2_with fail
      go_ret
      exact ⟨by rw [← HR1.out]; rfl, rfl⟩
end Go.Proofs.Ytepdibnbnhkpnaa
