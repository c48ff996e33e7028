/-
  The reference's follow and Rune: contracts.
-/
import Derived.Test.YtaaeepanelmgnaaUM
namespace Go.Proofs.Ytaaeepanelmgnaa
open Go.RowKit
set_option linter.unusedSimpArgs false
set_option linter.unusedVariables false

set_option maxRecDepth 100000 in
set_option maxHeartbeats 8000000 in
theorem ref_follow (s : ByteArray) (k : Nat) (w : World) : Calls Try.prog 59 #[.string s, .int .i64 k] w fun e w' => e = .returned (.bool (fol (nums s) k)) ∧ w = w' := by
  have HIX := Lib.hid (fun (h : k < s.size) => str_at s k h)
  have HV : Hid (fol (nums s) k = (decide (k < s.size) && (decide (128 ≤ (nums s).getD k 0) && decide ((nums s).getD k 0 < 192)))) := Lib.hid (by unfold fol; rw [nums_len])
  generalize fol (nums s) k = t at *
  generalize (nums s).getD k 0 = c at *
  obtain ⟨n, hn⟩ : ∃ n, s.size = n := ⟨_, rfl⟩
  rw [hn] at HIX HV
  go_enter Try.func59, Try.ntmps59
  go_upto_region 1 with fail
  rcases (show n ≤ k ∨ (k < n ∧ c < 128) ∨ (k < n ∧ 128 ≤ c ∧ c < 192) ∨ (k < n ∧ 192 ≤ c) by omega) with hc | hc | hc | hc
  · have H8 : Hid (decide ((k : Int) < (n : Int)) = false) := Lib.hid (decide_eq_false (by omega))
    have HE : Hid (t = false) := Lib.hid (by rw [HV.out]; rw [Bool.eq_false_iff]; simp only [ne_eq, Bool.and_eq_true, decide_eq_true_eq]; omega)
    clear HIX HV
    apply wp_region_lit
    refine gw_val (by kernel_rfl) (some 5) rfl (.int .i64 k) (by kernel_rfl) ?_
    simp only [pu1, pu2, pu3, pu4]
    refine gw_val (by kernel_rfl) (some 6) rfl (.string s) (by kernel_rfl) ?_
    simp only [pu1, pu2, pu3, pu4]
    refine gw_val (by kernel_rfl) (some 7) rfl (.int .i64 n) (by rw [← hn]; kernel_rfl) ?_
    simp only [pu1, pu2, pu3, pu4]
    refine gw_val (by kernel_rfl) (some 8) rfl (.bool false) (lss_n rfl k n H8.out (by kernel_rfl) (by kernel_rfl) _) ?_
    simp only [pu1, pu2, pu3, pu4]
    refine gw_val (by kernel_rfl) (some 9) rfl (.bool false) (by kernel_rfl) ?_
    simp only [pu1, pu2, pu3, pu4]
    with_reducible refine gw_not (by kernel_rfl) (some 10) rfl ?_
    simp only [pu1, pu2, pu3, pu4]
    with_reducible refine gw_not (by kernel_rfl) (some 11) rfl ?_
    simp only [pu1, pu2, pu3, pu4]
    with_reducible refine gw_not (by kernel_rfl) (some 12) rfl ?_
    simp only [pu1, pu2, pu3, pu4]
    with_reducible refine gw_not (by kernel_rfl) (some 13) rfl ?_
    simp only [pu1, pu2, pu3, pu4]
    refine gw_val (by kernel_rfl) (some 14) rfl (.bool false) (by kernel_rfl) ?_
    simp only [pu1, pu2, pu3, pu4]
    refine gw_val (by kernel_rfl) (some 15) rfl (.bool false) (by kernel_rfl) ?_
    simp only [pu1, pu2, pu3, pu4]
    with_reducible refine gw_not (by kernel_rfl) (some 16) rfl ?_
    simp only [pu1, pu2, pu3, pu4]
    with_reducible refine gw_not (by kernel_rfl) (some 17) rfl ?_
    simp only [pu1, pu2, pu3, pu4]
    with_reducible refine gw_not (by kernel_rfl) (some 18) rfl ?_
    simp only [pu1, pu2, pu3, pu4]
    with_reducible refine gw_not (by kernel_rfl) (some 19) rfl ?_
    simp only [pu1, pu2, pu3, pu4]
    refine gw_val (by kernel_rfl) (some 20) rfl (.bool false) (by kernel_rfl) ?_
    simp only [pu1, pu2, pu3, pu4]
    refine gw_val (by kernel_rfl) (some 4) rfl (.bool false) (by kernel_rfl) ?_
    simp only [pu1, pu2, pu3, pu4]
    apply wpList_nil
    go_wp2_with fail
    go_ret
    rw [HE.out]
    exact ⟨rfl, rfl⟩
  · have H8 : Hid (decide ((k : Int) < (n : Int)) = true) := Lib.hid (decide_eq_true (by omega))
    have HE : Hid (t = false) := Lib.hid (by rw [HV.out]; rw [Bool.eq_false_iff]; simp only [ne_eq, Bool.and_eq_true, decide_eq_true_eq]; omega)
    have hix := HIX.out hc.1
    clear HIX HV
    apply wp_region_lit
    refine gw_val (by kernel_rfl) (some 5) rfl (.int .i64 k) (by kernel_rfl) ?_
    simp only [pu1, pu2, pu3, pu4]
    refine gw_val (by kernel_rfl) (some 6) rfl (.string s) (by kernel_rfl) ?_
    simp only [pu1, pu2, pu3, pu4]
    refine gw_val (by kernel_rfl) (some 7) rfl (.int .i64 n) (by rw [← hn]; kernel_rfl) ?_
    simp only [pu1, pu2, pu3, pu4]
    refine gw_val (by kernel_rfl) (some 8) rfl (.bool true) (lss_n rfl k n H8.out (by kernel_rfl) (by kernel_rfl) _) ?_
    simp only [pu1, pu2, pu3, pu4]
    refine gw_val (by kernel_rfl) (some 9) rfl (.bool true) (by kernel_rfl) ?_
    simp only [pu1, pu2, pu3, pu4]
    refine gw_val (by kernel_rfl) (some 10) rfl (.string s) (by kernel_rfl) ?_
    simp only [pu1, pu2, pu3, pu4]
    refine gw_val (by kernel_rfl) (some 11) rfl (.int .i64 k) (by kernel_rfl) ?_
    simp only [pu1, pu2, pu3, pu4]
    refine gw_val (by kernel_rfl) (some 12) rfl (.int .u8 c) (hix _ _ _ _ rfl (by kernel_rfl) (by kernel_rfl) _) ?_
    simp only [pu1, pu2, pu3, pu4]
    refine gw_val (by kernel_rfl) (some 13) rfl (.bool false) (geq_u rfl c 128 (decide_eq_false (by omega)) (by kernel_rfl) (by kernel_rfl) _) ?_
    simp only [pu1, pu2, pu3, pu4]
    refine gw_val (by kernel_rfl) (some 14) rfl (.bool false) (by kernel_rfl) ?_
    simp only [pu1, pu2, pu3, pu4]
    refine gw_val (by kernel_rfl) (some 15) rfl (.bool false) (by kernel_rfl) ?_
    simp only [pu1, pu2, pu3, pu4]
    with_reducible refine gw_not (by kernel_rfl) (some 16) rfl ?_
    simp only [pu1, pu2, pu3, pu4]
    with_reducible refine gw_not (by kernel_rfl) (some 17) rfl ?_
    simp only [pu1, pu2, pu3, pu4]
    with_reducible refine gw_not (by kernel_rfl) (some 18) rfl ?_
    simp only [pu1, pu2, pu3, pu4]
    with_reducible refine gw_not (by kernel_rfl) (some 19) rfl ?_
    simp only [pu1, pu2, pu3, pu4]
    refine gw_val (by kernel_rfl) (some 20) rfl (.bool false) (by kernel_rfl) ?_
    simp only [pu1, pu2, pu3, pu4]
    refine gw_val (by kernel_rfl) (some 4) rfl (.bool false) (by kernel_rfl) ?_
    simp only [pu1, pu2, pu3, pu4]
    apply wpList_nil
    go_wp2_with fail
    go_ret
    rw [HE.out]
    exact ⟨rfl, rfl⟩
  · have H8 : Hid (decide ((k : Int) < (n : Int)) = true) := Lib.hid (decide_eq_true (by omega))
    have HE : Hid (t = true) := Lib.hid (by rw [HV.out]; simp only [Bool.and_eq_true, decide_eq_true_eq]; omega)
    have hix := HIX.out hc.1
    clear HIX HV
    apply wp_region_lit
    refine gw_val (by kernel_rfl) (some 5) rfl (.int .i64 k) (by kernel_rfl) ?_
    simp only [pu1, pu2, pu3, pu4]
    refine gw_val (by kernel_rfl) (some 6) rfl (.string s) (by kernel_rfl) ?_
    simp only [pu1, pu2, pu3, pu4]
    refine gw_val (by kernel_rfl) (some 7) rfl (.int .i64 n) (by rw [← hn]; kernel_rfl) ?_
    simp only [pu1, pu2, pu3, pu4]
    refine gw_val (by kernel_rfl) (some 8) rfl (.bool true) (lss_n rfl k n H8.out (by kernel_rfl) (by kernel_rfl) _) ?_
    simp only [pu1, pu2, pu3, pu4]
    refine gw_val (by kernel_rfl) (some 9) rfl (.bool true) (by kernel_rfl) ?_
    simp only [pu1, pu2, pu3, pu4]
    refine gw_val (by kernel_rfl) (some 10) rfl (.string s) (by kernel_rfl) ?_
    simp only [pu1, pu2, pu3, pu4]
    refine gw_val (by kernel_rfl) (some 11) rfl (.int .i64 k) (by kernel_rfl) ?_
    simp only [pu1, pu2, pu3, pu4]
    refine gw_val (by kernel_rfl) (some 12) rfl (.int .u8 c) (hix _ _ _ _ rfl (by kernel_rfl) (by kernel_rfl) _) ?_
    simp only [pu1, pu2, pu3, pu4]
    refine gw_val (by kernel_rfl) (some 13) rfl (.bool true) (geq_u rfl c 128 (decide_eq_true (by omega)) (by kernel_rfl) (by kernel_rfl) _) ?_
    simp only [pu1, pu2, pu3, pu4]
    refine gw_val (by kernel_rfl) (some 14) rfl (.bool true) (by kernel_rfl) ?_
    simp only [pu1, pu2, pu3, pu4]
    refine gw_val (by kernel_rfl) (some 15) rfl (.bool true) (by kernel_rfl) ?_
    simp only [pu1, pu2, pu3, pu4]
    refine gw_val (by kernel_rfl) (some 16) rfl (.string s) (by kernel_rfl) ?_
    simp only [pu1, pu2, pu3, pu4]
    refine gw_val (by kernel_rfl) (some 17) rfl (.int .i64 k) (by kernel_rfl) ?_
    simp only [pu1, pu2, pu3, pu4]
    refine gw_val (by kernel_rfl) (some 18) rfl (.int .u8 c) (hix _ _ _ _ rfl (by kernel_rfl) (by kernel_rfl) _) ?_
    simp only [pu1, pu2, pu3, pu4]
    refine gw_val (by kernel_rfl) (some 19) rfl (.bool true) (lss_u rfl c 192 (decide_eq_true (by omega)) (by kernel_rfl) (by kernel_rfl) _) ?_
    simp only [pu1, pu2, pu3, pu4]
    refine gw_val (by kernel_rfl) (some 20) rfl (.bool true) (by kernel_rfl) ?_
    simp only [pu1, pu2, pu3, pu4]
    refine gw_val (by kernel_rfl) (some 4) rfl (.bool true) (by kernel_rfl) ?_
    simp only [pu1, pu2, pu3, pu4]
    apply wpList_nil
    go_wp2_with fail
    go_ret
    rw [HE.out]
    exact ⟨rfl, rfl⟩
  · have H8 : Hid (decide ((k : Int) < (n : Int)) = true) := Lib.hid (decide_eq_true (by omega))
    have HE : Hid (t = false) := Lib.hid (by rw [HV.out]; rw [Bool.eq_false_iff]; simp only [ne_eq, Bool.and_eq_true, decide_eq_true_eq]; omega)
    have hix := HIX.out hc.1
    clear HIX HV
    apply wp_region_lit
    refine gw_val (by kernel_rfl) (some 5) rfl (.int .i64 k) (by kernel_rfl) ?_
    simp only [pu1, pu2, pu3, pu4]
    refine gw_val (by kernel_rfl) (some 6) rfl (.string s) (by kernel_rfl) ?_
    simp only [pu1, pu2, pu3, pu4]
    refine gw_val (by kernel_rfl) (some 7) rfl (.int .i64 n) (by rw [← hn]; kernel_rfl) ?_
    simp only [pu1, pu2, pu3, pu4]
    refine gw_val (by kernel_rfl) (some 8) rfl (.bool true) (lss_n rfl k n H8.out (by kernel_rfl) (by kernel_rfl) _) ?_
    simp only [pu1, pu2, pu3, pu4]
    refine gw_val (by kernel_rfl) (some 9) rfl (.bool true) (by kernel_rfl) ?_
    simp only [pu1, pu2, pu3, pu4]
    refine gw_val (by kernel_rfl) (some 10) rfl (.string s) (by kernel_rfl) ?_
    simp only [pu1, pu2, pu3, pu4]
    refine gw_val (by kernel_rfl) (some 11) rfl (.int .i64 k) (by kernel_rfl) ?_
    simp only [pu1, pu2, pu3, pu4]
    refine gw_val (by kernel_rfl) (some 12) rfl (.int .u8 c) (hix _ _ _ _ rfl (by kernel_rfl) (by kernel_rfl) _) ?_
    simp only [pu1, pu2, pu3, pu4]
    refine gw_val (by kernel_rfl) (some 13) rfl (.bool true) (geq_u rfl c 128 (decide_eq_true (by omega)) (by kernel_rfl) (by kernel_rfl) _) ?_
    simp only [pu1, pu2, pu3, pu4]
    refine gw_val (by kernel_rfl) (some 14) rfl (.bool true) (by kernel_rfl) ?_
    simp only [pu1, pu2, pu3, pu4]
    refine gw_val (by kernel_rfl) (some 15) rfl (.bool true) (by kernel_rfl) ?_
    simp only [pu1, pu2, pu3, pu4]
    refine gw_val (by kernel_rfl) (some 16) rfl (.string s) (by kernel_rfl) ?_
    simp only [pu1, pu2, pu3, pu4]
    refine gw_val (by kernel_rfl) (some 17) rfl (.int .i64 k) (by kernel_rfl) ?_
    simp only [pu1, pu2, pu3, pu4]
    refine gw_val (by kernel_rfl) (some 18) rfl (.int .u8 c) (hix _ _ _ _ rfl (by kernel_rfl) (by kernel_rfl) _) ?_
    simp only [pu1, pu2, pu3, pu4]
    refine gw_val (by kernel_rfl) (some 19) rfl (.bool false) (lss_u rfl c 192 (decide_eq_false (by omega)) (by kernel_rfl) (by kernel_rfl) _) ?_
    simp only [pu1, pu2, pu3, pu4]
    refine gw_val (by kernel_rfl) (some 20) rfl (.bool false) (by kernel_rfl) ?_
    simp only [pu1, pu2, pu3, pu4]
    refine gw_val (by kernel_rfl) (some 4) rfl (.bool false) (by kernel_rfl) ?_
    simp only [pu1, pu2, pu3, pu4]
    apply wpList_nil
    go_wp2_with fail
    go_ret
    rw [HE.out]
    exact ⟨rfl, rfl⟩
set_option maxRecDepth 100000 in
set_option maxHeartbeats 8000000 in
theorem ref_rune (s : ByteArray) (i : Nat) (w : World) (hi : i < s.size) (hl : s.size ≤ 140737488355328) : Calls Try.prog 43 #[.string s, .int .i64 i] w fun e w' => e = .returned (.int .i64 (runK (nums s) i : Nat)) ∧ w = w' := by
  have hix := str_at s i hi
  have HI1 := Lib.hid (fun (h : fol (nums s) (i + 1) = true) => str_at s (i + 1) (by have := (fol_rng h).1; rwa [nums_len] at this))
  have CF1 := ref_follow s (i + 1) w
  have CF2 := ref_follow s (i + 2) w
  have CF3 := ref_follow s (i + 3) w
  have HV : Hid (runK (nums s) i = runN ((nums s).getD i 0) ((nums s).getD (i + 1) 0) (fol (nums s) (i + 1)) (fol (nums s) (i + 2)) (fol (nums s) (i + 3))) := Lib.hid rfl
  generalize runK (nums s) i = r at *
  generalize (nums s).getD i 0 = c at *
  generalize (nums s).getD (i + 1) 0 = d at *
  generalize fol (nums s) (i + 1) = f1 at *
  generalize fol (nums s) (i + 2) = f2 at *
  generalize fol (nums s) (i + 3) = f3 at *
  go_enter Try.func43, Try.ntmps43
  go_upto_region 1 with fail
  apply wp_region_lit
  refine gw_val (by kernel_rfl) (some 6) rfl (.string s) (by kernel_rfl) ?_
  simp only [pu1, pu2, pu3, pu4]
  refine gw_val (by kernel_rfl) (some 7) rfl (.int .i64 i) (by kernel_rfl) ?_
  simp only [pu1, pu2, pu3, pu4]
  refine gw_val (by kernel_rfl) (some 8) rfl (.int .u8 c) (hix _ _ _ _ rfl (by kernel_rfl) (by kernel_rfl) _) ?_
  simp only [pu1, pu2, pu3, pu4]
  refine gw_val (by kernel_rfl) (some 5) rfl (.int .u8 c) (by kernel_rfl) ?_
  simp only [pu1, pu2, pu3, pu4]
  apply wpList_nil
  clear hix
  go_upto_region 2 with fail
  rcases (show (c < 128) ∨ (128 ≤ c ∧ c < 194) ∨ (194 ≤ c ∧ c < 224) ∨ (224 ≤ c ∧ c < 240) ∨ (240 ≤ c ∧ c < 245) ∨ (245 ≤ c) by omega) with hc | hc | hc | hc | hc | hc
  · skip
    apply wp_region_lit
    refine gw_val (by kernel_rfl) (some 10) rfl (.int .u8 c) (by kernel_rfl) ?_
    simp only [pu1, pu2, pu3, pu4]
    refine gw_val (by kernel_rfl) (some 11) rfl (.bool true) (lss_u rfl c 128 (decide_eq_true (by omega)) (by kernel_rfl) (by kernel_rfl) _) ?_
    simp only [pu1, pu2, pu3, pu4]
    refine gw_val (by kernel_rfl) (some 9) rfl (.bool true) (by kernel_rfl) ?_
    simp only [pu1, pu2, pu3, pu4]
    apply wpList_nil
    have HE : Hid (r = 1) := by
      refine Lib.hid ?_
      rw [HV.out]
      unfold runN
      try simp only [and_true, and_false, false_and, true_and, if_false, if_true, eq_self, Bool.false_eq_true, reduceCtorEq]
      repeat' split
      all_goals (first | rfl | omega)
    go_upto_region 3 with fail
    apply wp_region_lit
    refine gw_val (by kernel_rfl) (some 4) rfl (.int .i64 1) (by kernel_rfl) ?_
    simp only [pu1, pu2, pu3, pu4]
    apply wpList_nil
    go_wp2_with fail
    go_ret
    rw [HE.out]
    exact ⟨rfl, rfl⟩
  · skip
    apply wp_region_lit
    refine gw_val (by kernel_rfl) (some 10) rfl (.int .u8 c) (by kernel_rfl) ?_
    simp only [pu1, pu2, pu3, pu4]
    refine gw_val (by kernel_rfl) (some 11) rfl (.bool false) (lss_u rfl c 128 (decide_eq_false (by omega)) (by kernel_rfl) (by kernel_rfl) _) ?_
    simp only [pu1, pu2, pu3, pu4]
    refine gw_val (by kernel_rfl) (some 9) rfl (.bool false) (by kernel_rfl) ?_
    simp only [pu1, pu2, pu3, pu4]
    apply wpList_nil
    go_upto_region 4 with fail
    apply wp_region_lit
    refine gw_val (by kernel_rfl) (some 13) rfl (.int .u8 c) (by kernel_rfl) ?_
    simp only [pu1, pu2, pu3, pu4]
    refine gw_val (by kernel_rfl) (some 14) rfl (.bool false) (geq_u rfl c 194 (decide_eq_false (by omega)) (by kernel_rfl) (by kernel_rfl) _) ?_
    simp only [pu1, pu2, pu3, pu4]
    refine gw_val (by kernel_rfl) (some 15) rfl (.bool false) (by kernel_rfl) ?_
    simp only [pu1, pu2, pu3, pu4]
    with_reducible refine gw_not (by kernel_rfl) (some 16) rfl ?_
    simp only [pu1, pu2, pu3, pu4]
    with_reducible refine gw_not (by kernel_rfl) (some 17) rfl ?_
    simp only [pu1, pu2, pu3, pu4]
    refine gw_val (by kernel_rfl) (some 18) rfl (.bool false) (by kernel_rfl) ?_
    simp only [pu1, pu2, pu3, pu4]
    refine gw_val (by kernel_rfl) (some 19) rfl (.bool false) (by kernel_rfl) ?_
    simp only [pu1, pu2, pu3, pu4]
    with_reducible refine gw_not (by kernel_rfl) (some 20) rfl ?_
    simp only [pu1, pu2, pu3, pu4]
    with_reducible refine gw_not (by kernel_rfl) (some 21) rfl ?_
    simp only [pu1, pu2, pu3, pu4]
    with_reducible refine gw_not (by kernel_rfl) (some 22) rfl ?_
    simp only [pu1, pu2, pu3, pu4]
    with_reducible refine gw_not (by kernel_rfl) (some 23) rfl ?_
    simp only [pu1, pu2, pu3, pu4]
    refine gw_val (by kernel_rfl) (some 24) rfl (.bool false) (by kernel_rfl) ?_
    simp only [pu1, pu2, pu3, pu4]
    refine gw_val (by kernel_rfl) (some 12) rfl (.bool false) (by kernel_rfl) ?_
    simp only [pu1, pu2, pu3, pu4]
    apply wpList_nil
    go_upto_region 6 with fail
    apply wp_region_lit
    refine gw_val (by kernel_rfl) (some 26) rfl (.int .u8 c) (by kernel_rfl) ?_
    simp only [pu1, pu2, pu3, pu4]
    refine gw_val (by kernel_rfl) (some 27) rfl (.bool false) (geq_u rfl c 224 (decide_eq_false (by omega)) (by kernel_rfl) (by kernel_rfl) _) ?_
    simp only [pu1, pu2, pu3, pu4]
    refine gw_val (by kernel_rfl) (some 28) rfl (.bool false) (by kernel_rfl) ?_
    simp only [pu1, pu2, pu3, pu4]
    with_reducible refine gw_not (by kernel_rfl) (some 29) rfl ?_
    simp only [pu1, pu2, pu3, pu4]
    with_reducible refine gw_not (by kernel_rfl) (some 30) rfl ?_
    simp only [pu1, pu2, pu3, pu4]
    refine gw_val (by kernel_rfl) (some 31) rfl (.bool false) (by kernel_rfl) ?_
    simp only [pu1, pu2, pu3, pu4]
    refine gw_val (by kernel_rfl) (some 32) rfl (.bool false) (by kernel_rfl) ?_
    simp only [pu1, pu2, pu3, pu4]
    with_reducible refine gw_not (by kernel_rfl) (some 33) rfl ?_
    simp only [pu1, pu2, pu3, pu4]
    with_reducible refine gw_not (by kernel_rfl) (some 34) rfl ?_
    simp only [pu1, pu2, pu3, pu4]
    with_reducible refine gw_not (by kernel_rfl) (some 35) rfl ?_
    simp only [pu1, pu2, pu3, pu4]
    with_reducible refine gw_not (by kernel_rfl) (some 36) rfl ?_
    simp only [pu1, pu2, pu3, pu4]
    refine gw_val (by kernel_rfl) (some 37) rfl (.bool false) (by kernel_rfl) ?_
    simp only [pu1, pu2, pu3, pu4]
    refine gw_val (by kernel_rfl) (some 38) rfl (.bool false) (by kernel_rfl) ?_
    simp only [pu1, pu2, pu3, pu4]
    with_reducible refine gw_not (by kernel_rfl) (some 39) rfl ?_
    simp only [pu1, pu2, pu3, pu4]
    with_reducible refine gw_not (by kernel_rfl) (some 40) rfl ?_
    simp only [pu1, pu2, pu3, pu4]
    with_reducible refine gw_not (by kernel_rfl) (some 41) rfl ?_
    simp only [pu1, pu2, pu3, pu4]
    with_reducible refine gw_not (by kernel_rfl) (some 42) rfl ?_
    simp only [pu1, pu2, pu3, pu4]
    refine gw_val (by kernel_rfl) (some 43) rfl (.bool false) (by kernel_rfl) ?_
    simp only [pu1, pu2, pu3, pu4]
    refine gw_val (by kernel_rfl) (some 25) rfl (.bool false) (by kernel_rfl) ?_
    simp only [pu1, pu2, pu3, pu4]
    apply wpList_nil
    go_upto_region 10 with fail
    apply wp_region_lit
    refine gw_val (by kernel_rfl) (some 65) rfl (.int .u8 c) (by kernel_rfl) ?_
    simp only [pu1, pu2, pu3, pu4]
    refine gw_val (by kernel_rfl) (some 66) rfl (.bool false) (geq_u rfl c 240 (decide_eq_false (by omega)) (by kernel_rfl) (by kernel_rfl) _) ?_
    simp only [pu1, pu2, pu3, pu4]
    refine gw_val (by kernel_rfl) (some 67) rfl (.bool false) (by kernel_rfl) ?_
    simp only [pu1, pu2, pu3, pu4]
    with_reducible refine gw_not (by kernel_rfl) (some 68) rfl ?_
    simp only [pu1, pu2, pu3, pu4]
    with_reducible refine gw_not (by kernel_rfl) (some 69) rfl ?_
    simp only [pu1, pu2, pu3, pu4]
    refine gw_val (by kernel_rfl) (some 70) rfl (.bool false) (by kernel_rfl) ?_
    simp only [pu1, pu2, pu3, pu4]
    refine gw_val (by kernel_rfl) (some 71) rfl (.bool false) (by kernel_rfl) ?_
    simp only [pu1, pu2, pu3, pu4]
    with_reducible refine gw_not (by kernel_rfl) (some 72) rfl ?_
    simp only [pu1, pu2, pu3, pu4]
    with_reducible refine gw_not (by kernel_rfl) (some 73) rfl ?_
    simp only [pu1, pu2, pu3, pu4]
    with_reducible refine gw_not (by kernel_rfl) (some 74) rfl ?_
    simp only [pu1, pu2, pu3, pu4]
    with_reducible refine gw_not (by kernel_rfl) (some 75) rfl ?_
    simp only [pu1, pu2, pu3, pu4]
    refine gw_val (by kernel_rfl) (some 76) rfl (.bool false) (by kernel_rfl) ?_
    simp only [pu1, pu2, pu3, pu4]
    refine gw_val (by kernel_rfl) (some 77) rfl (.bool false) (by kernel_rfl) ?_
    simp only [pu1, pu2, pu3, pu4]
    with_reducible refine gw_not (by kernel_rfl) (some 78) rfl ?_
    simp only [pu1, pu2, pu3, pu4]
    with_reducible refine gw_not (by kernel_rfl) (some 79) rfl ?_
    simp only [pu1, pu2, pu3, pu4]
    with_reducible refine gw_not (by kernel_rfl) (some 80) rfl ?_
    simp only [pu1, pu2, pu3, pu4]
    with_reducible refine gw_not (by kernel_rfl) (some 81) rfl ?_
    simp only [pu1, pu2, pu3, pu4]
    refine gw_val (by kernel_rfl) (some 82) rfl (.bool false) (by kernel_rfl) ?_
    simp only [pu1, pu2, pu3, pu4]
    refine gw_val (by kernel_rfl) (some 83) rfl (.bool false) (by kernel_rfl) ?_
    simp only [pu1, pu2, pu3, pu4]
    with_reducible refine gw_not (by kernel_rfl) (some 84) rfl ?_
    simp only [pu1, pu2, pu3, pu4]
    with_reducible refine gw_not (by kernel_rfl) (some 85) rfl ?_
    simp only [pu1, pu2, pu3, pu4]
    with_reducible refine gw_not (by kernel_rfl) (some 86) rfl ?_
    simp only [pu1, pu2, pu3, pu4]
    with_reducible refine gw_not (by kernel_rfl) (some 87) rfl ?_
    simp only [pu1, pu2, pu3, pu4]
    refine gw_val (by kernel_rfl) (some 88) rfl (.bool false) (by kernel_rfl) ?_
    simp only [pu1, pu2, pu3, pu4]
    refine gw_val (by kernel_rfl) (some 64) rfl (.bool false) (by kernel_rfl) ?_
    simp only [pu1, pu2, pu3, pu4]
    apply wpList_nil
    have HE : Hid (r = 0) := by
      refine Lib.hid ?_
      rw [HV.out]
      unfold runN
      try simp only [and_true, and_false, false_and, true_and, if_false, if_true, eq_self, Bool.false_eq_true, reduceCtorEq]
      repeat' split
      all_goals (first | rfl | omega)
    go_upto_region 14 with fail
    apply wp_region_lit
    refine gw_val (by kernel_rfl) (some 4) rfl (.int .i64 0) (by kernel_rfl) ?_
    simp only [pu1, pu2, pu3, pu4]
    apply wpList_nil
    go_wp2_with fail
    go_ret
    rw [HE.out]
    exact ⟨rfl, rfl⟩
  · skip
    apply wp_region_lit
    refine gw_val (by kernel_rfl) (some 10) rfl (.int .u8 c) (by kernel_rfl) ?_
    simp only [pu1, pu2, pu3, pu4]
    refine gw_val (by kernel_rfl) (some 11) rfl (.bool false) (lss_u rfl c 128 (decide_eq_false (by omega)) (by kernel_rfl) (by kernel_rfl) _) ?_
    simp only [pu1, pu2, pu3, pu4]
    refine gw_val (by kernel_rfl) (some 9) rfl (.bool false) (by kernel_rfl) ?_
    simp only [pu1, pu2, pu3, pu4]
    apply wpList_nil
    cases f1
    · skip
      go_upto_region 4 with fail
      apply wp_region_lit
      refine gw_val (by kernel_rfl) (some 13) rfl (.int .u8 c) (by kernel_rfl) ?_
      simp only [pu1, pu2, pu3, pu4]
      refine gw_val (by kernel_rfl) (some 14) rfl (.bool true) (geq_u rfl c 194 (decide_eq_true (by omega)) (by kernel_rfl) (by kernel_rfl) _) ?_
      simp only [pu1, pu2, pu3, pu4]
      refine gw_val (by kernel_rfl) (some 15) rfl (.bool true) (by kernel_rfl) ?_
      simp only [pu1, pu2, pu3, pu4]
      refine gw_val (by kernel_rfl) (some 16) rfl (.int .u8 c) (by kernel_rfl) ?_
      simp only [pu1, pu2, pu3, pu4]
      refine gw_val (by kernel_rfl) (some 17) rfl (.bool true) (lss_u rfl c 224 (decide_eq_true (by omega)) (by kernel_rfl) (by kernel_rfl) _) ?_
      simp only [pu1, pu2, pu3, pu4]
      refine gw_val (by kernel_rfl) (some 18) rfl (.bool true) (by kernel_rfl) ?_
      simp only [pu1, pu2, pu3, pu4]
      refine gw_val (by kernel_rfl) (some 19) rfl (.bool true) (by kernel_rfl) ?_
      simp only [pu1, pu2, pu3, pu4]
      refine gw_val (by kernel_rfl) (some 20) rfl (.string s) (by kernel_rfl) ?_
      simp only [pu1, pu2, pu3, pu4]
      refine gw_val (by kernel_rfl) (some 21) rfl (.int .i64 i) (by kernel_rfl) ?_
      simp only [pu1, pu2, pu3, pu4]
      refine gw_val (by kernel_rfl) (some 22) rfl (.int .i64 (i + 1 : Nat)) (add_nat rfl i 1 (by omega) (by kernel_rfl) (by kernel_rfl) _) ?_
      simp only [pu1, pu2, pu3, pu4]
      refine gw_call (by kernel_rfl) (some 23) rfl 59 #[.string s, .int .i64 (i + 1 : Nat)] (.bool false) (fun w' => w = w') (by kernel_rfl) CF1 (fun W hW => ?_)
      subst hW
      simp only [pu1, pu2, pu3, pu4]
      refine gw_val (by kernel_rfl) (some 24) rfl (.bool false) (by kernel_rfl) ?_
      simp only [pu1, pu2, pu3, pu4]
      refine gw_val (by kernel_rfl) (some 12) rfl (.bool false) (by kernel_rfl) ?_
      simp only [pu1, pu2, pu3, pu4]
      apply wpList_nil
      go_upto_region 6 with fail
      apply wp_region_lit
      refine gw_val (by kernel_rfl) (some 26) rfl (.int .u8 c) (by kernel_rfl) ?_
      simp only [pu1, pu2, pu3, pu4]
      refine gw_val (by kernel_rfl) (some 27) rfl (.bool false) (geq_u rfl c 224 (decide_eq_false (by omega)) (by kernel_rfl) (by kernel_rfl) _) ?_
      simp only [pu1, pu2, pu3, pu4]
      refine gw_val (by kernel_rfl) (some 28) rfl (.bool false) (by kernel_rfl) ?_
      simp only [pu1, pu2, pu3, pu4]
      with_reducible refine gw_not (by kernel_rfl) (some 29) rfl ?_
      simp only [pu1, pu2, pu3, pu4]
      with_reducible refine gw_not (by kernel_rfl) (some 30) rfl ?_
      simp only [pu1, pu2, pu3, pu4]
      refine gw_val (by kernel_rfl) (some 31) rfl (.bool false) (by kernel_rfl) ?_
      simp only [pu1, pu2, pu3, pu4]
      refine gw_val (by kernel_rfl) (some 32) rfl (.bool false) (by kernel_rfl) ?_
      simp only [pu1, pu2, pu3, pu4]
      with_reducible refine gw_not (by kernel_rfl) (some 33) rfl ?_
      simp only [pu1, pu2, pu3, pu4]
      with_reducible refine gw_not (by kernel_rfl) (some 34) rfl ?_
      simp only [pu1, pu2, pu3, pu4]
      with_reducible refine gw_not (by kernel_rfl) (some 35) rfl ?_
      simp only [pu1, pu2, pu3, pu4]
      with_reducible refine gw_not (by kernel_rfl) (some 36) rfl ?_
      simp only [pu1, pu2, pu3, pu4]
      refine gw_val (by kernel_rfl) (some 37) rfl (.bool false) (by kernel_rfl) ?_
      simp only [pu1, pu2, pu3, pu4]
      refine gw_val (by kernel_rfl) (some 38) rfl (.bool false) (by kernel_rfl) ?_
      simp only [pu1, pu2, pu3, pu4]
      with_reducible refine gw_not (by kernel_rfl) (some 39) rfl ?_
      simp only [pu1, pu2, pu3, pu4]
      with_reducible refine gw_not (by kernel_rfl) (some 40) rfl ?_
      simp only [pu1, pu2, pu3, pu4]
      with_reducible refine gw_not (by kernel_rfl) (some 41) rfl ?_
      simp only [pu1, pu2, pu3, pu4]
      with_reducible refine gw_not (by kernel_rfl) (some 42) rfl ?_
      simp only [pu1, pu2, pu3, pu4]
      refine gw_val (by kernel_rfl) (some 43) rfl (.bool false) (by kernel_rfl) ?_
      simp only [pu1, pu2, pu3, pu4]
      refine gw_val (by kernel_rfl) (some 25) rfl (.bool false) (by kernel_rfl) ?_
      simp only [pu1, pu2, pu3, pu4]
      apply wpList_nil
      go_upto_region 10 with fail
      apply wp_region_lit
      refine gw_val (by kernel_rfl) (some 65) rfl (.int .u8 c) (by kernel_rfl) ?_
      simp only [pu1, pu2, pu3, pu4]
      refine gw_val (by kernel_rfl) (some 66) rfl (.bool false) (geq_u rfl c 240 (decide_eq_false (by omega)) (by kernel_rfl) (by kernel_rfl) _) ?_
      simp only [pu1, pu2, pu3, pu4]
      refine gw_val (by kernel_rfl) (some 67) rfl (.bool false) (by kernel_rfl) ?_
      simp only [pu1, pu2, pu3, pu4]
      with_reducible refine gw_not (by kernel_rfl) (some 68) rfl ?_
      simp only [pu1, pu2, pu3, pu4]
      with_reducible refine gw_not (by kernel_rfl) (some 69) rfl ?_
      simp only [pu1, pu2, pu3, pu4]
      refine gw_val (by kernel_rfl) (some 70) rfl (.bool false) (by kernel_rfl) ?_
      simp only [pu1, pu2, pu3, pu4]
      refine gw_val (by kernel_rfl) (some 71) rfl (.bool false) (by kernel_rfl) ?_
      simp only [pu1, pu2, pu3, pu4]
      with_reducible refine gw_not (by kernel_rfl) (some 72) rfl ?_
      simp only [pu1, pu2, pu3, pu4]
      with_reducible refine gw_not (by kernel_rfl) (some 73) rfl ?_
      simp only [pu1, pu2, pu3, pu4]
      with_reducible refine gw_not (by kernel_rfl) (some 74) rfl ?_
      simp only [pu1, pu2, pu3, pu4]
      with_reducible refine gw_not (by kernel_rfl) (some 75) rfl ?_
      simp only [pu1, pu2, pu3, pu4]
      refine gw_val (by kernel_rfl) (some 76) rfl (.bool false) (by kernel_rfl) ?_
      simp only [pu1, pu2, pu3, pu4]
      refine gw_val (by kernel_rfl) (some 77) rfl (.bool false) (by kernel_rfl) ?_
      simp only [pu1, pu2, pu3, pu4]
      with_reducible refine gw_not (by kernel_rfl) (some 78) rfl ?_
      simp only [pu1, pu2, pu3, pu4]
      with_reducible refine gw_not (by kernel_rfl) (some 79) rfl ?_
      simp only [pu1, pu2, pu3, pu4]
      with_reducible refine gw_not (by kernel_rfl) (some 80) rfl ?_
      simp only [pu1, pu2, pu3, pu4]
      with_reducible refine gw_not (by kernel_rfl) (some 81) rfl ?_
      simp only [pu1, pu2, pu3, pu4]
      refine gw_val (by kernel_rfl) (some 82) rfl (.bool false) (by kernel_rfl) ?_
      simp only [pu1, pu2, pu3, pu4]
      refine gw_val (by kernel_rfl) (some 83) rfl (.bool false) (by kernel_rfl) ?_
      simp only [pu1, pu2, pu3, pu4]
      with_reducible refine gw_not (by kernel_rfl) (some 84) rfl ?_
      simp only [pu1, pu2, pu3, pu4]
      with_reducible refine gw_not (by kernel_rfl) (some 85) rfl ?_
      simp only [pu1, pu2, pu3, pu4]
      with_reducible refine gw_not (by kernel_rfl) (some 86) rfl ?_
      simp only [pu1, pu2, pu3, pu4]
      with_reducible refine gw_not (by kernel_rfl) (some 87) rfl ?_
      simp only [pu1, pu2, pu3, pu4]
      refine gw_val (by kernel_rfl) (some 88) rfl (.bool false) (by kernel_rfl) ?_
      simp only [pu1, pu2, pu3, pu4]
      refine gw_val (by kernel_rfl) (some 64) rfl (.bool false) (by kernel_rfl) ?_
      simp only [pu1, pu2, pu3, pu4]
      apply wpList_nil
      have HE : Hid (r = 0) := by
        refine Lib.hid ?_
        rw [HV.out]
        unfold runN
        try simp only [and_true, and_false, false_and, true_and, if_false, if_true, eq_self, Bool.false_eq_true, reduceCtorEq]
        repeat' split
        all_goals (first | rfl | omega)
      go_upto_region 14 with fail
      apply wp_region_lit
      refine gw_val (by kernel_rfl) (some 4) rfl (.int .i64 0) (by kernel_rfl) ?_
      simp only [pu1, pu2, pu3, pu4]
      apply wpList_nil
      go_wp2_with fail
      go_ret
      rw [HE.out]
      exact ⟨rfl, rfl⟩
    · skip
      go_upto_region 4 with fail
      apply wp_region_lit
      refine gw_val (by kernel_rfl) (some 13) rfl (.int .u8 c) (by kernel_rfl) ?_
      simp only [pu1, pu2, pu3, pu4]
      refine gw_val (by kernel_rfl) (some 14) rfl (.bool true) (geq_u rfl c 194 (decide_eq_true (by omega)) (by kernel_rfl) (by kernel_rfl) _) ?_
      simp only [pu1, pu2, pu3, pu4]
      refine gw_val (by kernel_rfl) (some 15) rfl (.bool true) (by kernel_rfl) ?_
      simp only [pu1, pu2, pu3, pu4]
      refine gw_val (by kernel_rfl) (some 16) rfl (.int .u8 c) (by kernel_rfl) ?_
      simp only [pu1, pu2, pu3, pu4]
      refine gw_val (by kernel_rfl) (some 17) rfl (.bool true) (lss_u rfl c 224 (decide_eq_true (by omega)) (by kernel_rfl) (by kernel_rfl) _) ?_
      simp only [pu1, pu2, pu3, pu4]
      refine gw_val (by kernel_rfl) (some 18) rfl (.bool true) (by kernel_rfl) ?_
      simp only [pu1, pu2, pu3, pu4]
      refine gw_val (by kernel_rfl) (some 19) rfl (.bool true) (by kernel_rfl) ?_
      simp only [pu1, pu2, pu3, pu4]
      refine gw_val (by kernel_rfl) (some 20) rfl (.string s) (by kernel_rfl) ?_
      simp only [pu1, pu2, pu3, pu4]
      refine gw_val (by kernel_rfl) (some 21) rfl (.int .i64 i) (by kernel_rfl) ?_
      simp only [pu1, pu2, pu3, pu4]
      refine gw_val (by kernel_rfl) (some 22) rfl (.int .i64 (i + 1 : Nat)) (add_nat rfl i 1 (by omega) (by kernel_rfl) (by kernel_rfl) _) ?_
      simp only [pu1, pu2, pu3, pu4]
      refine gw_call (by kernel_rfl) (some 23) rfl 59 #[.string s, .int .i64 (i + 1 : Nat)] (.bool true) (fun w' => w = w') (by kernel_rfl) CF1 (fun W hW => ?_)
      subst hW
      simp only [pu1, pu2, pu3, pu4]
      refine gw_val (by kernel_rfl) (some 24) rfl (.bool true) (by kernel_rfl) ?_
      simp only [pu1, pu2, pu3, pu4]
      refine gw_val (by kernel_rfl) (some 12) rfl (.bool true) (by kernel_rfl) ?_
      simp only [pu1, pu2, pu3, pu4]
      apply wpList_nil
      have HE : Hid (r = 2) := by
        refine Lib.hid ?_
        rw [HV.out]
        unfold runN
        try simp only [and_true, and_false, false_and, true_and, if_false, if_true, eq_self, Bool.false_eq_true, reduceCtorEq]
        repeat' split
        all_goals (first | rfl | omega)
      go_upto_region 5 with fail
      apply wp_region_lit
      refine gw_val (by kernel_rfl) (some 4) rfl (.int .i64 2) (by kernel_rfl) ?_
      simp only [pu1, pu2, pu3, pu4]
      apply wpList_nil
      go_wp2_with fail
      go_ret
      rw [HE.out]
      exact ⟨rfl, rfl⟩
  · skip
    apply wp_region_lit
    refine gw_val (by kernel_rfl) (some 10) rfl (.int .u8 c) (by kernel_rfl) ?_
    simp only [pu1, pu2, pu3, pu4]
    refine gw_val (by kernel_rfl) (some 11) rfl (.bool false) (lss_u rfl c 128 (decide_eq_false (by omega)) (by kernel_rfl) (by kernel_rfl) _) ?_
    simp only [pu1, pu2, pu3, pu4]
    refine gw_val (by kernel_rfl) (some 9) rfl (.bool false) (by kernel_rfl) ?_
    simp only [pu1, pu2, pu3, pu4]
    apply wpList_nil
    cases f1
    · skip
      go_upto_region 4 with fail
      apply wp_region_lit
      refine gw_val (by kernel_rfl) (some 13) rfl (.int .u8 c) (by kernel_rfl) ?_
      simp only [pu1, pu2, pu3, pu4]
      refine gw_val (by kernel_rfl) (some 14) rfl (.bool true) (geq_u rfl c 194 (decide_eq_true (by omega)) (by kernel_rfl) (by kernel_rfl) _) ?_
      simp only [pu1, pu2, pu3, pu4]
      refine gw_val (by kernel_rfl) (some 15) rfl (.bool true) (by kernel_rfl) ?_
      simp only [pu1, pu2, pu3, pu4]
      refine gw_val (by kernel_rfl) (some 16) rfl (.int .u8 c) (by kernel_rfl) ?_
      simp only [pu1, pu2, pu3, pu4]
      refine gw_val (by kernel_rfl) (some 17) rfl (.bool false) (lss_u rfl c 224 (decide_eq_false (by omega)) (by kernel_rfl) (by kernel_rfl) _) ?_
      simp only [pu1, pu2, pu3, pu4]
      refine gw_val (by kernel_rfl) (some 18) rfl (.bool false) (by kernel_rfl) ?_
      simp only [pu1, pu2, pu3, pu4]
      refine gw_val (by kernel_rfl) (some 19) rfl (.bool false) (by kernel_rfl) ?_
      simp only [pu1, pu2, pu3, pu4]
      with_reducible refine gw_not (by kernel_rfl) (some 20) rfl ?_
      simp only [pu1, pu2, pu3, pu4]
      with_reducible refine gw_not (by kernel_rfl) (some 21) rfl ?_
      simp only [pu1, pu2, pu3, pu4]
      with_reducible refine gw_not (by kernel_rfl) (some 22) rfl ?_
      simp only [pu1, pu2, pu3, pu4]
      with_reducible refine gw_not (by kernel_rfl) (some 23) rfl ?_
      simp only [pu1, pu2, pu3, pu4]
      refine gw_val (by kernel_rfl) (some 24) rfl (.bool false) (by kernel_rfl) ?_
      simp only [pu1, pu2, pu3, pu4]
      refine gw_val (by kernel_rfl) (some 12) rfl (.bool false) (by kernel_rfl) ?_
      simp only [pu1, pu2, pu3, pu4]
      apply wpList_nil
      go_upto_region 6 with fail
      apply wp_region_lit
      refine gw_val (by kernel_rfl) (some 26) rfl (.int .u8 c) (by kernel_rfl) ?_
      simp only [pu1, pu2, pu3, pu4]
      refine gw_val (by kernel_rfl) (some 27) rfl (.bool true) (geq_u rfl c 224 (decide_eq_true (by omega)) (by kernel_rfl) (by kernel_rfl) _) ?_
      simp only [pu1, pu2, pu3, pu4]
      refine gw_val (by kernel_rfl) (some 28) rfl (.bool true) (by kernel_rfl) ?_
      simp only [pu1, pu2, pu3, pu4]
      refine gw_val (by kernel_rfl) (some 29) rfl (.int .u8 c) (by kernel_rfl) ?_
      simp only [pu1, pu2, pu3, pu4]
      refine gw_val (by kernel_rfl) (some 30) rfl (.bool true) (lss_u rfl c 240 (decide_eq_true (by omega)) (by kernel_rfl) (by kernel_rfl) _) ?_
      simp only [pu1, pu2, pu3, pu4]
      refine gw_val (by kernel_rfl) (some 31) rfl (.bool true) (by kernel_rfl) ?_
      simp only [pu1, pu2, pu3, pu4]
      refine gw_val (by kernel_rfl) (some 32) rfl (.bool true) (by kernel_rfl) ?_
      simp only [pu1, pu2, pu3, pu4]
      refine gw_val (by kernel_rfl) (some 33) rfl (.string s) (by kernel_rfl) ?_
      simp only [pu1, pu2, pu3, pu4]
      refine gw_val (by kernel_rfl) (some 34) rfl (.int .i64 i) (by kernel_rfl) ?_
      simp only [pu1, pu2, pu3, pu4]
      refine gw_val (by kernel_rfl) (some 35) rfl (.int .i64 (i + 1 : Nat)) (add_nat rfl i 1 (by omega) (by kernel_rfl) (by kernel_rfl) _) ?_
      simp only [pu1, pu2, pu3, pu4]
      refine gw_call (by kernel_rfl) (some 36) rfl 59 #[.string s, .int .i64 (i + 1 : Nat)] (.bool false) (fun w' => w = w') (by kernel_rfl) CF1 (fun W hW => ?_)
      subst hW
      simp only [pu1, pu2, pu3, pu4]
      refine gw_val (by kernel_rfl) (some 37) rfl (.bool false) (by kernel_rfl) ?_
      simp only [pu1, pu2, pu3, pu4]
      refine gw_val (by kernel_rfl) (some 38) rfl (.bool false) (by kernel_rfl) ?_
      simp only [pu1, pu2, pu3, pu4]
      with_reducible refine gw_not (by kernel_rfl) (some 39) rfl ?_
      simp only [pu1, pu2, pu3, pu4]
      with_reducible refine gw_not (by kernel_rfl) (some 40) rfl ?_
      simp only [pu1, pu2, pu3, pu4]
      with_reducible refine gw_not (by kernel_rfl) (some 41) rfl ?_
      simp only [pu1, pu2, pu3, pu4]
      with_reducible refine gw_not (by kernel_rfl) (some 42) rfl ?_
      simp only [pu1, pu2, pu3, pu4]
      refine gw_val (by kernel_rfl) (some 43) rfl (.bool false) (by kernel_rfl) ?_
      simp only [pu1, pu2, pu3, pu4]
      refine gw_val (by kernel_rfl) (some 25) rfl (.bool false) (by kernel_rfl) ?_
      simp only [pu1, pu2, pu3, pu4]
      apply wpList_nil
      go_upto_region 10 with fail
      apply wp_region_lit
      refine gw_val (by kernel_rfl) (some 65) rfl (.int .u8 c) (by kernel_rfl) ?_
      simp only [pu1, pu2, pu3, pu4]
      refine gw_val (by kernel_rfl) (some 66) rfl (.bool false) (geq_u rfl c 240 (decide_eq_false (by omega)) (by kernel_rfl) (by kernel_rfl) _) ?_
      simp only [pu1, pu2, pu3, pu4]
      refine gw_val (by kernel_rfl) (some 67) rfl (.bool false) (by kernel_rfl) ?_
      simp only [pu1, pu2, pu3, pu4]
      with_reducible refine gw_not (by kernel_rfl) (some 68) rfl ?_
      simp only [pu1, pu2, pu3, pu4]
      with_reducible refine gw_not (by kernel_rfl) (some 69) rfl ?_
      simp only [pu1, pu2, pu3, pu4]
      refine gw_val (by kernel_rfl) (some 70) rfl (.bool false) (by kernel_rfl) ?_
      simp only [pu1, pu2, pu3, pu4]
      refine gw_val (by kernel_rfl) (some 71) rfl (.bool false) (by kernel_rfl) ?_
      simp only [pu1, pu2, pu3, pu4]
      with_reducible refine gw_not (by kernel_rfl) (some 72) rfl ?_
      simp only [pu1, pu2, pu3, pu4]
      with_reducible refine gw_not (by kernel_rfl) (some 73) rfl ?_
      simp only [pu1, pu2, pu3, pu4]
      with_reducible refine gw_not (by kernel_rfl) (some 74) rfl ?_
      simp only [pu1, pu2, pu3, pu4]
      with_reducible refine gw_not (by kernel_rfl) (some 75) rfl ?_
      simp only [pu1, pu2, pu3, pu4]
      refine gw_val (by kernel_rfl) (some 76) rfl (.bool false) (by kernel_rfl) ?_
      simp only [pu1, pu2, pu3, pu4]
      refine gw_val (by kernel_rfl) (some 77) rfl (.bool false) (by kernel_rfl) ?_
      simp only [pu1, pu2, pu3, pu4]
      with_reducible refine gw_not (by kernel_rfl) (some 78) rfl ?_
      simp only [pu1, pu2, pu3, pu4]
      with_reducible refine gw_not (by kernel_rfl) (some 79) rfl ?_
      simp only [pu1, pu2, pu3, pu4]
      with_reducible refine gw_not (by kernel_rfl) (some 80) rfl ?_
      simp only [pu1, pu2, pu3, pu4]
      with_reducible refine gw_not (by kernel_rfl) (some 81) rfl ?_
      simp only [pu1, pu2, pu3, pu4]
      refine gw_val (by kernel_rfl) (some 82) rfl (.bool false) (by kernel_rfl) ?_
      simp only [pu1, pu2, pu3, pu4]
      refine gw_val (by kernel_rfl) (some 83) rfl (.bool false) (by kernel_rfl) ?_
      simp only [pu1, pu2, pu3, pu4]
      with_reducible refine gw_not (by kernel_rfl) (some 84) rfl ?_
      simp only [pu1, pu2, pu3, pu4]
      with_reducible refine gw_not (by kernel_rfl) (some 85) rfl ?_
      simp only [pu1, pu2, pu3, pu4]
      with_reducible refine gw_not (by kernel_rfl) (some 86) rfl ?_
      simp only [pu1, pu2, pu3, pu4]
      with_reducible refine gw_not (by kernel_rfl) (some 87) rfl ?_
      simp only [pu1, pu2, pu3, pu4]
      refine gw_val (by kernel_rfl) (some 88) rfl (.bool false) (by kernel_rfl) ?_
      simp only [pu1, pu2, pu3, pu4]
      refine gw_val (by kernel_rfl) (some 64) rfl (.bool false) (by kernel_rfl) ?_
      simp only [pu1, pu2, pu3, pu4]
      apply wpList_nil
      have HE : Hid (r = 0) := by
        refine Lib.hid ?_
        rw [HV.out]
        unfold runN
        try simp only [and_true, and_false, false_and, true_and, if_false, if_true, eq_self, Bool.false_eq_true, reduceCtorEq]
        repeat' split
        all_goals (first | rfl | omega)
      go_upto_region 14 with fail
      apply wp_region_lit
      refine gw_val (by kernel_rfl) (some 4) rfl (.int .i64 0) (by kernel_rfl) ?_
      simp only [pu1, pu2, pu3, pu4]
      apply wpList_nil
      go_wp2_with fail
      go_ret
      rw [HE.out]
      exact ⟨rfl, rfl⟩
    · skip
      cases f2
      · skip
        go_upto_region 4 with fail
        apply wp_region_lit
        refine gw_val (by kernel_rfl) (some 13) rfl (.int .u8 c) (by kernel_rfl) ?_
        simp only [pu1, pu2, pu3, pu4]
        refine gw_val (by kernel_rfl) (some 14) rfl (.bool true) (geq_u rfl c 194 (decide_eq_true (by omega)) (by kernel_rfl) (by kernel_rfl) _) ?_
        simp only [pu1, pu2, pu3, pu4]
        refine gw_val (by kernel_rfl) (some 15) rfl (.bool true) (by kernel_rfl) ?_
        simp only [pu1, pu2, pu3, pu4]
        refine gw_val (by kernel_rfl) (some 16) rfl (.int .u8 c) (by kernel_rfl) ?_
        simp only [pu1, pu2, pu3, pu4]
        refine gw_val (by kernel_rfl) (some 17) rfl (.bool false) (lss_u rfl c 224 (decide_eq_false (by omega)) (by kernel_rfl) (by kernel_rfl) _) ?_
        simp only [pu1, pu2, pu3, pu4]
        refine gw_val (by kernel_rfl) (some 18) rfl (.bool false) (by kernel_rfl) ?_
        simp only [pu1, pu2, pu3, pu4]
        refine gw_val (by kernel_rfl) (some 19) rfl (.bool false) (by kernel_rfl) ?_
        simp only [pu1, pu2, pu3, pu4]
        with_reducible refine gw_not (by kernel_rfl) (some 20) rfl ?_
        simp only [pu1, pu2, pu3, pu4]
        with_reducible refine gw_not (by kernel_rfl) (some 21) rfl ?_
        simp only [pu1, pu2, pu3, pu4]
        with_reducible refine gw_not (by kernel_rfl) (some 22) rfl ?_
        simp only [pu1, pu2, pu3, pu4]
        with_reducible refine gw_not (by kernel_rfl) (some 23) rfl ?_
        simp only [pu1, pu2, pu3, pu4]
        refine gw_val (by kernel_rfl) (some 24) rfl (.bool false) (by kernel_rfl) ?_
        simp only [pu1, pu2, pu3, pu4]
        refine gw_val (by kernel_rfl) (some 12) rfl (.bool false) (by kernel_rfl) ?_
        simp only [pu1, pu2, pu3, pu4]
        apply wpList_nil
        go_upto_region 6 with fail
        apply wp_region_lit
        refine gw_val (by kernel_rfl) (some 26) rfl (.int .u8 c) (by kernel_rfl) ?_
        simp only [pu1, pu2, pu3, pu4]
        refine gw_val (by kernel_rfl) (some 27) rfl (.bool true) (geq_u rfl c 224 (decide_eq_true (by omega)) (by kernel_rfl) (by kernel_rfl) _) ?_
        simp only [pu1, pu2, pu3, pu4]
        refine gw_val (by kernel_rfl) (some 28) rfl (.bool true) (by kernel_rfl) ?_
        simp only [pu1, pu2, pu3, pu4]
        refine gw_val (by kernel_rfl) (some 29) rfl (.int .u8 c) (by kernel_rfl) ?_
        simp only [pu1, pu2, pu3, pu4]
        refine gw_val (by kernel_rfl) (some 30) rfl (.bool true) (lss_u rfl c 240 (decide_eq_true (by omega)) (by kernel_rfl) (by kernel_rfl) _) ?_
        simp only [pu1, pu2, pu3, pu4]
        refine gw_val (by kernel_rfl) (some 31) rfl (.bool true) (by kernel_rfl) ?_
        simp only [pu1, pu2, pu3, pu4]
        refine gw_val (by kernel_rfl) (some 32) rfl (.bool true) (by kernel_rfl) ?_
        simp only [pu1, pu2, pu3, pu4]
        refine gw_val (by kernel_rfl) (some 33) rfl (.string s) (by kernel_rfl) ?_
        simp only [pu1, pu2, pu3, pu4]
        refine gw_val (by kernel_rfl) (some 34) rfl (.int .i64 i) (by kernel_rfl) ?_
        simp only [pu1, pu2, pu3, pu4]
        refine gw_val (by kernel_rfl) (some 35) rfl (.int .i64 (i + 1 : Nat)) (add_nat rfl i 1 (by omega) (by kernel_rfl) (by kernel_rfl) _) ?_
        simp only [pu1, pu2, pu3, pu4]
        refine gw_call (by kernel_rfl) (some 36) rfl 59 #[.string s, .int .i64 (i + 1 : Nat)] (.bool true) (fun w' => w = w') (by kernel_rfl) CF1 (fun W hW => ?_)
        subst hW
        simp only [pu1, pu2, pu3, pu4]
        refine gw_val (by kernel_rfl) (some 37) rfl (.bool true) (by kernel_rfl) ?_
        simp only [pu1, pu2, pu3, pu4]
        refine gw_val (by kernel_rfl) (some 38) rfl (.bool true) (by kernel_rfl) ?_
        simp only [pu1, pu2, pu3, pu4]
        refine gw_val (by kernel_rfl) (some 39) rfl (.string s) (by kernel_rfl) ?_
        simp only [pu1, pu2, pu3, pu4]
        refine gw_val (by kernel_rfl) (some 40) rfl (.int .i64 i) (by kernel_rfl) ?_
        simp only [pu1, pu2, pu3, pu4]
        refine gw_val (by kernel_rfl) (some 41) rfl (.int .i64 (i + 2 : Nat)) (add_nat rfl i 2 (by omega) (by kernel_rfl) (by kernel_rfl) _) ?_
        simp only [pu1, pu2, pu3, pu4]
        refine gw_call (by kernel_rfl) (some 42) rfl 59 #[.string s, .int .i64 (i + 2 : Nat)] (.bool false) (fun w' => w = w') (by kernel_rfl) CF2 (fun W hW => ?_)
        subst hW
        simp only [pu1, pu2, pu3, pu4]
        refine gw_val (by kernel_rfl) (some 43) rfl (.bool false) (by kernel_rfl) ?_
        simp only [pu1, pu2, pu3, pu4]
        refine gw_val (by kernel_rfl) (some 25) rfl (.bool false) (by kernel_rfl) ?_
        simp only [pu1, pu2, pu3, pu4]
        apply wpList_nil
        go_upto_region 10 with fail
        apply wp_region_lit
        refine gw_val (by kernel_rfl) (some 65) rfl (.int .u8 c) (by kernel_rfl) ?_
        simp only [pu1, pu2, pu3, pu4]
        refine gw_val (by kernel_rfl) (some 66) rfl (.bool false) (geq_u rfl c 240 (decide_eq_false (by omega)) (by kernel_rfl) (by kernel_rfl) _) ?_
        simp only [pu1, pu2, pu3, pu4]
        refine gw_val (by kernel_rfl) (some 67) rfl (.bool false) (by kernel_rfl) ?_
        simp only [pu1, pu2, pu3, pu4]
        with_reducible refine gw_not (by kernel_rfl) (some 68) rfl ?_
        simp only [pu1, pu2, pu3, pu4]
        with_reducible refine gw_not (by kernel_rfl) (some 69) rfl ?_
        simp only [pu1, pu2, pu3, pu4]
        refine gw_val (by kernel_rfl) (some 70) rfl (.bool false) (by kernel_rfl) ?_
        simp only [pu1, pu2, pu3, pu4]
        refine gw_val (by kernel_rfl) (some 71) rfl (.bool false) (by kernel_rfl) ?_
        simp only [pu1, pu2, pu3, pu4]
        with_reducible refine gw_not (by kernel_rfl) (some 72) rfl ?_
        simp only [pu1, pu2, pu3, pu4]
        with_reducible refine gw_not (by kernel_rfl) (some 73) rfl ?_
        simp only [pu1, pu2, pu3, pu4]
        with_reducible refine gw_not (by kernel_rfl) (some 74) rfl ?_
        simp only [pu1, pu2, pu3, pu4]
        with_reducible refine gw_not (by kernel_rfl) (some 75) rfl ?_
        simp only [pu1, pu2, pu3, pu4]
        refine gw_val (by kernel_rfl) (some 76) rfl (.bool false) (by kernel_rfl) ?_
        simp only [pu1, pu2, pu3, pu4]
        refine gw_val (by kernel_rfl) (some 77) rfl (.bool false) (by kernel_rfl) ?_
        simp only [pu1, pu2, pu3, pu4]
        with_reducible refine gw_not (by kernel_rfl) (some 78) rfl ?_
        simp only [pu1, pu2, pu3, pu4]
        with_reducible refine gw_not (by kernel_rfl) (some 79) rfl ?_
        simp only [pu1, pu2, pu3, pu4]
        with_reducible refine gw_not (by kernel_rfl) (some 80) rfl ?_
        simp only [pu1, pu2, pu3, pu4]
        with_reducible refine gw_not (by kernel_rfl) (some 81) rfl ?_
        simp only [pu1, pu2, pu3, pu4]
        refine gw_val (by kernel_rfl) (some 82) rfl (.bool false) (by kernel_rfl) ?_
        simp only [pu1, pu2, pu3, pu4]
        refine gw_val (by kernel_rfl) (some 83) rfl (.bool false) (by kernel_rfl) ?_
        simp only [pu1, pu2, pu3, pu4]
        with_reducible refine gw_not (by kernel_rfl) (some 84) rfl ?_
        simp only [pu1, pu2, pu3, pu4]
        with_reducible refine gw_not (by kernel_rfl) (some 85) rfl ?_
        simp only [pu1, pu2, pu3, pu4]
        with_reducible refine gw_not (by kernel_rfl) (some 86) rfl ?_
        simp only [pu1, pu2, pu3, pu4]
        with_reducible refine gw_not (by kernel_rfl) (some 87) rfl ?_
        simp only [pu1, pu2, pu3, pu4]
        refine gw_val (by kernel_rfl) (some 88) rfl (.bool false) (by kernel_rfl) ?_
        simp only [pu1, pu2, pu3, pu4]
        refine gw_val (by kernel_rfl) (some 64) rfl (.bool false) (by kernel_rfl) ?_
        simp only [pu1, pu2, pu3, pu4]
        apply wpList_nil
        have HE : Hid (r = 0) := by
          refine Lib.hid ?_
          rw [HV.out]
          unfold runN
          try simp only [and_true, and_false, false_and, true_and, if_false, if_true, eq_self, Bool.false_eq_true, reduceCtorEq]
          repeat' split
          all_goals (first | rfl | omega)
        go_upto_region 14 with fail
        apply wp_region_lit
        refine gw_val (by kernel_rfl) (some 4) rfl (.int .i64 0) (by kernel_rfl) ?_
        simp only [pu1, pu2, pu3, pu4]
        apply wpList_nil
        go_wp2_with fail
        go_ret
        rw [HE.out]
        exact ⟨rfl, rfl⟩
      · skip
        go_upto_region 4 with fail
        apply wp_region_lit
        refine gw_val (by kernel_rfl) (some 13) rfl (.int .u8 c) (by kernel_rfl) ?_
        simp only [pu1, pu2, pu3, pu4]
        refine gw_val (by kernel_rfl) (some 14) rfl (.bool true) (geq_u rfl c 194 (decide_eq_true (by omega)) (by kernel_rfl) (by kernel_rfl) _) ?_
        simp only [pu1, pu2, pu3, pu4]
        refine gw_val (by kernel_rfl) (some 15) rfl (.bool true) (by kernel_rfl) ?_
        simp only [pu1, pu2, pu3, pu4]
        refine gw_val (by kernel_rfl) (some 16) rfl (.int .u8 c) (by kernel_rfl) ?_
        simp only [pu1, pu2, pu3, pu4]
        refine gw_val (by kernel_rfl) (some 17) rfl (.bool false) (lss_u rfl c 224 (decide_eq_false (by omega)) (by kernel_rfl) (by kernel_rfl) _) ?_
        simp only [pu1, pu2, pu3, pu4]
        refine gw_val (by kernel_rfl) (some 18) rfl (.bool false) (by kernel_rfl) ?_
        simp only [pu1, pu2, pu3, pu4]
        refine gw_val (by kernel_rfl) (some 19) rfl (.bool false) (by kernel_rfl) ?_
        simp only [pu1, pu2, pu3, pu4]
        with_reducible refine gw_not (by kernel_rfl) (some 20) rfl ?_
        simp only [pu1, pu2, pu3, pu4]
        with_reducible refine gw_not (by kernel_rfl) (some 21) rfl ?_
        simp only [pu1, pu2, pu3, pu4]
        with_reducible refine gw_not (by kernel_rfl) (some 22) rfl ?_
        simp only [pu1, pu2, pu3, pu4]
        with_reducible refine gw_not (by kernel_rfl) (some 23) rfl ?_
        simp only [pu1, pu2, pu3, pu4]
        refine gw_val (by kernel_rfl) (some 24) rfl (.bool false) (by kernel_rfl) ?_
        simp only [pu1, pu2, pu3, pu4]
        refine gw_val (by kernel_rfl) (some 12) rfl (.bool false) (by kernel_rfl) ?_
        simp only [pu1, pu2, pu3, pu4]
        apply wpList_nil
        go_upto_region 6 with fail
        apply wp_region_lit
        refine gw_val (by kernel_rfl) (some 26) rfl (.int .u8 c) (by kernel_rfl) ?_
        simp only [pu1, pu2, pu3, pu4]
        refine gw_val (by kernel_rfl) (some 27) rfl (.bool true) (geq_u rfl c 224 (decide_eq_true (by omega)) (by kernel_rfl) (by kernel_rfl) _) ?_
        simp only [pu1, pu2, pu3, pu4]
        refine gw_val (by kernel_rfl) (some 28) rfl (.bool true) (by kernel_rfl) ?_
        simp only [pu1, pu2, pu3, pu4]
        refine gw_val (by kernel_rfl) (some 29) rfl (.int .u8 c) (by kernel_rfl) ?_
        simp only [pu1, pu2, pu3, pu4]
        refine gw_val (by kernel_rfl) (some 30) rfl (.bool true) (lss_u rfl c 240 (decide_eq_true (by omega)) (by kernel_rfl) (by kernel_rfl) _) ?_
        simp only [pu1, pu2, pu3, pu4]
        refine gw_val (by kernel_rfl) (some 31) rfl (.bool true) (by kernel_rfl) ?_
        simp only [pu1, pu2, pu3, pu4]
        refine gw_val (by kernel_rfl) (some 32) rfl (.bool true) (by kernel_rfl) ?_
        simp only [pu1, pu2, pu3, pu4]
        refine gw_val (by kernel_rfl) (some 33) rfl (.string s) (by kernel_rfl) ?_
        simp only [pu1, pu2, pu3, pu4]
        refine gw_val (by kernel_rfl) (some 34) rfl (.int .i64 i) (by kernel_rfl) ?_
        simp only [pu1, pu2, pu3, pu4]
        refine gw_val (by kernel_rfl) (some 35) rfl (.int .i64 (i + 1 : Nat)) (add_nat rfl i 1 (by omega) (by kernel_rfl) (by kernel_rfl) _) ?_
        simp only [pu1, pu2, pu3, pu4]
        refine gw_call (by kernel_rfl) (some 36) rfl 59 #[.string s, .int .i64 (i + 1 : Nat)] (.bool true) (fun w' => w = w') (by kernel_rfl) CF1 (fun W hW => ?_)
        subst hW
        simp only [pu1, pu2, pu3, pu4]
        refine gw_val (by kernel_rfl) (some 37) rfl (.bool true) (by kernel_rfl) ?_
        simp only [pu1, pu2, pu3, pu4]
        refine gw_val (by kernel_rfl) (some 38) rfl (.bool true) (by kernel_rfl) ?_
        simp only [pu1, pu2, pu3, pu4]
        refine gw_val (by kernel_rfl) (some 39) rfl (.string s) (by kernel_rfl) ?_
        simp only [pu1, pu2, pu3, pu4]
        refine gw_val (by kernel_rfl) (some 40) rfl (.int .i64 i) (by kernel_rfl) ?_
        simp only [pu1, pu2, pu3, pu4]
        refine gw_val (by kernel_rfl) (some 41) rfl (.int .i64 (i + 2 : Nat)) (add_nat rfl i 2 (by omega) (by kernel_rfl) (by kernel_rfl) _) ?_
        simp only [pu1, pu2, pu3, pu4]
        refine gw_call (by kernel_rfl) (some 42) rfl 59 #[.string s, .int .i64 (i + 2 : Nat)] (.bool true) (fun w' => w = w') (by kernel_rfl) CF2 (fun W hW => ?_)
        subst hW
        simp only [pu1, pu2, pu3, pu4]
        refine gw_val (by kernel_rfl) (some 43) rfl (.bool true) (by kernel_rfl) ?_
        simp only [pu1, pu2, pu3, pu4]
        refine gw_val (by kernel_rfl) (some 25) rfl (.bool true) (by kernel_rfl) ?_
        simp only [pu1, pu2, pu3, pu4]
        apply wpList_nil
        have hid := HI1.out rfl
        clear HI1
        go_upto_region 7 with fail
        rcases (show (c = 224 ∧ d < 160) ∨ (c = 224 ∧ 160 ≤ d) ∨ (c = 237 ∧ d < 160) ∨ (c = 237 ∧ 160 ≤ d) ∨ (c ≠ 224 ∧ c ≠ 237) by omega) with hd | hd | hd | hd | hd
        · skip
          apply wp_region_lit
          refine gw_val (by kernel_rfl) (some 44) rfl (.int .u8 c) (by kernel_rfl) ?_
          simp only [pu1, pu2, pu3, pu4]
          refine gw_val (by kernel_rfl) (some 45) rfl (.bool true) (eql_u rfl c 224 (decide_eq_true (by omega)) (by kernel_rfl) (by kernel_rfl) _) ?_
          simp only [pu1, pu2, pu3, pu4]
          refine gw_val (by kernel_rfl) (some 46) rfl (.bool true) (by kernel_rfl) ?_
          simp only [pu1, pu2, pu3, pu4]
          refine gw_val (by kernel_rfl) (some 47) rfl (.string s) (by kernel_rfl) ?_
          simp only [pu1, pu2, pu3, pu4]
          refine gw_val (by kernel_rfl) (some 48) rfl (.int .i64 i) (by kernel_rfl) ?_
          simp only [pu1, pu2, pu3, pu4]
          refine gw_val (by kernel_rfl) (some 49) rfl (.int .i64 (i + 1 : Nat)) (add_nat rfl i 1 (by omega) (by kernel_rfl) (by kernel_rfl) _) ?_
          simp only [pu1, pu2, pu3, pu4]
          refine gw_val (by kernel_rfl) (some 50) rfl (.int .u8 d) (hid _ _ _ _ rfl (by kernel_rfl) (by kernel_rfl) _) ?_
          simp only [pu1, pu2, pu3, pu4]
          refine gw_val (by kernel_rfl) (some 51) rfl (.bool true) (lss_u rfl d 160 (decide_eq_true (by omega)) (by kernel_rfl) (by kernel_rfl) _) ?_
          simp only [pu1, pu2, pu3, pu4]
          refine gw_val (by kernel_rfl) (some 52) rfl (.bool true) (by kernel_rfl) ?_
          simp only [pu1, pu2, pu3, pu4]
          refine gw_val (by kernel_rfl) (some 53) rfl (.bool true) (by kernel_rfl) ?_
          simp only [pu1, pu2, pu3, pu4]
          with_reducible refine gw_not (by kernel_rfl) (some 54) rfl ?_
          simp only [pu1, pu2, pu3, pu4]
          with_reducible refine gw_not (by kernel_rfl) (some 55) rfl ?_
          simp only [pu1, pu2, pu3, pu4]
          with_reducible refine gw_not (by kernel_rfl) (some 56) rfl ?_
          simp only [pu1, pu2, pu3, pu4]
          with_reducible refine gw_not (by kernel_rfl) (some 57) rfl ?_
          simp only [pu1, pu2, pu3, pu4]
          with_reducible refine gw_not (by kernel_rfl) (some 58) rfl ?_
          simp only [pu1, pu2, pu3, pu4]
          with_reducible refine gw_not (by kernel_rfl) (some 59) rfl ?_
          simp only [pu1, pu2, pu3, pu4]
          with_reducible refine gw_not (by kernel_rfl) (some 60) rfl ?_
          simp only [pu1, pu2, pu3, pu4]
          with_reducible refine gw_not (by kernel_rfl) (some 61) rfl ?_
          simp only [pu1, pu2, pu3, pu4]
          with_reducible refine gw_not (by kernel_rfl) (some 62) rfl ?_
          simp only [pu1, pu2, pu3, pu4]
          refine gw_val (by kernel_rfl) (some 63) rfl (.bool true) (by kernel_rfl) ?_
          simp only [pu1, pu2, pu3, pu4]
          apply wpList_nil
          have HE : Hid (r = 0) := by
            refine Lib.hid ?_
            rw [HV.out]
            unfold runN
            try simp only [and_true, and_false, false_and, true_and, if_false, if_true, eq_self, Bool.false_eq_true, reduceCtorEq]
            repeat' split
            all_goals (first | rfl | omega)
          go_upto_region 8 with fail
          apply wp_region_lit
          refine gw_val (by kernel_rfl) (some 4) rfl (.int .i64 0) (by kernel_rfl) ?_
          simp only [pu1, pu2, pu3, pu4]
          apply wpList_nil
          go_wp2_with fail
          go_ret
          rw [HE.out]
          exact ⟨rfl, rfl⟩
        · skip
          apply wp_region_lit
          refine gw_val (by kernel_rfl) (some 44) rfl (.int .u8 c) (by kernel_rfl) ?_
          simp only [pu1, pu2, pu3, pu4]
          refine gw_val (by kernel_rfl) (some 45) rfl (.bool true) (eql_u rfl c 224 (decide_eq_true (by omega)) (by kernel_rfl) (by kernel_rfl) _) ?_
          simp only [pu1, pu2, pu3, pu4]
          refine gw_val (by kernel_rfl) (some 46) rfl (.bool true) (by kernel_rfl) ?_
          simp only [pu1, pu2, pu3, pu4]
          refine gw_val (by kernel_rfl) (some 47) rfl (.string s) (by kernel_rfl) ?_
          simp only [pu1, pu2, pu3, pu4]
          refine gw_val (by kernel_rfl) (some 48) rfl (.int .i64 i) (by kernel_rfl) ?_
          simp only [pu1, pu2, pu3, pu4]
          refine gw_val (by kernel_rfl) (some 49) rfl (.int .i64 (i + 1 : Nat)) (add_nat rfl i 1 (by omega) (by kernel_rfl) (by kernel_rfl) _) ?_
          simp only [pu1, pu2, pu3, pu4]
          refine gw_val (by kernel_rfl) (some 50) rfl (.int .u8 d) (hid _ _ _ _ rfl (by kernel_rfl) (by kernel_rfl) _) ?_
          simp only [pu1, pu2, pu3, pu4]
          refine gw_val (by kernel_rfl) (some 51) rfl (.bool false) (lss_u rfl d 160 (decide_eq_false (by omega)) (by kernel_rfl) (by kernel_rfl) _) ?_
          simp only [pu1, pu2, pu3, pu4]
          refine gw_val (by kernel_rfl) (some 52) rfl (.bool false) (by kernel_rfl) ?_
          simp only [pu1, pu2, pu3, pu4]
          refine gw_val (by kernel_rfl) (some 53) rfl (.bool false) (by kernel_rfl) ?_
          simp only [pu1, pu2, pu3, pu4]
          refine gw_val (by kernel_rfl) (some 54) rfl (.int .u8 c) (by kernel_rfl) ?_
          simp only [pu1, pu2, pu3, pu4]
          refine gw_val (by kernel_rfl) (some 55) rfl (.bool false) (eql_u rfl c 237 (decide_eq_false (by omega)) (by kernel_rfl) (by kernel_rfl) _) ?_
          simp only [pu1, pu2, pu3, pu4]
          refine gw_val (by kernel_rfl) (some 56) rfl (.bool false) (by kernel_rfl) ?_
          simp only [pu1, pu2, pu3, pu4]
          with_reducible refine gw_not (by kernel_rfl) (some 57) rfl ?_
          simp only [pu1, pu2, pu3, pu4]
          with_reducible refine gw_not (by kernel_rfl) (some 58) rfl ?_
          simp only [pu1, pu2, pu3, pu4]
          with_reducible refine gw_not (by kernel_rfl) (some 59) rfl ?_
          simp only [pu1, pu2, pu3, pu4]
          with_reducible refine gw_not (by kernel_rfl) (some 60) rfl ?_
          simp only [pu1, pu2, pu3, pu4]
          with_reducible refine gw_not (by kernel_rfl) (some 61) rfl ?_
          simp only [pu1, pu2, pu3, pu4]
          refine gw_val (by kernel_rfl) (some 62) rfl (.bool false) (by kernel_rfl) ?_
          simp only [pu1, pu2, pu3, pu4]
          refine gw_val (by kernel_rfl) (some 63) rfl (.bool false) (by kernel_rfl) ?_
          simp only [pu1, pu2, pu3, pu4]
          apply wpList_nil
          have HE : Hid (r = 3) := by
            refine Lib.hid ?_
            rw [HV.out]
            unfold runN
            try simp only [and_true, and_false, false_and, true_and, if_false, if_true, eq_self, Bool.false_eq_true, reduceCtorEq]
            repeat' split
            all_goals (first | rfl | omega)
          go_upto_region 9 with fail
          apply wp_region_lit
          refine gw_val (by kernel_rfl) (some 4) rfl (.int .i64 3) (by kernel_rfl) ?_
          simp only [pu1, pu2, pu3, pu4]
          apply wpList_nil
          go_wp2_with fail
          go_ret
          rw [HE.out]
          exact ⟨rfl, rfl⟩
        · skip
          apply wp_region_lit
          refine gw_val (by kernel_rfl) (some 44) rfl (.int .u8 c) (by kernel_rfl) ?_
          simp only [pu1, pu2, pu3, pu4]
          refine gw_val (by kernel_rfl) (some 45) rfl (.bool false) (eql_u rfl c 224 (decide_eq_false (by omega)) (by kernel_rfl) (by kernel_rfl) _) ?_
          simp only [pu1, pu2, pu3, pu4]
          refine gw_val (by kernel_rfl) (some 46) rfl (.bool false) (by kernel_rfl) ?_
          simp only [pu1, pu2, pu3, pu4]
          with_reducible refine gw_not (by kernel_rfl) (some 47) rfl ?_
          simp only [pu1, pu2, pu3, pu4]
          with_reducible refine gw_not (by kernel_rfl) (some 48) rfl ?_
          simp only [pu1, pu2, pu3, pu4]
          with_reducible refine gw_not (by kernel_rfl) (some 49) rfl ?_
          simp only [pu1, pu2, pu3, pu4]
          with_reducible refine gw_not (by kernel_rfl) (some 50) rfl ?_
          simp only [pu1, pu2, pu3, pu4]
          with_reducible refine gw_not (by kernel_rfl) (some 51) rfl ?_
          simp only [pu1, pu2, pu3, pu4]
          refine gw_val (by kernel_rfl) (some 52) rfl (.bool false) (by kernel_rfl) ?_
          simp only [pu1, pu2, pu3, pu4]
          refine gw_val (by kernel_rfl) (some 53) rfl (.bool false) (by kernel_rfl) ?_
          simp only [pu1, pu2, pu3, pu4]
          refine gw_val (by kernel_rfl) (some 54) rfl (.int .u8 c) (by kernel_rfl) ?_
          simp only [pu1, pu2, pu3, pu4]
          refine gw_val (by kernel_rfl) (some 55) rfl (.bool true) (eql_u rfl c 237 (decide_eq_true (by omega)) (by kernel_rfl) (by kernel_rfl) _) ?_
          simp only [pu1, pu2, pu3, pu4]
          refine gw_val (by kernel_rfl) (some 56) rfl (.bool true) (by kernel_rfl) ?_
          simp only [pu1, pu2, pu3, pu4]
          refine gw_val (by kernel_rfl) (some 57) rfl (.string s) (by kernel_rfl) ?_
          simp only [pu1, pu2, pu3, pu4]
          refine gw_val (by kernel_rfl) (some 58) rfl (.int .i64 i) (by kernel_rfl) ?_
          simp only [pu1, pu2, pu3, pu4]
          refine gw_val (by kernel_rfl) (some 59) rfl (.int .i64 (i + 1 : Nat)) (add_nat rfl i 1 (by omega) (by kernel_rfl) (by kernel_rfl) _) ?_
          simp only [pu1, pu2, pu3, pu4]
          refine gw_val (by kernel_rfl) (some 60) rfl (.int .u8 d) (hid _ _ _ _ rfl (by kernel_rfl) (by kernel_rfl) _) ?_
          simp only [pu1, pu2, pu3, pu4]
          refine gw_val (by kernel_rfl) (some 61) rfl (.bool false) (geq_u rfl d 160 (decide_eq_false (by omega)) (by kernel_rfl) (by kernel_rfl) _) ?_
          simp only [pu1, pu2, pu3, pu4]
          refine gw_val (by kernel_rfl) (some 62) rfl (.bool false) (by kernel_rfl) ?_
          simp only [pu1, pu2, pu3, pu4]
          refine gw_val (by kernel_rfl) (some 63) rfl (.bool false) (by kernel_rfl) ?_
          simp only [pu1, pu2, pu3, pu4]
          apply wpList_nil
          have HE : Hid (r = 3) := by
            refine Lib.hid ?_
            rw [HV.out]
            unfold runN
            try simp only [and_true, and_false, false_and, true_and, if_false, if_true, eq_self, Bool.false_eq_true, reduceCtorEq]
            repeat' split
            all_goals (first | rfl | omega)
          go_upto_region 9 with fail
          apply wp_region_lit
          refine gw_val (by kernel_rfl) (some 4) rfl (.int .i64 3) (by kernel_rfl) ?_
          simp only [pu1, pu2, pu3, pu4]
          apply wpList_nil
          go_wp2_with fail
          go_ret
          rw [HE.out]
          exact ⟨rfl, rfl⟩
        · skip
          apply wp_region_lit
          refine gw_val (by kernel_rfl) (some 44) rfl (.int .u8 c) (by kernel_rfl) ?_
          simp only [pu1, pu2, pu3, pu4]
          refine gw_val (by kernel_rfl) (some 45) rfl (.bool false) (eql_u rfl c 224 (decide_eq_false (by omega)) (by kernel_rfl) (by kernel_rfl) _) ?_
          simp only [pu1, pu2, pu3, pu4]
          refine gw_val (by kernel_rfl) (some 46) rfl (.bool false) (by kernel_rfl) ?_
          simp only [pu1, pu2, pu3, pu4]
          with_reducible refine gw_not (by kernel_rfl) (some 47) rfl ?_
          simp only [pu1, pu2, pu3, pu4]
          with_reducible refine gw_not (by kernel_rfl) (some 48) rfl ?_
          simp only [pu1, pu2, pu3, pu4]
          with_reducible refine gw_not (by kernel_rfl) (some 49) rfl ?_
          simp only [pu1, pu2, pu3, pu4]
          with_reducible refine gw_not (by kernel_rfl) (some 50) rfl ?_
          simp only [pu1, pu2, pu3, pu4]
          with_reducible refine gw_not (by kernel_rfl) (some 51) rfl ?_
          simp only [pu1, pu2, pu3, pu4]
          refine gw_val (by kernel_rfl) (some 52) rfl (.bool false) (by kernel_rfl) ?_
          simp only [pu1, pu2, pu3, pu4]
          refine gw_val (by kernel_rfl) (some 53) rfl (.bool false) (by kernel_rfl) ?_
          simp only [pu1, pu2, pu3, pu4]
          refine gw_val (by kernel_rfl) (some 54) rfl (.int .u8 c) (by kernel_rfl) ?_
          simp only [pu1, pu2, pu3, pu4]
          refine gw_val (by kernel_rfl) (some 55) rfl (.bool true) (eql_u rfl c 237 (decide_eq_true (by omega)) (by kernel_rfl) (by kernel_rfl) _) ?_
          simp only [pu1, pu2, pu3, pu4]
          refine gw_val (by kernel_rfl) (some 56) rfl (.bool true) (by kernel_rfl) ?_
          simp only [pu1, pu2, pu3, pu4]
          refine gw_val (by kernel_rfl) (some 57) rfl (.string s) (by kernel_rfl) ?_
          simp only [pu1, pu2, pu3, pu4]
          refine gw_val (by kernel_rfl) (some 58) rfl (.int .i64 i) (by kernel_rfl) ?_
          simp only [pu1, pu2, pu3, pu4]
          refine gw_val (by kernel_rfl) (some 59) rfl (.int .i64 (i + 1 : Nat)) (add_nat rfl i 1 (by omega) (by kernel_rfl) (by kernel_rfl) _) ?_
          simp only [pu1, pu2, pu3, pu4]
          refine gw_val (by kernel_rfl) (some 60) rfl (.int .u8 d) (hid _ _ _ _ rfl (by kernel_rfl) (by kernel_rfl) _) ?_
          simp only [pu1, pu2, pu3, pu4]
          refine gw_val (by kernel_rfl) (some 61) rfl (.bool true) (geq_u rfl d 160 (decide_eq_true (by omega)) (by kernel_rfl) (by kernel_rfl) _) ?_
          simp only [pu1, pu2, pu3, pu4]
          refine gw_val (by kernel_rfl) (some 62) rfl (.bool true) (by kernel_rfl) ?_
          simp only [pu1, pu2, pu3, pu4]
          refine gw_val (by kernel_rfl) (some 63) rfl (.bool true) (by kernel_rfl) ?_
          simp only [pu1, pu2, pu3, pu4]
          apply wpList_nil
          have HE : Hid (r = 0) := by
            refine Lib.hid ?_
            rw [HV.out]
            unfold runN
            try simp only [and_true, and_false, false_and, true_and, if_false, if_true, eq_self, Bool.false_eq_true, reduceCtorEq]
            repeat' split
            all_goals (first | rfl | omega)
          go_upto_region 8 with fail
          apply wp_region_lit
          refine gw_val (by kernel_rfl) (some 4) rfl (.int .i64 0) (by kernel_rfl) ?_
          simp only [pu1, pu2, pu3, pu4]
          apply wpList_nil
          go_wp2_with fail
          go_ret
          rw [HE.out]
          exact ⟨rfl, rfl⟩
        · skip
          apply wp_region_lit
          refine gw_val (by kernel_rfl) (some 44) rfl (.int .u8 c) (by kernel_rfl) ?_
          simp only [pu1, pu2, pu3, pu4]
          refine gw_val (by kernel_rfl) (some 45) rfl (.bool false) (eql_u rfl c 224 (decide_eq_false (by omega)) (by kernel_rfl) (by kernel_rfl) _) ?_
          simp only [pu1, pu2, pu3, pu4]
          refine gw_val (by kernel_rfl) (some 46) rfl (.bool false) (by kernel_rfl) ?_
          simp only [pu1, pu2, pu3, pu4]
          with_reducible refine gw_not (by kernel_rfl) (some 47) rfl ?_
          simp only [pu1, pu2, pu3, pu4]
          with_reducible refine gw_not (by kernel_rfl) (some 48) rfl ?_
          simp only [pu1, pu2, pu3, pu4]
          with_reducible refine gw_not (by kernel_rfl) (some 49) rfl ?_
          simp only [pu1, pu2, pu3, pu4]
          with_reducible refine gw_not (by kernel_rfl) (some 50) rfl ?_
          simp only [pu1, pu2, pu3, pu4]
          with_reducible refine gw_not (by kernel_rfl) (some 51) rfl ?_
          simp only [pu1, pu2, pu3, pu4]
          refine gw_val (by kernel_rfl) (some 52) rfl (.bool false) (by kernel_rfl) ?_
          simp only [pu1, pu2, pu3, pu4]
          refine gw_val (by kernel_rfl) (some 53) rfl (.bool false) (by kernel_rfl) ?_
          simp only [pu1, pu2, pu3, pu4]
          refine gw_val (by kernel_rfl) (some 54) rfl (.int .u8 c) (by kernel_rfl) ?_
          simp only [pu1, pu2, pu3, pu4]
          refine gw_val (by kernel_rfl) (some 55) rfl (.bool false) (eql_u rfl c 237 (decide_eq_false (by omega)) (by kernel_rfl) (by kernel_rfl) _) ?_
          simp only [pu1, pu2, pu3, pu4]
          refine gw_val (by kernel_rfl) (some 56) rfl (.bool false) (by kernel_rfl) ?_
          simp only [pu1, pu2, pu3, pu4]
          with_reducible refine gw_not (by kernel_rfl) (some 57) rfl ?_
          simp only [pu1, pu2, pu3, pu4]
          with_reducible refine gw_not (by kernel_rfl) (some 58) rfl ?_
          simp only [pu1, pu2, pu3, pu4]
          with_reducible refine gw_not (by kernel_rfl) (some 59) rfl ?_
          simp only [pu1, pu2, pu3, pu4]
          with_reducible refine gw_not (by kernel_rfl) (some 60) rfl ?_
          simp only [pu1, pu2, pu3, pu4]
          with_reducible refine gw_not (by kernel_rfl) (some 61) rfl ?_
          simp only [pu1, pu2, pu3, pu4]
          refine gw_val (by kernel_rfl) (some 62) rfl (.bool false) (by kernel_rfl) ?_
          simp only [pu1, pu2, pu3, pu4]
          refine gw_val (by kernel_rfl) (some 63) rfl (.bool false) (by kernel_rfl) ?_
          simp only [pu1, pu2, pu3, pu4]
          apply wpList_nil
          have HE : Hid (r = 3) := by
            refine Lib.hid ?_
            rw [HV.out]
            unfold runN
            try simp only [and_true, and_false, false_and, true_and, if_false, if_true, eq_self, Bool.false_eq_true, reduceCtorEq]
            repeat' split
            all_goals (first | rfl | omega)
          go_upto_region 9 with fail
          apply wp_region_lit
          refine gw_val (by kernel_rfl) (some 4) rfl (.int .i64 3) (by kernel_rfl) ?_
          simp only [pu1, pu2, pu3, pu4]
          apply wpList_nil
          go_wp2_with fail
          go_ret
          rw [HE.out]
          exact ⟨rfl, rfl⟩
  · skip
    apply wp_region_lit
    refine gw_val (by kernel_rfl) (some 10) rfl (.int .u8 c) (by kernel_rfl) ?_
    simp only [pu1, pu2, pu3, pu4]
    refine gw_val (by kernel_rfl) (some 11) rfl (.bool false) (lss_u rfl c 128 (decide_eq_false (by omega)) (by kernel_rfl) (by kernel_rfl) _) ?_
    simp only [pu1, pu2, pu3, pu4]
    refine gw_val (by kernel_rfl) (some 9) rfl (.bool false) (by kernel_rfl) ?_
    simp only [pu1, pu2, pu3, pu4]
    apply wpList_nil
    cases f1
    · skip
      go_upto_region 4 with fail
      apply wp_region_lit
      refine gw_val (by kernel_rfl) (some 13) rfl (.int .u8 c) (by kernel_rfl) ?_
      simp only [pu1, pu2, pu3, pu4]
      refine gw_val (by kernel_rfl) (some 14) rfl (.bool true) (geq_u rfl c 194 (decide_eq_true (by omega)) (by kernel_rfl) (by kernel_rfl) _) ?_
      simp only [pu1, pu2, pu3, pu4]
      refine gw_val (by kernel_rfl) (some 15) rfl (.bool true) (by kernel_rfl) ?_
      simp only [pu1, pu2, pu3, pu4]
      refine gw_val (by kernel_rfl) (some 16) rfl (.int .u8 c) (by kernel_rfl) ?_
      simp only [pu1, pu2, pu3, pu4]
      refine gw_val (by kernel_rfl) (some 17) rfl (.bool false) (lss_u rfl c 224 (decide_eq_false (by omega)) (by kernel_rfl) (by kernel_rfl) _) ?_
      simp only [pu1, pu2, pu3, pu4]
      refine gw_val (by kernel_rfl) (some 18) rfl (.bool false) (by kernel_rfl) ?_
      simp only [pu1, pu2, pu3, pu4]
      refine gw_val (by kernel_rfl) (some 19) rfl (.bool false) (by kernel_rfl) ?_
      simp only [pu1, pu2, pu3, pu4]
      with_reducible refine gw_not (by kernel_rfl) (some 20) rfl ?_
      simp only [pu1, pu2, pu3, pu4]
      with_reducible refine gw_not (by kernel_rfl) (some 21) rfl ?_
      simp only [pu1, pu2, pu3, pu4]
      with_reducible refine gw_not (by kernel_rfl) (some 22) rfl ?_
      simp only [pu1, pu2, pu3, pu4]
      with_reducible refine gw_not (by kernel_rfl) (some 23) rfl ?_
      simp only [pu1, pu2, pu3, pu4]
      refine gw_val (by kernel_rfl) (some 24) rfl (.bool false) (by kernel_rfl) ?_
      simp only [pu1, pu2, pu3, pu4]
      refine gw_val (by kernel_rfl) (some 12) rfl (.bool false) (by kernel_rfl) ?_
      simp only [pu1, pu2, pu3, pu4]
      apply wpList_nil
      go_upto_region 6 with fail
      apply wp_region_lit
      refine gw_val (by kernel_rfl) (some 26) rfl (.int .u8 c) (by kernel_rfl) ?_
      simp only [pu1, pu2, pu3, pu4]
      refine gw_val (by kernel_rfl) (some 27) rfl (.bool true) (geq_u rfl c 224 (decide_eq_true (by omega)) (by kernel_rfl) (by kernel_rfl) _) ?_
      simp only [pu1, pu2, pu3, pu4]
      refine gw_val (by kernel_rfl) (some 28) rfl (.bool true) (by kernel_rfl) ?_
      simp only [pu1, pu2, pu3, pu4]
      refine gw_val (by kernel_rfl) (some 29) rfl (.int .u8 c) (by kernel_rfl) ?_
      simp only [pu1, pu2, pu3, pu4]
      refine gw_val (by kernel_rfl) (some 30) rfl (.bool false) (lss_u rfl c 240 (decide_eq_false (by omega)) (by kernel_rfl) (by kernel_rfl) _) ?_
      simp only [pu1, pu2, pu3, pu4]
      refine gw_val (by kernel_rfl) (some 31) rfl (.bool false) (by kernel_rfl) ?_
      simp only [pu1, pu2, pu3, pu4]
      refine gw_val (by kernel_rfl) (some 32) rfl (.bool false) (by kernel_rfl) ?_
      simp only [pu1, pu2, pu3, pu4]
      with_reducible refine gw_not (by kernel_rfl) (some 33) rfl ?_
      simp only [pu1, pu2, pu3, pu4]
      with_reducible refine gw_not (by kernel_rfl) (some 34) rfl ?_
      simp only [pu1, pu2, pu3, pu4]
      with_reducible refine gw_not (by kernel_rfl) (some 35) rfl ?_
      simp only [pu1, pu2, pu3, pu4]
      with_reducible refine gw_not (by kernel_rfl) (some 36) rfl ?_
      simp only [pu1, pu2, pu3, pu4]
      refine gw_val (by kernel_rfl) (some 37) rfl (.bool false) (by kernel_rfl) ?_
      simp only [pu1, pu2, pu3, pu4]
      refine gw_val (by kernel_rfl) (some 38) rfl (.bool false) (by kernel_rfl) ?_
      simp only [pu1, pu2, pu3, pu4]
      with_reducible refine gw_not (by kernel_rfl) (some 39) rfl ?_
      simp only [pu1, pu2, pu3, pu4]
      with_reducible refine gw_not (by kernel_rfl) (some 40) rfl ?_
      simp only [pu1, pu2, pu3, pu4]
      with_reducible refine gw_not (by kernel_rfl) (some 41) rfl ?_
      simp only [pu1, pu2, pu3, pu4]
      with_reducible refine gw_not (by kernel_rfl) (some 42) rfl ?_
      simp only [pu1, pu2, pu3, pu4]
      refine gw_val (by kernel_rfl) (some 43) rfl (.bool false) (by kernel_rfl) ?_
      simp only [pu1, pu2, pu3, pu4]
      refine gw_val (by kernel_rfl) (some 25) rfl (.bool false) (by kernel_rfl) ?_
      simp only [pu1, pu2, pu3, pu4]
      apply wpList_nil
      go_upto_region 10 with fail
      apply wp_region_lit
      refine gw_val (by kernel_rfl) (some 65) rfl (.int .u8 c) (by kernel_rfl) ?_
      simp only [pu1, pu2, pu3, pu4]
      refine gw_val (by kernel_rfl) (some 66) rfl (.bool true) (geq_u rfl c 240 (decide_eq_true (by omega)) (by kernel_rfl) (by kernel_rfl) _) ?_
      simp only [pu1, pu2, pu3, pu4]
      refine gw_val (by kernel_rfl) (some 67) rfl (.bool true) (by kernel_rfl) ?_
      simp only [pu1, pu2, pu3, pu4]
      refine gw_val (by kernel_rfl) (some 68) rfl (.int .u8 c) (by kernel_rfl) ?_
      simp only [pu1, pu2, pu3, pu4]
      refine gw_val (by kernel_rfl) (some 69) rfl (.bool true) (lss_u rfl c 245 (decide_eq_true (by omega)) (by kernel_rfl) (by kernel_rfl) _) ?_
      simp only [pu1, pu2, pu3, pu4]
      refine gw_val (by kernel_rfl) (some 70) rfl (.bool true) (by kernel_rfl) ?_
      simp only [pu1, pu2, pu3, pu4]
      refine gw_val (by kernel_rfl) (some 71) rfl (.bool true) (by kernel_rfl) ?_
      simp only [pu1, pu2, pu3, pu4]
      refine gw_val (by kernel_rfl) (some 72) rfl (.string s) (by kernel_rfl) ?_
      simp only [pu1, pu2, pu3, pu4]
      refine gw_val (by kernel_rfl) (some 73) rfl (.int .i64 i) (by kernel_rfl) ?_
      simp only [pu1, pu2, pu3, pu4]
      refine gw_val (by kernel_rfl) (some 74) rfl (.int .i64 (i + 1 : Nat)) (add_nat rfl i 1 (by omega) (by kernel_rfl) (by kernel_rfl) _) ?_
      simp only [pu1, pu2, pu3, pu4]
      refine gw_call (by kernel_rfl) (some 75) rfl 59 #[.string s, .int .i64 (i + 1 : Nat)] (.bool false) (fun w' => w = w') (by kernel_rfl) CF1 (fun W hW => ?_)
      subst hW
      simp only [pu1, pu2, pu3, pu4]
      refine gw_val (by kernel_rfl) (some 76) rfl (.bool false) (by kernel_rfl) ?_
      simp only [pu1, pu2, pu3, pu4]
      refine gw_val (by kernel_rfl) (some 77) rfl (.bool false) (by kernel_rfl) ?_
      simp only [pu1, pu2, pu3, pu4]
      with_reducible refine gw_not (by kernel_rfl) (some 78) rfl ?_
      simp only [pu1, pu2, pu3, pu4]
      with_reducible refine gw_not (by kernel_rfl) (some 79) rfl ?_
      simp only [pu1, pu2, pu3, pu4]
      with_reducible refine gw_not (by kernel_rfl) (some 80) rfl ?_
      simp only [pu1, pu2, pu3, pu4]
      with_reducible refine gw_not (by kernel_rfl) (some 81) rfl ?_
      simp only [pu1, pu2, pu3, pu4]
      refine gw_val (by kernel_rfl) (some 82) rfl (.bool false) (by kernel_rfl) ?_
      simp only [pu1, pu2, pu3, pu4]
      refine gw_val (by kernel_rfl) (some 83) rfl (.bool false) (by kernel_rfl) ?_
      simp only [pu1, pu2, pu3, pu4]
      with_reducible refine gw_not (by kernel_rfl) (some 84) rfl ?_
      simp only [pu1, pu2, pu3, pu4]
      with_reducible refine gw_not (by kernel_rfl) (some 85) rfl ?_
      simp only [pu1, pu2, pu3, pu4]
      with_reducible refine gw_not (by kernel_rfl) (some 86) rfl ?_
      simp only [pu1, pu2, pu3, pu4]
      with_reducible refine gw_not (by kernel_rfl) (some 87) rfl ?_
      simp only [pu1, pu2, pu3, pu4]
      refine gw_val (by kernel_rfl) (some 88) rfl (.bool false) (by kernel_rfl) ?_
      simp only [pu1, pu2, pu3, pu4]
      refine gw_val (by kernel_rfl) (some 64) rfl (.bool false) (by kernel_rfl) ?_
      simp only [pu1, pu2, pu3, pu4]
      apply wpList_nil
      have HE : Hid (r = 0) := by
        refine Lib.hid ?_
        rw [HV.out]
        unfold runN
        try simp only [and_true, and_false, false_and, true_and, if_false, if_true, eq_self, Bool.false_eq_true, reduceCtorEq]
        repeat' split
        all_goals (first | rfl | omega)
      go_upto_region 14 with fail
      apply wp_region_lit
      refine gw_val (by kernel_rfl) (some 4) rfl (.int .i64 0) (by kernel_rfl) ?_
      simp only [pu1, pu2, pu3, pu4]
      apply wpList_nil
      go_wp2_with fail
      go_ret
      rw [HE.out]
      exact ⟨rfl, rfl⟩
    · skip
      cases f2
      · skip
        go_upto_region 4 with fail
        apply wp_region_lit
        refine gw_val (by kernel_rfl) (some 13) rfl (.int .u8 c) (by kernel_rfl) ?_
        simp only [pu1, pu2, pu3, pu4]
        refine gw_val (by kernel_rfl) (some 14) rfl (.bool true) (geq_u rfl c 194 (decide_eq_true (by omega)) (by kernel_rfl) (by kernel_rfl) _) ?_
        simp only [pu1, pu2, pu3, pu4]
        refine gw_val (by kernel_rfl) (some 15) rfl (.bool true) (by kernel_rfl) ?_
        simp only [pu1, pu2, pu3, pu4]
        refine gw_val (by kernel_rfl) (some 16) rfl (.int .u8 c) (by kernel_rfl) ?_
        simp only [pu1, pu2, pu3, pu4]
        refine gw_val (by kernel_rfl) (some 17) rfl (.bool false) (lss_u rfl c 224 (decide_eq_false (by omega)) (by kernel_rfl) (by kernel_rfl) _) ?_
        simp only [pu1, pu2, pu3, pu4]
        refine gw_val (by kernel_rfl) (some 18) rfl (.bool false) (by kernel_rfl) ?_
        simp only [pu1, pu2, pu3, pu4]
        refine gw_val (by kernel_rfl) (some 19) rfl (.bool false) (by kernel_rfl) ?_
        simp only [pu1, pu2, pu3, pu4]
        with_reducible refine gw_not (by kernel_rfl) (some 20) rfl ?_
        simp only [pu1, pu2, pu3, pu4]
        with_reducible refine gw_not (by kernel_rfl) (some 21) rfl ?_
        simp only [pu1, pu2, pu3, pu4]
        with_reducible refine gw_not (by kernel_rfl) (some 22) rfl ?_
        simp only [pu1, pu2, pu3, pu4]
        with_reducible refine gw_not (by kernel_rfl) (some 23) rfl ?_
        simp only [pu1, pu2, pu3, pu4]
        refine gw_val (by kernel_rfl) (some 24) rfl (.bool false) (by kernel_rfl) ?_
        simp only [pu1, pu2, pu3, pu4]
        refine gw_val (by kernel_rfl) (some 12) rfl (.bool false) (by kernel_rfl) ?_
        simp only [pu1, pu2, pu3, pu4]
        apply wpList_nil
        go_upto_region 6 with fail
        apply wp_region_lit
        refine gw_val (by kernel_rfl) (some 26) rfl (.int .u8 c) (by kernel_rfl) ?_
        simp only [pu1, pu2, pu3, pu4]
        refine gw_val (by kernel_rfl) (some 27) rfl (.bool true) (geq_u rfl c 224 (decide_eq_true (by omega)) (by kernel_rfl) (by kernel_rfl) _) ?_
        simp only [pu1, pu2, pu3, pu4]
        refine gw_val (by kernel_rfl) (some 28) rfl (.bool true) (by kernel_rfl) ?_
        simp only [pu1, pu2, pu3, pu4]
        refine gw_val (by kernel_rfl) (some 29) rfl (.int .u8 c) (by kernel_rfl) ?_
        simp only [pu1, pu2, pu3, pu4]
        refine gw_val (by kernel_rfl) (some 30) rfl (.bool false) (lss_u rfl c 240 (decide_eq_false (by omega)) (by kernel_rfl) (by kernel_rfl) _) ?_
        simp only [pu1, pu2, pu3, pu4]
        refine gw_val (by kernel_rfl) (some 31) rfl (.bool false) (by kernel_rfl) ?_
        simp only [pu1, pu2, pu3, pu4]
        refine gw_val (by kernel_rfl) (some 32) rfl (.bool false) (by kernel_rfl) ?_
        simp only [pu1, pu2, pu3, pu4]
        with_reducible refine gw_not (by kernel_rfl) (some 33) rfl ?_
        simp only [pu1, pu2, pu3, pu4]
        with_reducible refine gw_not (by kernel_rfl) (some 34) rfl ?_
        simp only [pu1, pu2, pu3, pu4]
        with_reducible refine gw_not (by kernel_rfl) (some 35) rfl ?_
        simp only [pu1, pu2, pu3, pu4]
        with_reducible refine gw_not (by kernel_rfl) (some 36) rfl ?_
        simp only [pu1, pu2, pu3, pu4]
        refine gw_val (by kernel_rfl) (some 37) rfl (.bool false) (by kernel_rfl) ?_
        simp only [pu1, pu2, pu3, pu4]
        refine gw_val (by kernel_rfl) (some 38) rfl (.bool false) (by kernel_rfl) ?_
        simp only [pu1, pu2, pu3, pu4]
        with_reducible refine gw_not (by kernel_rfl) (some 39) rfl ?_
        simp only [pu1, pu2, pu3, pu4]
        with_reducible refine gw_not (by kernel_rfl) (some 40) rfl ?_
        simp only [pu1, pu2, pu3, pu4]
        with_reducible refine gw_not (by kernel_rfl) (some 41) rfl ?_
        simp only [pu1, pu2, pu3, pu4]
        with_reducible refine gw_not (by kernel_rfl) (some 42) rfl ?_
        simp only [pu1, pu2, pu3, pu4]
        refine gw_val (by kernel_rfl) (some 43) rfl (.bool false) (by kernel_rfl) ?_
        simp only [pu1, pu2, pu3, pu4]
        refine gw_val (by kernel_rfl) (some 25) rfl (.bool false) (by kernel_rfl) ?_
        simp only [pu1, pu2, pu3, pu4]
        apply wpList_nil
        go_upto_region 10 with fail
        apply wp_region_lit
        refine gw_val (by kernel_rfl) (some 65) rfl (.int .u8 c) (by kernel_rfl) ?_
        simp only [pu1, pu2, pu3, pu4]
        refine gw_val (by kernel_rfl) (some 66) rfl (.bool true) (geq_u rfl c 240 (decide_eq_true (by omega)) (by kernel_rfl) (by kernel_rfl) _) ?_
        simp only [pu1, pu2, pu3, pu4]
        refine gw_val (by kernel_rfl) (some 67) rfl (.bool true) (by kernel_rfl) ?_
        simp only [pu1, pu2, pu3, pu4]
        refine gw_val (by kernel_rfl) (some 68) rfl (.int .u8 c) (by kernel_rfl) ?_
        simp only [pu1, pu2, pu3, pu4]
        refine gw_val (by kernel_rfl) (some 69) rfl (.bool true) (lss_u rfl c 245 (decide_eq_true (by omega)) (by kernel_rfl) (by kernel_rfl) _) ?_
        simp only [pu1, pu2, pu3, pu4]
        refine gw_val (by kernel_rfl) (some 70) rfl (.bool true) (by kernel_rfl) ?_
        simp only [pu1, pu2, pu3, pu4]
        refine gw_val (by kernel_rfl) (some 71) rfl (.bool true) (by kernel_rfl) ?_
        simp only [pu1, pu2, pu3, pu4]
        refine gw_val (by kernel_rfl) (some 72) rfl (.string s) (by kernel_rfl) ?_
        simp only [pu1, pu2, pu3, pu4]
        refine gw_val (by kernel_rfl) (some 73) rfl (.int .i64 i) (by kernel_rfl) ?_
        simp only [pu1, pu2, pu3, pu4]
        refine gw_val (by kernel_rfl) (some 74) rfl (.int .i64 (i + 1 : Nat)) (add_nat rfl i 1 (by omega) (by kernel_rfl) (by kernel_rfl) _) ?_
        simp only [pu1, pu2, pu3, pu4]
        refine gw_call (by kernel_rfl) (some 75) rfl 59 #[.string s, .int .i64 (i + 1 : Nat)] (.bool true) (fun w' => w = w') (by kernel_rfl) CF1 (fun W hW => ?_)
        subst hW
        simp only [pu1, pu2, pu3, pu4]
        refine gw_val (by kernel_rfl) (some 76) rfl (.bool true) (by kernel_rfl) ?_
        simp only [pu1, pu2, pu3, pu4]
        refine gw_val (by kernel_rfl) (some 77) rfl (.bool true) (by kernel_rfl) ?_
        simp only [pu1, pu2, pu3, pu4]
        refine gw_val (by kernel_rfl) (some 78) rfl (.string s) (by kernel_rfl) ?_
        simp only [pu1, pu2, pu3, pu4]
        refine gw_val (by kernel_rfl) (some 79) rfl (.int .i64 i) (by kernel_rfl) ?_
        simp only [pu1, pu2, pu3, pu4]
        refine gw_val (by kernel_rfl) (some 80) rfl (.int .i64 (i + 2 : Nat)) (add_nat rfl i 2 (by omega) (by kernel_rfl) (by kernel_rfl) _) ?_
        simp only [pu1, pu2, pu3, pu4]
        refine gw_call (by kernel_rfl) (some 81) rfl 59 #[.string s, .int .i64 (i + 2 : Nat)] (.bool false) (fun w' => w = w') (by kernel_rfl) CF2 (fun W hW => ?_)
        subst hW
        simp only [pu1, pu2, pu3, pu4]
        refine gw_val (by kernel_rfl) (some 82) rfl (.bool false) (by kernel_rfl) ?_
        simp only [pu1, pu2, pu3, pu4]
        refine gw_val (by kernel_rfl) (some 83) rfl (.bool false) (by kernel_rfl) ?_
        simp only [pu1, pu2, pu3, pu4]
        with_reducible refine gw_not (by kernel_rfl) (some 84) rfl ?_
        simp only [pu1, pu2, pu3, pu4]
        with_reducible refine gw_not (by kernel_rfl) (some 85) rfl ?_
        simp only [pu1, pu2, pu3, pu4]
        with_reducible refine gw_not (by kernel_rfl) (some 86) rfl ?_
        simp only [pu1, pu2, pu3, pu4]
        with_reducible refine gw_not (by kernel_rfl) (some 87) rfl ?_
        simp only [pu1, pu2, pu3, pu4]
        refine gw_val (by kernel_rfl) (some 88) rfl (.bool false) (by kernel_rfl) ?_
        simp only [pu1, pu2, pu3, pu4]
        refine gw_val (by kernel_rfl) (some 64) rfl (.bool false) (by kernel_rfl) ?_
        simp only [pu1, pu2, pu3, pu4]
        apply wpList_nil
        have HE : Hid (r = 0) := by
          refine Lib.hid ?_
          rw [HV.out]
          unfold runN
          try simp only [and_true, and_false, false_and, true_and, if_false, if_true, eq_self, Bool.false_eq_true, reduceCtorEq]
          repeat' split
          all_goals (first | rfl | omega)
        go_upto_region 14 with fail
        apply wp_region_lit
        refine gw_val (by kernel_rfl) (some 4) rfl (.int .i64 0) (by kernel_rfl) ?_
        simp only [pu1, pu2, pu3, pu4]
        apply wpList_nil
        go_wp2_with fail
        go_ret
        rw [HE.out]
        exact ⟨rfl, rfl⟩
      · skip
        cases f3
        · skip
          go_upto_region 4 with fail
          apply wp_region_lit
          refine gw_val (by kernel_rfl) (some 13) rfl (.int .u8 c) (by kernel_rfl) ?_
          simp only [pu1, pu2, pu3, pu4]
          refine gw_val (by kernel_rfl) (some 14) rfl (.bool true) (geq_u rfl c 194 (decide_eq_true (by omega)) (by kernel_rfl) (by kernel_rfl) _) ?_
          simp only [pu1, pu2, pu3, pu4]
          refine gw_val (by kernel_rfl) (some 15) rfl (.bool true) (by kernel_rfl) ?_
          simp only [pu1, pu2, pu3, pu4]
          refine gw_val (by kernel_rfl) (some 16) rfl (.int .u8 c) (by kernel_rfl) ?_
          simp only [pu1, pu2, pu3, pu4]
          refine gw_val (by kernel_rfl) (some 17) rfl (.bool false) (lss_u rfl c 224 (decide_eq_false (by omega)) (by kernel_rfl) (by kernel_rfl) _) ?_
          simp only [pu1, pu2, pu3, pu4]
          refine gw_val (by kernel_rfl) (some 18) rfl (.bool false) (by kernel_rfl) ?_
          simp only [pu1, pu2, pu3, pu4]
          refine gw_val (by kernel_rfl) (some 19) rfl (.bool false) (by kernel_rfl) ?_
          simp only [pu1, pu2, pu3, pu4]
          with_reducible refine gw_not (by kernel_rfl) (some 20) rfl ?_
          simp only [pu1, pu2, pu3, pu4]
          with_reducible refine gw_not (by kernel_rfl) (some 21) rfl ?_
          simp only [pu1, pu2, pu3, pu4]
          with_reducible refine gw_not (by kernel_rfl) (some 22) rfl ?_
          simp only [pu1, pu2, pu3, pu4]
          with_reducible refine gw_not (by kernel_rfl) (some 23) rfl ?_
          simp only [pu1, pu2, pu3, pu4]
          refine gw_val (by kernel_rfl) (some 24) rfl (.bool false) (by kernel_rfl) ?_
          simp only [pu1, pu2, pu3, pu4]
          refine gw_val (by kernel_rfl) (some 12) rfl (.bool false) (by kernel_rfl) ?_
          simp only [pu1, pu2, pu3, pu4]
          apply wpList_nil
          go_upto_region 6 with fail
          apply wp_region_lit
          refine gw_val (by kernel_rfl) (some 26) rfl (.int .u8 c) (by kernel_rfl) ?_
          simp only [pu1, pu2, pu3, pu4]
          refine gw_val (by kernel_rfl) (some 27) rfl (.bool true) (geq_u rfl c 224 (decide_eq_true (by omega)) (by kernel_rfl) (by kernel_rfl) _) ?_
          simp only [pu1, pu2, pu3, pu4]
          refine gw_val (by kernel_rfl) (some 28) rfl (.bool true) (by kernel_rfl) ?_
          simp only [pu1, pu2, pu3, pu4]
          refine gw_val (by kernel_rfl) (some 29) rfl (.int .u8 c) (by kernel_rfl) ?_
          simp only [pu1, pu2, pu3, pu4]
          refine gw_val (by kernel_rfl) (some 30) rfl (.bool false) (lss_u rfl c 240 (decide_eq_false (by omega)) (by kernel_rfl) (by kernel_rfl) _) ?_
          simp only [pu1, pu2, pu3, pu4]
          refine gw_val (by kernel_rfl) (some 31) rfl (.bool false) (by kernel_rfl) ?_
          simp only [pu1, pu2, pu3, pu4]
          refine gw_val (by kernel_rfl) (some 32) rfl (.bool false) (by kernel_rfl) ?_
          simp only [pu1, pu2, pu3, pu4]
          with_reducible refine gw_not (by kernel_rfl) (some 33) rfl ?_
          simp only [pu1, pu2, pu3, pu4]
          with_reducible refine gw_not (by kernel_rfl) (some 34) rfl ?_
          simp only [pu1, pu2, pu3, pu4]
          with_reducible refine gw_not (by kernel_rfl) (some 35) rfl ?_
          simp only [pu1, pu2, pu3, pu4]
          with_reducible refine gw_not (by kernel_rfl) (some 36) rfl ?_
          simp only [pu1, pu2, pu3, pu4]
          refine gw_val (by kernel_rfl) (some 37) rfl (.bool false) (by kernel_rfl) ?_
          simp only [pu1, pu2, pu3, pu4]
          refine gw_val (by kernel_rfl) (some 38) rfl (.bool false) (by kernel_rfl) ?_
          simp only [pu1, pu2, pu3, pu4]
          with_reducible refine gw_not (by kernel_rfl) (some 39) rfl ?_
          simp only [pu1, pu2, pu3, pu4]
          with_reducible refine gw_not (by kernel_rfl) (some 40) rfl ?_
          simp only [pu1, pu2, pu3, pu4]
          with_reducible refine gw_not (by kernel_rfl) (some 41) rfl ?_
          simp only [pu1, pu2, pu3, pu4]
          with_reducible refine gw_not (by kernel_rfl) (some 42) rfl ?_
          simp only [pu1, pu2, pu3, pu4]
          refine gw_val (by kernel_rfl) (some 43) rfl (.bool false) (by kernel_rfl) ?_
          simp only [pu1, pu2, pu3, pu4]
          refine gw_val (by kernel_rfl) (some 25) rfl (.bool false) (by kernel_rfl) ?_
          simp only [pu1, pu2, pu3, pu4]
          apply wpList_nil
          go_upto_region 10 with fail
          apply wp_region_lit
          refine gw_val (by kernel_rfl) (some 65) rfl (.int .u8 c) (by kernel_rfl) ?_
          simp only [pu1, pu2, pu3, pu4]
          refine gw_val (by kernel_rfl) (some 66) rfl (.bool true) (geq_u rfl c 240 (decide_eq_true (by omega)) (by kernel_rfl) (by kernel_rfl) _) ?_
          simp only [pu1, pu2, pu3, pu4]
          refine gw_val (by kernel_rfl) (some 67) rfl (.bool true) (by kernel_rfl) ?_
          simp only [pu1, pu2, pu3, pu4]
          refine gw_val (by kernel_rfl) (some 68) rfl (.int .u8 c) (by kernel_rfl) ?_
          simp only [pu1, pu2, pu3, pu4]
          refine gw_val (by kernel_rfl) (some 69) rfl (.bool true) (lss_u rfl c 245 (decide_eq_true (by omega)) (by kernel_rfl) (by kernel_rfl) _) ?_
          simp only [pu1, pu2, pu3, pu4]
          refine gw_val (by kernel_rfl) (some 70) rfl (.bool true) (by kernel_rfl) ?_
          simp only [pu1, pu2, pu3, pu4]
          refine gw_val (by kernel_rfl) (some 71) rfl (.bool true) (by kernel_rfl) ?_
          simp only [pu1, pu2, pu3, pu4]
          refine gw_val (by kernel_rfl) (some 72) rfl (.string s) (by kernel_rfl) ?_
          simp only [pu1, pu2, pu3, pu4]
          refine gw_val (by kernel_rfl) (some 73) rfl (.int .i64 i) (by kernel_rfl) ?_
          simp only [pu1, pu2, pu3, pu4]
          refine gw_val (by kernel_rfl) (some 74) rfl (.int .i64 (i + 1 : Nat)) (add_nat rfl i 1 (by omega) (by kernel_rfl) (by kernel_rfl) _) ?_
          simp only [pu1, pu2, pu3, pu4]
          refine gw_call (by kernel_rfl) (some 75) rfl 59 #[.string s, .int .i64 (i + 1 : Nat)] (.bool true) (fun w' => w = w') (by kernel_rfl) CF1 (fun W hW => ?_)
          subst hW
          simp only [pu1, pu2, pu3, pu4]
          refine gw_val (by kernel_rfl) (some 76) rfl (.bool true) (by kernel_rfl) ?_
          simp only [pu1, pu2, pu3, pu4]
          refine gw_val (by kernel_rfl) (some 77) rfl (.bool true) (by kernel_rfl) ?_
          simp only [pu1, pu2, pu3, pu4]
          refine gw_val (by kernel_rfl) (some 78) rfl (.string s) (by kernel_rfl) ?_
          simp only [pu1, pu2, pu3, pu4]
          refine gw_val (by kernel_rfl) (some 79) rfl (.int .i64 i) (by kernel_rfl) ?_
          simp only [pu1, pu2, pu3, pu4]
          refine gw_val (by kernel_rfl) (some 80) rfl (.int .i64 (i + 2 : Nat)) (add_nat rfl i 2 (by omega) (by kernel_rfl) (by kernel_rfl) _) ?_
          simp only [pu1, pu2, pu3, pu4]
          refine gw_call (by kernel_rfl) (some 81) rfl 59 #[.string s, .int .i64 (i + 2 : Nat)] (.bool true) (fun w' => w = w') (by kernel_rfl) CF2 (fun W hW => ?_)
          subst hW
          simp only [pu1, pu2, pu3, pu4]
          refine gw_val (by kernel_rfl) (some 82) rfl (.bool true) (by kernel_rfl) ?_
          simp only [pu1, pu2, pu3, pu4]
          refine gw_val (by kernel_rfl) (some 83) rfl (.bool true) (by kernel_rfl) ?_
          simp only [pu1, pu2, pu3, pu4]
          refine gw_val (by kernel_rfl) (some 84) rfl (.string s) (by kernel_rfl) ?_
          simp only [pu1, pu2, pu3, pu4]
          refine gw_val (by kernel_rfl) (some 85) rfl (.int .i64 i) (by kernel_rfl) ?_
          simp only [pu1, pu2, pu3, pu4]
          refine gw_val (by kernel_rfl) (some 86) rfl (.int .i64 (i + 3 : Nat)) (add_nat rfl i 3 (by omega) (by kernel_rfl) (by kernel_rfl) _) ?_
          simp only [pu1, pu2, pu3, pu4]
          refine gw_call (by kernel_rfl) (some 87) rfl 59 #[.string s, .int .i64 (i + 3 : Nat)] (.bool false) (fun w' => w = w') (by kernel_rfl) CF3 (fun W hW => ?_)
          subst hW
          simp only [pu1, pu2, pu3, pu4]
          refine gw_val (by kernel_rfl) (some 88) rfl (.bool false) (by kernel_rfl) ?_
          simp only [pu1, pu2, pu3, pu4]
          refine gw_val (by kernel_rfl) (some 64) rfl (.bool false) (by kernel_rfl) ?_
          simp only [pu1, pu2, pu3, pu4]
          apply wpList_nil
          have HE : Hid (r = 0) := by
            refine Lib.hid ?_
            rw [HV.out]
            unfold runN
            try simp only [and_true, and_false, false_and, true_and, if_false, if_true, eq_self, Bool.false_eq_true, reduceCtorEq]
            repeat' split
            all_goals (first | rfl | omega)
          go_upto_region 14 with fail
          apply wp_region_lit
          refine gw_val (by kernel_rfl) (some 4) rfl (.int .i64 0) (by kernel_rfl) ?_
          simp only [pu1, pu2, pu3, pu4]
          apply wpList_nil
          go_wp2_with fail
          go_ret
          rw [HE.out]
          exact ⟨rfl, rfl⟩
        · skip
          go_upto_region 4 with fail
          apply wp_region_lit
          refine gw_val (by kernel_rfl) (some 13) rfl (.int .u8 c) (by kernel_rfl) ?_
          simp only [pu1, pu2, pu3, pu4]
          refine gw_val (by kernel_rfl) (some 14) rfl (.bool true) (geq_u rfl c 194 (decide_eq_true (by omega)) (by kernel_rfl) (by kernel_rfl) _) ?_
          simp only [pu1, pu2, pu3, pu4]
          refine gw_val (by kernel_rfl) (some 15) rfl (.bool true) (by kernel_rfl) ?_
          simp only [pu1, pu2, pu3, pu4]
          refine gw_val (by kernel_rfl) (some 16) rfl (.int .u8 c) (by kernel_rfl) ?_
          simp only [pu1, pu2, pu3, pu4]
          refine gw_val (by kernel_rfl) (some 17) rfl (.bool false) (lss_u rfl c 224 (decide_eq_false (by omega)) (by kernel_rfl) (by kernel_rfl) _) ?_
          simp only [pu1, pu2, pu3, pu4]
          refine gw_val (by kernel_rfl) (some 18) rfl (.bool false) (by kernel_rfl) ?_
          simp only [pu1, pu2, pu3, pu4]
          refine gw_val (by kernel_rfl) (some 19) rfl (.bool false) (by kernel_rfl) ?_
          simp only [pu1, pu2, pu3, pu4]
          with_reducible refine gw_not (by kernel_rfl) (some 20) rfl ?_
          simp only [pu1, pu2, pu3, pu4]
          with_reducible refine gw_not (by kernel_rfl) (some 21) rfl ?_
          simp only [pu1, pu2, pu3, pu4]
          with_reducible refine gw_not (by kernel_rfl) (some 22) rfl ?_
          simp only [pu1, pu2, pu3, pu4]
          with_reducible refine gw_not (by kernel_rfl) (some 23) rfl ?_
          simp only [pu1, pu2, pu3, pu4]
          refine gw_val (by kernel_rfl) (some 24) rfl (.bool false) (by kernel_rfl) ?_
          simp only [pu1, pu2, pu3, pu4]
          refine gw_val (by kernel_rfl) (some 12) rfl (.bool false) (by kernel_rfl) ?_
          simp only [pu1, pu2, pu3, pu4]
          apply wpList_nil
          go_upto_region 6 with fail
          apply wp_region_lit
          refine gw_val (by kernel_rfl) (some 26) rfl (.int .u8 c) (by kernel_rfl) ?_
          simp only [pu1, pu2, pu3, pu4]
          refine gw_val (by kernel_rfl) (some 27) rfl (.bool true) (geq_u rfl c 224 (decide_eq_true (by omega)) (by kernel_rfl) (by kernel_rfl) _) ?_
          simp only [pu1, pu2, pu3, pu4]
          refine gw_val (by kernel_rfl) (some 28) rfl (.bool true) (by kernel_rfl) ?_
          simp only [pu1, pu2, pu3, pu4]
          refine gw_val (by kernel_rfl) (some 29) rfl (.int .u8 c) (by kernel_rfl) ?_
          simp only [pu1, pu2, pu3, pu4]
          refine gw_val (by kernel_rfl) (some 30) rfl (.bool false) (lss_u rfl c 240 (decide_eq_false (by omega)) (by kernel_rfl) (by kernel_rfl) _) ?_
          simp only [pu1, pu2, pu3, pu4]
          refine gw_val (by kernel_rfl) (some 31) rfl (.bool false) (by kernel_rfl) ?_
          simp only [pu1, pu2, pu3, pu4]
          refine gw_val (by kernel_rfl) (some 32) rfl (.bool false) (by kernel_rfl) ?_
          simp only [pu1, pu2, pu3, pu4]
          with_reducible refine gw_not (by kernel_rfl) (some 33) rfl ?_
          simp only [pu1, pu2, pu3, pu4]
          with_reducible refine gw_not (by kernel_rfl) (some 34) rfl ?_
          simp only [pu1, pu2, pu3, pu4]
          with_reducible refine gw_not (by kernel_rfl) (some 35) rfl ?_
          simp only [pu1, pu2, pu3, pu4]
          with_reducible refine gw_not (by kernel_rfl) (some 36) rfl ?_
          simp only [pu1, pu2, pu3, pu4]
          refine gw_val (by kernel_rfl) (some 37) rfl (.bool false) (by kernel_rfl) ?_
          simp only [pu1, pu2, pu3, pu4]
          refine gw_val (by kernel_rfl) (some 38) rfl (.bool false) (by kernel_rfl) ?_
          simp only [pu1, pu2, pu3, pu4]
          with_reducible refine gw_not (by kernel_rfl) (some 39) rfl ?_
          simp only [pu1, pu2, pu3, pu4]
          with_reducible refine gw_not (by kernel_rfl) (some 40) rfl ?_
          simp only [pu1, pu2, pu3, pu4]
          with_reducible refine gw_not (by kernel_rfl) (some 41) rfl ?_
          simp only [pu1, pu2, pu3, pu4]
          with_reducible refine gw_not (by kernel_rfl) (some 42) rfl ?_
          simp only [pu1, pu2, pu3, pu4]
          refine gw_val (by kernel_rfl) (some 43) rfl (.bool false) (by kernel_rfl) ?_
          simp only [pu1, pu2, pu3, pu4]
          refine gw_val (by kernel_rfl) (some 25) rfl (.bool false) (by kernel_rfl) ?_
          simp only [pu1, pu2, pu3, pu4]
          apply wpList_nil
          go_upto_region 10 with fail
          apply wp_region_lit
          refine gw_val (by kernel_rfl) (some 65) rfl (.int .u8 c) (by kernel_rfl) ?_
          simp only [pu1, pu2, pu3, pu4]
          refine gw_val (by kernel_rfl) (some 66) rfl (.bool true) (geq_u rfl c 240 (decide_eq_true (by omega)) (by kernel_rfl) (by kernel_rfl) _) ?_
          simp only [pu1, pu2, pu3, pu4]
          refine gw_val (by kernel_rfl) (some 67) rfl (.bool true) (by kernel_rfl) ?_
          simp only [pu1, pu2, pu3, pu4]
          refine gw_val (by kernel_rfl) (some 68) rfl (.int .u8 c) (by kernel_rfl) ?_
          simp only [pu1, pu2, pu3, pu4]
          refine gw_val (by kernel_rfl) (some 69) rfl (.bool true) (lss_u rfl c 245 (decide_eq_true (by omega)) (by kernel_rfl) (by kernel_rfl) _) ?_
          simp only [pu1, pu2, pu3, pu4]
          refine gw_val (by kernel_rfl) (some 70) rfl (.bool true) (by kernel_rfl) ?_
          simp only [pu1, pu2, pu3, pu4]
          refine gw_val (by kernel_rfl) (some 71) rfl (.bool true) (by kernel_rfl) ?_
          simp only [pu1, pu2, pu3, pu4]
          refine gw_val (by kernel_rfl) (some 72) rfl (.string s) (by kernel_rfl) ?_
          simp only [pu1, pu2, pu3, pu4]
          refine gw_val (by kernel_rfl) (some 73) rfl (.int .i64 i) (by kernel_rfl) ?_
          simp only [pu1, pu2, pu3, pu4]
          refine gw_val (by kernel_rfl) (some 74) rfl (.int .i64 (i + 1 : Nat)) (add_nat rfl i 1 (by omega) (by kernel_rfl) (by kernel_rfl) _) ?_
          simp only [pu1, pu2, pu3, pu4]
          refine gw_call (by kernel_rfl) (some 75) rfl 59 #[.string s, .int .i64 (i + 1 : Nat)] (.bool true) (fun w' => w = w') (by kernel_rfl) CF1 (fun W hW => ?_)
          subst hW
          simp only [pu1, pu2, pu3, pu4]
          refine gw_val (by kernel_rfl) (some 76) rfl (.bool true) (by kernel_rfl) ?_
          simp only [pu1, pu2, pu3, pu4]
          refine gw_val (by kernel_rfl) (some 77) rfl (.bool true) (by kernel_rfl) ?_
          simp only [pu1, pu2, pu3, pu4]
          refine gw_val (by kernel_rfl) (some 78) rfl (.string s) (by kernel_rfl) ?_
          simp only [pu1, pu2, pu3, pu4]
          refine gw_val (by kernel_rfl) (some 79) rfl (.int .i64 i) (by kernel_rfl) ?_
          simp only [pu1, pu2, pu3, pu4]
          refine gw_val (by kernel_rfl) (some 80) rfl (.int .i64 (i + 2 : Nat)) (add_nat rfl i 2 (by omega) (by kernel_rfl) (by kernel_rfl) _) ?_
          simp only [pu1, pu2, pu3, pu4]
          refine gw_call (by kernel_rfl) (some 81) rfl 59 #[.string s, .int .i64 (i + 2 : Nat)] (.bool true) (fun w' => w = w') (by kernel_rfl) CF2 (fun W hW => ?_)
          subst hW
          simp only [pu1, pu2, pu3, pu4]
          refine gw_val (by kernel_rfl) (some 82) rfl (.bool true) (by kernel_rfl) ?_
          simp only [pu1, pu2, pu3, pu4]
          refine gw_val (by kernel_rfl) (some 83) rfl (.bool true) (by kernel_rfl) ?_
          simp only [pu1, pu2, pu3, pu4]
          refine gw_val (by kernel_rfl) (some 84) rfl (.string s) (by kernel_rfl) ?_
          simp only [pu1, pu2, pu3, pu4]
          refine gw_val (by kernel_rfl) (some 85) rfl (.int .i64 i) (by kernel_rfl) ?_
          simp only [pu1, pu2, pu3, pu4]
          refine gw_val (by kernel_rfl) (some 86) rfl (.int .i64 (i + 3 : Nat)) (add_nat rfl i 3 (by omega) (by kernel_rfl) (by kernel_rfl) _) ?_
          simp only [pu1, pu2, pu3, pu4]
          refine gw_call (by kernel_rfl) (some 87) rfl 59 #[.string s, .int .i64 (i + 3 : Nat)] (.bool true) (fun w' => w = w') (by kernel_rfl) CF3 (fun W hW => ?_)
          subst hW
          simp only [pu1, pu2, pu3, pu4]
          refine gw_val (by kernel_rfl) (some 88) rfl (.bool true) (by kernel_rfl) ?_
          simp only [pu1, pu2, pu3, pu4]
          refine gw_val (by kernel_rfl) (some 64) rfl (.bool true) (by kernel_rfl) ?_
          simp only [pu1, pu2, pu3, pu4]
          apply wpList_nil
          have hid := HI1.out rfl
          clear HI1
          go_upto_region 11 with fail
          rcases (show (c = 240 ∧ d < 144) ∨ (c = 240 ∧ 144 ≤ d) ∨ (c = 244 ∧ d < 144) ∨ (c = 244 ∧ 144 ≤ d) ∨ (c ≠ 240 ∧ c ≠ 244) by omega) with hd | hd | hd | hd | hd
          · skip
            apply wp_region_lit
            refine gw_val (by kernel_rfl) (some 89) rfl (.int .u8 c) (by kernel_rfl) ?_
            simp only [pu1, pu2, pu3, pu4]
            refine gw_val (by kernel_rfl) (some 90) rfl (.bool true) (eql_u rfl c 240 (decide_eq_true (by omega)) (by kernel_rfl) (by kernel_rfl) _) ?_
            simp only [pu1, pu2, pu3, pu4]
            refine gw_val (by kernel_rfl) (some 91) rfl (.bool true) (by kernel_rfl) ?_
            simp only [pu1, pu2, pu3, pu4]
            refine gw_val (by kernel_rfl) (some 92) rfl (.string s) (by kernel_rfl) ?_
            simp only [pu1, pu2, pu3, pu4]
            refine gw_val (by kernel_rfl) (some 93) rfl (.int .i64 i) (by kernel_rfl) ?_
            simp only [pu1, pu2, pu3, pu4]
            refine gw_val (by kernel_rfl) (some 94) rfl (.int .i64 (i + 1 : Nat)) (add_nat rfl i 1 (by omega) (by kernel_rfl) (by kernel_rfl) _) ?_
            simp only [pu1, pu2, pu3, pu4]
            refine gw_val (by kernel_rfl) (some 95) rfl (.int .u8 d) (hid _ _ _ _ rfl (by kernel_rfl) (by kernel_rfl) _) ?_
            simp only [pu1, pu2, pu3, pu4]
            refine gw_val (by kernel_rfl) (some 96) rfl (.bool true) (lss_u rfl d 144 (decide_eq_true (by omega)) (by kernel_rfl) (by kernel_rfl) _) ?_
            simp only [pu1, pu2, pu3, pu4]
            refine gw_val (by kernel_rfl) (some 97) rfl (.bool true) (by kernel_rfl) ?_
            simp only [pu1, pu2, pu3, pu4]
            refine gw_val (by kernel_rfl) (some 98) rfl (.bool true) (by kernel_rfl) ?_
            simp only [pu1, pu2, pu3, pu4]
            with_reducible refine gw_not (by kernel_rfl) (some 99) rfl ?_
            simp only [pu1, pu2, pu3, pu4]
            with_reducible refine gw_not (by kernel_rfl) (some 100) rfl ?_
            simp only [pu1, pu2, pu3, pu4]
            with_reducible refine gw_not (by kernel_rfl) (some 101) rfl ?_
            simp only [pu1, pu2, pu3, pu4]
            with_reducible refine gw_not (by kernel_rfl) (some 102) rfl ?_
            simp only [pu1, pu2, pu3, pu4]
            with_reducible refine gw_not (by kernel_rfl) (some 103) rfl ?_
            simp only [pu1, pu2, pu3, pu4]
            with_reducible refine gw_not (by kernel_rfl) (some 104) rfl ?_
            simp only [pu1, pu2, pu3, pu4]
            with_reducible refine gw_not (by kernel_rfl) (some 105) rfl ?_
            simp only [pu1, pu2, pu3, pu4]
            with_reducible refine gw_not (by kernel_rfl) (some 106) rfl ?_
            simp only [pu1, pu2, pu3, pu4]
            with_reducible refine gw_not (by kernel_rfl) (some 107) rfl ?_
            simp only [pu1, pu2, pu3, pu4]
            refine gw_val (by kernel_rfl) (some 108) rfl (.bool true) (by kernel_rfl) ?_
            simp only [pu1, pu2, pu3, pu4]
            apply wpList_nil
            have HE : Hid (r = 0) := by
              refine Lib.hid ?_
              rw [HV.out]
              unfold runN
              try simp only [and_true, and_false, false_and, true_and, if_false, if_true, eq_self, Bool.false_eq_true, reduceCtorEq]
              repeat' split
              all_goals (first | rfl | omega)
            go_upto_region 12 with fail
            apply wp_region_lit
            refine gw_val (by kernel_rfl) (some 4) rfl (.int .i64 0) (by kernel_rfl) ?_
            simp only [pu1, pu2, pu3, pu4]
            apply wpList_nil
            go_wp2_with fail
            go_ret
            rw [HE.out]
            exact ⟨rfl, rfl⟩
          · skip
            apply wp_region_lit
            refine gw_val (by kernel_rfl) (some 89) rfl (.int .u8 c) (by kernel_rfl) ?_
            simp only [pu1, pu2, pu3, pu4]
            refine gw_val (by kernel_rfl) (some 90) rfl (.bool true) (eql_u rfl c 240 (decide_eq_true (by omega)) (by kernel_rfl) (by kernel_rfl) _) ?_
            simp only [pu1, pu2, pu3, pu4]
            refine gw_val (by kernel_rfl) (some 91) rfl (.bool true) (by kernel_rfl) ?_
            simp only [pu1, pu2, pu3, pu4]
            refine gw_val (by kernel_rfl) (some 92) rfl (.string s) (by kernel_rfl) ?_
            simp only [pu1, pu2, pu3, pu4]
            refine gw_val (by kernel_rfl) (some 93) rfl (.int .i64 i) (by kernel_rfl) ?_
            simp only [pu1, pu2, pu3, pu4]
            refine gw_val (by kernel_rfl) (some 94) rfl (.int .i64 (i + 1 : Nat)) (add_nat rfl i 1 (by omega) (by kernel_rfl) (by kernel_rfl) _) ?_
            simp only [pu1, pu2, pu3, pu4]
            refine gw_val (by kernel_rfl) (some 95) rfl (.int .u8 d) (hid _ _ _ _ rfl (by kernel_rfl) (by kernel_rfl) _) ?_
            simp only [pu1, pu2, pu3, pu4]
            refine gw_val (by kernel_rfl) (some 96) rfl (.bool false) (lss_u rfl d 144 (decide_eq_false (by omega)) (by kernel_rfl) (by kernel_rfl) _) ?_
            simp only [pu1, pu2, pu3, pu4]
            refine gw_val (by kernel_rfl) (some 97) rfl (.bool false) (by kernel_rfl) ?_
            simp only [pu1, pu2, pu3, pu4]
            refine gw_val (by kernel_rfl) (some 98) rfl (.bool false) (by kernel_rfl) ?_
            simp only [pu1, pu2, pu3, pu4]
            refine gw_val (by kernel_rfl) (some 99) rfl (.int .u8 c) (by kernel_rfl) ?_
            simp only [pu1, pu2, pu3, pu4]
            refine gw_val (by kernel_rfl) (some 100) rfl (.bool false) (eql_u rfl c 244 (decide_eq_false (by omega)) (by kernel_rfl) (by kernel_rfl) _) ?_
            simp only [pu1, pu2, pu3, pu4]
            refine gw_val (by kernel_rfl) (some 101) rfl (.bool false) (by kernel_rfl) ?_
            simp only [pu1, pu2, pu3, pu4]
            with_reducible refine gw_not (by kernel_rfl) (some 102) rfl ?_
            simp only [pu1, pu2, pu3, pu4]
            with_reducible refine gw_not (by kernel_rfl) (some 103) rfl ?_
            simp only [pu1, pu2, pu3, pu4]
            with_reducible refine gw_not (by kernel_rfl) (some 104) rfl ?_
            simp only [pu1, pu2, pu3, pu4]
            with_reducible refine gw_not (by kernel_rfl) (some 105) rfl ?_
            simp only [pu1, pu2, pu3, pu4]
            with_reducible refine gw_not (by kernel_rfl) (some 106) rfl ?_
            simp only [pu1, pu2, pu3, pu4]
            refine gw_val (by kernel_rfl) (some 107) rfl (.bool false) (by kernel_rfl) ?_
            simp only [pu1, pu2, pu3, pu4]
            refine gw_val (by kernel_rfl) (some 108) rfl (.bool false) (by kernel_rfl) ?_
            simp only [pu1, pu2, pu3, pu4]
            apply wpList_nil
            have HE : Hid (r = 4) := by
              refine Lib.hid ?_
              rw [HV.out]
              unfold runN
              try simp only [and_true, and_false, false_and, true_and, if_false, if_true, eq_self, Bool.false_eq_true, reduceCtorEq]
              repeat' split
              all_goals (first | rfl | omega)
            go_upto_region 13 with fail
            apply wp_region_lit
            refine gw_val (by kernel_rfl) (some 4) rfl (.int .i64 4) (by kernel_rfl) ?_
            simp only [pu1, pu2, pu3, pu4]
            apply wpList_nil
            go_wp2_with fail
            go_ret
            rw [HE.out]
            exact ⟨rfl, rfl⟩
          · skip
            apply wp_region_lit
            refine gw_val (by kernel_rfl) (some 89) rfl (.int .u8 c) (by kernel_rfl) ?_
            simp only [pu1, pu2, pu3, pu4]
            refine gw_val (by kernel_rfl) (some 90) rfl (.bool false) (eql_u rfl c 240 (decide_eq_false (by omega)) (by kernel_rfl) (by kernel_rfl) _) ?_
            simp only [pu1, pu2, pu3, pu4]
            refine gw_val (by kernel_rfl) (some 91) rfl (.bool false) (by kernel_rfl) ?_
            simp only [pu1, pu2, pu3, pu4]
            with_reducible refine gw_not (by kernel_rfl) (some 92) rfl ?_
            simp only [pu1, pu2, pu3, pu4]
            with_reducible refine gw_not (by kernel_rfl) (some 93) rfl ?_
            simp only [pu1, pu2, pu3, pu4]
            with_reducible refine gw_not (by kernel_rfl) (some 94) rfl ?_
            simp only [pu1, pu2, pu3, pu4]
            with_reducible refine gw_not (by kernel_rfl) (some 95) rfl ?_
            simp only [pu1, pu2, pu3, pu4]
            with_reducible refine gw_not (by kernel_rfl) (some 96) rfl ?_
            simp only [pu1, pu2, pu3, pu4]
            refine gw_val (by kernel_rfl) (some 97) rfl (.bool false) (by kernel_rfl) ?_
            simp only [pu1, pu2, pu3, pu4]
            refine gw_val (by kernel_rfl) (some 98) rfl (.bool false) (by kernel_rfl) ?_
            simp only [pu1, pu2, pu3, pu4]
            refine gw_val (by kernel_rfl) (some 99) rfl (.int .u8 c) (by kernel_rfl) ?_
            simp only [pu1, pu2, pu3, pu4]
            refine gw_val (by kernel_rfl) (some 100) rfl (.bool true) (eql_u rfl c 244 (decide_eq_true (by omega)) (by kernel_rfl) (by kernel_rfl) _) ?_
            simp only [pu1, pu2, pu3, pu4]
            refine gw_val (by kernel_rfl) (some 101) rfl (.bool true) (by kernel_rfl) ?_
            simp only [pu1, pu2, pu3, pu4]
            refine gw_val (by kernel_rfl) (some 102) rfl (.string s) (by kernel_rfl) ?_
            simp only [pu1, pu2, pu3, pu4]
            refine gw_val (by kernel_rfl) (some 103) rfl (.int .i64 i) (by kernel_rfl) ?_
            simp only [pu1, pu2, pu3, pu4]
            refine gw_val (by kernel_rfl) (some 104) rfl (.int .i64 (i + 1 : Nat)) (add_nat rfl i 1 (by omega) (by kernel_rfl) (by kernel_rfl) _) ?_
            simp only [pu1, pu2, pu3, pu4]
            refine gw_val (by kernel_rfl) (some 105) rfl (.int .u8 d) (hid _ _ _ _ rfl (by kernel_rfl) (by kernel_rfl) _) ?_
            simp only [pu1, pu2, pu3, pu4]
            refine gw_val (by kernel_rfl) (some 106) rfl (.bool false) (geq_u rfl d 144 (decide_eq_false (by omega)) (by kernel_rfl) (by kernel_rfl) _) ?_
            simp only [pu1, pu2, pu3, pu4]
            refine gw_val (by kernel_rfl) (some 107) rfl (.bool false) (by kernel_rfl) ?_
            simp only [pu1, pu2, pu3, pu4]
            refine gw_val (by kernel_rfl) (some 108) rfl (.bool false) (by kernel_rfl) ?_
            simp only [pu1, pu2, pu3, pu4]
            apply wpList_nil
            have HE : Hid (r = 4) := by
              refine Lib.hid ?_
              rw [HV.out]
              unfold runN
              try simp only [and_true, and_false, false_and, true_and, if_false, if_true, eq_self, Bool.false_eq_true, reduceCtorEq]
              repeat' split
              all_goals (first | rfl | omega)
            go_upto_region 13 with fail
            apply wp_region_lit
            refine gw_val (by kernel_rfl) (some 4) rfl (.int .i64 4) (by kernel_rfl) ?_
            simp only [pu1, pu2, pu3, pu4]
            apply wpList_nil
            go_wp2_with fail
            go_ret
            rw [HE.out]
            exact ⟨rfl, rfl⟩
          · skip
            apply wp_region_lit
            refine gw_val (by kernel_rfl) (some 89) rfl (.int .u8 c) (by kernel_rfl) ?_
            simp only [pu1, pu2, pu3, pu4]
            refine gw_val (by kernel_rfl) (some 90) rfl (.bool false) (eql_u rfl c 240 (decide_eq_false (by omega)) (by kernel_rfl) (by kernel_rfl) _) ?_
            simp only [pu1, pu2, pu3, pu4]
            refine gw_val (by kernel_rfl) (some 91) rfl (.bool false) (by kernel_rfl) ?_
            simp only [pu1, pu2, pu3, pu4]
            with_reducible refine gw_not (by kernel_rfl) (some 92) rfl ?_
            simp only [pu1, pu2, pu3, pu4]
            with_reducible refine gw_not (by kernel_rfl) (some 93) rfl ?_
            simp only [pu1, pu2, pu3, pu4]
            with_reducible refine gw_not (by kernel_rfl) (some 94) rfl ?_
            simp only [pu1, pu2, pu3, pu4]
            with_reducible refine gw_not (by kernel_rfl) (some 95) rfl ?_
            simp only [pu1, pu2, pu3, pu4]
            with_reducible refine gw_not (by kernel_rfl) (some 96) rfl ?_
            simp only [pu1, pu2, pu3, pu4]
            refine gw_val (by kernel_rfl) (some 97) rfl (.bool false) (by kernel_rfl) ?_
            simp only [pu1, pu2, pu3, pu4]
            refine gw_val (by kernel_rfl) (some 98) rfl (.bool false) (by kernel_rfl) ?_
            simp only [pu1, pu2, pu3, pu4]
            refine gw_val (by kernel_rfl) (some 99) rfl (.int .u8 c) (by kernel_rfl) ?_
            simp only [pu1, pu2, pu3, pu4]
            refine gw_val (by kernel_rfl) (some 100) rfl (.bool true) (eql_u rfl c 244 (decide_eq_true (by omega)) (by kernel_rfl) (by kernel_rfl) _) ?_
            simp only [pu1, pu2, pu3, pu4]
            refine gw_val (by kernel_rfl) (some 101) rfl (.bool true) (by kernel_rfl) ?_
            simp only [pu1, pu2, pu3, pu4]
            refine gw_val (by kernel_rfl) (some 102) rfl (.string s) (by kernel_rfl) ?_
            simp only [pu1, pu2, pu3, pu4]
            refine gw_val (by kernel_rfl) (some 103) rfl (.int .i64 i) (by kernel_rfl) ?_
            simp only [pu1, pu2, pu3, pu4]
            refine gw_val (by kernel_rfl) (some 104) rfl (.int .i64 (i + 1 : Nat)) (add_nat rfl i 1 (by omega) (by kernel_rfl) (by kernel_rfl) _) ?_
            simp only [pu1, pu2, pu3, pu4]
            refine gw_val (by kernel_rfl) (some 105) rfl (.int .u8 d) (hid _ _ _ _ rfl (by kernel_rfl) (by kernel_rfl) _) ?_
            simp only [pu1, pu2, pu3, pu4]
            refine gw_val (by kernel_rfl) (some 106) rfl (.bool true) (geq_u rfl d 144 (decide_eq_true (by omega)) (by kernel_rfl) (by kernel_rfl) _) ?_
            simp only [pu1, pu2, pu3, pu4]
            refine gw_val (by kernel_rfl) (some 107) rfl (.bool true) (by kernel_rfl) ?_
            simp only [pu1, pu2, pu3, pu4]
            refine gw_val (by kernel_rfl) (some 108) rfl (.bool true) (by kernel_rfl) ?_
            simp only [pu1, pu2, pu3, pu4]
            apply wpList_nil
            have HE : Hid (r = 0) := by
              refine Lib.hid ?_
              rw [HV.out]
              unfold runN
              try simp only [and_true, and_false, false_and, true_and, if_false, if_true, eq_self, Bool.false_eq_true, reduceCtorEq]
              repeat' split
              all_goals (first | rfl | omega)
            go_upto_region 12 with fail
            apply wp_region_lit
            refine gw_val (by kernel_rfl) (some 4) rfl (.int .i64 0) (by kernel_rfl) ?_
            simp only [pu1, pu2, pu3, pu4]
            apply wpList_nil
            go_wp2_with fail
            go_ret
            rw [HE.out]
            exact ⟨rfl, rfl⟩
          · skip
            apply wp_region_lit
            refine gw_val (by kernel_rfl) (some 89) rfl (.int .u8 c) (by kernel_rfl) ?_
            simp only [pu1, pu2, pu3, pu4]
            refine gw_val (by kernel_rfl) (some 90) rfl (.bool false) (eql_u rfl c 240 (decide_eq_false (by omega)) (by kernel_rfl) (by kernel_rfl) _) ?_
            simp only [pu1, pu2, pu3, pu4]
            refine gw_val (by kernel_rfl) (some 91) rfl (.bool false) (by kernel_rfl) ?_
            simp only [pu1, pu2, pu3, pu4]
            with_reducible refine gw_not (by kernel_rfl) (some 92) rfl ?_
            simp only [pu1, pu2, pu3, pu4]
            with_reducible refine gw_not (by kernel_rfl) (some 93) rfl ?_
            simp only [pu1, pu2, pu3, pu4]
            with_reducible refine gw_not (by kernel_rfl) (some 94) rfl ?_
            simp only [pu1, pu2, pu3, pu4]
            with_reducible refine gw_not (by kernel_rfl) (some 95) rfl ?_
            simp only [pu1, pu2, pu3, pu4]
            with_reducible refine gw_not (by kernel_rfl) (some 96) rfl ?_
            simp only [pu1, pu2, pu3, pu4]
            refine gw_val (by kernel_rfl) (some 97) rfl (.bool false) (by kernel_rfl) ?_
            simp only [pu1, pu2, pu3, pu4]
            refine gw_val (by kernel_rfl) (some 98) rfl (.bool false) (by kernel_rfl) ?_
            simp only [pu1, pu2, pu3, pu4]
            refine gw_val (by kernel_rfl) (some 99) rfl (.int .u8 c) (by kernel_rfl) ?_
            simp only [pu1, pu2, pu3, pu4]
            refine gw_val (by kernel_rfl) (some 100) rfl (.bool false) (eql_u rfl c 244 (decide_eq_false (by omega)) (by kernel_rfl) (by kernel_rfl) _) ?_
            simp only [pu1, pu2, pu3, pu4]
            refine gw_val (by kernel_rfl) (some 101) rfl (.bool false) (by kernel_rfl) ?_
            simp only [pu1, pu2, pu3, pu4]
            with_reducible refine gw_not (by kernel_rfl) (some 102) rfl ?_
            simp only [pu1, pu2, pu3, pu4]
            with_reducible refine gw_not (by kernel_rfl) (some 103) rfl ?_
            simp only [pu1, pu2, pu3, pu4]
            with_reducible refine gw_not (by kernel_rfl) (some 104) rfl ?_
            simp only [pu1, pu2, pu3, pu4]
            with_reducible refine gw_not (by kernel_rfl) (some 105) rfl ?_
            simp only [pu1, pu2, pu3, pu4]
            with_reducible refine gw_not (by kernel_rfl) (some 106) rfl ?_
            simp only [pu1, pu2, pu3, pu4]
            refine gw_val (by kernel_rfl) (some 107) rfl (.bool false) (by kernel_rfl) ?_
            simp only [pu1, pu2, pu3, pu4]
            refine gw_val (by kernel_rfl) (some 108) rfl (.bool false) (by kernel_rfl) ?_
            simp only [pu1, pu2, pu3, pu4]
            apply wpList_nil
            have HE : Hid (r = 4) := by
              refine Lib.hid ?_
              rw [HV.out]
              unfold runN
              try simp only [and_true, and_false, false_and, true_and, if_false, if_true, eq_self, Bool.false_eq_true, reduceCtorEq]
              repeat' split
              all_goals (first | rfl | omega)
            go_upto_region 13 with fail
            apply wp_region_lit
            refine gw_val (by kernel_rfl) (some 4) rfl (.int .i64 4) (by kernel_rfl) ?_
            simp only [pu1, pu2, pu3, pu4]
            apply wpList_nil
            go_wp2_with fail
            go_ret
            rw [HE.out]
            exact ⟨rfl, rfl⟩
  · skip
    apply wp_region_lit
    refine gw_val (by kernel_rfl) (some 10) rfl (.int .u8 c) (by kernel_rfl) ?_
    simp only [pu1, pu2, pu3, pu4]
    refine gw_val (by kernel_rfl) (some 11) rfl (.bool false) (lss_u rfl c 128 (decide_eq_false (by omega)) (by kernel_rfl) (by kernel_rfl) _) ?_
    simp only [pu1, pu2, pu3, pu4]
    refine gw_val (by kernel_rfl) (some 9) rfl (.bool false) (by kernel_rfl) ?_
    simp only [pu1, pu2, pu3, pu4]
    apply wpList_nil
    go_upto_region 4 with fail
    apply wp_region_lit
    refine gw_val (by kernel_rfl) (some 13) rfl (.int .u8 c) (by kernel_rfl) ?_
    simp only [pu1, pu2, pu3, pu4]
    refine gw_val (by kernel_rfl) (some 14) rfl (.bool true) (geq_u rfl c 194 (decide_eq_true (by omega)) (by kernel_rfl) (by kernel_rfl) _) ?_
    simp only [pu1, pu2, pu3, pu4]
    refine gw_val (by kernel_rfl) (some 15) rfl (.bool true) (by kernel_rfl) ?_
    simp only [pu1, pu2, pu3, pu4]
    refine gw_val (by kernel_rfl) (some 16) rfl (.int .u8 c) (by kernel_rfl) ?_
    simp only [pu1, pu2, pu3, pu4]
    refine gw_val (by kernel_rfl) (some 17) rfl (.bool false) (lss_u rfl c 224 (decide_eq_false (by omega)) (by kernel_rfl) (by kernel_rfl) _) ?_
    simp only [pu1, pu2, pu3, pu4]
    refine gw_val (by kernel_rfl) (some 18) rfl (.bool false) (by kernel_rfl) ?_
    simp only [pu1, pu2, pu3, pu4]
    refine gw_val (by kernel_rfl) (some 19) rfl (.bool false) (by kernel_rfl) ?_
    simp only [pu1, pu2, pu3, pu4]
    with_reducible refine gw_not (by kernel_rfl) (some 20) rfl ?_
    simp only [pu1, pu2, pu3, pu4]
    with_reducible refine gw_not (by kernel_rfl) (some 21) rfl ?_
    simp only [pu1, pu2, pu3, pu4]
    with_reducible refine gw_not (by kernel_rfl) (some 22) rfl ?_
    simp only [pu1, pu2, pu3, pu4]
    with_reducible refine gw_not (by kernel_rfl) (some 23) rfl ?_
    simp only [pu1, pu2, pu3, pu4]
    refine gw_val (by kernel_rfl) (some 24) rfl (.bool false) (by kernel_rfl) ?_
    simp only [pu1, pu2, pu3, pu4]
    refine gw_val (by kernel_rfl) (some 12) rfl (.bool false) (by kernel_rfl) ?_
    simp only [pu1, pu2, pu3, pu4]
    apply wpList_nil
    go_upto_region 6 with fail
    apply wp_region_lit
    refine gw_val (by kernel_rfl) (some 26) rfl (.int .u8 c) (by kernel_rfl) ?_
    simp only [pu1, pu2, pu3, pu4]
    refine gw_val (by kernel_rfl) (some 27) rfl (.bool true) (geq_u rfl c 224 (decide_eq_true (by omega)) (by kernel_rfl) (by kernel_rfl) _) ?_
    simp only [pu1, pu2, pu3, pu4]
    refine gw_val (by kernel_rfl) (some 28) rfl (.bool true) (by kernel_rfl) ?_
    simp only [pu1, pu2, pu3, pu4]
    refine gw_val (by kernel_rfl) (some 29) rfl (.int .u8 c) (by kernel_rfl) ?_
    simp only [pu1, pu2, pu3, pu4]
    refine gw_val (by kernel_rfl) (some 30) rfl (.bool false) (lss_u rfl c 240 (decide_eq_false (by omega)) (by kernel_rfl) (by kernel_rfl) _) ?_
    simp only [pu1, pu2, pu3, pu4]
    refine gw_val (by kernel_rfl) (some 31) rfl (.bool false) (by kernel_rfl) ?_
    simp only [pu1, pu2, pu3, pu4]
    refine gw_val (by kernel_rfl) (some 32) rfl (.bool false) (by kernel_rfl) ?_
    simp only [pu1, pu2, pu3, pu4]
    with_reducible refine gw_not (by kernel_rfl) (some 33) rfl ?_
    simp only [pu1, pu2, pu3, pu4]
    with_reducible refine gw_not (by kernel_rfl) (some 34) rfl ?_
    simp only [pu1, pu2, pu3, pu4]
    with_reducible refine gw_not (by kernel_rfl) (some 35) rfl ?_
    simp only [pu1, pu2, pu3, pu4]
    with_reducible refine gw_not (by kernel_rfl) (some 36) rfl ?_
    simp only [pu1, pu2, pu3, pu4]
    refine gw_val (by kernel_rfl) (some 37) rfl (.bool false) (by kernel_rfl) ?_
    simp only [pu1, pu2, pu3, pu4]
    refine gw_val (by kernel_rfl) (some 38) rfl (.bool false) (by kernel_rfl) ?_
    simp only [pu1, pu2, pu3, pu4]
    with_reducible refine gw_not (by kernel_rfl) (some 39) rfl ?_
    simp only [pu1, pu2, pu3, pu4]
    with_reducible refine gw_not (by kernel_rfl) (some 40) rfl ?_
    simp only [pu1, pu2, pu3, pu4]
    with_reducible refine gw_not (by kernel_rfl) (some 41) rfl ?_
    simp only [pu1, pu2, pu3, pu4]
    with_reducible refine gw_not (by kernel_rfl) (some 42) rfl ?_
    simp only [pu1, pu2, pu3, pu4]
    refine gw_val (by kernel_rfl) (some 43) rfl (.bool false) (by kernel_rfl) ?_
    simp only [pu1, pu2, pu3, pu4]
    refine gw_val (by kernel_rfl) (some 25) rfl (.bool false) (by kernel_rfl) ?_
    simp only [pu1, pu2, pu3, pu4]
    apply wpList_nil
    go_upto_region 10 with fail
    apply wp_region_lit
    refine gw_val (by kernel_rfl) (some 65) rfl (.int .u8 c) (by kernel_rfl) ?_
    simp only [pu1, pu2, pu3, pu4]
    refine gw_val (by kernel_rfl) (some 66) rfl (.bool true) (geq_u rfl c 240 (decide_eq_true (by omega)) (by kernel_rfl) (by kernel_rfl) _) ?_
    simp only [pu1, pu2, pu3, pu4]
    refine gw_val (by kernel_rfl) (some 67) rfl (.bool true) (by kernel_rfl) ?_
    simp only [pu1, pu2, pu3, pu4]
    refine gw_val (by kernel_rfl) (some 68) rfl (.int .u8 c) (by kernel_rfl) ?_
    simp only [pu1, pu2, pu3, pu4]
    refine gw_val (by kernel_rfl) (some 69) rfl (.bool false) (lss_u rfl c 245 (decide_eq_false (by omega)) (by kernel_rfl) (by kernel_rfl) _) ?_
    simp only [pu1, pu2, pu3, pu4]
    refine gw_val (by kernel_rfl) (some 70) rfl (.bool false) (by kernel_rfl) ?_
    simp only [pu1, pu2, pu3, pu4]
    refine gw_val (by kernel_rfl) (some 71) rfl (.bool false) (by kernel_rfl) ?_
    simp only [pu1, pu2, pu3, pu4]
    with_reducible refine gw_not (by kernel_rfl) (some 72) rfl ?_
    simp only [pu1, pu2, pu3, pu4]
    with_reducible refine gw_not (by kernel_rfl) (some 73) rfl ?_
    simp only [pu1, pu2, pu3, pu4]
    with_reducible refine gw_not (by kernel_rfl) (some 74) rfl ?_
    simp only [pu1, pu2, pu3, pu4]
    with_reducible refine gw_not (by kernel_rfl) (some 75) rfl ?_
    simp only [pu1, pu2, pu3, pu4]
    refine gw_val (by kernel_rfl) (some 76) rfl (.bool false) (by kernel_rfl) ?_
    simp only [pu1, pu2, pu3, pu4]
    refine gw_val (by kernel_rfl) (some 77) rfl (.bool false) (by kernel_rfl) ?_
    simp only [pu1, pu2, pu3, pu4]
    with_reducible refine gw_not (by kernel_rfl) (some 78) rfl ?_
    simp only [pu1, pu2, pu3, pu4]
    with_reducible refine gw_not (by kernel_rfl) (some 79) rfl ?_
    simp only [pu1, pu2, pu3, pu4]
    with_reducible refine gw_not (by kernel_rfl) (some 80) rfl ?_
    simp only [pu1, pu2, pu3, pu4]
    with_reducible refine gw_not (by kernel_rfl) (some 81) rfl ?_
    simp only [pu1, pu2, pu3, pu4]
    refine gw_val (by kernel_rfl) (some 82) rfl (.bool false) (by kernel_rfl) ?_
    simp only [pu1, pu2, pu3, pu4]
    refine gw_val (by kernel_rfl) (some 83) rfl (.bool false) (by kernel_rfl) ?_
    simp only [pu1, pu2, pu3, pu4]
    with_reducible refine gw_not (by kernel_rfl) (some 84) rfl ?_
    simp only [pu1, pu2, pu3, pu4]
    with_reducible refine gw_not (by kernel_rfl) (some 85) rfl ?_
    simp only [pu1, pu2, pu3, pu4]
    with_reducible refine gw_not (by kernel_rfl) (some 86) rfl ?_
    simp only [pu1, pu2, pu3, pu4]
    with_reducible refine gw_not (by kernel_rfl) (some 87) rfl ?_
    simp only [pu1, pu2, pu3, pu4]
    refine gw_val (by kernel_rfl) (some 88) rfl (.bool false) (by kernel_rfl) ?_
    simp only [pu1, pu2, pu3, pu4]
    refine gw_val (by kernel_rfl) (some 64) rfl (.bool false) (by kernel_rfl) ?_
    simp only [pu1, pu2, pu3, pu4]
    apply wpList_nil
    have HE : Hid (r = 0) := by
      refine Lib.hid ?_
      rw [HV.out]
      unfold runN
      try simp only [and_true, and_false, false_and, true_and, if_false, if_true, eq_self, Bool.false_eq_true, reduceCtorEq]
      repeat' split
      all_goals (first | rfl | omega)
    go_upto_region 14 with fail
    apply wp_region_lit
    refine gw_val (by kernel_rfl) (some 4) rfl (.int .i64 0) (by kernel_rfl) ?_
    simp only [pu1, pu2, pu3, pu4]
    apply wpList_nil
    go_wp2_with fail
    go_ret
    rw [HE.out]
    exact ⟨rfl, rfl⟩
end Go.Proofs.Ytaaeepanelmgnaa
