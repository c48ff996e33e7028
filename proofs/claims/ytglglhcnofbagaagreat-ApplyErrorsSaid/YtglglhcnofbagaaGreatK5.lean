/-
  The reference's follow and Rune: contracts. The reference's Runes and IsMemo: contracts. The reference's IsName and follow: contracts. Transfers and transactions in memory; which transactions are valid.
-/
import Derived.Test.YtglglhcnofbagaaGreatK4
namespace Go.Proofs.YtglglhcnofbagaaGreat
attribute [local irreducible] wpList wpQuiet
open Go.RowKit
set_option linter.unusedSimpArgs false
set_option linter.unusedVariables false

set_option maxRecDepth 100000 in
set_option maxHeartbeats 8000000 in
theorem ref_follow (s : ByteArray) (k : Nat) (w : World) : Calls Tryz.prog 108 #[.string s, .int .i64 k] w fun e w' => e = .returned (.bool (fol (nums s) k)) ∧ w = w' := by
 have HIX := Lib.hid (fun (h : k < s.size) => str_at s k h)
 have HV : Hid (fol (nums s) k = (decide (k < s.size) && (decide (128 ≤ (nums s).getD k 0) && decide ((nums s).getD k 0 < 192)))) := Lib.hid (by unfold fol; rw [nums_len])
 generalize fol (nums s) k = t at *
 generalize (nums s).getD k 0 = c at *
 obtain ⟨n, hn⟩ : ∃ n, s.size = n := ⟨_, rfl⟩
 rw [hn] at HIX HV
 go_enter Tryz.func108, Tryz.ntmps108
 go_upto_region 1 with fail
 rcases (show n ≤ k ∨ (k < n ∧ c < 128) ∨ (k < n ∧ 128 ≤ c ∧ c < 192) ∨ (k < n ∧ 192 ≤ c) by omega) with hc | hc | hc | hc
 ·have H8 : Hid (decide ((k : Int) < (n : Int)) = false) := Lib.hid dF
  have HE : Hid (t = false) := Lib.hid (by rw [HV.out]; rw [Bool.eq_false_iff]; simp only [ne_eq, Bool.and_eq_true, decide_eq_true_eq]; omega)
  clear HIX HV
  refine wl <| gz2 (.int .i64 k) (.string s) <| gzv (.int .i64 n) (by rw [← hn]; kernel_rfl) <| gzw (.bool false) (lss_n rfl k n H8.out) <| gz6 (.bool false) undef undef undef undef (.bool false) <|
   gz6 (.bool false) undef undef undef undef (.bool false) <| gz1 (.bool false) <| wn ?_
  simp only [pu]
  go_wp2_with fail
  go_ret
  rw [HE.out]
  exact ⟨rfl, rfl⟩
 ·have H8 : Hid (decide ((k : Int) < (n : Int)) = true) := Lib.hid dT
  have HE : Hid (t = false) := Lib.hid (by rw [HV.out]; rw [Bool.eq_false_iff]; simp only [ne_eq, Bool.and_eq_true, decide_eq_true_eq]; omega)
  have hix := HIX.out hc.1
  clear HIX HV
  refine wl <| gz2 (.int .i64 k) (.string s) <| gzv (.int .i64 n) (by rw [← hn]; kernel_rfl) <| gzw (.bool true) (lss_n rfl k n H8.out) <| gz3 (.bool true) (.string s) (.int .i64 k) <| gzv (.int .u8 c) (hix _ _ _ _ rfl (by kernel_rfl) (by kernel_rfl) _) <|
   gzb (geq_u rfl c 128 dF) <| gz6 (.bool false) (.bool false) undef undef undef undef <| gz2 (.bool false) (.bool false) <| wn ?_
  simp only [pu]
  go_wp2_with fail
  go_ret
  rw [HE.out]
  exact ⟨rfl, rfl⟩
 ·have H8 : Hid (decide ((k : Int) < (n : Int)) = true) := Lib.hid dT
  have HE : Hid (t = true) := Lib.hid (by rw [HV.out]; simp only [Bool.and_eq_true, decide_eq_true_eq]; omega)
  have hix := HIX.out hc.1
  clear HIX HV
  refine wl <| gz2 (.int .i64 k) (.string s) <| gzv (.int .i64 n) (by rw [← hn]; kernel_rfl) <| gzw (.bool true) (lss_n rfl k n H8.out) <| gz3 (.bool true) (.string s) (.int .i64 k) <| gzv (.int .u8 c) (hix _ _ _ _ rfl (by kernel_rfl) (by kernel_rfl) _) <|
   gzb (geq_u rfl c 128 dT) <| gz4 (.bool true) (.bool true) (.string s) (.int .i64 k) <| gzv (.int .u8 c) (hix _ _ _ _ rfl (by kernel_rfl) (by kernel_rfl) _) <|
   gzb (lss_u rfl c 192 dT) <| gz2 (.bool true) (.bool true) <| wn ?_
  simp only [pu]
  go_wp2_with fail
  go_ret
  rw [HE.out]
  exact ⟨rfl, rfl⟩
 ·have H8 : Hid (decide ((k : Int) < (n : Int)) = true) := Lib.hid dT
  have HE : Hid (t = false) := Lib.hid (by rw [HV.out]; rw [Bool.eq_false_iff]; simp only [ne_eq, Bool.and_eq_true, decide_eq_true_eq]; omega)
  have hix := HIX.out hc.1
  clear HIX HV
  refine wl <| gz2 (.int .i64 k) (.string s) <| gzv (.int .i64 n) (by rw [← hn]; kernel_rfl) <| gzw (.bool true) (lss_n rfl k n H8.out) <| gz3 (.bool true) (.string s) (.int .i64 k) <| gzv (.int .u8 c) (hix _ _ _ _ rfl (by kernel_rfl) (by kernel_rfl) _) <|
   gzb (geq_u rfl c 128 dT) <| gz4 (.bool true) (.bool true) (.string s) (.int .i64 k) <| gzv (.int .u8 c) (hix _ _ _ _ rfl (by kernel_rfl) (by kernel_rfl) _) <|
   gzb (lss_u rfl c 192 dF) <| gz2 (.bool false) (.bool false) <| wn ?_
  simp only [pu]
  go_wp2_with fail
  go_ret
  rw [HE.out]
  exact ⟨rfl, rfl⟩
set_option maxRecDepth 100000 in
set_option maxHeartbeats 8000000 in
theorem ref_rune (s : ByteArray) (i : Nat) (w : World) (hi : i < s.size) (hl : s.size ≤ 140737488355328) : Calls Tryz.prog 99 #[.string s, .int .i64 i] w fun e w' => e = .returned (.int .i64 (runK (nums s) i : Nat)) ∧ w = w' := by
 have hix := str_at s i hi
 have HI1 := Lib.hid (fun (h : fol (nums s) (i + 1) = true) => str_at s (i + 1) (by have := (fol_rng h).1; rwa [nums_len] at this))
 have CF1 := ref_follow s (i + 1) w
 have CF2 := ref_follow s (i + 2) w
 have CF3 := ref_follow s (i + 3) w
 have HV : Hid (runK (nums s) i = runN ((nums s).getD i 0) ((nums s).getD (i + 1) 0) (fol (nums s) (i + 1)) (fol (nums s) (i + 2)) (fol (nums s) (i + 3))) := Lib.hid rfl
 generalize runK (nums s) i = r at *
 generalize (nums s).getD i 0 = c at *
 generalize (nums s).getD (i + 1) 0 = d at *
 generalize fol (nums s) (i + 1) = f1 at *
 generalize fol (nums s) (i + 2) = f2 at *
 generalize fol (nums s) (i + 3) = f3 at *
 go_enter Tryz.func99, Tryz.ntmps99
 go_upto_region 1 with fail
 refine wl <| gz2 (.string s) (.int .i64 i) <| gzv (.int .u8 c) (hix _ _ _ _ rfl (by kernel_rfl) (by kernel_rfl) _) <| gz1 (.int .u8 c) <| wn ?_
 simp only [pu]
 clear hix
 go_upto_region 2 with fail
 rcases (show (c < 128) ∨ (128 ≤ c ∧ c < 194) ∨ (194 ≤ c ∧ c < 224) ∨ (224 ≤ c ∧ c < 240) ∨ (240 ≤ c ∧ c < 245) ∨ (245 ≤ c) by omega) with hc | hc | hc | hc | hc | hc
 ·skip
  refine wl <| gz1 (.int .u8 c) <| gzb (lss_u rfl c 128 dT) <| gz1 (.bool true) <| wn ?_
  simp only [pu]
  have HE : Hid (r = 1) := by
   refine Lib.hid ?_
   rw [HV.out]
   unfold runN
   try simp only [and_true, and_false, false_and, true_and, if_false, if_true, eq_self, Bool.false_eq_true, reduceCtorEq]
   repeat' split
   all_goals (first | rfl | omega)
  go_upto_region 3 with fail
  refine wl <| gz1 (.int .i64 1) <| wn ?_
  simp only [pu]
  go_wp2_with fail
  go_ret
  rw [HE.out]
  exact ⟨rfl, rfl⟩
 ·skip
  refine wl <| gz1 (.int .u8 c) <| gzb (lss_u rfl c 128 dF) <| gz1 (.bool false) <| wn ?_
  simp only [pu]
  go_upto_region 4 with fail
  refine wl <| gz1 (.int .u8 c) <| gzb (geq_u rfl c 194 dF) <| gz6 (.bool false) undef undef (.bool false) (.bool false) undef <| gz5 undef undef undef (.bool false) (.bool false) <| wn ?_
  simp only [pu]
  go_upto_region 6 with fail
  refine wl <| gz1 (.int .u8 c) <| gzb (geq_u rfl c 224 dF) <| gz6 (.bool false) undef undef (.bool false) (.bool false) undef <| gz6 undef undef undef (.bool false) (.bool false) undef <|
   gz5 undef undef undef (.bool false) (.bool false) <| wn ?_
  simp only [pu]
  go_upto_region 10 with fail
  refine wl <| gz1 (.int .u8 c) <| gzb (geq_u rfl c 240 dF) <| gz6 (.bool false) undef undef (.bool false) (.bool false) undef <| gz6 undef undef undef (.bool false) (.bool false) undef <|
   gz6 undef undef undef (.bool false) (.bool false) undef <| gz5 undef undef undef (.bool false) (.bool false) <| wn ?_
  simp only [pu]
  have HE : Hid (r = 0) := by
   refine Lib.hid ?_
   rw [HV.out]
   unfold runN
   try simp only [and_true, and_false, false_and, true_and, if_false, if_true, eq_self, Bool.false_eq_true, reduceCtorEq]
   repeat' split
   all_goals (first | rfl | omega)
  go_upto_region 14 with fail
  refine wl <| gz1 (.int .i64 0) <| wn ?_
  simp only [pu]
  go_wp2_with fail
  go_ret
  rw [HE.out]
  exact ⟨rfl, rfl⟩
 ·skip
  refine wl <| gz1 (.int .u8 c) <| gzb (lss_u rfl c 128 dF) <| gz1 (.bool false) <| wn ?_
  simp only [pu]
  cases f1
  ·skip
   go_upto_region 4 with fail
   refine wl <| gz1 (.int .u8 c) <| gzb (geq_u rfl c 194 dT) <| gz2 (.bool true) (.int .u8 c) <| gzb (lss_u rfl c 224 dT) <|
    gz4 (.bool true) (.bool true) (.string s) (.int .i64 i) <| gzw (.int .i64 (i + 1 : Nat)) (add_nat rfl i 1 (by omega)) <| gzc (.bool false) (fun w' => w = w') CF1 (fun W hW => ?_)
   subst hW
   simp only [pu]
   refine gz2 (.bool false) (.bool false) <| wn ?_
   simp only [pu]
   go_upto_region 6 with fail
   refine wl <| gz1 (.int .u8 c) <| gzb (geq_u rfl c 224 dF) <| gz6 (.bool false) undef undef (.bool false) (.bool false) undef <| gz6 undef undef undef (.bool false) (.bool false) undef <|
    gz5 undef undef undef (.bool false) (.bool false) <| wn ?_
   simp only [pu]
   go_upto_region 10 with fail
   refine wl <| gz1 (.int .u8 c) <| gzb (geq_u rfl c 240 dF) <| gz6 (.bool false) undef undef (.bool false) (.bool false) undef <| gz6 undef undef undef (.bool false) (.bool false) undef <|
    gz6 undef undef undef (.bool false) (.bool false) undef <| gz5 undef undef undef (.bool false) (.bool false) <| wn ?_
   simp only [pu]
   have HE : Hid (r = 0) := by
    refine Lib.hid ?_
    rw [HV.out]
    unfold runN
    try simp only [and_true, and_false, false_and, true_and, if_false, if_true, eq_self, Bool.false_eq_true, reduceCtorEq]
    repeat' split
    all_goals (first | rfl | omega)
   go_upto_region 14 with fail
   refine wl <| gz1 (.int .i64 0) <| wn ?_
   simp only [pu]
   go_wp2_with fail
   go_ret
   rw [HE.out]
   exact ⟨rfl, rfl⟩
  ·skip
   go_upto_region 4 with fail
   refine wl <| gz1 (.int .u8 c) <| gzb (geq_u rfl c 194 dT) <| gz2 (.bool true) (.int .u8 c) <| gzb (lss_u rfl c 224 dT) <|
    gz4 (.bool true) (.bool true) (.string s) (.int .i64 i) <| gzw (.int .i64 (i + 1 : Nat)) (add_nat rfl i 1 (by omega)) <| gzc (.bool true) (fun w' => w = w') CF1 (fun W hW => ?_)
   subst hW
   simp only [pu]
   refine gz2 (.bool true) (.bool true) <| wn ?_
   simp only [pu]
   have HE : Hid (r = 2) := by
    refine Lib.hid ?_
    rw [HV.out]
    unfold runN
    try simp only [and_true, and_false, false_and, true_and, if_false, if_true, eq_self, Bool.false_eq_true, reduceCtorEq]
    repeat' split
    all_goals (first | rfl | omega)
   go_upto_region 5 with fail
   refine wl <| gz1 (.int .i64 2) <| wn ?_
   simp only [pu]
   go_wp2_with fail
   go_ret
   rw [HE.out]
   exact ⟨rfl, rfl⟩
 ·skip
  refine wl <| gz1 (.int .u8 c) <| gzb (lss_u rfl c 128 dF) <| gz1 (.bool false) <| wn ?_
  simp only [pu]
  cases f1
  ·skip
   go_upto_region 4 with fail
   refine wl <| gz1 (.int .u8 c) <| gzb (geq_u rfl c 194 dT) <| gz2 (.bool true) (.int .u8 c) <| gzb (lss_u rfl c 224 dF) <|
    gz6 (.bool false) (.bool false) undef undef undef undef <| gz2 (.bool false) (.bool false) <| wn ?_
   simp only [pu]
   go_upto_region 6 with fail
   refine wl <| gz1 (.int .u8 c) <| gzb (geq_u rfl c 224 dT) <| gz2 (.bool true) (.int .u8 c) <| gzb (lss_u rfl c 240 dT) <|
    gz4 (.bool true) (.bool true) (.string s) (.int .i64 i) <| gzw (.int .i64 (i + 1 : Nat)) (add_nat rfl i 1 (by omega)) <| gzc (.bool false) (fun w' => w = w') CF1 (fun W hW => ?_)
   subst hW
   simp only [pu]
   refine gz6 (.bool false) (.bool false) undef undef undef undef <| gz2 (.bool false) (.bool false) <| wn ?_
   simp only [pu]
   go_upto_region 10 with fail
   refine wl <| gz1 (.int .u8 c) <| gzb (geq_u rfl c 240 dF) <| gz6 (.bool false) undef undef (.bool false) (.bool false) undef <| gz6 undef undef undef (.bool false) (.bool false) undef <|
    gz6 undef undef undef (.bool false) (.bool false) undef <| gz5 undef undef undef (.bool false) (.bool false) <| wn ?_
   simp only [pu]
   have HE : Hid (r = 0) := by
    refine Lib.hid ?_
    rw [HV.out]
    unfold runN
    try simp only [and_true, and_false, false_and, true_and, if_false, if_true, eq_self, Bool.false_eq_true, reduceCtorEq]
    repeat' split
    all_goals (first | rfl | omega)
   go_upto_region 14 with fail
   refine wl <| gz1 (.int .i64 0) <| wn ?_
   simp only [pu]
   go_wp2_with fail
   go_ret
   rw [HE.out]
   exact ⟨rfl, rfl⟩
  ·skip
   cases f2
   ·skip
    go_upto_region 4 with fail
    refine wl <| gz1 (.int .u8 c) <| gzb (geq_u rfl c 194 dT) <| gz2 (.bool true) (.int .u8 c) <| gzb (lss_u rfl c 224 dF) <|
     gz6 (.bool false) (.bool false) undef undef undef undef <| gz2 (.bool false) (.bool false) <| wn ?_
    simp only [pu]
    go_upto_region 6 with fail
    refine wl <| gz1 (.int .u8 c) <| gzb (geq_u rfl c 224 dT) <| gz2 (.bool true) (.int .u8 c) <| gzb (lss_u rfl c 240 dT) <|
     gz4 (.bool true) (.bool true) (.string s) (.int .i64 i) <| gzw (.int .i64 (i + 1 : Nat)) (add_nat rfl i 1 (by omega)) <| gzc (.bool true) (fun w' => w = w') CF1 (fun W hW => ?_)
    subst hW
    simp only [pu]
    refine gz4 (.bool true) (.bool true) (.string s) (.int .i64 i) <| gzw (.int .i64 (i + 2 : Nat)) (add_nat rfl i 2 (by omega)) <| gzc (.bool false) (fun w' => w = w') CF2 (fun W hW => ?_)
    subst hW
    simp only [pu]
    refine gz2 (.bool false) (.bool false) <| wn ?_
    simp only [pu]
    go_upto_region 10 with fail
    refine wl <| gz1 (.int .u8 c) <| gzb (geq_u rfl c 240 dF) <| gz6 (.bool false) undef undef (.bool false) (.bool false) undef <| gz6 undef undef undef (.bool false) (.bool false) undef <|
     gz6 undef undef undef (.bool false) (.bool false) undef <| gz5 undef undef undef (.bool false) (.bool false) <| wn ?_
    simp only [pu]
    have HE : Hid (r = 0) := by
     refine Lib.hid ?_
     rw [HV.out]
     unfold runN
     try simp only [and_true, and_false, false_and, true_and, if_false, if_true, eq_self, Bool.false_eq_true, reduceCtorEq]
     repeat' split
     all_goals (first | rfl | omega)
    go_upto_region 14 with fail
    refine wl <| gz1 (.int .i64 0) <| wn ?_
    simp only [pu]
    go_wp2_with fail
    go_ret
    rw [HE.out]
    exact ⟨rfl, rfl⟩
   ·skip
    go_upto_region 4 with fail
    refine wl <| gz1 (.int .u8 c) <| gzb (geq_u rfl c 194 dT) <| gz2 (.bool true) (.int .u8 c) <| gzb (lss_u rfl c 224 dF) <|
     gz6 (.bool false) (.bool false) undef undef undef undef <| gz2 (.bool false) (.bool false) <| wn ?_
    simp only [pu]
    go_upto_region 6 with fail
    refine wl <| gz1 (.int .u8 c) <| gzb (geq_u rfl c 224 dT) <| gz2 (.bool true) (.int .u8 c) <| gzb (lss_u rfl c 240 dT) <|
     gz4 (.bool true) (.bool true) (.string s) (.int .i64 i) <| gzw (.int .i64 (i + 1 : Nat)) (add_nat rfl i 1 (by omega)) <| gzc (.bool true) (fun w' => w = w') CF1 (fun W hW => ?_)
    subst hW
    simp only [pu]
    refine gz4 (.bool true) (.bool true) (.string s) (.int .i64 i) <| gzw (.int .i64 (i + 2 : Nat)) (add_nat rfl i 2 (by omega)) <| gzc (.bool true) (fun w' => w = w') CF2 (fun W hW => ?_)
    subst hW
    simp only [pu]
    refine gz2 (.bool true) (.bool true) <| wn ?_
    simp only [pu]
    have hid := HI1.out rfl
    clear HI1
    go_upto_region 7 with fail
    rcases (show (c = 224 ∧ d < 160) ∨ (c = 224 ∧ 160 ≤ d) ∨ (c = 237 ∧ d < 160) ∨ (c = 237 ∧ 160 ≤ d) ∨ (c ≠ 224 ∧ c ≠ 237) by omega) with hd | hd | hd | hd | hd
    ·skip
     refine wl <| gz1 (.int .u8 c) <| gzb (eql_u rfl c 224 dT) <| gz3 (.bool true) (.string s) (.int .i64 i) <| gzw (.int .i64 (i + 1 : Nat)) (add_nat rfl i 1 (by omega)) <|
      gzv (.int .u8 d) (hid _ _ _ _ rfl (by kernel_rfl) (by kernel_rfl) _) <| gzb (lss_u rfl d 160 dT) <| gz6 (.bool true) (.bool true) undef undef undef undef <| gz6 undef undef undef undef undef (.bool true) <|
      wpList_nil ?_
     simp only [pu]
     have HE : Hid (r = 0) := by
      refine Lib.hid ?_
      rw [HV.out]
      unfold runN
      try simp only [and_true, and_false, false_and, true_and, if_false, if_true, eq_self, Bool.false_eq_true, reduceCtorEq]
      repeat' split
      all_goals (first | rfl | omega)
     go_upto_region 8 with fail
     refine wl <| gz1 (.int .i64 0) <| wn ?_
     simp only [pu]
     go_wp2_with fail
     go_ret
     rw [HE.out]
     exact ⟨rfl, rfl⟩
    ·skip
     refine wl <| gz1 (.int .u8 c) <| gzb (eql_u rfl c 224 dT) <| gz3 (.bool true) (.string s) (.int .i64 i) <| gzw (.int .i64 (i + 1 : Nat)) (add_nat rfl i 1 (by omega)) <|
      gzv (.int .u8 d) (hid _ _ _ _ rfl (by kernel_rfl) (by kernel_rfl) _) <| gzb (lss_u rfl d 160 dF) <| gz3 (.bool false) (.bool false) (.int .u8 c) <|
      gzb (eql_u rfl c 237 dF) <| gz6 (.bool false) undef undef undef undef undef <| gz2 (.bool false) (.bool false) <| wn ?_
     simp only [pu]
     have HE : Hid (r = 3) := by
      refine Lib.hid ?_
      rw [HV.out]
      unfold runN
      try simp only [and_true, and_false, false_and, true_and, if_false, if_true, eq_self, Bool.false_eq_true, reduceCtorEq]
      repeat' split
      all_goals (first | rfl | omega)
     go_upto_region 9 with fail
     refine wl <| gz1 (.int .i64 3) <| wn ?_
     simp only [pu]
     go_wp2_with fail
     go_ret
     rw [HE.out]
     exact ⟨rfl, rfl⟩
    ·skip
     refine wl <| gz1 (.int .u8 c) <| gzb (eql_u rfl c 224 dF) <| gz6 (.bool false) undef undef undef undef undef <| gz3 (.bool false) (.bool false) (.int .u8 c) <|
      gzb (eql_u rfl c 237 dT) <| gz3 (.bool true) (.string s) (.int .i64 i) <| gzw (.int .i64 (i + 1 : Nat)) (add_nat rfl i 1 (by omega)) <|
      gzv (.int .u8 d) (hid _ _ _ _ rfl (by kernel_rfl) (by kernel_rfl) _) <| gzb (geq_u rfl d 160 dF) <| gz2 (.bool false) (.bool false) <| wn ?_
     simp only [pu]
     have HE : Hid (r = 3) := by
      refine Lib.hid ?_
      rw [HV.out]
      unfold runN
      try simp only [and_true, and_false, false_and, true_and, if_false, if_true, eq_self, Bool.false_eq_true, reduceCtorEq]
      repeat' split
      all_goals (first | rfl | omega)
     go_upto_region 9 with fail
     refine wl <| gz1 (.int .i64 3) <| wn ?_
     simp only [pu]
     go_wp2_with fail
     go_ret
     rw [HE.out]
     exact ⟨rfl, rfl⟩
    ·skip
     refine wl <| gz1 (.int .u8 c) <| gzb (eql_u rfl c 224 dF) <| gz6 (.bool false) undef undef undef undef undef <| gz3 (.bool false) (.bool false) (.int .u8 c) <|
      gzb (eql_u rfl c 237 dT) <| gz3 (.bool true) (.string s) (.int .i64 i) <| gzw (.int .i64 (i + 1 : Nat)) (add_nat rfl i 1 (by omega)) <|
      gzv (.int .u8 d) (hid _ _ _ _ rfl (by kernel_rfl) (by kernel_rfl) _) <| gzb (geq_u rfl d 160 dT) <| gz2 (.bool true) (.bool true) <| wn ?_
     simp only [pu]
     have HE : Hid (r = 0) := by
      refine Lib.hid ?_
      rw [HV.out]
      unfold runN
      try simp only [and_true, and_false, false_and, true_and, if_false, if_true, eq_self, Bool.false_eq_true, reduceCtorEq]
      repeat' split
      all_goals (first | rfl | omega)
     go_upto_region 8 with fail
     refine wl <| gz1 (.int .i64 0) <| wn ?_
     simp only [pu]
     go_wp2_with fail
     go_ret
     rw [HE.out]
     exact ⟨rfl, rfl⟩
    ·skip
     refine wl <| gz1 (.int .u8 c) <| gzb (eql_u rfl c 224 dF) <| gz6 (.bool false) undef undef undef undef undef <| gz3 (.bool false) (.bool false) (.int .u8 c) <|
      gzb (eql_u rfl c 237 dF) <| gz6 (.bool false) undef undef undef undef undef <| gz2 (.bool false) (.bool false) <| wn ?_
     simp only [pu]
     have HE : Hid (r = 3) := by
      refine Lib.hid ?_
      rw [HV.out]
      unfold runN
      try simp only [and_true, and_false, false_and, true_and, if_false, if_true, eq_self, Bool.false_eq_true, reduceCtorEq]
      repeat' split
      all_goals (first | rfl | omega)
     go_upto_region 9 with fail
     refine wl <| gz1 (.int .i64 3) <| wn ?_
     simp only [pu]
     go_wp2_with fail
     go_ret
     rw [HE.out]
     exact ⟨rfl, rfl⟩
 ·skip
  refine wl <| gz1 (.int .u8 c) <| gzb (lss_u rfl c 128 dF) <| gz1 (.bool false) <| wn ?_
  simp only [pu]
  cases f1
  ·skip
   go_upto_region 4 with fail
   refine wl <| gz1 (.int .u8 c) <| gzb (geq_u rfl c 194 dT) <| gz2 (.bool true) (.int .u8 c) <| gzb (lss_u rfl c 224 dF) <|
    gz6 (.bool false) (.bool false) undef undef undef undef <| gz2 (.bool false) (.bool false) <| wn ?_
   simp only [pu]
   go_upto_region 6 with fail
   refine wl <| gz1 (.int .u8 c) <| gzb (geq_u rfl c 224 dT) <| gz2 (.bool true) (.int .u8 c) <| gzb (lss_u rfl c 240 dF) <|
    gz6 (.bool false) (.bool false) undef undef undef undef <| gz6 (.bool false) (.bool false) undef undef undef undef <| gz2 (.bool false) (.bool false) <| wn ?_
   simp only [pu]
   go_upto_region 10 with fail
   refine wl <| gz1 (.int .u8 c) <| gzb (geq_u rfl c 240 dT) <| gz2 (.bool true) (.int .u8 c) <| gzb (lss_u rfl c 245 dT) <|
    gz4 (.bool true) (.bool true) (.string s) (.int .i64 i) <| gzw (.int .i64 (i + 1 : Nat)) (add_nat rfl i 1 (by omega)) <| gzc (.bool false) (fun w' => w = w') CF1 (fun W hW => ?_)
   subst hW
   simp only [pu]
   refine gz6 (.bool false) (.bool false) undef undef undef undef <| gz6 (.bool false) (.bool false) undef undef undef undef <| gz2 (.bool false) (.bool false) <| wn ?_
   simp only [pu]
   have HE : Hid (r = 0) := by
    refine Lib.hid ?_
    rw [HV.out]
    unfold runN
    try simp only [and_true, and_false, false_and, true_and, if_false, if_true, eq_self, Bool.false_eq_true, reduceCtorEq]
    repeat' split
    all_goals (first | rfl | omega)
   go_upto_region 14 with fail
   refine wl <| gz1 (.int .i64 0) <| wn ?_
   simp only [pu]
   go_wp2_with fail
   go_ret
   rw [HE.out]
   exact ⟨rfl, rfl⟩
  ·skip
   cases f2
   ·skip
    go_upto_region 4 with fail
    refine wl <| gz1 (.int .u8 c) <| gzb (geq_u rfl c 194 dT) <| gz2 (.bool true) (.int .u8 c) <| gzb (lss_u rfl c 224 dF) <|
     gz6 (.bool false) (.bool false) undef undef undef undef <| gz2 (.bool false) (.bool false) <| wn ?_
    simp only [pu]
    go_upto_region 6 with fail
    refine wl <| gz1 (.int .u8 c) <| gzb (geq_u rfl c 224 dT) <| gz2 (.bool true) (.int .u8 c) <| gzb (lss_u rfl c 240 dF) <|
     gz6 (.bool false) (.bool false) undef undef undef undef <| gz6 (.bool false) (.bool false) undef undef undef undef <| gz2 (.bool false) (.bool false) <| wn ?_
    simp only [pu]
    go_upto_region 10 with fail
    refine wl <| gz1 (.int .u8 c) <| gzb (geq_u rfl c 240 dT) <| gz2 (.bool true) (.int .u8 c) <| gzb (lss_u rfl c 245 dT) <|
     gz4 (.bool true) (.bool true) (.string s) (.int .i64 i) <| gzw (.int .i64 (i + 1 : Nat)) (add_nat rfl i 1 (by omega)) <| gzc (.bool true) (fun w' => w = w') CF1 (fun W hW => ?_)
    subst hW
    simp only [pu]
    refine gz4 (.bool true) (.bool true) (.string s) (.int .i64 i) <| gzw (.int .i64 (i + 2 : Nat)) (add_nat rfl i 2 (by omega)) <| gzc (.bool false) (fun w' => w = w') CF2 (fun W hW => ?_)
    subst hW
    simp only [pu]
    refine gz6 (.bool false) (.bool false) undef undef undef undef <| gz2 (.bool false) (.bool false) <| wn ?_
    simp only [pu]
    have HE : Hid (r = 0) := by
     refine Lib.hid ?_
     rw [HV.out]
     unfold runN
     try simp only [and_true, and_false, false_and, true_and, if_false, if_true, eq_self, Bool.false_eq_true, reduceCtorEq]
     repeat' split
     all_goals (first | rfl | omega)
    go_upto_region 14 with fail
    refine wl <| gz1 (.int .i64 0) <| wn ?_
    simp only [pu]
    go_wp2_with fail
    go_ret
    rw [HE.out]
    exact ⟨rfl, rfl⟩
   ·skip
    cases f3
    ·skip
     go_upto_region 4 with fail
     refine wl <| gz1 (.int .u8 c) <| gzb (geq_u rfl c 194 dT) <| gz2 (.bool true) (.int .u8 c) <| gzb (lss_u rfl c 224 dF) <|
      gz6 (.bool false) (.bool false) undef undef undef undef <| gz2 (.bool false) (.bool false) <| wn ?_
     simp only [pu]
     go_upto_region 6 with fail
     refine wl <| gz1 (.int .u8 c) <| gzb (geq_u rfl c 224 dT) <| gz2 (.bool true) (.int .u8 c) <| gzb (lss_u rfl c 240 dF) <|
      gz6 (.bool false) (.bool false) undef undef undef undef <| gz6 (.bool false) (.bool false) undef undef undef undef <| gz2 (.bool false) (.bool false) <| wn ?_
     simp only [pu]
     go_upto_region 10 with fail
     refine wl <| gz1 (.int .u8 c) <| gzb (geq_u rfl c 240 dT) <| gz2 (.bool true) (.int .u8 c) <| gzb (lss_u rfl c 245 dT) <|
      gz4 (.bool true) (.bool true) (.string s) (.int .i64 i) <| gzw (.int .i64 (i + 1 : Nat)) (add_nat rfl i 1 (by omega)) <| gzc (.bool true) (fun w' => w = w') CF1 (fun W hW => ?_)
     subst hW
     simp only [pu]
     refine gz4 (.bool true) (.bool true) (.string s) (.int .i64 i) <| gzw (.int .i64 (i + 2 : Nat)) (add_nat rfl i 2 (by omega)) <| gzc (.bool true) (fun w' => w = w') CF2 (fun W hW => ?_)
     subst hW
     simp only [pu]
     refine gz4 (.bool true) (.bool true) (.string s) (.int .i64 i) <| gzw (.int .i64 (i + 3 : Nat)) (add_nat rfl i 3 (by omega)) <| gzc (.bool false) (fun w' => w = w') CF3 (fun W hW => ?_)
     subst hW
     simp only [pu]
     refine gz2 (.bool false) (.bool false) <| wn ?_
     simp only [pu]
     have HE : Hid (r = 0) := by
      refine Lib.hid ?_
      rw [HV.out]
      unfold runN
      try simp only [and_true, and_false, false_and, true_and, if_false, if_true, eq_self, Bool.false_eq_true, reduceCtorEq]
      repeat' split
      all_goals (first | rfl | omega)
     go_upto_region 14 with fail
     refine wl <| gz1 (.int .i64 0) <| wn ?_
     simp only [pu]
     go_wp2_with fail
     go_ret
     rw [HE.out]
     exact ⟨rfl, rfl⟩
    ·skip
     go_upto_region 4 with fail
     refine wl <| gz1 (.int .u8 c) <| gzb (geq_u rfl c 194 dT) <| gz2 (.bool true) (.int .u8 c) <| gzb (lss_u rfl c 224 dF) <|
      gz6 (.bool false) (.bool false) undef undef undef undef <| gz2 (.bool false) (.bool false) <| wn ?_
     simp only [pu]
     go_upto_region 6 with fail
     refine wl <| gz1 (.int .u8 c) <| gzb (geq_u rfl c 224 dT) <| gz2 (.bool true) (.int .u8 c) <| gzb (lss_u rfl c 240 dF) <|
      gz6 (.bool false) (.bool false) undef undef undef undef <| gz6 (.bool false) (.bool false) undef undef undef undef <| gz2 (.bool false) (.bool false) <| wn ?_
     simp only [pu]
     go_upto_region 10 with fail
     refine wl <| gz1 (.int .u8 c) <| gzb (geq_u rfl c 240 dT) <| gz2 (.bool true) (.int .u8 c) <| gzb (lss_u rfl c 245 dT) <|
      gz4 (.bool true) (.bool true) (.string s) (.int .i64 i) <| gzw (.int .i64 (i + 1 : Nat)) (add_nat rfl i 1 (by omega)) <| gzc (.bool true) (fun w' => w = w') CF1 (fun W hW => ?_)
     subst hW
     simp only [pu]
     refine gz4 (.bool true) (.bool true) (.string s) (.int .i64 i) <| gzw (.int .i64 (i + 2 : Nat)) (add_nat rfl i 2 (by omega)) <| gzc (.bool true) (fun w' => w = w') CF2 (fun W hW => ?_)
     subst hW
     simp only [pu]
     refine gz4 (.bool true) (.bool true) (.string s) (.int .i64 i) <| gzw (.int .i64 (i + 3 : Nat)) (add_nat rfl i 3 (by omega)) <| gzc (.bool true) (fun w' => w = w') CF3 (fun W hW => ?_)
     subst hW
     simp only [pu]
     refine gz2 (.bool true) (.bool true) <| wn ?_
     simp only [pu]
     have hid := HI1.out rfl
     clear HI1
     go_upto_region 11 with fail
     rcases (show (c = 240 ∧ d < 144) ∨ (c = 240 ∧ 144 ≤ d) ∨ (c = 244 ∧ d < 144) ∨ (c = 244 ∧ 144 ≤ d) ∨ (c ≠ 240 ∧ c ≠ 244) by omega) with hd | hd | hd | hd | hd
     ·skip
      refine wl <| gz1 (.int .u8 c) <| gzb (eql_u rfl c 240 dT) <| gz3 (.bool true) (.string s) (.int .i64 i) <| gzw (.int .i64 (i + 1 : Nat)) (add_nat rfl i 1 (by omega)) <|
       gzv (.int .u8 d) (hid _ _ _ _ rfl (by kernel_rfl) (by kernel_rfl) _) <| gzb (lss_u rfl d 144 dT) <| gz6 (.bool true) (.bool true) undef undef undef undef <| gz6 undef undef undef undef undef (.bool true) <|
       wpList_nil ?_
      simp only [pu]
      have HE : Hid (r = 0) := by
       refine Lib.hid ?_
       rw [HV.out]
       unfold runN
       try simp only [and_true, and_false, false_and, true_and, if_false, if_true, eq_self, Bool.false_eq_true, reduceCtorEq]
       repeat' split
       all_goals (first | rfl | omega)
      go_upto_region 12 with fail
      refine wl <| gz1 (.int .i64 0) <| wn ?_
      simp only [pu]
      go_wp2_with fail
      go_ret
      rw [HE.out]
      exact ⟨rfl, rfl⟩
     ·skip
      refine wl <| gz1 (.int .u8 c) <| gzb (eql_u rfl c 240 dT) <| gz3 (.bool true) (.string s) (.int .i64 i) <| gzw (.int .i64 (i + 1 : Nat)) (add_nat rfl i 1 (by omega)) <|
       gzv (.int .u8 d) (hid _ _ _ _ rfl (by kernel_rfl) (by kernel_rfl) _) <| gzb (lss_u rfl d 144 dF) <| gz3 (.bool false) (.bool false) (.int .u8 c) <|
       gzb (eql_u rfl c 244 dF) <| gz6 (.bool false) undef undef undef undef undef <| gz2 (.bool false) (.bool false) <| wn ?_
      simp only [pu]
      have HE : Hid (r = 4) := by
       refine Lib.hid ?_
       rw [HV.out]
       unfold runN
       try simp only [and_true, and_false, false_and, true_and, if_false, if_true, eq_self, Bool.false_eq_true, reduceCtorEq]
       repeat' split
       all_goals (first | rfl | omega)
      go_upto_region 13 with fail
      refine wl <| gz1 (.int .i64 4) <| wn ?_
      simp only [pu]
      go_wp2_with fail
      go_ret
      rw [HE.out]
      exact ⟨rfl, rfl⟩
     ·skip
      refine wl <| gz1 (.int .u8 c) <| gzb (eql_u rfl c 240 dF) <| gz6 (.bool false) undef undef undef undef undef <| gz3 (.bool false) (.bool false) (.int .u8 c) <|
       gzb (eql_u rfl c 244 dT) <| gz3 (.bool true) (.string s) (.int .i64 i) <| gzw (.int .i64 (i + 1 : Nat)) (add_nat rfl i 1 (by omega)) <|
       gzv (.int .u8 d) (hid _ _ _ _ rfl (by kernel_rfl) (by kernel_rfl) _) <| gzb (geq_u rfl d 144 dF) <| gz2 (.bool false) (.bool false) <| wn ?_
      simp only [pu]
      have HE : Hid (r = 4) := by
       refine Lib.hid ?_
       rw [HV.out]
       unfold runN
       try simp only [and_true, and_false, false_and, true_and, if_false, if_true, eq_self, Bool.false_eq_true, reduceCtorEq]
       repeat' split
       all_goals (first | rfl | omega)
      go_upto_region 13 with fail
      refine wl <| gz1 (.int .i64 4) <| wn ?_
      simp only [pu]
      go_wp2_with fail
      go_ret
      rw [HE.out]
      exact ⟨rfl, rfl⟩
     ·skip
      refine wl <| gz1 (.int .u8 c) <| gzb (eql_u rfl c 240 dF) <| gz6 (.bool false) undef undef undef undef undef <| gz3 (.bool false) (.bool false) (.int .u8 c) <|
       gzb (eql_u rfl c 244 dT) <| gz3 (.bool true) (.string s) (.int .i64 i) <| gzw (.int .i64 (i + 1 : Nat)) (add_nat rfl i 1 (by omega)) <|
       gzv (.int .u8 d) (hid _ _ _ _ rfl (by kernel_rfl) (by kernel_rfl) _) <| gzb (geq_u rfl d 144 dT) <| gz2 (.bool true) (.bool true) <| wn ?_
      simp only [pu]
      have HE : Hid (r = 0) := by
       refine Lib.hid ?_
       rw [HV.out]
       unfold runN
       try simp only [and_true, and_false, false_and, true_and, if_false, if_true, eq_self, Bool.false_eq_true, reduceCtorEq]
       repeat' split
       all_goals (first | rfl | omega)
      go_upto_region 12 with fail
      refine wl <| gz1 (.int .i64 0) <| wn ?_
      simp only [pu]
      go_wp2_with fail
      go_ret
      rw [HE.out]
      exact ⟨rfl, rfl⟩
     ·skip
      refine wl <| gz1 (.int .u8 c) <| gzb (eql_u rfl c 240 dF) <| gz6 (.bool false) undef undef undef undef undef <| gz3 (.bool false) (.bool false) (.int .u8 c) <|
       gzb (eql_u rfl c 244 dF) <| gz6 (.bool false) undef undef undef undef undef <| gz2 (.bool false) (.bool false) <| wn ?_
      simp only [pu]
      have HE : Hid (r = 4) := by
       refine Lib.hid ?_
       rw [HV.out]
       unfold runN
       try simp only [and_true, and_false, false_and, true_and, if_false, if_true, eq_self, Bool.false_eq_true, reduceCtorEq]
       repeat' split
       all_goals (first | rfl | omega)
      go_upto_region 13 with fail
      refine wl <| gz1 (.int .i64 4) <| wn ?_
      simp only [pu]
      go_wp2_with fail
      go_ret
      rw [HE.out]
      exact ⟨rfl, rfl⟩
 ·skip
  refine wl <| gz1 (.int .u8 c) <| gzb (lss_u rfl c 128 dF) <| gz1 (.bool false) <| wn ?_
  simp only [pu]
  go_upto_region 4 with fail
  refine wl <| gz1 (.int .u8 c) <| gzb (geq_u rfl c 194 dT) <| gz2 (.bool true) (.int .u8 c) <| gzb (lss_u rfl c 224 dF) <|
   gz6 (.bool false) (.bool false) undef undef undef undef <| gz2 (.bool false) (.bool false) <| wn ?_
  simp only [pu]
  go_upto_region 6 with fail
  refine wl <| gz1 (.int .u8 c) <| gzb (geq_u rfl c 224 dT) <| gz2 (.bool true) (.int .u8 c) <| gzb (lss_u rfl c 240 dF) <|
   gz6 (.bool false) (.bool false) undef undef undef undef <| gz6 (.bool false) (.bool false) undef undef undef undef <| gz2 (.bool false) (.bool false) <| wn ?_
  simp only [pu]
  go_upto_region 10 with fail
  refine wl <| gz1 (.int .u8 c) <| gzb (geq_u rfl c 240 dT) <| gz2 (.bool true) (.int .u8 c) <| gzb (lss_u rfl c 245 dF) <|
   gz6 (.bool false) (.bool false) undef undef undef undef <| gz6 (.bool false) (.bool false) undef undef undef undef <| gz6 (.bool false) (.bool false) undef undef undef undef <| gz2 (.bool false) (.bool false) <| wn ?_
  simp only [pu]
  have HE : Hid (r = 0) := by
   refine Lib.hid ?_
   rw [HV.out]
   unfold runN
   try simp only [and_true, and_false, false_and, true_and, if_false, if_true, eq_self, Bool.false_eq_true, reduceCtorEq]
   repeat' split
   all_goals (first | rfl | omega)
  go_upto_region 14 with fail
  refine wl <| gz1 (.int .i64 0) <| wn ?_
  simp only [pu]
  go_wp2_with fail
  go_ret
  rw [HE.out]
  exact ⟨rfl, rfl⟩
end Go.Proofs.YtglglhcnofbagaaGreat
namespace Go.Proofs.YtglglhcnofbagaaGreat
attribute [local irreducible] wpList wpQuiet
open Go.RowKit
set_option linter.unusedSimpArgs false
set_option linter.unusedVariables false

theorem runs_end {L : List Int} {i : Nat} (h : ¬ i < L.length) : runs L i = some 0 := by rw [runs, dif_neg h]
theorem runs_bad {L : List Int} {i : Nat} (h : i < L.length) (hk : runK L i = 0) : runs L i = none := by rw [runs, dif_pos h, if_pos hk]
theorem runs_step {L : List Int} {i : Nat} (h : i < L.length) (hk : runK L i ≠ 0) : runs L i = (runs L (i + runK L i)).map (· + 1) := by rw [runs, dif_pos h, if_neg hk]
/-- So many runes ahead of a place. -/
def Ran (L : List Int) (i n : Nat) : Prop := runs L 0 = (runs L i).map (· + n)
theorem Ran.zero (L : List Int) : Ran L 0 0 := by
 unfold Ran
 cases runs L 0 <;> rfl
theorem Ran.step {L : List Int} {i n : Nat} (h : Ran L i n) (hi : i < L.length) (hk : runK L i ≠ 0) : Ran L (i + runK L i) (n + 1) := by
 unfold Ran at h ⊢
 rw [h, runs_step hi hk]
 cases runs L (i + runK L i) with
 | none => rfl
 | some m => simp; omega
theorem Ran.bad {L : List Int} {i n : Nat} (h : Ran L i n) (hi : i < L.length) (hk : runK L i = 0) : runs L 0 = none := by
 unfold Ran at h
 rw [h, runs_bad hi hk]
 rfl
theorem Ran.done {L : List Int} {i n : Nat} (h : Ran L i n) (hi : ¬ i < L.length) : runs L 0 = some n := by
 unfold Ran at h
 rw [h, runs_end hi]
 simp
def runsV : Option Nat → Value
 | none => .tuple #[.int .i64 0, .bool false]
 | some n => .tuple #[.int .i64 n, .bool true]
theorem eql_i0 {ρ : Operand → Value} {o : Oper} {x y : Operand} (ho : o.op = .binOp .eql 3 x y 3) (a : Int) {t : Bool} (ht : decide (a = 0) = t) (hx : ρ x = .int .i64 a) (hy : ρ y = .int .i64 0) (w : World) : (execOp ρ o).run Tryz.prog w = .ok (.value (.bool t)) w := by
 have e : (a == 0) = t := ht
 unfold execOp
 simp only [ho, hx, hy]
 go_simp
set_option maxRecDepth 100000 in
set_option maxHeartbeats 8000000 in
theorem ref_runes (s : ByteArray) (w : World) (hl : s.size ≤ 140737488355328) : Calls Tryz.prog 82 #[.string s] w fun e w' => e = .returned (runsV (runs (nums s) 0)) ∧ w = w' := by
 have HR := Lib.hid (fun (i : Nat) (V : World) (hi : i < s.size) => ref_rune s i V hi hl)
 have HL := Lib.hid (nums_len s)
 obtain ⟨L, hL⟩ : ∃ L, nums s = L := ⟨_, rfl⟩
 rw [hL] at HR HL ⊢
 have HR0 := Lib.hid (Ran.zero L)
 obtain ⟨r, hr⟩ : ∃ r, runs L 0 = r := ⟨_, rfl⟩
 have HRV := Lib.hid hr
 rw [hr]
 clear hL hr
 obtain ⟨n, hn⟩ : ∃ n, s.size = n := ⟨_, rfl⟩
 rw [hn] at hl
 go_enter Tryz.func82, Tryz.ntmps82
 go_upto_region 1 with fail
 refine wl <| gz1 (.int .i64 0) <| wn ?_
 simp only [pu]
 go_upto_region 2 with fail
 refine wl <| gz1 (.int .i64 0) <| wn ?_
 simp only [pu]
 go_wp2_with fail
 go_loopg [4, 5] n (fun gg s4 s5 wx => ∃ i m : Nat, s4 = .int .i64 m ∧ s5 = .int .i64 i ∧ i ≤ n ∧ m ≤ i ∧ Hid (Ran L i m) ∧ wx = w ∧ n - i ≤ gg)
 case atStart => exact ⟨0, 0, rfl, rfl, by omega, by omega, HR0, rfl, by omega⟩
 case round =>
  obtain ⟨i, m, rfl, rfl, hi, hmi, HM, rfl, hg⟩ := hrel
  clear HR0
  by_cases hlt : i < n
  ·have HD : Hid (decide ((i : Int) < (n : Int)) = true) := Lib.hid dT
   have CR := HR.out i wr (by omega)
   have hk4 := run_le L i
   have hkl := run_len (L := L) (i := i) (by rw [HL.out]; omega)
   have HST := Lib.hid (HM.out.step (by rw [HL.out]; omega))
   have HBD := Lib.hid (HM.out.bad (by rw [HL.out]; omega))
   rw [HL.out] at hkl
   clear HM
   generalize runK L i = k at *
   go_upto_region 3 with fail
   refine wl <| gz2 (.int .i64 i) (.string s) <| gzv (.int .i64 n) (by rw [← hn]; kernel_rfl) <| gzw (.bool true) (lss_n rfl i n HD.out) <| wn ?_
   simp only [pu]
   go_upto_region 4 with fail
   refine wl <| gz2 (.string s) (.int .i64 i) <| gzc (.int .i64 k) (fun w' => wr = w') CR (fun W hW => ?_)
   subst hW
   simp only [pu]
   refine gz1 (.int .i64 k) <| wn ?_
   simp only [pu]
   go_upto_region 5 with fail
   by_cases h0 : k = 0
   ·have HE : Hid (r = none) := Lib.hid (by rw [← HRV.out]; exact HBD.out h0)
    subst h0
    clear HST HBD HRV CR HR
    refine wl <| gz1 (.int .i64 (0 : Nat)) <| gzw (.bool true) (eql_i0 rfl 0 rfl) <| wn ?_
    simp only [pu]
    go_upto_region 6 with fail
    refine wl <| gz2 (.int .i64 0) (.bool false) <| wn ?_
    simp only [pu]
    go_wp2_with fail
    go_ret2
    rw [HE.out]
    exact ⟨rfl, rfl⟩
   ·have HS2 := Lib.hid (HST.out h0)
    have HG : Hid (i < n ∧ 0 < k ∧ i + k ≤ n ∧ n - i ≤ gk) := Lib.hid ⟨hlt, by omega, by rw [← hn]; exact hkl, hg⟩
    clear HST HBD CR hg
    refine wl <| gz1 (.int .i64 k) <| gzb (eql_i0 rfl k dF) <| wn ?_
    simp only [pu]
    go_upto_region 7 with fail
    refine wl <| gz2 (.int .i64 i) (.int .i64 k) <| gzw (.int .i64 (i + k : Nat)) (add_nat rfl i k (by omega)) <| gz1 (.int .i64 (i + k : Nat)) <| wn ?_
    simp only [pu]
    go_upto_region 8 with fail
    refine wl <| gz1 (.int .i64 m) <| gzw (.int .i64 (m + 1 : Nat)) (add_nat rfl m 1 (by omega)) <| gz1 (.int .i64 (m + 1 : Nat)) <| wn ?_
    simp only [pu]
    go_wp2_with fail
    go_roundg (n - (i + k))
    case measure => have := HG.out; omega
    case rel => exact ⟨i + k, m + 1, rfl, rfl, HG.out.2.2.1, by have := HG.out; omega, HS2, rfl, Nat.le_refl _⟩
  ·have HD : Hid (decide ((i : Int) < (n : Int)) = false) := Lib.hid dF
   have HE : Hid (r = some m) := Lib.hid (by rw [← HRV.out]; exact HM.out.done (by rw [HL.out]; omega))
   clear HM HRV HR hg
   go_upto_region 3 with fail
   refine wl <| gz2 (.int .i64 i) (.string s) <| gzv (.int .i64 n) (by rw [← hn]; kernel_rfl) <| gzw (.bool false) (lss_n rfl i n HD.out) <| wn ?_
   simp only [pu]
   go_upto_region 9 with fail
   refine wl <| gz3 (.int .i64 m) (.int .i64 m) (.bool true) <| wn ?_
   simp only [pu]
   go_wp2_with fail
   go_ret2
   rw [HE.out]
   exact ⟨rfl, rfl⟩
set_option maxRecDepth 100000 in
set_option maxHeartbeats 8000000 in
theorem ref_ismemo (s : ByteArray) (w : World) (hl : s.size ≤ 140737488355328) : Calls Tryz.prog 64 #[.string s] w fun e w' => e = .returned (.bool (isMemo (nums s))) ∧ w = w' := by
 have CS := ref_runes s w hl
 unfold isMemo
 generalize runs (nums s) 0 = r at *
 cases r with
 | none =>
  have CS : Calls Tryz.prog 82 #[.string s] w fun e w2 => e = .returned (.tuple #[.int .i64 0, .bool false]) ∧ w = w2 := CS
  have HE : Hid (False → False) := Lib.hid id
  go_enter Tryz.func64, Tryz.ntmps64
  go_upto_region 1 with fail
  refine wl <| gz1 (.string s) <| gzc (.tuple #[.int .i64 0, .bool false]) (fun w' => w = w') CS (fun W hW => ?_)
  subst hW
  simp only [pu]
  refine gz5 (.tuple #[.int .i64 0, .bool false]) (.int .i64 0) (.bool false) (.int .i64 0) (.bool false) <| wn ?_
  simp only [pu]
  clear CS
  go_upto_region 2 with fail
  refine wl <| gz6 (.bool false) (.bool false) undef undef (.bool false) (.bool false) <| wn ?_
  simp only [pu]
  go_wp2_with fail
  go_ret
  exact ⟨rfl, rfl⟩
 | some n =>
  have CS : Calls Tryz.prog 82 #[.string s] w fun e w2 => e = .returned (.tuple #[.int .i64 n, .bool true]) ∧ w = w2 := CS
  obtain ⟨t, ht⟩ : ∃ t, decide (n ≤ 64) = t := ⟨_, rfl⟩
  have H2 : Hid (decide ((n : Int) ≤ (64 : Int)) = t) := Lib.hid (by rw [← ht]; exact decide_eq_decide.2 (by omega))
  show Calls _ _ _ _ fun e w2 => e = .returned (.bool (decide (n ≤ 64))) ∧ w = w2
  rw [ht]
  clear ht
  go_enter Tryz.func64, Tryz.ntmps64
  go_upto_region 1 with fail
  refine wl <| gz1 (.string s) <| gzc (.tuple #[.int .i64 n, .bool true]) (fun w' => w = w') CS (fun W hW => ?_)
  subst hW
  simp only [pu]
  refine gz5 (.tuple #[.int .i64 n, .bool true]) (.int .i64 n) (.bool true) (.int .i64 n) (.bool true) <| wn ?_
  simp only [pu]
  clear CS
  go_upto_region 2 with fail
  refine wl <| gz3 (.bool true) (.bool true) (.int .i64 n) <| gzw (.bool t) (leq_n rfl n 64 H2.out) <| gz2 (.bool t) (.bool t) <| wn ?_
  simp only [pu]
  go_wp2_with fail
  go_ret
  exact ⟨rfl, rfl⟩
end Go.Proofs.YtglglhcnofbagaaGreat
namespace Go.Proofs.YtglglhcnofbagaaGreat
attribute [local irreducible] wpList wpQuiet
open Go.RowKit
set_option linter.unusedSimpArgs false
set_option linter.unusedVariables false

set_option maxRecDepth 100000 in
set_option maxHeartbeats 4000000 in
theorem ref_isname (s : ByteArray) (w : World) (hl : s.size ≤ 140737488355328) : Calls Tryz.prog 46 #[.string s] w fun e w' => e = .returned (.bool (isName (nums s))) ∧ w = w' := by
 have HIX := Lib.hid (fun (i : Nat) (h : i < s.size) => str_at s i h)
 have HL := Lib.hid (nums_len s)
 obtain ⟨L, hL⟩ : ∃ L, nums s = L := ⟨_, rfl⟩
 rw [hL] at HIX HL ⊢
 have HNO := Lib.hid (fun i (h : i < L.length) => all_no h)
 have HYES := Lib.hid (@all_yes L)
 clear hL
 obtain ⟨n, hn⟩ : ∃ n, s.size = n := ⟨_, rfl⟩
 go_enter Tryz.func46, Tryz.ntmps46
 go_upto_region 1 with fail
 refine wl <| gz1 (.int .i64 0) <| wn ?_
 simp only [pu]
 go_wp2_with fail
 go_loopg [3] n (fun gg s3 wx => ∃ i : Nat, s3 = .int .i64 i ∧ i ≤ n ∧ (∀ j, j < i → nmB (L.getD j 0) = true) ∧ wx = w ∧ n - i = gg)
 case atStart => exact ⟨0, rfl, by omega, fun j hj => by omega, rfl, by omega⟩
 case round =>
  obtain ⟨i, rfl, hi, hyes, rfl, hg⟩ := hrel
  by_cases hlt : i < n
  ·have HG : Hid (n - (i + 1) = gk - 1 ∧ 0 < gk ∧ i + 1 ≤ n) := Lib.hid ⟨by omega, by omega, by omega⟩
   have hix := HIX.out i (by omega)
   have hno := HNO.out i (by rw [HL.out]; omega)
   obtain ⟨c, hc⟩ : ∃ c, L.getD i 0 = c := ⟨_, rfl⟩
   rw [hc] at hix hno
   have HYS : Hid (nmB c = true → ∀ j, j < i + 1 → nmB (L.getD j 0) = true) := Lib.hid fun hb j hj => by
    by_cases e : j = i
    ·rw [e, hc]; exact hb
    ·exact hyes j (by omega)
   have HD : Hid (decide ((i : Int) < (n : Int)) = true) := Lib.hid dT
   clear hc hyes hg
   go_upto_region 2 with fail
   refine wl <| gz2 (.int .i64 i) (.string s) <| gzv (.int .i64 n) (by rw [← hn]; kernel_rfl) <| gzw (.bool true) (lss_n rfl i n HD.out) <| wn ?_
   simp only [pu]
   go_upto_region 4 with fail
   refine wl <| gz2 (.string s) (.int .i64 i) <| gzv (.int .u8 c) (hix _ _ _ _ rfl (by kernel_rfl) (by kernel_rfl) _) <| gz1 (.int .u8 c) <| wn ?_
   simp only [pu]
   go_upto_region 5 with fail
   have hcl : (97 ≤ c ∧ c ≤ 122) ∨ (48 ≤ c ∧ c ≤ 57) ∨ (c = 45) ∨ (122 < c) ∨ (57 < c ∧ c < 97) ∨ (c < 48 ∧ c ≠ 45) := by omega
   rcases hcl with hc | hc | hc | hc | hc | hc
   ·apply wp_region_lit
    refine gz1 (.int .u8 c) <| gzb (geq_u rfl c 97 dT) <| gz2 (.bool true) (.int .u8 c) <| gzb (leq_u rfl c 122 dT) <|
     gz6 (.bool true) (.bool true) undef undef undef undef <| gz6 undef undef (.bool true) (.bool true) undef undef <| gz2 (.bool true) (.bool false) <| wn ?_
    simp only [pu]
    have HY2 := Lib.hid (HYS.out (by simp only [nmB, Bool.or_eq_true, Bool.and_eq_true, decide_eq_true_eq]; omega))
    clear hno HYS hix HIX
    go_upto_region 3 with fail
    refine wl <| gz1 (.int .i64 i) <| gzw (.int .i64 (i + 1 : Nat)) (add_nat rfl i 1 (by omega)) <| gz1 (.int .i64 (i + 1 : Nat)) <| wn ?_
    simp only [pu]
    go_wp2_with fail
    go_roundg (gk - 1)
    case measure => have := HG.out; omega
    case rel => exact ⟨i + 1, rfl, HG.out.2.2, HY2.out, rfl, HG.out.1⟩
   ·apply wp_region_lit
    refine gz1 (.int .u8 c) <| gzb (geq_u rfl c 97 dF) <| gz6 (.bool false) undef undef (.bool false) (.bool false) (.int .u8 c) <|
     gzb (geq_u rfl c 48 dT) <| gz2 (.bool true) (.int .u8 c) <| gzb (leq_u rfl c 57 dT) <|
     gz6 (.bool true) (.bool true) (.bool true) undef undef (.bool true) <| gz1 (.bool false) <| wn ?_
    simp only [pu]
    have HY2 := Lib.hid (HYS.out (by simp only [nmB, Bool.or_eq_true, Bool.and_eq_true, decide_eq_true_eq]; omega))
    clear hno HYS hix HIX
    go_upto_region 3 with fail
    refine wl <| gz1 (.int .i64 i) <| gzw (.int .i64 (i + 1 : Nat)) (add_nat rfl i 1 (by omega)) <| gz1 (.int .i64 (i + 1 : Nat)) <| wn ?_
    simp only [pu]
    go_wp2_with fail
    go_roundg (gk - 1)
    case measure => have := HG.out; omega
    case rel => exact ⟨i + 1, rfl, HG.out.2.2, HY2.out, rfl, HG.out.1⟩
   ·apply wp_region_lit
    refine gz1 (.int .u8 c) <| gzb (geq_u rfl c 97 dF) <| gz6 (.bool false) undef undef (.bool false) (.bool false) (.int .u8 c) <|
     gzb (geq_u rfl c 48 dF) <| gz6 (.bool false) undef undef (.bool false) (.bool false) (.bool false) <| gz1 (.int .u8 c) <|
     gzb (eql_u rfl c 45 dT) <| gz2 (.bool true) (.bool false) <| wn ?_
    simp only [pu]
    have HY2 := Lib.hid (HYS.out (by simp only [nmB, Bool.or_eq_true, Bool.and_eq_true, decide_eq_true_eq]; omega))
    clear hno HYS hix HIX
    go_upto_region 3 with fail
    refine wl <| gz1 (.int .i64 i) <| gzw (.int .i64 (i + 1 : Nat)) (add_nat rfl i 1 (by omega)) <| gz1 (.int .i64 (i + 1 : Nat)) <| wn ?_
    simp only [pu]
    go_wp2_with fail
    go_roundg (gk - 1)
    case measure => have := HG.out; omega
    case rel => exact ⟨i + 1, rfl, HG.out.2.2, HY2.out, rfl, HG.out.1⟩
   ·apply wp_region_lit
    refine gz1 (.int .u8 c) <| gzb (geq_u rfl c 97 dT) <| gz2 (.bool true) (.int .u8 c) <| gzb (leq_u rfl c 122 dF) <|
     gz3 (.bool false) (.bool false) (.int .u8 c) <| gzb (geq_u rfl c 48 dT) <| gz2 (.bool true) (.int .u8 c) <| gzb (leq_u rfl c 57 dF) <|
     gz4 (.bool false) (.bool false) (.bool false) (.int .u8 c) <| gzb (eql_u rfl c 45 dF) <| gz2 (.bool false) (.bool true) <| wn ?_
    simp only [pu]
    have HE := Lib.hid (hno (by rw [Bool.eq_false_iff]; simp only [ne_eq, nmB, Bool.or_eq_true, Bool.and_eq_true, decide_eq_true_eq]; omega))
    clear hno HYS hix HIX
    go_upto_region 6 with fail
    refine wl <| gz1 (.bool false) <| wn ?_
    simp only [pu]
    go_wp2_with fail
    go_ret
    rw [HE.out]
    exact ⟨rfl, rfl⟩
   ·apply wp_region_lit
    refine gz1 (.int .u8 c) <| gzb (geq_u rfl c 97 dF) <| gz6 (.bool false) undef undef (.bool false) (.bool false) (.int .u8 c) <|
     gzb (geq_u rfl c 48 dT) <| gz2 (.bool true) (.int .u8 c) <| gzb (leq_u rfl c 57 dF) <|
     gz4 (.bool false) (.bool false) (.bool false) (.int .u8 c) <| gzb (eql_u rfl c 45 dF) <| gz2 (.bool false) (.bool true) <| wn ?_
    simp only [pu]
    have HE := Lib.hid (hno (by rw [Bool.eq_false_iff]; simp only [ne_eq, nmB, Bool.or_eq_true, Bool.and_eq_true, decide_eq_true_eq]; omega))
    clear hno HYS hix HIX
    go_upto_region 6 with fail
    refine wl <| gz1 (.bool false) <| wn ?_
    simp only [pu]
    go_wp2_with fail
    go_ret
    rw [HE.out]
    exact ⟨rfl, rfl⟩
   ·apply wp_region_lit
    refine gz1 (.int .u8 c) <| gzb (geq_u rfl c 97 dF) <| gz6 (.bool false) undef undef (.bool false) (.bool false) (.int .u8 c) <|
     gzb (geq_u rfl c 48 dF) <| gz6 (.bool false) undef undef (.bool false) (.bool false) (.bool false) <| gz1 (.int .u8 c) <|
     gzb (eql_u rfl c 45 dF) <| gz2 (.bool false) (.bool true) <| wn ?_
    simp only [pu]
    have HE := Lib.hid (hno (by rw [Bool.eq_false_iff]; simp only [ne_eq, nmB, Bool.or_eq_true, Bool.and_eq_true, decide_eq_true_eq]; omega))
    clear hno HYS hix HIX
    go_upto_region 6 with fail
    refine wl <| gz1 (.bool false) <| wn ?_
    simp only [pu]
    go_wp2_with fail
    go_ret
    rw [HE.out]
    exact ⟨rfl, rfl⟩
  ·have HD : Hid (decide ((i : Int) < (n : Int)) = false) := Lib.hid dF
   have hall := HYES.out (fun j hj => hyes j (by rw [HL.out] at hj; omega))
   have HV : Hid (isName L = (decide (1 ≤ n) && decide (n ≤ 20))) := Lib.hid (by unfold isName; rw [hall, HL.out, hn]; rfl)
   clear hyes hall hg HIX HNO HYES
   go_upto_region 2 with fail
   refine wl <| gz2 (.int .i64 i) (.string s) <| gzv (.int .i64 n) (by rw [← hn]; kernel_rfl) <| gzw (.bool false) (lss_n rfl i n HD.out) <| wn ?_
   simp only [pu]
   go_upto_region 7 with fail
   by_cases h1 : 1 ≤ n
   ·have H1 : Hid (decide ((1 : Int) ≤ (n : Int)) = true) := Lib.hid dT
    obtain ⟨t, ht⟩ : ∃ t, decide (n ≤ 20) = t := ⟨_, rfl⟩
    have H2 : Hid (decide ((n : Int) ≤ (20 : Int)) = t) := Lib.hid (by rw [← ht]; exact decide_eq_decide.2 (by omega))
    have HE : Hid (isName L = t) := Lib.hid (by rw [HV.out, decide_eq_true h1, ht]; rfl)
    clear ht HV
    refine wl <| gz1 (.string s) <| gzv (.int .i64 n) (by rw [← hn]; kernel_rfl) <| gzw (.bool true) (geq_n rfl n 1 H1.out) <| gz2 (.bool true) (.string s) <| gzv (.int .i64 n) (by rw [← hn]; kernel_rfl) <|
     gzw (.bool t) (leq_n rfl n 20 H2.out) <| gz2 (.bool t) (.bool t) <| wn ?_
    simp only [pu]
    go_wp2_with fail
    go_ret
    rw [HE.out]
    exact ⟨rfl, rfl⟩
   ·have H1 : Hid (decide ((1 : Int) ≤ (n : Int)) = false) := Lib.hid dF
    have HE : Hid (isName L = false) := Lib.hid (by rw [HV.out, decide_eq_false h1]; rfl)
    clear HV
    refine wl <| gz1 (.string s) <| gzv (.int .i64 n) (by rw [← hn]; kernel_rfl) <| gzw (.bool false) (geq_n rfl n 1 H1.out) <| gz6 (.bool false) undef undef undef (.bool false) (.bool false) <| wn ?_
    simp only [pu]
    go_wp2_with fail
    go_ret
    rw [HE.out]
    exact ⟨rfl, rfl⟩
end Go.Proofs.YtglglhcnofbagaaGreat
namespace Go.Proofs.YtglglhcnofbagaaGreat
open Go.RowKit
set_option linter.unusedSimpArgs false
set_option linter.unusedVariables false

abbrev Tf := ByteArray × Int
def tfl (x : Tf) : List Value := [.string x.1, .int .u64 x.2]
abbrev tfA (x : Tf) : Array Value := #[.string x.1, .int .u64 x.2]
def tfc (A : List Tf) : List Value := A.flatMap tfl
def tfa (A : List Tf) (j : Nat) : Tf := A.getD j (ByteArray.empty, 0)
theorem tfa_get {A : List Tf} {j : Nat} (h : j < A.length) : tfa A j = A[j] := getD_lt A j _ h
theorem tfc_cons (x : Tf) (r : List Tf) : tfc (x :: r) = .string x.1 :: .int .u64 x.2 :: tfc r := rfl
theorem tfc_app (A B : List Tf) : tfc (A ++ B) = tfc A ++ tfc B := by simp [tfc]
theorem tfc_len : ∀ A : List Tf, (tfc A).length = A.length * 2
 | [] => rfl
 | x :: r => by have := tfc_len r; rw [tfc_cons]; simp; omega
theorem tfc_one (A : List Tf) : ∀ u ∈ tfc A, u.oneCell' = true := fun u hu => by
 obtain ⟨x, -, hx⟩ := List.mem_flatMap.1 hu
 simp only [tfl, List.mem_cons, List.not_mem_nil, or_false] at hx
 rcases hx with rfl | rfl <;> rfl
theorem tfA_one (x : Tf) : (tfA x).all (·.oneCell') = true := by simp [Value.oneCell']
theorem tfc_at : ∀ (A : List Tf) (k : Nat), k < A.length → (tfc A)[k * 2]? = some (.string (tfa A k).1) ∧ (tfc A)[k * 2 + 1]? = some (.int .u64 (tfa A k).2)
 | [], k, h => absurd h (by simp)
 | x :: r, 0, h => by rw [tfc_cons]; exact ⟨rfl, rfl⟩
 | x :: r, k + 1, h => by
  have := tfc_at r k (by simpa using h)
  rw [tfc_cons, show (k + 1) * 2 = k * 2 + 1 + 1 by omega, show k * 2 + 1 + 1 + 1 = (k * 2 + 1) + 1 + 1 by omega]
  simpa [tfa, List.getD] using this
theorem infoT : (Tryz.prog.info? 59).map (fun i => (i.zero, i.size, i.bytes)) = some (some (.agg #[.string ByteArray.empty, .int .u64 0]), 2, 24) := by kernel_rfl
theorem tf_range {w : World} {a : Option Addr} {A : List Tf} (h : Cs w a (tfc A)) {k : Nat} (hk : k < A.length) : ∃ b off, a = some ⟨b, off, none⟩ ∧ b < w.heap.size ∧ w.rangeAt b (off + k * 2) (tfl (tfa A k)) := by
 obtain ⟨h0, h1⟩ := tfc_at A k hk
 obtain ⟨b, off, rfl, hb, c0⟩ := h _ _ h0
 obtain ⟨b1, off1, e1, -, c1⟩ := h _ _ h1
 simp only [Option.some.injEq, Addr.mk.injEq, and_true] at e1
 obtain ⟨rfl, rfl⟩ := e1
 refine ⟨b, off, rfl, hb, fun j v hj => ?_⟩
 have hj2 : j < 2 := by
  have := (List.getElem?_eq_some_iff.1 hj).1
  simpa [tfl] using this
 rcases (show j = 0 ∨ j = 1 by omega) with rfl | rfl
 ·simp [tfl] at hj; rw [← hj]; exact c0
 ·simp [tfl] at hj; rw [← hj, Nat.add_assoc]; exact c1
theorem load_tf {w : World} {b o : Nat} {x : Tf} (h : w.rangeAt b o (tfl x)) : (Instr.loadAt 59 (.pointer (some ⟨b, o, none⟩))).run Tryz.prog w = .ok (.agg (tfA x)) w :=
 run_loadAt_mid w b o 59 (tfl x) _ h Tryz.underlying59 rfl (by kernel_rfl)
theorem idx_tf (b off n c k : Nat) (hk : k < n) (V : World) (ρ : Operand → Value) (o : Oper) {x y : Operand} (ho : o.op = .indexAddr 44 x y) (hx : ρ x = .slice (some ⟨b, off, none⟩) n c) (hy : ρ y = .int .i64 k) : (execOp ρ o).run Tryz.prog V = .ok (.value (.pointer (some ⟨b, off + k * 2, none⟩))) V := by
 have hs : (sizeOf (Tryz.prog.elem 44)).run Tryz.prog V = .ok 2 V := by kernel_rfl
 have hlm : (k : Int) < (n : Int) := by omega
 unfold execOp
 simp only [ho, hx, hy]
 go_simp
def zTf : Tf := (ByteArray.empty, 0)
theorem store_tf {w : World} {g : Nat} {x y : Tf} (h : Bx w g (tfA x) 59) : (Instr.storeAt 59 (.pointer (some ⟨g, 0, none⟩)) (.agg (tfA y))).run Tryz.prog w = .ok () (w.setRow g (tfA y)) ∧ Bx (w.setRow g (tfA y)) g (tfA y) 59 :=
 ⟨run_store_all h rfl (tfA_one y) (by kernel_rfl), h.set⟩
theorem new_tf (V : World) (x : Tf) : ∃ V2, (Instr.storeAt 59 (.pointer (some ⟨V.heap.size, 0, none⟩)) (.agg (tfA x))).run Tryz.prog (V.alloc (.cells (tfA zTf) 59)) = .ok () V2 ∧ Below V.heap.size V V2 ∧ Bx V2 V.heap.size (tfA x) 59 :=
 have hb : Bx (V.alloc (.cells (tfA zTf) 59)) V.heap.size (tfA zTf) 59 := heap_alloc_last V _
 ⟨_, (store_tf hb).1, belowRow ((Below.refl _ V).alloc (Nat.le_refl _) _) (Nat.le_refl _) _, (store_tf hb).2⟩
/-- A transaction without its transfers' place. -/
structure Txd where
 snd : ByteArray
 sq : Int
 gas : Int
 fee : Int
 memo : ByteArray
 tr : List Tf
abbrev txA (x : Txd) (a : Option Addr) (c : Nat) : Array Value := #[.string x.snd, .int .u64 x.sq, .int .u64 x.gas, .int .u64 x.fee, .string x.memo, .slice a x.tr.length c]
/-- Validate over lists: the transfers, then all. -/
def valT : List Tf → Int
 | [] => 0
 | x :: r => if isName (nums x.1) = false then 10 else if x.2 = 0 then 12 else valT r
def valX (x : Txd) : Int := if isName (nums x.snd) = false then 10 else if x.gas = 0 then 15 else if isMemo (nums x.memo) = false then 11 else if x.tr.length = 0 ∨ 16 < x.tr.length then 3 else valT x.tr
/-- No error ahead of a place. -/
def Okt (A : List Tf) (j : Nat) : Prop := valT A = valT (A.drop j)
theorem Okt.zero (A : List Tf) : Okt A 0 := rfl
theorem drop_tf {A : List Tf} {j : Nat} (h : j < A.length) : A.drop j = tfa A j :: A.drop (j + 1) := by rw [tfa_get h, List.getElem_cons_drop]
theorem Okt.name {A : List Tf} {j : Nat} (h : Okt A j) (hj : j < A.length) (hn : isName (nums (tfa A j).1) = false) : valT A = 10 := by
 rw [h, drop_tf hj]
 simp [valT, hn]
theorem Okt.zam {A : List Tf} {j : Nat} (h : Okt A j) (hj : j < A.length) (hn : isName (nums (tfa A j).1) = true) (h0 : (tfa A j).2 = 0) : valT A = 12 := by
 rw [h, drop_tf hj]
 simp [valT, hn, h0]
theorem Okt.step {A : List Tf} {j : Nat} (h : Okt A j) (hj : j < A.length) (hn : isName (nums (tfa A j).1) = true) (h0 : (tfa A j).2 ≠ 0) : Okt A (j + 1) := by
 unfold Okt at h ⊢
 rw [h, drop_tf hj]
 simp [valT, hn, h0]
theorem Okt.done {A : List Tf} {j : Nat} (h : Okt A j) (hj : A.length ≤ j) : valT A = 0 := by
 rw [h, List.drop_eq_nil_of_le hj]
 rfl
end Go.Proofs.YtglglhcnofbagaaGreat
