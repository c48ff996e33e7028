/-
 The reference's follow and Rune: contracts.
-/
import Derived.Test.YtplfineaomneiaaDoorUM
namespace Go.Proofs.YtplfineaomneiaaDoor
attribute [local irreducible] wpList wpQuiet
open Go.RowKit
set_option linter.unusedSimpArgs false
set_option linter.unusedVariables false

set_option maxRecDepth 100000 in
set_option maxHeartbeats 8000000 in
theorem ref_follow (s : ByteArray) (k : Nat) (w : World) : Calls Tryd.prog 82 #[.string s, .int .i64 k] w fun e w' => e = .returned (.bool (fol (nums s) k)) ∧ w = w' := by
 have HIX := Lib.hid (fun (h : k < s.size) => str_at s k h)
 have HV : Hid (fol (nums s) k = (decide (k < s.size) && (decide (128 ≤ (nums s).getD k 0) && decide ((nums s).getD k 0 < 192)))) := Lib.hid (by unfold fol; rw [nums_len])
 generalize fol (nums s) k = t at *
 generalize (nums s).getD k 0 = c at *
 obtain ⟨n, hn⟩ : ∃ n, s.size = n := ⟨_, rfl⟩
 rw [hn] at HIX HV
 go_enter Tryd.func82, Tryd.ntmps82
 go_upto_region 1 with fail
 rcases (show n ≤ k ∨ (k < n ∧ c < 128) ∨ (k < n ∧ 128 ≤ c ∧ c < 192) ∨ (k < n ∧ 192 ≤ c) by omega) with hc | hc | hc | hc
 ·have H8 : Hid (decide ((k : Int) < (n : Int)) = false) := Lib.hid dF
  have HE : Hid (t = false) := Lib.hid (by rw [HV.out]; rw [Bool.eq_false_iff]; simp only [ne_eq, Bool.and_eq_true, decide_eq_true_eq]; omega)
  clear HIX HV
  refine wl <| gz2 (.int .i64 k) (.string s) <| gzv (.int .i64 n) (by rw [← hn]; kernel_rfl) <| gzw (.bool false) (lss_n rfl k n H8.out) <| gz6 (.bool false) undef undef undef undef (.bool false) <|
   gz6 (.bool false) undef undef undef undef (.bool false) <| gz1 (.bool false) <| wn ?_
  simp only [pu]
  go_wp2_with fail
  go_ret
  rw [HE.out]
  exact ⟨rfl, rfl⟩
 ·have H8 : Hid (decide ((k : Int) < (n : Int)) = true) := Lib.hid dT
  have HE : Hid (t = false) := Lib.hid (by rw [HV.out]; rw [Bool.eq_false_iff]; simp only [ne_eq, Bool.and_eq_true, decide_eq_true_eq]; omega)
  have hix := HIX.out hc.1
  clear HIX HV
  refine wl <| gz2 (.int .i64 k) (.string s) <| gzv (.int .i64 n) (by rw [← hn]; kernel_rfl) <| gzw (.bool true) (lss_n rfl k n H8.out) <| gz3 (.bool true) (.string s) (.int .i64 k) <| gzv (.int .u8 c) (hix _ _ _ _ rfl (by kernel_rfl) (by kernel_rfl) _) <|
   gzb (geq_u rfl c 128 dF) <| gz6 (.bool false) (.bool false) undef undef undef undef <| gz2 (.bool false) (.bool false) <| wn ?_
  simp only [pu]
  go_wp2_with fail
  go_ret
  rw [HE.out]
  exact ⟨rfl, rfl⟩
 ·have H8 : Hid (decide ((k : Int) < (n : Int)) = true) := Lib.hid dT
  have HE : Hid (t = true) := Lib.hid (by rw [HV.out]; simp only [Bool.and_eq_true, decide_eq_true_eq]; omega)
  have hix := HIX.out hc.1
  clear HIX HV
  refine wl <| gz2 (.int .i64 k) (.string s) <| gzv (.int .i64 n) (by rw [← hn]; kernel_rfl) <| gzw (.bool true) (lss_n rfl k n H8.out) <| gz3 (.bool true) (.string s) (.int .i64 k) <| gzv (.int .u8 c) (hix _ _ _ _ rfl (by kernel_rfl) (by kernel_rfl) _) <|
   gzb (geq_u rfl c 128 dT) <| gz4 (.bool true) (.bool true) (.string s) (.int .i64 k) <| gzv (.int .u8 c) (hix _ _ _ _ rfl (by kernel_rfl) (by kernel_rfl) _) <|
   gzb (lss_u rfl c 192 dT) <| gz2 (.bool true) (.bool true) <| wn ?_
  simp only [pu]
  go_wp2_with fail
  go_ret
  rw [HE.out]
  exact ⟨rfl, rfl⟩
 ·have H8 : Hid (decide ((k : Int) < (n : Int)) = true) := Lib.hid dT
  have HE : Hid (t = false) := Lib.hid (by rw [HV.out]; rw [Bool.eq_false_iff]; simp only [ne_eq, Bool.and_eq_true, decide_eq_true_eq]; omega)
  have hix := HIX.out hc.1
  clear HIX HV
  refine wl <| gz2 (.int .i64 k) (.string s) <| gzv (.int .i64 n) (by rw [← hn]; kernel_rfl) <| gzw (.bool true) (lss_n rfl k n H8.out) <| gz3 (.bool true) (.string s) (.int .i64 k) <| gzv (.int .u8 c) (hix _ _ _ _ rfl (by kernel_rfl) (by kernel_rfl) _) <|
   gzb (geq_u rfl c 128 dT) <| gz4 (.bool true) (.bool true) (.string s) (.int .i64 k) <| gzv (.int .u8 c) (hix _ _ _ _ rfl (by kernel_rfl) (by kernel_rfl) _) <|
   gzb (lss_u rfl c 192 dF) <| gz2 (.bool false) (.bool false) <| wn ?_
  simp only [pu]
  go_wp2_with fail
  go_ret
  rw [HE.out]
  exact ⟨rfl, rfl⟩
set_option maxRecDepth 100000 in
set_option maxHeartbeats 8000000 in
theorem ref_rune (s : ByteArray) (i : Nat) (w : World) (hi : i < s.size) (hl : s.size ≤ 140737488355328) : Calls Tryd.prog 66 #[.string s, .int .i64 i] w fun e w' => e = .returned (.int .i64 (runK (nums s) i : Nat)) ∧ w = w' := by
 have hix := str_at s i hi
 have HI1 := Lib.hid (fun (h : fol (nums s) (i + 1) = true) => str_at s (i + 1) (by have := (fol_rng h).1; rwa [nums_len] at this))
 have CF1 := ref_follow s (i + 1) w
 have CF2 := ref_follow s (i + 2) w
 have CF3 := ref_follow s (i + 3) w
 have HV : Hid (runK (nums s) i = runN ((nums s).getD i 0) ((nums s).getD (i + 1) 0) (fol (nums s) (i + 1)) (fol (nums s) (i + 2)) (fol (nums s) (i + 3))) := Lib.hid rfl
 generalize runK (nums s) i = r at *
 generalize (nums s).getD i 0 = c at *
 generalize (nums s).getD (i + 1) 0 = d at *
 generalize fol (nums s) (i + 1) = f1 at *
 generalize fol (nums s) (i + 2) = f2 at *
 generalize fol (nums s) (i + 3) = f3 at *
 go_enter Tryd.func66, Tryd.ntmps66
 go_upto_region 1 with fail
 refine wl <| gz2 (.string s) (.int .i64 i) <| gzv (.int .u8 c) (hix _ _ _ _ rfl (by kernel_rfl) (by kernel_rfl) _) <| gz1 (.int .u8 c) <| wn ?_
 simp only [pu]
 clear hix
 go_upto_region 2 with fail
 rcases (show (c < 128) ∨ (128 ≤ c ∧ c < 194) ∨ (194 ≤ c ∧ c < 224) ∨ (224 ≤ c ∧ c < 240) ∨ (240 ≤ c ∧ c < 245) ∨ (245 ≤ c) by omega) with hc | hc | hc | hc | hc | hc
 ·skip
  refine wl <| gz1 (.int .u8 c) <| gzb (lss_u rfl c 128 dT) <| gz1 (.bool true) <| wn ?_
  simp only [pu]
  have HE : Hid (r = 1) := by
   refine Lib.hid ?_
   rw [HV.out]
   unfold runN
   try simp only [and_true, and_false, false_and, true_and, if_false, if_true, eq_self, Bool.false_eq_true, reduceCtorEq]
   repeat' split
   all_goals (first | rfl | omega)
  go_upto_region 3 with fail
  refine wl <| gz1 (.int .i64 1) <| wn ?_
  simp only [pu]
  go_wp2_with fail
  go_ret
  rw [HE.out]
  exact ⟨rfl, rfl⟩
 ·skip
  refine wl <| gz1 (.int .u8 c) <| gzb (lss_u rfl c 128 dF) <| gz1 (.bool false) <| wn ?_
  simp only [pu]
  go_upto_region 4 with fail
  refine wl <| gz1 (.int .u8 c) <| gzb (geq_u rfl c 194 dF) <| gz6 (.bool false) undef undef (.bool false) (.bool false) undef <| gz5 undef undef undef (.bool false) (.bool false) <| wn ?_
  simp only [pu]
  go_upto_region 6 with fail
  refine wl <| gz1 (.int .u8 c) <| gzb (geq_u rfl c 224 dF) <| gz6 (.bool false) undef undef (.bool false) (.bool false) undef <| gz6 undef undef undef (.bool false) (.bool false) undef <|
   gz5 undef undef undef (.bool false) (.bool false) <| wn ?_
  simp only [pu]
  go_upto_region 10 with fail
  refine wl <| gz1 (.int .u8 c) <| gzb (geq_u rfl c 240 dF) <| gz6 (.bool false) undef undef (.bool false) (.bool false) undef <| gz6 undef undef undef (.bool false) (.bool false) undef <|
   gz6 undef undef undef (.bool false) (.bool false) undef <| gz5 undef undef undef (.bool false) (.bool false) <| wn ?_
  simp only [pu]
  have HE : Hid (r = 0) := by
   refine Lib.hid ?_
   rw [HV.out]
   unfold runN
   try simp only [and_true, and_false, false_and, true_and, if_false, if_true, eq_self, Bool.false_eq_true, reduceCtorEq]
   repeat' split
   all_goals (first | rfl | omega)
  go_upto_region 14 with fail
  refine wl <| gz1 (.int .i64 0) <| wn ?_
  simp only [pu]
  go_wp2_with fail
  go_ret
  rw [HE.out]
  exact ⟨rfl, rfl⟩
 ·skip
  refine wl <| gz1 (.int .u8 c) <| gzb (lss_u rfl c 128 dF) <| gz1 (.bool false) <| wn ?_
  simp only [pu]
  cases f1
  ·skip
   go_upto_region 4 with fail
   refine wl <| gz1 (.int .u8 c) <| gzb (geq_u rfl c 194 dT) <| gz2 (.bool true) (.int .u8 c) <| gzb (lss_u rfl c 224 dT) <|
    gz4 (.bool true) (.bool true) (.string s) (.int .i64 i) <| gzw (.int .i64 (i + 1 : Nat)) (add_nat rfl i 1 (by omega)) <| gzc (.bool false) (fun w' => w = w') CF1 (fun W hW => ?_)
   subst hW
   simp only [pu]
   refine gz2 (.bool false) (.bool false) <| wn ?_
   simp only [pu]
   go_upto_region 6 with fail
   refine wl <| gz1 (.int .u8 c) <| gzb (geq_u rfl c 224 dF) <| gz6 (.bool false) undef undef (.bool false) (.bool false) undef <| gz6 undef undef undef (.bool false) (.bool false) undef <|
    gz5 undef undef undef (.bool false) (.bool false) <| wn ?_
   simp only [pu]
   go_upto_region 10 with fail
   refine wl <| gz1 (.int .u8 c) <| gzb (geq_u rfl c 240 dF) <| gz6 (.bool false) undef undef (.bool false) (.bool false) undef <| gz6 undef undef undef (.bool false) (.bool false) undef <|
    gz6 undef undef undef (.bool false) (.bool false) undef <| gz5 undef undef undef (.bool false) (.bool false) <| wn ?_
   simp only [pu]
   have HE : Hid (r = 0) := by
    refine Lib.hid ?_
    rw [HV.out]
    unfold runN
    try simp only [and_true, and_false, false_and, true_and, if_false, if_true, eq_self, Bool.false_eq_true, reduceCtorEq]
    repeat' split
    all_goals (first | rfl | omega)
   go_upto_region 14 with fail
   refine wl <| gz1 (.int .i64 0) <| wn ?_
   simp only [pu]
   go_wp2_with fail
   go_ret
   rw [HE.out]
   exact ⟨rfl, rfl⟩
  ·skip
   go_upto_region 4 with fail
   refine wl <| gz1 (.int .u8 c) <| gzb (geq_u rfl c 194 dT) <| gz2 (.bool true) (.int .u8 c) <| gzb (lss_u rfl c 224 dT) <|
    gz4 (.bool true) (.bool true) (.string s) (.int .i64 i) <| gzw (.int .i64 (i + 1 : Nat)) (add_nat rfl i 1 (by omega)) <| gzc (.bool true) (fun w' => w = w') CF1 (fun W hW => ?_)
   subst hW
   simp only [pu]
   refine gz2 (.bool true) (.bool true) <| wn ?_
   simp only [pu]
   have HE : Hid (r = 2) := by
    refine Lib.hid ?_
    rw [HV.out]
    unfold runN
    try simp only [and_true, and_false, false_and, true_and, if_false, if_true, eq_self, Bool.false_eq_true, reduceCtorEq]
    repeat' split
    all_goals (first | rfl | omega)
   go_upto_region 5 with fail
   refine wl <| gz1 (.int .i64 2) <| wn ?_
   simp only [pu]
   go_wp2_with fail
   go_ret
   rw [HE.out]
   exact ⟨rfl, rfl⟩
 ·skip
  refine wl <| gz1 (.int .u8 c) <| gzb (lss_u rfl c 128 dF) <| gz1 (.bool false) <| wn ?_
  simp only [pu]
  cases f1
  ·skip
   go_upto_region 4 with fail
   refine wl <| gz1 (.int .u8 c) <| gzb (geq_u rfl c 194 dT) <| gz2 (.bool true) (.int .u8 c) <| gzb (lss_u rfl c 224 dF) <|
    gz6 (.bool false) (.bool false) undef undef undef undef <| gz2 (.bool false) (.bool false) <| wn ?_
   simp only [pu]
   go_upto_region 6 with fail
   refine wl <| gz1 (.int .u8 c) <| gzb (geq_u rfl c 224 dT) <| gz2 (.bool true) (.int .u8 c) <| gzb (lss_u rfl c 240 dT) <|
    gz4 (.bool true) (.bool true) (.string s) (.int .i64 i) <| gzw (.int .i64 (i + 1 : Nat)) (add_nat rfl i 1 (by omega)) <| gzc (.bool false) (fun w' => w = w') CF1 (fun W hW => ?_)
   subst hW
   simp only [pu]
   refine gz6 (.bool false) (.bool false) undef undef undef undef <| gz2 (.bool false) (.bool false) <| wn ?_
   simp only [pu]
   go_upto_region 10 with fail
   refine wl <| gz1 (.int .u8 c) <| gzb (geq_u rfl c 240 dF) <| gz6 (.bool false) undef undef (.bool false) (.bool false) undef <| gz6 undef undef undef (.bool false) (.bool false) undef <|
    gz6 undef undef undef (.bool false) (.bool false) undef <| gz5 undef undef undef (.bool false) (.bool false) <| wn ?_
   simp only [pu]
   have HE : Hid (r = 0) := by
    refine Lib.hid ?_
    rw [HV.out]
    unfold runN
    try simp only [and_true, and_false, false_and, true_and, if_false, if_true, eq_self, Bool.false_eq_true, reduceCtorEq]
    repeat' split
    all_goals (first | rfl | omega)
   go_upto_region 14 with fail
   refine wl <| gz1 (.int .i64 0) <| wn ?_
   simp only [pu]
   go_wp2_with fail
   go_ret
   rw [HE.out]
   exact ⟨rfl, rfl⟩
  ·skip
   cases f2
   ·skip
    go_upto_region 4 with fail
    refine wl <| gz1 (.int .u8 c) <| gzb (geq_u rfl c 194 dT) <| gz2 (.bool true) (.int .u8 c) <| gzb (lss_u rfl c 224 dF) <|
     gz6 (.bool false) (.bool false) undef undef undef undef <| gz2 (.bool false) (.bool false) <| wn ?_
    simp only [pu]
    go_upto_region 6 with fail
    refine wl <| gz1 (.int .u8 c) <| gzb (geq_u rfl c 224 dT) <| gz2 (.bool true) (.int .u8 c) <| gzb (lss_u rfl c 240 dT) <|
     gz4 (.bool true) (.bool true) (.string s) (.int .i64 i) <| gzw (.int .i64 (i + 1 : Nat)) (add_nat rfl i 1 (by omega)) <| gzc (.bool true) (fun w' => w = w') CF1 (fun W hW => ?_)
    subst hW
    simp only [pu]
    refine gz4 (.bool true) (.bool true) (.string s) (.int .i64 i) <| gzw (.int .i64 (i + 2 : Nat)) (add_nat rfl i 2 (by omega)) <| gzc (.bool false) (fun w' => w = w') CF2 (fun W hW => ?_)
    subst hW
    simp only [pu]
    refine gz2 (.bool false) (.bool false) <| wn ?_
    simp only [pu]
    go_upto_region 10 with fail
    refine wl <| gz1 (.int .u8 c) <| gzb (geq_u rfl c 240 dF) <| gz6 (.bool false) undef undef (.bool false) (.bool false) undef <| gz6 undef undef undef (.bool false) (.bool false) undef <|
     gz6 undef undef undef (.bool false) (.bool false) undef <| gz5 undef undef undef (.bool false) (.bool false) <| wn ?_
    simp only [pu]
    have HE : Hid (r = 0) := by
     refine Lib.hid ?_
     rw [HV.out]
     unfold runN
     try simp only [and_true, and_false, false_and, true_and, if_false, if_true, eq_self, Bool.false_eq_true, reduceCtorEq]
     repeat' split
     all_goals (first | rfl | omega)
    go_upto_region 14 with fail
    refine wl <| gz1 (.int .i64 0) <| wn ?_
    simp only [pu]
    go_wp2_with fail
    go_ret
    rw [HE.out]
    exact ⟨rfl, rfl⟩
   ·skip
    go_upto_region 4 with fail
    refine wl <| gz1 (.int .u8 c) <| gzb (geq_u rfl c 194 dT) <| gz2 (.bool true) (.int .u8 c) <| gzb (lss_u rfl c 224 dF) <|
     gz6 (.bool false) (.bool false) undef undef undef undef <| gz2 (.bool false) (.bool false) <| wn ?_
    simp only [pu]
    go_upto_region 6 with fail
    refine wl <| gz1 (.int .u8 c) <| gzb (geq_u rfl c 224 dT) <| gz2 (.bool true) (.int .u8 c) <| gzb (lss_u rfl c 240 dT) <|
     gz4 (.bool true) (.bool true) (.string s) (.int .i64 i) <| gzw (.int .i64 (i + 1 : Nat)) (add_nat rfl i 1 (by omega)) <| gzc (.bool true) (fun w' => w = w') CF1 (fun W hW => ?_)
    subst hW
    simp only [pu]
    refine gz4 (.bool true) (.bool true) (.string s) (.int .i64 i) <| gzw (.int .i64 (i + 2 : Nat)) (add_nat rfl i 2 (by omega)) <| gzc (.bool true) (fun w' => w = w') CF2 (fun W hW => ?_)
    subst hW
    simp only [pu]
    refine gz2 (.bool true) (.bool true) <| wn ?_
    simp only [pu]
    have hid := HI1.out rfl
    clear HI1
    go_upto_region 7 with fail
    rcases (show (c = 224 ∧ d < 160) ∨ (c = 224 ∧ 160 ≤ d) ∨ (c = 237 ∧ d < 160) ∨ (c = 237 ∧ 160 ≤ d) ∨ (c ≠ 224 ∧ c ≠ 237) by omega) with hd | hd | hd | hd | hd
    ·skip
     refine wl <| gz1 (.int .u8 c) <| gzb (eql_u rfl c 224 dT) <| gz3 (.bool true) (.string s) (.int .i64 i) <| gzw (.int .i64 (i + 1 : Nat)) (add_nat rfl i 1 (by omega)) <|
      gzv (.int .u8 d) (hid _ _ _ _ rfl (by kernel_rfl) (by kernel_rfl) _) <| gzb (lss_u rfl d 160 dT) <| gz6 (.bool true) (.bool true) undef undef undef undef <| gz6 undef undef undef undef undef (.bool true) <|
      wpList_nil ?_
     simp only [pu]
     have HE : Hid (r = 0) := by
      refine Lib.hid ?_
      rw [HV.out]
      unfold runN
      try simp only [and_true, and_false, false_and, true_and, if_false, if_true, eq_self, Bool.false_eq_true, reduceCtorEq]
      repeat' split
      all_goals (first | rfl | omega)
     go_upto_region 8 with fail
     refine wl <| gz1 (.int .i64 0) <| wn ?_
     simp only [pu]
     go_wp2_with fail
     go_ret
     rw [HE.out]
     exact ⟨rfl, rfl⟩
    ·skip
     refine wl <| gz1 (.int .u8 c) <| gzb (eql_u rfl c 224 dT) <| gz3 (.bool true) (.string s) (.int .i64 i) <| gzw (.int .i64 (i + 1 : Nat)) (add_nat rfl i 1 (by omega)) <|
      gzv (.int .u8 d) (hid _ _ _ _ rfl (by kernel_rfl) (by kernel_rfl) _) <| gzb (lss_u rfl d 160 dF) <| gz3 (.bool false) (.bool false) (.int .u8 c) <|
      gzb (eql_u rfl c 237 dF) <| gz6 (.bool false) undef undef undef undef undef <| gz2 (.bool false) (.bool false) <| wn ?_
     simp only [pu]
     have HE : Hid (r = 3) := by
      refine Lib.hid ?_
      rw [HV.out]
      unfold runN
      try simp only [and_true, and_false, false_and, true_and, if_false, if_true, eq_self, Bool.false_eq_true, reduceCtorEq]
      repeat' split
      all_goals (first | rfl | omega)
     go_upto_region 9 with fail
     refine wl <| gz1 (.int .i64 3) <| wn ?_
     simp only [pu]
     go_wp2_with fail
     go_ret
     rw [HE.out]
     exact ⟨rfl, rfl⟩
    ·skip
     refine wl <| gz1 (.int .u8 c) <| gzb (eql_u rfl c 224 dF) <| gz6 (.bool false) undef undef undef undef undef <| gz3 (.bool false) (.bool false) (.int .u8 c) <|
      gzb (eql_u rfl c 237 dT) <| gz3 (.bool true) (.string s) (.int .i64 i) <| gzw (.int .i64 (i + 1 : Nat)) (add_nat rfl i 1 (by omega)) <|
      gzv (.int .u8 d) (hid _ _ _ _ rfl (by kernel_rfl) (by kernel_rfl) _) <| gzb (geq_u rfl d 160 dF) <| gz2 (.bool false) (.bool false) <| wn ?_
     simp only [pu]
     have HE : Hid (r = 3) := by
      refine Lib.hid ?_
      rw [HV.out]
      unfold runN
      try simp only [and_true, and_false, false_and, true_and, if_false, if_true, eq_self, Bool.false_eq_true, reduceCtorEq]
      repeat' split
      all_goals (first | rfl | omega)
     go_upto_region 9 with fail
     refine wl <| gz1 (.int .i64 3) <| wn ?_
     simp only [pu]
     go_wp2_with fail
     go_ret
     rw [HE.out]
     exact ⟨rfl, rfl⟩
    ·skip
     refine wl <| gz1 (.int .u8 c) <| gzb (eql_u rfl c 224 dF) <| gz6 (.bool false) undef undef undef undef undef <| gz3 (.bool false) (.bool false) (.int .u8 c) <|
      gzb (eql_u rfl c 237 dT) <| gz3 (.bool true) (.string s) (.int .i64 i) <| gzw (.int .i64 (i + 1 : Nat)) (add_nat rfl i 1 (by omega)) <|
      gzv (.int .u8 d) (hid _ _ _ _ rfl (by kernel_rfl) (by kernel_rfl) _) <| gzb (geq_u rfl d 160 dT) <| gz2 (.bool true) (.bool true) <| wn ?_
     simp only [pu]
     have HE : Hid (r = 0) := by
      refine Lib.hid ?_
      rw [HV.out]
      unfold runN
      try simp only [and_true, and_false, false_and, true_and, if_false, if_true, eq_self, Bool.false_eq_true, reduceCtorEq]
      repeat' split
      all_goals (first | rfl | omega)
     go_upto_region 8 with fail
     refine wl <| gz1 (.int .i64 0) <| wn ?_
     simp only [pu]
     go_wp2_with fail
     go_ret
     rw [HE.out]
     exact ⟨rfl, rfl⟩
    ·skip
     refine wl <| gz1 (.int .u8 c) <| gzb (eql_u rfl c 224 dF) <| gz6 (.bool false) undef undef undef undef undef <| gz3 (.bool false) (.bool false) (.int .u8 c) <|
      gzb (eql_u rfl c 237 dF) <| gz6 (.bool false) undef undef undef undef undef <| gz2 (.bool false) (.bool false) <| wn ?_
     simp only [pu]
     have HE : Hid (r = 3) := by
      refine Lib.hid ?_
      rw [HV.out]
      unfold runN
      try simp only [and_true, and_false, false_and, true_and, if_false, if_true, eq_self, Bool.false_eq_true, reduceCtorEq]
      repeat' split
      all_goals (first | rfl | omega)
     go_upto_region 9 with fail
     refine wl <| gz1 (.int .i64 3) <| wn ?_
     simp only [pu]
     go_wp2_with fail
     go_ret
     rw [HE.out]
     exact ⟨rfl, rfl⟩
 ·skip
  refine wl <| gz1 (.int .u8 c) <| gzb (lss_u rfl c 128 dF) <| gz1 (.bool false) <| wn ?_
  simp only [pu]
  cases f1
  ·skip
   go_upto_region 4 with fail
   refine wl <| gz1 (.int .u8 c) <| gzb (geq_u rfl c 194 dT) <| gz2 (.bool true) (.int .u8 c) <| gzb (lss_u rfl c 224 dF) <|
    gz6 (.bool false) (.bool false) undef undef undef undef <| gz2 (.bool false) (.bool false) <| wn ?_
   simp only [pu]
   go_upto_region 6 with fail
   refine wl <| gz1 (.int .u8 c) <| gzb (geq_u rfl c 224 dT) <| gz2 (.bool true) (.int .u8 c) <| gzb (lss_u rfl c 240 dF) <|
    gz6 (.bool false) (.bool false) undef undef undef undef <| gz6 (.bool false) (.bool false) undef undef undef undef <| gz2 (.bool false) (.bool false) <| wn ?_
   simp only [pu]
   go_upto_region 10 with fail
   refine wl <| gz1 (.int .u8 c) <| gzb (geq_u rfl c 240 dT) <| gz2 (.bool true) (.int .u8 c) <| gzb (lss_u rfl c 245 dT) <|
    gz4 (.bool true) (.bool true) (.string s) (.int .i64 i) <| gzw (.int .i64 (i + 1 : Nat)) (add_nat rfl i 1 (by omega)) <| gzc (.bool false) (fun w' => w = w') CF1 (fun W hW => ?_)
   subst hW
   simp only [pu]
   refine gz6 (.bool false) (.bool false) undef undef undef undef <| gz6 (.bool false) (.bool false) undef undef undef undef <| gz2 (.bool false) (.bool false) <| wn ?_
   simp only [pu]
   have HE : Hid (r = 0) := by
    refine Lib.hid ?_
    rw [HV.out]
    unfold runN
    try simp only [and_true, and_false, false_and, true_and, if_false, if_true, eq_self, Bool.false_eq_true, reduceCtorEq]
    repeat' split
    all_goals (first | rfl | omega)
   go_upto_region 14 with fail
   refine wl <| gz1 (.int .i64 0) <| wn ?_
   simp only [pu]
   go_wp2_with fail
   go_ret
   rw [HE.out]
   exact ⟨rfl, rfl⟩
  ·skip
   cases f2
   ·skip
    go_upto_region 4 with fail
    refine wl <| gz1 (.int .u8 c) <| gzb (geq_u rfl c 194 dT) <| gz2 (.bool true) (.int .u8 c) <| gzb (lss_u rfl c 224 dF) <|
     gz6 (.bool false) (.bool false) undef undef undef undef <| gz2 (.bool false) (.bool false) <| wn ?_
    simp only [pu]
    go_upto_region 6 with fail
    refine wl <| gz1 (.int .u8 c) <| gzb (geq_u rfl c 224 dT) <| gz2 (.bool true) (.int .u8 c) <| gzb (lss_u rfl c 240 dF) <|
     gz6 (.bool false) (.bool false) undef undef undef undef <| gz6 (.bool false) (.bool false) undef undef undef undef <| gz2 (.bool false) (.bool false) <| wn ?_
    simp only [pu]
    go_upto_region 10 with fail
    refine wl <| gz1 (.int .u8 c) <| gzb (geq_u rfl c 240 dT) <| gz2 (.bool true) (.int .u8 c) <| gzb (lss_u rfl c 245 dT) <|
     gz4 (.bool true) (.bool true) (.string s) (.int .i64 i) <| gzw (.int .i64 (i + 1 : Nat)) (add_nat rfl i 1 (by omega)) <| gzc (.bool true) (fun w' => w = w') CF1 (fun W hW => ?_)
    subst hW
    simp only [pu]
    refine gz4 (.bool true) (.bool true) (.string s) (.int .i64 i) <| gzw (.int .i64 (i + 2 : Nat)) (add_nat rfl i 2 (by omega)) <| gzc (.bool false) (fun w' => w = w') CF2 (fun W hW => ?_)
    subst hW
    simp only [pu]
    refine gz6 (.bool false) (.bool false) undef undef undef undef <| gz2 (.bool false) (.bool false) <| wn ?_
    simp only [pu]
    have HE : Hid (r = 0) := by
     refine Lib.hid ?_
     rw [HV.out]
     unfold runN
     try simp only [and_true, and_false, false_and, true_and, if_false, if_true, eq_self, Bool.false_eq_true, reduceCtorEq]
     repeat' split
     all_goals (first | rfl | omega)
    go_upto_region 14 with fail
    refine wl <| gz1 (.int .i64 0) <| wn ?_
    simp only [pu]
    go_wp2_with fail
    go_ret
    rw [HE.out]
    exact ⟨rfl, rfl⟩
   ·skip
    cases f3
    ·skip
     go_upto_region 4 with fail
     refine wl <| gz1 (.int .u8 c) <| gzb (geq_u rfl c 194 dT) <| gz2 (.bool true) (.int .u8 c) <| gzb (lss_u rfl c 224 dF) <|
      gz6 (.bool false) (.bool false) undef undef undef undef <| gz2 (.bool false) (.bool false) <| wn ?_
     simp only [pu]
     go_upto_region 6 with fail
     refine wl <| gz1 (.int .u8 c) <| gzb (geq_u rfl c 224 dT) <| gz2 (.bool true) (.int .u8 c) <| gzb (lss_u rfl c 240 dF) <|
      gz6 (.bool false) (.bool false) undef undef undef undef <| gz6 (.bool false) (.bool false) undef undef undef undef <| gz2 (.bool false) (.bool false) <| wn ?_
     simp only [pu]
     go_upto_region 10 with fail
     refine wl <| gz1 (.int .u8 c) <| gzb (geq_u rfl c 240 dT) <| gz2 (.bool true) (.int .u8 c) <| gzb (lss_u rfl c 245 dT) <|
      gz4 (.bool true) (.bool true) (.string s) (.int .i64 i) <| gzw (.int .i64 (i + 1 : Nat)) (add_nat rfl i 1 (by omega)) <| gzc (.bool true) (fun w' => w = w') CF1 (fun W hW => ?_)
     subst hW
     simp only [pu]
     refine gz4 (.bool true) (.bool true) (.string s) (.int .i64 i) <| gzw (.int .i64 (i + 2 : Nat)) (add_nat rfl i 2 (by omega)) <| gzc (.bool true) (fun w' => w = w') CF2 (fun W hW => ?_)
     subst hW
     simp only [pu]
     refine gz4 (.bool true) (.bool true) (.string s) (.int .i64 i) <| gzw (.int .i64 (i + 3 : Nat)) (add_nat rfl i 3 (by omega)) <| gzc (.bool false) (fun w' => w = w') CF3 (fun W hW => ?_)
     subst hW
     simp only [pu]
     refine gz2 (.bool false) (.bool false) <| wn ?_
     simp only [pu]
     have HE : Hid (r = 0) := by
      refine Lib.hid ?_
      rw [HV.out]
      unfold runN
      try simp only [and_true, and_false, false_and, true_and, if_false, if_true, eq_self, Bool.false_eq_true, reduceCtorEq]
      repeat' split
      all_goals (first | rfl | omega)
     go_upto_region 14 with fail
     refine wl <| gz1 (.int .i64 0) <| wn ?_
     simp only [pu]
     go_wp2_with fail
     go_ret
     rw [HE.out]
     exact ⟨rfl, rfl⟩
    ·skip
     go_upto_region 4 with fail
     refine wl <| gz1 (.int .u8 c) <| gzb (geq_u rfl c 194 dT) <| gz2 (.bool true) (.int .u8 c) <| gzb (lss_u rfl c 224 dF) <|
      gz6 (.bool false) (.bool false) undef undef undef undef <| gz2 (.bool false) (.bool false) <| wn ?_
     simp only [pu]
     go_upto_region 6 with fail
     refine wl <| gz1 (.int .u8 c) <| gzb (geq_u rfl c 224 dT) <| gz2 (.bool true) (.int .u8 c) <| gzb (lss_u rfl c 240 dF) <|
      gz6 (.bool false) (.bool false) undef undef undef undef <| gz6 (.bool false) (.bool false) undef undef undef undef <| gz2 (.bool false) (.bool false) <| wn ?_
     simp only [pu]
     go_upto_region 10 with fail
     refine wl <| gz1 (.int .u8 c) <| gzb (geq_u rfl c 240 dT) <| gz2 (.bool true) (.int .u8 c) <| gzb (lss_u rfl c 245 dT) <|
      gz4 (.bool true) (.bool true) (.string s) (.int .i64 i) <| gzw (.int .i64 (i + 1 : Nat)) (add_nat rfl i 1 (by omega)) <| gzc (.bool true) (fun w' => w = w') CF1 (fun W hW => ?_)
     subst hW
     simp only [pu]
     refine gz4 (.bool true) (.bool true) (.string s) (.int .i64 i) <| gzw (.int .i64 (i + 2 : Nat)) (add_nat rfl i 2 (by omega)) <| gzc (.bool true) (fun w' => w = w') CF2 (fun W hW => ?_)
     subst hW
     simp only [pu]
     refine gz4 (.bool true) (.bool true) (.string s) (.int .i64 i) <| gzw (.int .i64 (i + 3 : Nat)) (add_nat rfl i 3 (by omega)) <| gzc (.bool true) (fun w' => w = w') CF3 (fun W hW => ?_)
     subst hW
     simp only [pu]
     refine gz2 (.bool true) (.bool true) <| wn ?_
     simp only [pu]
     have hid := HI1.out rfl
     clear HI1
     go_upto_region 11 with fail
     rcases (show (c = 240 ∧ d < 144) ∨ (c = 240 ∧ 144 ≤ d) ∨ (c = 244 ∧ d < 144) ∨ (c = 244 ∧ 144 ≤ d) ∨ (c ≠ 240 ∧ c ≠ 244) by omega) with hd | hd | hd | hd | hd
     ·skip
      refine wl <| gz1 (.int .u8 c) <| gzb (eql_u rfl c 240 dT) <| gz3 (.bool true) (.string s) (.int .i64 i) <| gzw (.int .i64 (i + 1 : Nat)) (add_nat rfl i 1 (by omega)) <|
       gzv (.int .u8 d) (hid _ _ _ _ rfl (by kernel_rfl) (by kernel_rfl) _) <| gzb (lss_u rfl d 144 dT) <| gz6 (.bool true) (.bool true) undef undef undef undef <| gz6 undef undef undef undef undef (.bool true) <|
       wpList_nil ?_
      simp only [pu]
      have HE : Hid (r = 0) := by
       refine Lib.hid ?_
       rw [HV.out]
       unfold runN
       try simp only [and_true, and_false, false_and, true_and, if_false, if_true, eq_self, Bool.false_eq_true, reduceCtorEq]
       repeat' split
       all_goals (first | rfl | omega)
      go_upto_region 12 with fail
      refine wl <| gz1 (.int .i64 0) <| wn ?_
      simp only [pu]
      go_wp2_with fail
      go_ret
      rw [HE.out]
      exact ⟨rfl, rfl⟩
     ·skip
      refine wl <| gz1 (.int .u8 c) <| gzb (eql_u rfl c 240 dT) <| gz3 (.bool true) (.string s) (.int .i64 i) <| gzw (.int .i64 (i + 1 : Nat)) (add_nat rfl i 1 (by omega)) <|
       gzv (.int .u8 d) (hid _ _ _ _ rfl (by kernel_rfl) (by kernel_rfl) _) <| gzb (lss_u rfl d 144 dF) <| gz3 (.bool false) (.bool false) (.int .u8 c) <|
       gzb (eql_u rfl c 244 dF) <| gz6 (.bool false) undef undef undef undef undef <| gz2 (.bool false) (.bool false) <| wn ?_
      simp only [pu]
      have HE : Hid (r = 4) := by
       refine Lib.hid ?_
       rw [HV.out]
       unfold runN
       try simp only [and_true, and_false, false_and, true_and, if_false, if_true, eq_self, Bool.false_eq_true, reduceCtorEq]
       repeat' split
       all_goals (first | rfl | omega)
      go_upto_region 13 with fail
      refine wl <| gz1 (.int .i64 4) <| wn ?_
      simp only [pu]
      go_wp2_with fail
      go_ret
      rw [HE.out]
      exact ⟨rfl, rfl⟩
     ·skip
      refine wl <| gz1 (.int .u8 c) <| gzb (eql_u rfl c 240 dF) <| gz6 (.bool false) undef undef undef undef undef <| gz3 (.bool false) (.bool false) (.int .u8 c) <|
       gzb (eql_u rfl c 244 dT) <| gz3 (.bool true) (.string s) (.int .i64 i) <| gzw (.int .i64 (i + 1 : Nat)) (add_nat rfl i 1 (by omega)) <|
       gzv (.int .u8 d) (hid _ _ _ _ rfl (by kernel_rfl) (by kernel_rfl) _) <| gzb (geq_u rfl d 144 dF) <| gz2 (.bool false) (.bool false) <| wn ?_
      simp only [pu]
      have HE : Hid (r = 4) := by
       refine Lib.hid ?_
       rw [HV.out]
       unfold runN
       try simp only [and_true, and_false, false_and, true_and, if_false, if_true, eq_self, Bool.false_eq_true, reduceCtorEq]
       repeat' split
       all_goals (first | rfl | omega)
      go_upto_region 13 with fail
      refine wl <| gz1 (.int .i64 4) <| wn ?_
      simp only [pu]
      go_wp2_with fail
      go_ret
      rw [HE.out]
      exact ⟨rfl, rfl⟩
     ·skip
      refine wl <| gz1 (.int .u8 c) <| gzb (eql_u rfl c 240 dF) <| gz6 (.bool false) undef undef undef undef undef <| gz3 (.bool false) (.bool false) (.int .u8 c) <|
       gzb (eql_u rfl c 244 dT) <| gz3 (.bool true) (.string s) (.int .i64 i) <| gzw (.int .i64 (i + 1 : Nat)) (add_nat rfl i 1 (by omega)) <|
       gzv (.int .u8 d) (hid _ _ _ _ rfl (by kernel_rfl) (by kernel_rfl) _) <| gzb (geq_u rfl d 144 dT) <| gz2 (.bool true) (.bool true) <| wn ?_
      simp only [pu]
      have HE : Hid (r = 0) := by
       refine Lib.hid ?_
       rw [HV.out]
       unfold runN
       try simp only [and_true, and_false, false_and, true_and, if_false, if_true, eq_self, Bool.false_eq_true, reduceCtorEq]
       repeat' split
       all_goals (first | rfl | omega)
      go_upto_region 12 with fail
      refine wl <| gz1 (.int .i64 0) <| wn ?_
      simp only [pu]
      go_wp2_with fail
      go_ret
      rw [HE.out]
      exact ⟨rfl, rfl⟩
     ·skip
      refine wl <| gz1 (.int .u8 c) <| gzb (eql_u rfl c 240 dF) <| gz6 (.bool false) undef undef undef undef undef <| gz3 (.bool false) (.bool false) (.int .u8 c) <|
       gzb (eql_u rfl c 244 dF) <| gz6 (.bool false) undef undef undef undef undef <| gz2 (.bool false) (.bool false) <| wn ?_
      simp only [pu]
      have HE : Hid (r = 4) := by
       refine Lib.hid ?_
       rw [HV.out]
       unfold runN
       try simp only [and_true, and_false, false_and, true_and, if_false, if_true, eq_self, Bool.false_eq_true, reduceCtorEq]
       repeat' split
       all_goals (first | rfl | omega)
      go_upto_region 13 with fail
      refine wl <| gz1 (.int .i64 4) <| wn ?_
      simp only [pu]
      go_wp2_with fail
      go_ret
      rw [HE.out]
      exact ⟨rfl, rfl⟩
 ·skip
  refine wl <| gz1 (.int .u8 c) <| gzb (lss_u rfl c 128 dF) <| gz1 (.bool false) <| wn ?_
  simp only [pu]
  go_upto_region 4 with fail
  refine wl <| gz1 (.int .u8 c) <| gzb (geq_u rfl c 194 dT) <| gz2 (.bool true) (.int .u8 c) <| gzb (lss_u rfl c 224 dF) <|
   gz6 (.bool false) (.bool false) undef undef undef undef <| gz2 (.bool false) (.bool false) <| wn ?_
  simp only [pu]
  go_upto_region 6 with fail
  refine wl <| gz1 (.int .u8 c) <| gzb (geq_u rfl c 224 dT) <| gz2 (.bool true) (.int .u8 c) <| gzb (lss_u rfl c 240 dF) <|
   gz6 (.bool false) (.bool false) undef undef undef undef <| gz6 (.bool false) (.bool false) undef undef undef undef <| gz2 (.bool false) (.bool false) <| wn ?_
  simp only [pu]
  go_upto_region 10 with fail
  refine wl <| gz1 (.int .u8 c) <| gzb (geq_u rfl c 240 dT) <| gz2 (.bool true) (.int .u8 c) <| gzb (lss_u rfl c 245 dF) <|
   gz6 (.bool false) (.bool false) undef undef undef undef <| gz6 (.bool false) (.bool false) undef undef undef undef <| gz6 (.bool false) (.bool false) undef undef undef undef <| gz2 (.bool false) (.bool false) <| wn ?_
  simp only [pu]
  have HE : Hid (r = 0) := by
   refine Lib.hid ?_
   rw [HV.out]
   unfold runN
   try simp only [and_true, and_false, false_and, true_and, if_false, if_true, eq_self, Bool.false_eq_true, reduceCtorEq]
   repeat' split
   all_goals (first | rfl | omega)
  go_upto_region 14 with fail
  refine wl <| gz1 (.int .i64 0) <| wn ?_
  simp only [pu]
  go_wp2_with fail
  go_ret
  rw [HE.out]
  exact ⟨rfl, rfl⟩
end Go.Proofs.YtplfineaomneiaaDoor
