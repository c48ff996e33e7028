/-
  Texts UR US UN TI UV UF WH5 joined.
-/
import Derived.Test.YtnhlpahoomcgnaaJ3
import Derived.Test.YtnhlpahoomcgnaaJ1
import Derived.Test.YtnhlpahoomcgnaaJ2
import Derived.Lib.SlBytesConst
import Derived.Lib.SmallJoins
set_option maxRecDepth 100000
set_option maxHeartbeats 8000000
set_option linter.unusedSimpArgs false
set_option linter.unusedVariables false
namespace Go.Proofs.Ytnhlpahoomcgnaa
attribute [local irreducible] wpList wpQuiet
open Go.RowKit
theorem TP (s : ByteArray) (k : Nat) (w : World) : Calls Try.prog 81 #[.string s, Z8 k] w fun e w' => e = .returned (.bool (QO (nums s) k)) ∧ w = w' := by
 have MO := Z9 (fun (h : k < s.size) => Np s k h)
 have HV : Hid (QO (nums s) k = (decide (k < s.size) && (decide (128 ≤ (nums s).getD k 0) && decide ((nums s).getD k 0 < 192)))) := Z9 (by unfold QO; rw [Zx])
 generalize QO (nums s) k = t at *
 generalize (nums s).getD k 0 = c at *
 obtain ⟨n, hn⟩ := ZR s.size
 rw [hn] at MO HV
 go_enter Try.func81, Try.ntmps81
 go_upto_region 1 with fail
 rcases (show n ≤ k ∨ (k < n ∧ c < 128) ∨ (k < n ∧ 128 ≤ c ∧ c < 192) ∨ (k < n ∧ 192 ≤ c) by omega) with hc | hc | hc | hc
 ·have H8 : Hid (decide ((k : Int) < (n : Int)) = false) := Z9 dF
  have HE : Hid (t = false) := Z9 (by rw [HV.out]; rw [Bool.eq_false_iff]; simp only [ne_eq, Bool.and_eq_true, decide_eq_true_eq]; omega)
  clear MO HV
  refine wl <| ZG (Z8 k) (.string s) <| YO (Z8 n) (by rw [← hn]; kernel_rfl) <| YN ZY (ZC rfl k n H8.out) <| YX ZY undef undef undef undef ZY <|
   YX ZY undef undef undef undef ZY <| ZV ZY <| wn ?_
  simp only [pu]
  go_wp2_with fail
  go_ret
  rw [HE.out]
  exact ⟨rfl, rfl⟩
 ·have H8 : Hid (decide ((k : Int) < (n : Int)) = true) := Z9 dT
  have HE : Hid (t = false) := Z9 (by rw [HV.out]; rw [Bool.eq_false_iff]; simp only [ne_eq, Bool.and_eq_true, decide_eq_true_eq]; omega)
  have hix := MO.out hc.1
  clear MO HV
  refine wl <| ZG (Z8 k) (.string s) <| YO (Z8 n) (by rw [← hn]; kernel_rfl) <| YN Z4 (ZC rfl k n H8.out) <| YT Z4 (.string s) (Z8 k) <| YO (.int .u8 c) (hix _ _ _ _ rfl (by kernel_rfl) (by kernel_rfl) _) <|
   ZM (Zo rfl c 128 dF) <| YX ZY ZY undef undef undef undef <| ZG ZY ZY <| wn ?_
  simp only [pu]
  go_wp2_with fail
  go_ret
  rw [HE.out]
  exact ⟨rfl, rfl⟩
 ·have H8 : Hid (decide ((k : Int) < (n : Int)) = true) := Z9 dT
  have HE : Hid (t = true) := Z9 (by rw [HV.out]; simp only [Bool.and_eq_true, decide_eq_true_eq]; omega)
  have hix := MO.out hc.1
  clear MO HV
  refine wl <| ZG (Z8 k) (.string s) <| YO (Z8 n) (by rw [← hn]; kernel_rfl) <| YN Z4 (ZC rfl k n H8.out) <| YT Z4 (.string s) (Z8 k) <| YO (.int .u8 c) (hix _ _ _ _ rfl (by kernel_rfl) (by kernel_rfl) _) <|
   ZM (Zo rfl c 128 dT) <| Xl Z4 Z4 (.string s) (Z8 k) <| YO (.int .u8 c) (hix _ _ _ _ rfl (by kernel_rfl) (by kernel_rfl) _) <|
   ZM (Y3 rfl c 192 dT) <| ZG Z4 Z4 <| wn ?_
  simp only [pu]
  go_wp2_with fail
  go_ret
  rw [HE.out]
  exact ⟨rfl, rfl⟩
 ·have H8 : Hid (decide ((k : Int) < (n : Int)) = true) := Z9 dT
  have HE : Hid (t = false) := Z9 (by rw [HV.out]; rw [Bool.eq_false_iff]; simp only [ne_eq, Bool.and_eq_true, decide_eq_true_eq]; omega)
  have hix := MO.out hc.1
  clear MO HV
  refine wl <| ZG (Z8 k) (.string s) <| YO (Z8 n) (by rw [← hn]; kernel_rfl) <| YN Z4 (ZC rfl k n H8.out) <| YT Z4 (.string s) (Z8 k) <| YO (.int .u8 c) (hix _ _ _ _ rfl (by kernel_rfl) (by kernel_rfl) _) <|
   ZM (Zo rfl c 128 dT) <| Xl Z4 Z4 (.string s) (Z8 k) <| YO (.int .u8 c) (hix _ _ _ _ rfl (by kernel_rfl) (by kernel_rfl) _) <|
   ZM (Y3 rfl c 192 dF) <| ZG ZY ZY <| wn ?_
  simp only [pu]
  go_wp2_with fail
  go_ret
  rw [HE.out]
  exact ⟨rfl, rfl⟩
theorem Bl (s : ByteArray) (i : Nat) (w : World) (hi : i < s.size) (hl : s.size ≤ 140737488355328) : Calls Try.prog 66 #[.string s, Z8 i] w fun e w' => e = .returned (Z8 (runK (nums s) i : Nat)) ∧ w = w' := by
 have hix := Np s i hi
 have HI1 := Z9 (fun (h : QO (nums s) (i + 1) = true) => Np s (i + 1) (by have := (Yc h).1; rwa [Zx] at this))
 have wP := TP s (i + 1) w
 have gK := TP s (i + 2) w
 have CF3 := TP s (i + 3) w
 have HV : Hid (runK (nums s) i = runN ((nums s).getD i 0) ((nums s).getD (i + 1) 0) (QO (nums s) (i + 1)) (QO (nums s) (i + 2)) (QO (nums s) (i + 3))) := Z9 rfl
 generalize runK (nums s) i = r at *
 generalize (nums s).getD i 0 = c at *
 generalize (nums s).getD (i + 1) 0 = d at *
 generalize QO (nums s) (i + 1) = f1 at *
 generalize QO (nums s) (i + 2) = f2 at *
 generalize QO (nums s) (i + 3) = f3 at *
 go_enter Try.func66, Try.ntmps66
 go_upto_region 1 with fail
 refine wl <| ZG (.string s) (Z8 i) <| YO (.int .u8 c) (hix _ _ _ _ rfl (by kernel_rfl) (by kernel_rfl) _) <| ZV (.int .u8 c) <| wn ?_
 simp only [pu]
 clear hix
 go_upto_region 2 with fail
 rcases (show (c < 128) ∨ (128 ≤ c ∧ c < 194) ∨ (194 ≤ c ∧ c < 224) ∨ (224 ≤ c ∧ c < 240) ∨ (240 ≤ c ∧ c < 245) ∨ (245 ≤ c) by omega) with hc | hc | hc | hc | hc | hc
 ·refine wl <| ZV (.int .u8 c) <| ZM (Y3 rfl c 128 dT) <| ZV Z4 <| wn ?_
  simp only [pu]
  have HE : Hid (r = 1) := by
   refine Z9 ?_
   rw [HV.out]
   unfold runN
   try simp only [and_true, and_false, false_and, true_and, if_false, if_true, eq_self, Bool.false_eq_true, reduceCtorEq]
   repeat' split
   all_goals (first | rfl | omega)
  go_upto_region 3 with fail
  refine wl <| ZV (Z8 1) <| wn ?_
  simp only [pu]
  go_wp2_with fail
  go_ret
  rw [HE.out]
  exact ⟨rfl, rfl⟩
 ·refine wl <| ZV (.int .u8 c) <| ZM (Y3 rfl c 128 dF) <| ZV ZY <| wn ?_
  simp only [pu]
  go_upto_region 4 with fail
  refine wl <| ZV (.int .u8 c) <| ZM (Zo rfl c 194 dF) <| YX ZY undef undef ZY ZY undef <| Sz undef undef undef ZY ZY <| wn ?_
  simp only [pu]
  go_upto_region 6 with fail
  refine wl <| ZV (.int .u8 c) <| ZM (Zo rfl c 224 dF) <| YX ZY undef undef ZY ZY undef <| YX undef undef undef ZY ZY undef <|
   Sz undef undef undef ZY ZY <| wn ?_
  simp only [pu]
  go_upto_region 10 with fail
  refine wl <| ZV (.int .u8 c) <| ZM (Zo rfl c 240 dF) <| YX ZY undef undef ZY ZY undef <| YX undef undef undef ZY ZY undef <|
   YX undef undef undef ZY ZY undef <| Sz undef undef undef ZY ZY <| wn ?_
  simp only [pu]
  have HE : Hid (r = 0) := by
   refine Z9 ?_
   rw [HV.out]
   unfold runN
   try simp only [and_true, and_false, false_and, true_and, if_false, if_true, eq_self, Bool.false_eq_true, reduceCtorEq]
   repeat' split
   all_goals (first | rfl | omega)
  go_upto_region 14 with fail
  refine wl <| ZV (Z8 0) <| wn ?_
  simp only [pu]
  go_wp2_with fail
  go_ret
  rw [HE.out]
  exact ⟨rfl, rfl⟩
 ·refine wl <| ZV (.int .u8 c) <| ZM (Y3 rfl c 128 dF) <| ZV ZY <| wn ?_
  simp only [pu]
  cases f1
  ·go_upto_region 4 with fail
   refine wl <| ZV (.int .u8 c) <| ZM (Zo rfl c 194 dT) <| ZG Z4 (.int .u8 c) <| ZM (Y3 rfl c 224 dT) <|
    Xl Z4 Z4 (.string s) (Z8 i) <| YN (Z8 (i + 1 : Nat)) (ZK rfl i 1 (by omega)) <| Y2 ZY (fun w' => w = w') wP (fun W hW => ?_)
   subst hW
   simp only [pu]
   refine ZG ZY ZY <| wn ?_
   simp only [pu]
   go_upto_region 6 with fail
   refine wl <| ZV (.int .u8 c) <| ZM (Zo rfl c 224 dF) <| YX ZY undef undef ZY ZY undef <| YX undef undef undef ZY ZY undef <|
    Sz undef undef undef ZY ZY <| wn ?_
   simp only [pu]
   go_upto_region 10 with fail
   refine wl <| ZV (.int .u8 c) <| ZM (Zo rfl c 240 dF) <| YX ZY undef undef ZY ZY undef <| YX undef undef undef ZY ZY undef <|
    YX undef undef undef ZY ZY undef <| Sz undef undef undef ZY ZY <| wn ?_
   simp only [pu]
   have HE : Hid (r = 0) := by
    refine Z9 ?_
    rw [HV.out]
    unfold runN
    try simp only [and_true, and_false, false_and, true_and, if_false, if_true, eq_self, Bool.false_eq_true, reduceCtorEq]
    repeat' split
    all_goals (first | rfl | omega)
   go_upto_region 14 with fail
   refine wl <| ZV (Z8 0) <| wn ?_
   simp only [pu]
   go_wp2_with fail
   go_ret
   rw [HE.out]
   exact ⟨rfl, rfl⟩
  ·go_upto_region 4 with fail
   refine wl <| ZV (.int .u8 c) <| ZM (Zo rfl c 194 dT) <| ZG Z4 (.int .u8 c) <| ZM (Y3 rfl c 224 dT) <|
    Xl Z4 Z4 (.string s) (Z8 i) <| YN (Z8 (i + 1 : Nat)) (ZK rfl i 1 (by omega)) <| Y2 Z4 (fun w' => w = w') wP (fun W hW => ?_)
   subst hW
   simp only [pu]
   refine ZG Z4 Z4 <| wn ?_
   simp only [pu]
   have HE : Hid (r = 2) := by
    refine Z9 ?_
    rw [HV.out]
    unfold runN
    try simp only [and_true, and_false, false_and, true_and, if_false, if_true, eq_self, Bool.false_eq_true, reduceCtorEq]
    repeat' split
    all_goals (first | rfl | omega)
   go_upto_region 5 with fail
   refine wl <| ZV (Z8 2) <| wn ?_
   simp only [pu]
   go_wp2_with fail
   go_ret
   rw [HE.out]
   exact ⟨rfl, rfl⟩
 ·refine wl <| ZV (.int .u8 c) <| ZM (Y3 rfl c 128 dF) <| ZV ZY <| wn ?_
  simp only [pu]
  cases f1
  ·go_upto_region 4 with fail
   refine wl <| ZV (.int .u8 c) <| ZM (Zo rfl c 194 dT) <| ZG Z4 (.int .u8 c) <| ZM (Y3 rfl c 224 dF) <|
    YX ZY ZY undef undef undef undef <| ZG ZY ZY <| wn ?_
   simp only [pu]
   go_upto_region 6 with fail
   refine wl <| ZV (.int .u8 c) <| ZM (Zo rfl c 224 dT) <| ZG Z4 (.int .u8 c) <| ZM (Y3 rfl c 240 dT) <|
    Xl Z4 Z4 (.string s) (Z8 i) <| YN (Z8 (i + 1 : Nat)) (ZK rfl i 1 (by omega)) <| Y2 ZY (fun w' => w = w') wP (fun W hW => ?_)
   subst hW
   simp only [pu]
   refine YX ZY ZY undef undef undef undef <| ZG ZY ZY <| wn ?_
   simp only [pu]
   go_upto_region 10 with fail
   refine wl <| ZV (.int .u8 c) <| ZM (Zo rfl c 240 dF) <| YX ZY undef undef ZY ZY undef <| YX undef undef undef ZY ZY undef <|
    YX undef undef undef ZY ZY undef <| Sz undef undef undef ZY ZY <| wn ?_
   simp only [pu]
   have HE : Hid (r = 0) := by
    refine Z9 ?_
    rw [HV.out]
    unfold runN
    try simp only [and_true, and_false, false_and, true_and, if_false, if_true, eq_self, Bool.false_eq_true, reduceCtorEq]
    repeat' split
    all_goals (first | rfl | omega)
   go_upto_region 14 with fail
   refine wl <| ZV (Z8 0) <| wn ?_
   simp only [pu]
   go_wp2_with fail
   go_ret
   rw [HE.out]
   exact ⟨rfl, rfl⟩
  ·cases f2
   ·go_upto_region 4 with fail
    refine wl <| ZV (.int .u8 c) <| ZM (Zo rfl c 194 dT) <| ZG Z4 (.int .u8 c) <| ZM (Y3 rfl c 224 dF) <|
     YX ZY ZY undef undef undef undef <| ZG ZY ZY <| wn ?_
    simp only [pu]
    go_upto_region 6 with fail
    refine wl <| ZV (.int .u8 c) <| ZM (Zo rfl c 224 dT) <| ZG Z4 (.int .u8 c) <| ZM (Y3 rfl c 240 dT) <|
     Xl Z4 Z4 (.string s) (Z8 i) <| YN (Z8 (i + 1 : Nat)) (ZK rfl i 1 (by omega)) <| Y2 Z4 (fun w' => w = w') wP (fun W hW => ?_)
    subst hW
    simp only [pu]
    refine Xl Z4 Z4 (.string s) (Z8 i) <| YN (Z8 (i + 2 : Nat)) (ZK rfl i 2 (by omega)) <| Y2 ZY (fun w' => w = w') gK (fun W hW => ?_)
    subst hW
    simp only [pu]
    refine ZG ZY ZY <| wn ?_
    simp only [pu]
    go_upto_region 10 with fail
    refine wl <| ZV (.int .u8 c) <| ZM (Zo rfl c 240 dF) <| YX ZY undef undef ZY ZY undef <| YX undef undef undef ZY ZY undef <|
     YX undef undef undef ZY ZY undef <| Sz undef undef undef ZY ZY <| wn ?_
    simp only [pu]
    have HE : Hid (r = 0) := by
     refine Z9 ?_
     rw [HV.out]
     unfold runN
     try simp only [and_true, and_false, false_and, true_and, if_false, if_true, eq_self, Bool.false_eq_true, reduceCtorEq]
     repeat' split
     all_goals (first | rfl | omega)
    go_upto_region 14 with fail
    refine wl <| ZV (Z8 0) <| wn ?_
    simp only [pu]
    go_wp2_with fail
    go_ret
    rw [HE.out]
    exact ⟨rfl, rfl⟩
   ·go_upto_region 4 with fail
    refine wl <| ZV (.int .u8 c) <| ZM (Zo rfl c 194 dT) <| ZG Z4 (.int .u8 c) <| ZM (Y3 rfl c 224 dF) <|
     YX ZY ZY undef undef undef undef <| ZG ZY ZY <| wn ?_
    simp only [pu]
    go_upto_region 6 with fail
    refine wl <| ZV (.int .u8 c) <| ZM (Zo rfl c 224 dT) <| ZG Z4 (.int .u8 c) <| ZM (Y3 rfl c 240 dT) <|
     Xl Z4 Z4 (.string s) (Z8 i) <| YN (Z8 (i + 1 : Nat)) (ZK rfl i 1 (by omega)) <| Y2 Z4 (fun w' => w = w') wP (fun W hW => ?_)
    subst hW
    simp only [pu]
    refine Xl Z4 Z4 (.string s) (Z8 i) <| YN (Z8 (i + 2 : Nat)) (ZK rfl i 2 (by omega)) <| Y2 Z4 (fun w' => w = w') gK (fun W hW => ?_)
    subst hW
    simp only [pu]
    refine ZG Z4 Z4 <| wn ?_
    simp only [pu]
    have hid := HI1.out rfl
    clear HI1
    go_upto_region 7 with fail
    rcases (show (c = 224 ∧ d < 160) ∨ (c = 224 ∧ 160 ≤ d) ∨ (c = 237 ∧ d < 160) ∨ (c = 237 ∧ 160 ≤ d) ∨ (c ≠ 224 ∧ c ≠ 237) by omega) with hd | hd | hd | hd | hd
    ·refine wl <| ZV (.int .u8 c) <| ZM (Yz rfl c 224 dT) <| YT Z4 (.string s) (Z8 i) <| YN (Z8 (i + 1 : Nat)) (ZK rfl i 1 (by omega)) <|
      YO (.int .u8 d) (hid _ _ _ _ rfl (by kernel_rfl) (by kernel_rfl) _) <| ZM (Y3 rfl d 160 dT) <| YX Z4 Z4 undef undef undef undef <| YX undef undef undef undef undef Z4 <|
      wpList_nil ?_
     simp only [pu]
     have HE : Hid (r = 0) := by
      refine Z9 ?_
      rw [HV.out]
      unfold runN
      try simp only [and_true, and_false, false_and, true_and, if_false, if_true, eq_self, Bool.false_eq_true, reduceCtorEq]
      repeat' split
      all_goals (first | rfl | omega)
     go_upto_region 8 with fail
     refine wl <| ZV (Z8 0) <| wn ?_
     simp only [pu]
     go_wp2_with fail
     go_ret
     rw [HE.out]
     exact ⟨rfl, rfl⟩
    ·refine wl <| ZV (.int .u8 c) <| ZM (Yz rfl c 224 dT) <| YT Z4 (.string s) (Z8 i) <| YN (Z8 (i + 1 : Nat)) (ZK rfl i 1 (by omega)) <|
      YO (.int .u8 d) (hid _ _ _ _ rfl (by kernel_rfl) (by kernel_rfl) _) <| ZM (Y3 rfl d 160 dF) <| YT ZY ZY (.int .u8 c) <|
      ZM (Yz rfl c 237 dF) <| YX ZY undef undef undef undef undef <| ZG ZY ZY <| wn ?_
     simp only [pu]
     have HE : Hid (r = 3) := by
      refine Z9 ?_
      rw [HV.out]
      unfold runN
      try simp only [and_true, and_false, false_and, true_and, if_false, if_true, eq_self, Bool.false_eq_true, reduceCtorEq]
      repeat' split
      all_goals (first | rfl | omega)
     go_upto_region 9 with fail
     refine wl <| ZV (Z8 3) <| wn ?_
     simp only [pu]
     go_wp2_with fail
     go_ret
     rw [HE.out]
     exact ⟨rfl, rfl⟩
    ·refine wl <| ZV (.int .u8 c) <| ZM (Yz rfl c 224 dF) <| YX ZY undef undef undef undef undef <| YT ZY ZY (.int .u8 c) <|
      ZM (Yz rfl c 237 dT) <| YT Z4 (.string s) (Z8 i) <| YN (Z8 (i + 1 : Nat)) (ZK rfl i 1 (by omega)) <|
      YO (.int .u8 d) (hid _ _ _ _ rfl (by kernel_rfl) (by kernel_rfl) _) <| ZM (Zo rfl d 160 dF) <| ZG ZY ZY <| wn ?_
     simp only [pu]
     have HE : Hid (r = 3) := by
      refine Z9 ?_
      rw [HV.out]
      unfold runN
      try simp only [and_true, and_false, false_and, true_and, if_false, if_true, eq_self, Bool.false_eq_true, reduceCtorEq]
      repeat' split
      all_goals (first | rfl | omega)
     go_upto_region 9 with fail
     refine wl <| ZV (Z8 3) <| wn ?_
     simp only [pu]
     go_wp2_with fail
     go_ret
     rw [HE.out]
     exact ⟨rfl, rfl⟩
    ·refine wl <| ZV (.int .u8 c) <| ZM (Yz rfl c 224 dF) <| YX ZY undef undef undef undef undef <| YT ZY ZY (.int .u8 c) <|
      ZM (Yz rfl c 237 dT) <| YT Z4 (.string s) (Z8 i) <| YN (Z8 (i + 1 : Nat)) (ZK rfl i 1 (by omega)) <|
      YO (.int .u8 d) (hid _ _ _ _ rfl (by kernel_rfl) (by kernel_rfl) _) <| ZM (Zo rfl d 160 dT) <| ZG Z4 Z4 <| wn ?_
     simp only [pu]
     have HE : Hid (r = 0) := by
      refine Z9 ?_
      rw [HV.out]
      unfold runN
      try simp only [and_true, and_false, false_and, true_and, if_false, if_true, eq_self, Bool.false_eq_true, reduceCtorEq]
      repeat' split
      all_goals (first | rfl | omega)
     go_upto_region 8 with fail
     refine wl <| ZV (Z8 0) <| wn ?_
     simp only [pu]
     go_wp2_with fail
     go_ret
     rw [HE.out]
     exact ⟨rfl, rfl⟩
    ·refine wl <| ZV (.int .u8 c) <| ZM (Yz rfl c 224 dF) <| YX ZY undef undef undef undef undef <| YT ZY ZY (.int .u8 c) <|
      ZM (Yz rfl c 237 dF) <| YX ZY undef undef undef undef undef <| ZG ZY ZY <| wn ?_
     simp only [pu]
     have HE : Hid (r = 3) := by
      refine Z9 ?_
      rw [HV.out]
      unfold runN
      try simp only [and_true, and_false, false_and, true_and, if_false, if_true, eq_self, Bool.false_eq_true, reduceCtorEq]
      repeat' split
      all_goals (first | rfl | omega)
     go_upto_region 9 with fail
     refine wl <| ZV (Z8 3) <| wn ?_
     simp only [pu]
     go_wp2_with fail
     go_ret
     rw [HE.out]
     exact ⟨rfl, rfl⟩
 ·refine wl <| ZV (.int .u8 c) <| ZM (Y3 rfl c 128 dF) <| ZV ZY <| wn ?_
  simp only [pu]
  cases f1
  ·go_upto_region 4 with fail
   refine wl <| ZV (.int .u8 c) <| ZM (Zo rfl c 194 dT) <| ZG Z4 (.int .u8 c) <| ZM (Y3 rfl c 224 dF) <|
    YX ZY ZY undef undef undef undef <| ZG ZY ZY <| wn ?_
   simp only [pu]
   go_upto_region 6 with fail
   refine wl <| ZV (.int .u8 c) <| ZM (Zo rfl c 224 dT) <| ZG Z4 (.int .u8 c) <| ZM (Y3 rfl c 240 dF) <|
    YX ZY ZY undef undef undef undef <| YX ZY ZY undef undef undef undef <| ZG ZY ZY <| wn ?_
   simp only [pu]
   go_upto_region 10 with fail
   refine wl <| ZV (.int .u8 c) <| ZM (Zo rfl c 240 dT) <| ZG Z4 (.int .u8 c) <| ZM (Y3 rfl c 245 dT) <|
    Xl Z4 Z4 (.string s) (Z8 i) <| YN (Z8 (i + 1 : Nat)) (ZK rfl i 1 (by omega)) <| Y2 ZY (fun w' => w = w') wP (fun W hW => ?_)
   subst hW
   simp only [pu]
   refine YX ZY ZY undef undef undef undef <| YX ZY ZY undef undef undef undef <| ZG ZY ZY <| wn ?_
   simp only [pu]
   have HE : Hid (r = 0) := by
    refine Z9 ?_
    rw [HV.out]
    unfold runN
    try simp only [and_true, and_false, false_and, true_and, if_false, if_true, eq_self, Bool.false_eq_true, reduceCtorEq]
    repeat' split
    all_goals (first | rfl | omega)
   go_upto_region 14 with fail
   refine wl <| ZV (Z8 0) <| wn ?_
   simp only [pu]
   go_wp2_with fail
   go_ret
   rw [HE.out]
   exact ⟨rfl, rfl⟩
  ·cases f2
   ·go_upto_region 4 with fail
    refine wl <| ZV (.int .u8 c) <| ZM (Zo rfl c 194 dT) <| ZG Z4 (.int .u8 c) <| ZM (Y3 rfl c 224 dF) <|
     YX ZY ZY undef undef undef undef <| ZG ZY ZY <| wn ?_
    simp only [pu]
    go_upto_region 6 with fail
    refine wl <| ZV (.int .u8 c) <| ZM (Zo rfl c 224 dT) <| ZG Z4 (.int .u8 c) <| ZM (Y3 rfl c 240 dF) <|
     YX ZY ZY undef undef undef undef <| YX ZY ZY undef undef undef undef <| ZG ZY ZY <| wn ?_
    simp only [pu]
    go_upto_region 10 with fail
    refine wl <| ZV (.int .u8 c) <| ZM (Zo rfl c 240 dT) <| ZG Z4 (.int .u8 c) <| ZM (Y3 rfl c 245 dT) <|
     Xl Z4 Z4 (.string s) (Z8 i) <| YN (Z8 (i + 1 : Nat)) (ZK rfl i 1 (by omega)) <| Y2 Z4 (fun w' => w = w') wP (fun W hW => ?_)
    subst hW
    simp only [pu]
    refine Xl Z4 Z4 (.string s) (Z8 i) <| YN (Z8 (i + 2 : Nat)) (ZK rfl i 2 (by omega)) <| Y2 ZY (fun w' => w = w') gK (fun W hW => ?_)
    subst hW
    simp only [pu]
    refine YX ZY ZY undef undef undef undef <| ZG ZY ZY <| wn ?_
    simp only [pu]
    have HE : Hid (r = 0) := by
     refine Z9 ?_
     rw [HV.out]
     unfold runN
     try simp only [and_true, and_false, false_and, true_and, if_false, if_true, eq_self, Bool.false_eq_true, reduceCtorEq]
     repeat' split
     all_goals (first | rfl | omega)
    go_upto_region 14 with fail
    refine wl <| ZV (Z8 0) <| wn ?_
    simp only [pu]
    go_wp2_with fail
    go_ret
    rw [HE.out]
    exact ⟨rfl, rfl⟩
   ·cases f3
    ·go_upto_region 4 with fail
     refine wl <| ZV (.int .u8 c) <| ZM (Zo rfl c 194 dT) <| ZG Z4 (.int .u8 c) <| ZM (Y3 rfl c 224 dF) <|
      YX ZY ZY undef undef undef undef <| ZG ZY ZY <| wn ?_
     simp only [pu]
     go_upto_region 6 with fail
     refine wl <| ZV (.int .u8 c) <| ZM (Zo rfl c 224 dT) <| ZG Z4 (.int .u8 c) <| ZM (Y3 rfl c 240 dF) <|
      YX ZY ZY undef undef undef undef <| YX ZY ZY undef undef undef undef <| ZG ZY ZY <| wn ?_
     simp only [pu]
     go_upto_region 10 with fail
     refine wl <| ZV (.int .u8 c) <| ZM (Zo rfl c 240 dT) <| ZG Z4 (.int .u8 c) <| ZM (Y3 rfl c 245 dT) <|
      Xl Z4 Z4 (.string s) (Z8 i) <| YN (Z8 (i + 1 : Nat)) (ZK rfl i 1 (by omega)) <| Y2 Z4 (fun w' => w = w') wP (fun W hW => ?_)
     subst hW
     simp only [pu]
     refine Xl Z4 Z4 (.string s) (Z8 i) <| YN (Z8 (i + 2 : Nat)) (ZK rfl i 2 (by omega)) <| Y2 Z4 (fun w' => w = w') gK (fun W hW => ?_)
     subst hW
     simp only [pu]
     refine Xl Z4 Z4 (.string s) (Z8 i) <| YN (Z8 (i + 3 : Nat)) (ZK rfl i 3 (by omega)) <| Y2 ZY (fun w' => w = w') CF3 (fun W hW => ?_)
     subst hW
     simp only [pu]
     refine ZG ZY ZY <| wn ?_
     simp only [pu]
     have HE : Hid (r = 0) := by
      refine Z9 ?_
      rw [HV.out]
      unfold runN
      try simp only [and_true, and_false, false_and, true_and, if_false, if_true, eq_self, Bool.false_eq_true, reduceCtorEq]
      repeat' split
      all_goals (first | rfl | omega)
     go_upto_region 14 with fail
     refine wl <| ZV (Z8 0) <| wn ?_
     simp only [pu]
     go_wp2_with fail
     go_ret
     rw [HE.out]
     exact ⟨rfl, rfl⟩
    ·go_upto_region 4 with fail
     refine wl <| ZV (.int .u8 c) <| ZM (Zo rfl c 194 dT) <| ZG Z4 (.int .u8 c) <| ZM (Y3 rfl c 224 dF) <|
      YX ZY ZY undef undef undef undef <| ZG ZY ZY <| wn ?_
     simp only [pu]
     go_upto_region 6 with fail
     refine wl <| ZV (.int .u8 c) <| ZM (Zo rfl c 224 dT) <| ZG Z4 (.int .u8 c) <| ZM (Y3 rfl c 240 dF) <|
      YX ZY ZY undef undef undef undef <| YX ZY ZY undef undef undef undef <| ZG ZY ZY <| wn ?_
     simp only [pu]
     go_upto_region 10 with fail
     refine wl <| ZV (.int .u8 c) <| ZM (Zo rfl c 240 dT) <| ZG Z4 (.int .u8 c) <| ZM (Y3 rfl c 245 dT) <|
      Xl Z4 Z4 (.string s) (Z8 i) <| YN (Z8 (i + 1 : Nat)) (ZK rfl i 1 (by omega)) <| Y2 Z4 (fun w' => w = w') wP (fun W hW => ?_)
     subst hW
     simp only [pu]
     refine Xl Z4 Z4 (.string s) (Z8 i) <| YN (Z8 (i + 2 : Nat)) (ZK rfl i 2 (by omega)) <| Y2 Z4 (fun w' => w = w') gK (fun W hW => ?_)
     subst hW
     simp only [pu]
     refine Xl Z4 Z4 (.string s) (Z8 i) <| YN (Z8 (i + 3 : Nat)) (ZK rfl i 3 (by omega)) <| Y2 Z4 (fun w' => w = w') CF3 (fun W hW => ?_)
     subst hW
     simp only [pu]
     refine ZG Z4 Z4 <| wn ?_
     simp only [pu]
     have hid := HI1.out rfl
     clear HI1
     go_upto_region 11 with fail
     rcases (show (c = 240 ∧ d < 144) ∨ (c = 240 ∧ 144 ≤ d) ∨ (c = 244 ∧ d < 144) ∨ (c = 244 ∧ 144 ≤ d) ∨ (c ≠ 240 ∧ c ≠ 244) by omega) with hd | hd | hd | hd | hd
     ·refine wl <| ZV (.int .u8 c) <| ZM (Yz rfl c 240 dT) <| YT Z4 (.string s) (Z8 i) <| YN (Z8 (i + 1 : Nat)) (ZK rfl i 1 (by omega)) <|
       YO (.int .u8 d) (hid _ _ _ _ rfl (by kernel_rfl) (by kernel_rfl) _) <| ZM (Y3 rfl d 144 dT) <| YX Z4 Z4 undef undef undef undef <| YX undef undef undef undef undef Z4 <|
       wpList_nil ?_
      simp only [pu]
      have HE : Hid (r = 0) := by
       refine Z9 ?_
       rw [HV.out]
       unfold runN
       try simp only [and_true, and_false, false_and, true_and, if_false, if_true, eq_self, Bool.false_eq_true, reduceCtorEq]
       repeat' split
       all_goals (first | rfl | omega)
      go_upto_region 12 with fail
      refine wl <| ZV (Z8 0) <| wn ?_
      simp only [pu]
      go_wp2_with fail
      go_ret
      rw [HE.out]
      exact ⟨rfl, rfl⟩
     ·refine wl <| ZV (.int .u8 c) <| ZM (Yz rfl c 240 dT) <| YT Z4 (.string s) (Z8 i) <| YN (Z8 (i + 1 : Nat)) (ZK rfl i 1 (by omega)) <|
       YO (.int .u8 d) (hid _ _ _ _ rfl (by kernel_rfl) (by kernel_rfl) _) <| ZM (Y3 rfl d 144 dF) <| YT ZY ZY (.int .u8 c) <|
       ZM (Yz rfl c 244 dF) <| YX ZY undef undef undef undef undef <| ZG ZY ZY <| wn ?_
      simp only [pu]
      have HE : Hid (r = 4) := by
       refine Z9 ?_
       rw [HV.out]
       unfold runN
       try simp only [and_true, and_false, false_and, true_and, if_false, if_true, eq_self, Bool.false_eq_true, reduceCtorEq]
       repeat' split
       all_goals (first | rfl | omega)
      go_upto_region 13 with fail
      refine wl <| ZV (Z8 4) <| wn ?_
      simp only [pu]
      go_wp2_with fail
      go_ret
      rw [HE.out]
      exact ⟨rfl, rfl⟩
     ·refine wl <| ZV (.int .u8 c) <| ZM (Yz rfl c 240 dF) <| YX ZY undef undef undef undef undef <| YT ZY ZY (.int .u8 c) <|
       ZM (Yz rfl c 244 dT) <| YT Z4 (.string s) (Z8 i) <| YN (Z8 (i + 1 : Nat)) (ZK rfl i 1 (by omega)) <|
       YO (.int .u8 d) (hid _ _ _ _ rfl (by kernel_rfl) (by kernel_rfl) _) <| ZM (Zo rfl d 144 dF) <| ZG ZY ZY <| wn ?_
      simp only [pu]
      have HE : Hid (r = 4) := by
       refine Z9 ?_
       rw [HV.out]
       unfold runN
       try simp only [and_true, and_false, false_and, true_and, if_false, if_true, eq_self, Bool.false_eq_true, reduceCtorEq]
       repeat' split
       all_goals (first | rfl | omega)
      go_upto_region 13 with fail
      refine wl <| ZV (Z8 4) <| wn ?_
      simp only [pu]
      go_wp2_with fail
      go_ret
      rw [HE.out]
      exact ⟨rfl, rfl⟩
     ·refine wl <| ZV (.int .u8 c) <| ZM (Yz rfl c 240 dF) <| YX ZY undef undef undef undef undef <| YT ZY ZY (.int .u8 c) <|
       ZM (Yz rfl c 244 dT) <| YT Z4 (.string s) (Z8 i) <| YN (Z8 (i + 1 : Nat)) (ZK rfl i 1 (by omega)) <|
       YO (.int .u8 d) (hid _ _ _ _ rfl (by kernel_rfl) (by kernel_rfl) _) <| ZM (Zo rfl d 144 dT) <| ZG Z4 Z4 <| wn ?_
      simp only [pu]
      have HE : Hid (r = 0) := by
       refine Z9 ?_
       rw [HV.out]
       unfold runN
       try simp only [and_true, and_false, false_and, true_and, if_false, if_true, eq_self, Bool.false_eq_true, reduceCtorEq]
       repeat' split
       all_goals (first | rfl | omega)
      go_upto_region 12 with fail
      refine wl <| ZV (Z8 0) <| wn ?_
      simp only [pu]
      go_wp2_with fail
      go_ret
      rw [HE.out]
      exact ⟨rfl, rfl⟩
     ·refine wl <| ZV (.int .u8 c) <| ZM (Yz rfl c 240 dF) <| YX ZY undef undef undef undef undef <| YT ZY ZY (.int .u8 c) <|
       ZM (Yz rfl c 244 dF) <| YX ZY undef undef undef undef undef <| ZG ZY ZY <| wn ?_
      simp only [pu]
      have HE : Hid (r = 4) := by
       refine Z9 ?_
       rw [HV.out]
       unfold runN
       try simp only [and_true, and_false, false_and, true_and, if_false, if_true, eq_self, Bool.false_eq_true, reduceCtorEq]
       repeat' split
       all_goals (first | rfl | omega)
      go_upto_region 13 with fail
      refine wl <| ZV (Z8 4) <| wn ?_
      simp only [pu]
      go_wp2_with fail
      go_ret
      rw [HE.out]
      exact ⟨rfl, rfl⟩
 ·refine wl <| ZV (.int .u8 c) <| ZM (Y3 rfl c 128 dF) <| ZV ZY <| wn ?_
  simp only [pu]
  go_upto_region 4 with fail
  refine wl <| ZV (.int .u8 c) <| ZM (Zo rfl c 194 dT) <| ZG Z4 (.int .u8 c) <| ZM (Y3 rfl c 224 dF) <|
   YX ZY ZY undef undef undef undef <| ZG ZY ZY <| wn ?_
  simp only [pu]
  go_upto_region 6 with fail
  refine wl <| ZV (.int .u8 c) <| ZM (Zo rfl c 224 dT) <| ZG Z4 (.int .u8 c) <| ZM (Y3 rfl c 240 dF) <|
   YX ZY ZY undef undef undef undef <| YX ZY ZY undef undef undef undef <| ZG ZY ZY <| wn ?_
  simp only [pu]
  go_upto_region 10 with fail
  refine wl <| ZV (.int .u8 c) <| ZM (Zo rfl c 240 dT) <| ZG Z4 (.int .u8 c) <| ZM (Y3 rfl c 245 dF) <|
   YX ZY ZY undef undef undef undef <| YX ZY ZY undef undef undef undef <| YX ZY ZY undef undef undef undef <| ZG ZY ZY <| wn ?_
  simp only [pu]
  have HE : Hid (r = 0) := by
   refine Z9 ?_
   rw [HV.out]
   unfold runN
   try simp only [and_true, and_false, false_and, true_and, if_false, if_true, eq_self, Bool.false_eq_true, reduceCtorEq]
   repeat' split
   all_goals (first | rfl | omega)
  go_upto_region 14 with fail
  refine wl <| ZV (Z8 0) <| wn ?_
  simp only [pu]
  go_wp2_with fail
  go_ret
  rw [HE.out]
  exact ⟨rfl, rfl⟩
theorem Lu {L : List Int} {i : Nat} (h : ¬ i < L.length) : runs L i = some 0 := by rw [runs, dif_neg h]
theorem KY {L : List Int} {i : Nat} (h : i < L.length) (hk : runK L i = 0) : runs L i = none := by rw [runs, dif_pos h, if_pos hk]
theorem O1 {L : List Int} {i : Nat} (h : i < L.length) (hk : runK L i ≠ 0) : runs L i = (runs L (i + runK L i)).map (· + 1) := by rw [runs, dif_pos h, if_neg hk]
def Ran (L : List Int) (i n : Nat) : Prop := runs L 0 = (runs L i).map (· + n)
theorem Ran.zero (L : List Int) : Ran L 0 0 := by
 unfold Ran
 cases runs L 0 <;> rfl
theorem Ran.step {L : List Int} {i n : Nat} (h : Ran L i n) (hi : i < L.length) (hk : runK L i ≠ 0) : Ran L (i + runK L i) (n + 1) := by
 unfold Ran at h ⊢
 rw [h, O1 hi hk]
 cases runs L (i + runK L i) with
 | none => rfl
 | some m => simp; omega
theorem Ran.bad {L : List Int} {i n : Nat} (h : Ran L i n) (hi : i < L.length) (hk : runK L i = 0) : runs L 0 = none := by
 unfold Ran at h
 rw [h, KY hi hk]
 rfl
theorem Ran.done {L : List Int} {i n : Nat} (h : Ran L i n) (hi : ¬ i < L.length) : runs L 0 = some n := by
 unfold Ran at h
 rw [h, Lu hi]
 simp
def gQ : Option Nat → Value
 | none => .tuple #[Z8 0, ZY]
 | some n => .tuple #[Z8 n, Z4]
theorem RV {ρ : Operand → Value} {o : Oper} {x y : Operand} (ho : o.op = .binOp .eql 3 x y 3) (a : Int) {t : Bool} (ht : decide (a = 0) = t) (hx : ρ x = Z8 a) (hy : ρ y = Z8 0) (w : World) : (execOp ρ o).run Try.prog w = .ok (.value (.bool t)) w := by
 have e : (a == 0) = t := ht
 unfold execOp
 simp only [ho, hx, hy]
 go_simp
theorem Fq (s : ByteArray) (w : World) (hl : s.size ≤ 140737488355328) : Calls Try.prog 55 #[.string s] w fun e w' => e = .returned (gQ (runs (nums s) 0)) ∧ w = w' := by
 have HR := Z9 (fun (i : Nat) (V : World) (hi : i < s.size) => Bl s i V hi hl)
 have HL := Z9 (Zx s)
 obtain ⟨L, hL⟩ := ZR (nums s)
 rw [hL] at HR HL ⊢
 have HR0 := Z9 (Ran.zero L)
 obtain ⟨r, hr⟩ := ZR (runs L 0)
 have ER := Z9 hr
 rw [hr]
 clear hL hr
 obtain ⟨n, hn⟩ := ZR s.size
 rw [hn] at hl
 go_enter Try.func55, Try.ntmps55
 go_upto_region 1 with fail
 refine wl <| ZV (Z8 0) <| wn ?_
 simp only [pu]
 go_upto_region 2 with fail
 refine wl <| ZV (Z8 0) <| wn ?_
 simp only [pu]
 go_wp2_with fail
 go_loopg [4, 5] n (fun gg s4 s5 wx => ∃ i m : Nat, s4 = Z8 m ∧ s5 = Z8 i ∧ i ≤ n ∧ m ≤ i ∧ Hid (Ran L i m) ∧ wx = w ∧ n - i ≤ gg)
 case atStart => exact ⟨0, 0, rfl, rfl, by omega, by omega, HR0, rfl, by omega⟩
 case round =>
  obtain ⟨i, m, rfl, rfl, hi, hmi, HM, rfl, hg⟩ := hrel
  clear HR0
  by_cases hlt : i < n
  ·have HD : Hid (decide ((i : Int) < (n : Int)) = true) := Z9 dT
   have CR := HR.out i wr (by omega)
   have hk4 := NH L i
   have hkl := NK (L := L) (i := i) (by rw [HL.out]; omega)
   have HST := Z9 (HM.out.step (by rw [HL.out]; omega))
   have JB := Z9 (HM.out.bad (by rw [HL.out]; omega))
   rw [HL.out] at hkl
   clear HM
   generalize runK L i = k at *
   go_upto_region 3 with fail
   refine wl <| ZG (Z8 i) (.string s) <| YO (Z8 n) (by rw [← hn]; kernel_rfl) <| YN Z4 (ZC rfl i n HD.out) <| wn ?_
   simp only [pu]
   go_upto_region 4 with fail
   refine wl <| ZG (.string s) (Z8 i) <| Y2 (Z8 k) (fun w' => wr = w') CR (fun W hW => ?_)
   subst hW
   simp only [pu]
   refine ZV (Z8 k) <| wn ?_
   simp only [pu]
   go_upto_region 5 with fail
   by_cases h0 : k = 0
   ·have HE : Hid (r = none) := Z9 (by rw [← ER.out]; exact JB.out h0)
    subst h0
    clear HST JB ER CR HR
    refine wl <| ZV (Z8 (0 : Nat)) <| YN Z4 (RV rfl 0 rfl) <| wn ?_
    simp only [pu]
    go_upto_region 6 with fail
    refine wl <| ZG (Z8 0) ZY <| wn ?_
    simp only [pu]
    go_wp2_with fail
    go_ret2
    rw [HE.out]
    exact ⟨rfl, rfl⟩
   ·have HS2 := Z9 (HST.out h0)
    have HG : Hid (i < n ∧ 0 < k ∧ i + k ≤ n ∧ n - i ≤ gk) := Z9 ⟨hlt, by omega, by rw [← hn]; exact hkl, hg⟩
    clear HST JB CR hg
    refine wl <| ZV (Z8 k) <| ZM (RV rfl k dF) <| wn ?_
    simp only [pu]
    go_upto_region 7 with fail
    refine wl <| ZG (Z8 i) (Z8 k) <| YN (Z8 (i + k : Nat)) (ZK rfl i k (by omega)) <| ZV (Z8 (i + k : Nat)) <| wn ?_
    simp only [pu]
    go_upto_region 8 with fail
    refine wl <| ZV (Z8 m) <| YN (Z8 (m + 1 : Nat)) (ZK rfl m 1 (by omega)) <| ZV (Z8 (m + 1 : Nat)) <| wn ?_
    simp only [pu]
    go_wp2_with fail
    go_roundg (n - (i + k))
    case measure => have := HG.out; omega
    case rel => exact ⟨i + k, m + 1, rfl, rfl, HG.out.2.2.1, by have := HG.out; omega, HS2, rfl, Nat.le_refl _⟩
  ·have HD : Hid (decide ((i : Int) < (n : Int)) = false) := Z9 dF
   have HE : Hid (r = some m) := Z9 (by rw [← ER.out]; exact HM.out.done (by rw [HL.out]; omega))
   clear HM ER HR hg
   go_upto_region 3 with fail
   refine wl <| ZG (Z8 i) (.string s) <| YO (Z8 n) (by rw [← hn]; kernel_rfl) <| YN ZY (ZC rfl i n HD.out) <| wn ?_
   simp only [pu]
   go_upto_region 9 with fail
   refine wl <| YT (Z8 m) (Z8 m) Z4 <| wn ?_
   simp only [pu]
   go_wp2_with fail
   go_ret2
   rw [HE.out]
   exact ⟨rfl, rfl⟩
theorem Je (s : ByteArray) (w : World) (hl : s.size ≤ 140737488355328) : Calls Try.prog 41 #[.string s] w fun e w' => e = .returned (.bool (YE (nums s))) ∧ w = w' := by
 have CS := Fq s w hl
 unfold YE
 generalize runs (nums s) 0 = r at *
 cases r with
 | none =>
  have CS : Calls Try.prog 55 #[.string s] w fun e w2 => e = .returned (.tuple #[Z8 0, ZY]) ∧ w = w2 := CS
  have HE : Hid (False → False) := Z9 id
  go_enter Try.func41, Try.ntmps41
  go_upto_region 1 with fail
  refine wl <| ZV (.string s) <| Y2 (.tuple #[Z8 0, ZY]) (fun w' => w = w') CS (fun W hW => ?_)
  subst hW
  simp only [pu]
  refine Sz (.tuple #[Z8 0, ZY]) (Z8 0) ZY (Z8 0) ZY <| wn ?_
  simp only [pu]
  clear CS
  go_upto_region 2 with fail
  refine wl <| YX ZY ZY undef undef ZY ZY <| wn ?_
  simp only [pu]
  go_wp2_with fail
  go_ret
  exact ⟨rfl, rfl⟩
 | some n =>
  have CS : Calls Try.prog 55 #[.string s] w fun e w2 => e = .returned (.tuple #[Z8 n, Z4]) ∧ w = w2 := CS
  obtain ⟨t, ht⟩ := ZR (decide (n ≤ 64))
  have H2 : Hid (decide ((n : Int) ≤ (64 : Int)) = t) := Z9 (by rw [← ht]; exact decide_eq_decide.2 (by omega))
  show Calls _ _ _ _ fun e w2 => e = .returned (.bool (decide (n ≤ 64))) ∧ w = w2
  rw [ht]
  clear ht
  go_enter Try.func41, Try.ntmps41
  go_upto_region 1 with fail
  refine wl <| ZV (.string s) <| Y2 (.tuple #[Z8 n, Z4]) (fun w' => w = w') CS (fun W hW => ?_)
  subst hW
  simp only [pu]
  refine Sz (.tuple #[Z8 n, Z4]) (Z8 n) Z4 (Z8 n) Z4 <| wn ?_
  simp only [pu]
  clear CS
  go_upto_region 2 with fail
  refine wl <| YT Z4 Z4 (Z8 n) <| YN (.bool t) (tq rfl n 64 H2.out) <| ZG (.bool t) (.bool t) <| wn ?_
  simp only [pu]
  go_wp2_with fail
  go_ret
  exact ⟨rfl, rfl⟩
theorem Ub (s : ByteArray) (w : World) (hl : s.size ≤ 140737488355328) : Calls Try.prog 36 #[.string s] w fun e w' => e = .returned (.bool (isName (nums s))) ∧ w = w' := by
 have MO := Z9 (fun (i : Nat) (h : i < s.size) => Np s i h)
 have HL := Z9 (Zx s)
 obtain ⟨L, hL⟩ := ZR (nums s)
 rw [hL] at MO HL ⊢
 have O5 := Z9 (fun i (h : i < L.length) => Cj h)
 have Ci := Z9 (@Hr L)
 clear hL
 obtain ⟨n, hn⟩ := ZR s.size
 go_enter Try.func36, Try.ntmps36
 go_upto_region 1 with fail
 refine wl <| ZV (Z8 0) <| wn ?_
 simp only [pu]
 go_wp2_with fail
 go_loopg [3] n (fun gg s3 wx => ∃ i : Nat, s3 = Z8 i ∧ i ≤ n ∧ (∀ j, j < i → Uh (L.getD j 0) = true) ∧ wx = w ∧ n - i = gg)
 case atStart => exact ⟨0, rfl, by omega, fun j hj => by omega, rfl, by omega⟩
 case round =>
  obtain ⟨i, rfl, hi, hyes, rfl, hg⟩ := hrel
  by_cases hlt : i < n
  ·have HG : Hid (n - (i + 1) = gk - 1 ∧ 0 < gk ∧ i + 1 ≤ n) := Z9 ⟨by omega, by omega, by omega⟩
   have hix := MO.out i (by omega)
   have hno := O5.out i (by rw [HL.out]; omega)
   obtain ⟨c, hc⟩ := ZR (L.getD i 0)
   rw [hc] at hix hno
   have NI : Hid (Uh c = true → ∀ j, j < i + 1 → Uh (L.getD j 0) = true) := Z9 fun hb j hj => by
    by_cases e : j = i
    ·rw [e, hc]; exact hb
    ·exact hyes j (by omega)
   have HD : Hid (decide ((i : Int) < (n : Int)) = true) := Z9 dT
   clear hc hyes hg
   go_upto_region 2 with fail
   refine wl <| ZG (Z8 i) (.string s) <| YO (Z8 n) (by rw [← hn]; kernel_rfl) <| YN Z4 (ZC rfl i n HD.out) <| wn ?_
   simp only [pu]
   go_upto_region 4 with fail
   refine wl <| ZG (.string s) (Z8 i) <| YO (.int .u8 c) (hix _ _ _ _ rfl (by kernel_rfl) (by kernel_rfl) _) <| ZV (.int .u8 c) <| wn ?_
   simp only [pu]
   go_upto_region 5 with fail
   have hcl : (97 ≤ c ∧ c ≤ 122) ∨ (48 ≤ c ∧ c ≤ 57) ∨ (c = 45) ∨ (122 < c) ∨ (57 < c ∧ c < 97) ∨ (c < 48 ∧ c ≠ 45) := by omega
   rcases hcl with hc | hc | hc | hc | hc | hc
   ·apply wp_region_lit
    refine ZV (.int .u8 c) <| ZM (Zo rfl c 97 dT) <| ZG Z4 (.int .u8 c) <| ZM (Yf rfl c 122 dT) <|
     YX Z4 Z4 undef undef undef undef <| YX undef undef Z4 Z4 undef undef <| ZG Z4 ZY <| wn ?_
    simp only [pu]
    have pF := Z9 (NI.out (by simp only [Uh, Bool.or_eq_true, Bool.and_eq_true, decide_eq_true_eq]; omega))
    clear hno NI hix MO
    go_upto_region 3 with fail
    refine wl <| ZV (Z8 i) <| YN (Z8 (i + 1 : Nat)) (ZK rfl i 1 (by omega)) <| ZV (Z8 (i + 1 : Nat)) <| wn ?_
    simp only [pu]
    go_wp2_with fail
    go_roundg (gk - 1)
    case measure => have := HG.out; omega
    case rel => exact ⟨i + 1, rfl, HG.out.2.2, pF.out, rfl, HG.out.1⟩
   ·apply wp_region_lit
    refine ZV (.int .u8 c) <| ZM (Zo rfl c 97 dF) <| YX ZY undef undef ZY ZY (.int .u8 c) <|
     ZM (Zo rfl c 48 dT) <| ZG Z4 (.int .u8 c) <| ZM (Yf rfl c 57 dT) <|
     YX Z4 Z4 Z4 undef undef Z4 <| ZV ZY <| wn ?_
    simp only [pu]
    have pF := Z9 (NI.out (by simp only [Uh, Bool.or_eq_true, Bool.and_eq_true, decide_eq_true_eq]; omega))
    clear hno NI hix MO
    go_upto_region 3 with fail
    refine wl <| ZV (Z8 i) <| YN (Z8 (i + 1 : Nat)) (ZK rfl i 1 (by omega)) <| ZV (Z8 (i + 1 : Nat)) <| wn ?_
    simp only [pu]
    go_wp2_with fail
    go_roundg (gk - 1)
    case measure => have := HG.out; omega
    case rel => exact ⟨i + 1, rfl, HG.out.2.2, pF.out, rfl, HG.out.1⟩
   ·apply wp_region_lit
    refine ZV (.int .u8 c) <| ZM (Zo rfl c 97 dF) <| YX ZY undef undef ZY ZY (.int .u8 c) <|
     ZM (Zo rfl c 48 dF) <| YX ZY undef undef ZY ZY ZY <| ZV (.int .u8 c) <|
     ZM (Yz rfl c 45 dT) <| ZG Z4 ZY <| wn ?_
    simp only [pu]
    have pF := Z9 (NI.out (by simp only [Uh, Bool.or_eq_true, Bool.and_eq_true, decide_eq_true_eq]; omega))
    clear hno NI hix MO
    go_upto_region 3 with fail
    refine wl <| ZV (Z8 i) <| YN (Z8 (i + 1 : Nat)) (ZK rfl i 1 (by omega)) <| ZV (Z8 (i + 1 : Nat)) <| wn ?_
    simp only [pu]
    go_wp2_with fail
    go_roundg (gk - 1)
    case measure => have := HG.out; omega
    case rel => exact ⟨i + 1, rfl, HG.out.2.2, pF.out, rfl, HG.out.1⟩
   ·apply wp_region_lit
    refine ZV (.int .u8 c) <| ZM (Zo rfl c 97 dT) <| ZG Z4 (.int .u8 c) <| ZM (Yf rfl c 122 dF) <|
     YT ZY ZY (.int .u8 c) <| ZM (Zo rfl c 48 dT) <| ZG Z4 (.int .u8 c) <| ZM (Yf rfl c 57 dF) <|
     Xl ZY ZY ZY (.int .u8 c) <| ZM (Yz rfl c 45 dF) <| ZG ZY Z4 <| wn ?_
    simp only [pu]
    have HE := Z9 (hno (by rw [Bool.eq_false_iff]; simp only [ne_eq, Uh, Bool.or_eq_true, Bool.and_eq_true, decide_eq_true_eq]; omega))
    clear hno NI hix MO
    go_upto_region 6 with fail
    refine wl <| ZV ZY <| wn ?_
    simp only [pu]
    go_wp2_with fail
    go_ret
    rw [HE.out]
    exact ⟨rfl, rfl⟩
   ·apply wp_region_lit
    refine ZV (.int .u8 c) <| ZM (Zo rfl c 97 dF) <| YX ZY undef undef ZY ZY (.int .u8 c) <|
     ZM (Zo rfl c 48 dT) <| ZG Z4 (.int .u8 c) <| ZM (Yf rfl c 57 dF) <|
     Xl ZY ZY ZY (.int .u8 c) <| ZM (Yz rfl c 45 dF) <| ZG ZY Z4 <| wn ?_
    simp only [pu]
    have HE := Z9 (hno (by rw [Bool.eq_false_iff]; simp only [ne_eq, Uh, Bool.or_eq_true, Bool.and_eq_true, decide_eq_true_eq]; omega))
    clear hno NI hix MO
    go_upto_region 6 with fail
    refine wl <| ZV ZY <| wn ?_
    simp only [pu]
    go_wp2_with fail
    go_ret
    rw [HE.out]
    exact ⟨rfl, rfl⟩
   ·apply wp_region_lit
    refine ZV (.int .u8 c) <| ZM (Zo rfl c 97 dF) <| YX ZY undef undef ZY ZY (.int .u8 c) <|
     ZM (Zo rfl c 48 dF) <| YX ZY undef undef ZY ZY ZY <| ZV (.int .u8 c) <|
     ZM (Yz rfl c 45 dF) <| ZG ZY Z4 <| wn ?_
    simp only [pu]
    have HE := Z9 (hno (by rw [Bool.eq_false_iff]; simp only [ne_eq, Uh, Bool.or_eq_true, Bool.and_eq_true, decide_eq_true_eq]; omega))
    clear hno NI hix MO
    go_upto_region 6 with fail
    refine wl <| ZV ZY <| wn ?_
    simp only [pu]
    go_wp2_with fail
    go_ret
    rw [HE.out]
    exact ⟨rfl, rfl⟩
  ·have HD : Hid (decide ((i : Int) < (n : Int)) = false) := Z9 dF
   have hall := Ci.out (fun j hj => hyes j (by rw [HL.out] at hj; omega))
   have HV : Hid (isName L = (decide (1 ≤ n) && decide (n ≤ 20))) := Z9 (by unfold isName; rw [hall, HL.out, hn]; rfl)
   clear hyes hall hg MO O5 Ci
   go_upto_region 2 with fail
   refine wl <| ZG (Z8 i) (.string s) <| YO (Z8 n) (by rw [← hn]; kernel_rfl) <| YN ZY (ZC rfl i n HD.out) <| wn ?_
   simp only [pu]
   go_upto_region 7 with fail
   by_cases h1 : 1 ≤ n
   ·have H1 : Hid (decide ((1 : Int) ≤ (n : Int)) = true) := Z9 dT
    obtain ⟨t, ht⟩ := ZR (decide (n ≤ 20))
    have H2 : Hid (decide ((n : Int) ≤ (20 : Int)) = t) := Z9 (by rw [← ht]; exact decide_eq_decide.2 (by omega))
    have HE : Hid (isName L = t) := Z9 (by rw [HV.out, decide_eq_true h1, ht]; rfl)
    clear ht HV
    refine wl <| ZV (.string s) <| YO (Z8 n) (by rw [← hn]; kernel_rfl) <| YN Z4 (Uj rfl n 1 H1.out) <| ZG Z4 (.string s) <| YO (Z8 n) (by rw [← hn]; kernel_rfl) <|
     YN (.bool t) (tq rfl n 20 H2.out) <| ZG (.bool t) (.bool t) <| wn ?_
    simp only [pu]
    go_wp2_with fail
    go_ret
    rw [HE.out]
    exact ⟨rfl, rfl⟩
   ·have H1 : Hid (decide ((1 : Int) ≤ (n : Int)) = false) := Z9 dF
    have HE : Hid (isName L = false) := Z9 (by rw [HV.out, decide_eq_false h1]; rfl)
    clear HV
    refine wl <| ZV (.string s) <| YO (Z8 n) (by rw [← hn]; kernel_rfl) <| YN ZY (Uj rfl n 1 H1.out) <| YX ZY undef undef undef ZY ZY <| wn ?_
    simp only [pu]
    go_wp2_with fail
    go_ret
    rw [HE.out]
    exact ⟨rfl, rfl⟩
end Go.Proofs.Ytnhlpahoomcgnaa
namespace Go.Proofs.Ytnhlpahoomcgnaa
open Go.RowKit
abbrev Tf := ByteArray × Int
def EU (x : Tf) : List Value := [.string x.1, Z7 x.2]
abbrev Yv (x : Tf) : Array Value := #[.string x.1, Z7 x.2]
def SE (A : List Tf) : List Value := A.flatMap EU
def tfa (A : List Tf) (j : Nat) : Tf := A.getD j (ByteArray.empty, 0)
theorem XC {A : List Tf} {j : Nat} (h : j < A.length) : tfa A j = A[j] := getD_lt A j _ h
theorem KQ (x : Tf) (r : List Tf) : SE (x :: r) = .string x.1 :: Z7 x.2 :: SE r := rfl
theorem yj (A B : List Tf) : SE (A ++ B) = SE A ++ SE B := by simp [SE]
theorem wQ (x : Tf) : (Yv x).all (·.oneCell') = true := by simp [Value.oneCell']
theorem Bo : ∀ (A : List Tf) (k : Nat), k < A.length → (SE A)[k * 2]? = some (.string (tfa A k).1) ∧ (SE A)[k * 2 + 1]? = some (Z7 (tfa A k).2)
 | [], k, h => absurd h (by simp)
 | x :: r, 0, h => by rw [KQ]; exact ⟨rfl, rfl⟩
 | x :: r, k + 1, h => by
  have := Bo r k (by simpa using h)
  rw [KQ, show (k + 1) * 2 = k * 2 + 1 + 1 by omega, show k * 2 + 1 + 1 + 1 = (k * 2 + 1) + 1 + 1 by omega]
  simpa [tfa, List.getD] using this
theorem tY : (Try.prog.info? 54).map (fun i => (i.zero, i.size, i.bytes)) = some (some (.agg #[.string ByteArray.empty, Z7 0]), 2, 24) := by kernel_rfl
theorem U5 {w : World} {a : Option Addr} {A : List Tf} (h : Cs w a (SE A)) {k : Nat} (hk : k < A.length) : ∃ b off, a = some ⟨b, off, none⟩ ∧ b < w.heap.size ∧ w.rangeAt b (off + k * 2) (EU (tfa A k)) := by
 obtain ⟨h0, h1⟩ := Bo A k hk
 obtain ⟨b, off, rfl, hb, c0⟩ := h _ _ h0
 obtain ⟨b1, off1, e1, -, c1⟩ := h _ _ h1
 simp only [Option.some.injEq, Addr.mk.injEq, and_true] at e1
 obtain ⟨rfl, rfl⟩ := e1
 refine ⟨b, off, rfl, hb, fun j v hj => ?_⟩
 have hj2 : j < 2 := by
  have := (List.getElem?_eq_some_iff.1 hj).1
  simpa [EU] using this
 rcases (show j = 0 ∨ j = 1 by omega) with rfl | rfl
 ·simp [EU] at hj; rw [← hj]; exact c0
 ·simp [EU] at hj; rw [← hj, Nat.add_assoc]; exact c1
theorem UG {w : World} {b o : Nat} {x : Tf} (h : w.rangeAt b o (EU x)) : (Instr.loadAt 54 (Z5 b o)).run Try.prog w = .ok (.agg (Yv x)) w :=
 run_loadAt_mid w b o 54 (EU x) _ h Try.underlying54 rfl (by kernel_rfl)
theorem Qw (b off n c k : Nat) (hk : k < n) (V : World) (ρ : Operand → Value) (o : Oper) {x y : Operand} (ho : o.op = .indexAddr 55 x y) (hx : ρ x = .slice (some ⟨b, off, none⟩) n c) (hy : ρ y = Z8 k) : (execOp ρ o).run Try.prog V = .ok (.value (Z5 b (off + k * 2))) V := by
 have hs : (sizeOf (Try.prog.elem 55)).run Try.prog V = .ok 2 V := by kernel_rfl
 have hlm : (k : Int) < (n : Int) := by omega
 unfold execOp
 simp only [ho, hx, hy]
 go_simp
def TK : Tf := (ByteArray.empty, 0)
theorem WR {w : World} {g : Nat} {x y : Tf} (h : Bx w g (Yv x) 54) : (Instr.storeAt 54 (Z5 g 0) (.agg (Yv y))).run Try.prog w = .ok () (w.setRow g (Yv y)) ∧ Bx (w.setRow g (Yv y)) g (Yv y) 54 :=
 ⟨YW h rfl (wQ y) (by kernel_rfl), h.set⟩
theorem RX (V : World) (x : Tf) : ∃ V2, (Instr.storeAt 54 (Z5 V.heap.size 0) (.agg (Yv x))).run Try.prog (V.alloc (.cells (Yv TK) 54)) = .ok () V2 ∧ Below V.heap.size V V2 ∧ Bx V2 V.heap.size (Yv x) 54 :=
 have hb : Bx (V.alloc (.cells (Yv TK) 54)) V.heap.size (Yv TK) 54 := heap_alloc_last V _
 ⟨_, (WR hb).1, ZT ((Below.refl _ V).alloc (Nat.le_refl _) _) (Nat.le_refl _) _, (WR hb).2⟩
structure Zf where
 snd : ByteArray
 sq : Int
 Zk : Int
 Y6 : Int
 memo : ByteArray
 tr : List Tf
abbrev Zu (x : Zf) (a : Option Addr) (c : Nat) : Array Value := #[.string x.snd, Z7 x.sq, Z7 x.Zk, Z7 x.Y6, .string x.memo, .slice a x.tr.length c]
def VP : List Tf → Int
 | [] => 0
 | x :: r => if isName (nums x.1) = false then 10 else if x.2 = 0 then 12 else VP r
def X5 (x : Zf) : Int := if isName (nums x.snd) = false then 10 else if x.Zk = 0 then 15 else if YE (nums x.memo) = false then 11 else if x.tr.length = 0 ∨ 16 < x.tr.length then 3 else VP x.tr
def JY (A : List Tf) (j : Nat) : Prop := VP A = VP (A.drop j)
theorem JY.zero (A : List Tf) : JY A 0 := rfl
theorem Nl {A : List Tf} {j : Nat} (h : j < A.length) : A.drop j = tfa A j :: A.drop (j + 1) := by rw [XC h, List.getElem_cons_drop]
theorem JY.name {A : List Tf} {j : Nat} (h : JY A j) (hj : j < A.length) (hn : isName (nums (tfa A j).1) = false) : VP A = 10 := by
 rw [h, Nl hj]
 simp [VP, hn]
theorem JY.zam {A : List Tf} {j : Nat} (h : JY A j) (hj : j < A.length) (hn : isName (nums (tfa A j).1) = true) (h0 : (tfa A j).2 = 0) : VP A = 12 := by
 rw [h, Nl hj]
 simp [VP, hn, h0]
theorem JY.step {A : List Tf} {j : Nat} (h : JY A j) (hj : j < A.length) (hn : isName (nums (tfa A j).1) = true) (h0 : (tfa A j).2 ≠ 0) : JY A (j + 1) := by
 unfold JY at h ⊢
 rw [h, Nl hj]
 simp [VP, hn, h0]
theorem JY.done {A : List Tf} {j : Nat} (h : JY A j) (hj : A.length ≤ j) : VP A = 0 := by
 rw [h, List.drop_eq_nil_of_le hj]
 rfl
end Go.Proofs.Ytnhlpahoomcgnaa
namespace Go.Proofs.Ytnhlpahoomcgnaa
attribute [local irreducible] wpList wpQuiet
open Go.RowKit
theorem Wv {ρ : Operand → Value} {o : Oper} {x y : Operand} (ho : o.op = .binOp .eql 23 x y 23) (a : Int) {t : Bool} (ht : decide (a = 0) = t) (hx : ρ x = Z7 a) (hy : ρ y = Z7 0) (w : World) : (execOp ρ o).run Try.prog w = .ok (.value (.bool t)) w := by
 have e : (a == 0) = t := ht
 unfold execOp
 simp only [ho, hx, hy]
 go_simp
theorem Zl {ρ : Operand → Value} {o : Oper} {x y : Operand} (ho : o.op = .binOp .gtr 3 x y 3) (a b : Int) {t : Bool} (ht : decide (b < a) = t) (hx : ρ x = Z8 a) (hy : ρ y = Z8 b) (w : World) : (execOp ρ o).run Try.prog w = .ok (.value (.bool t)) w := by
 rw [← ht]
 unfold execOp
 simp only [ho, hx, hy]
 go_simp
theorem NQ (x : Zf) (a : Option Addr) (c : Nat) (w : World) (hR : Cs w a (SE x.tr)) (h1 : x.snd.size ≤ 140737488355328) (h2 : x.memo.size ≤ 140737488355328) (h3 : ∀ y, y ∈ x.tr → y.1.size ≤ 140737488355328) :
  Calls Try.prog 27 #[.agg (Zu x a c)] w fun e w' => e = .returned (Z8 (X5 x)) ∧ Below w.heap.size w w' := by
 have hb0 : Below w.heap.size w (w.alloc (.cells (Zu x a c) 57)) := (Below.refl _ w).alloc (Nat.le_refl _) _
 have hX0 : Bx (w.alloc (.cells (Zu x a c) 57)) w.heap.size (Zu x a c) 57 := heap_alloc_last w _
 have HA := Z9 (hR.below hb0)
 have CN := Z9 (fun V => Ub x.snd V h1)
 have CM := Z9 (fun V => Je x.memo V h2)
 have HV : Hid (X5 x = if isName (nums x.snd) = false then 10 else if x.Zk = 0 then 15 else if YE (nums x.memo) = false then 11 else if x.tr.length = 0 ∨ 16 < x.tr.length then 3 else VP x.tr) := Z9 rfl
 have HT := Z9 (fun j (hj : j < x.tr.length) V => Ub (tfa x.tr j).1 V (h3 _ (by rw [XC hj]; exact List.getElem_mem hj)))
 obtain ⟨snd, sq, Zk, Y6, memo, M⟩ := x
 simp only [Zu] at hb0 hX0 HA ⊢
 dsimp only at *
 have HO := Z9 (JY.zero M)
 generalize X5 _ = r at *
 generalize isName (nums snd) = t1 at *
 generalize YE (nums memo) = t2 at *
 obtain ⟨n, hn⟩ := ZR M.length
 have HN := Z9 hn
 rw [hn] at hb0 hX0 HA HV ⊢
 clear hR h1 h2 h3
 go_enter Try.func27, Try.ntmps27
 go_upto_region 1 with fail
 change Code.wp _ _ _ _ (w.alloc (.cells #[.string snd, Z7 sq, Z7 Zk, Z7 Y6, .string memo, .slice a n c] 57))
 generalize w.alloc (.cells #[.string snd, Z7 sq, Z7 Zk, Z7 Y6, .string memo, .slice a n c] 57) = W at *
 obtain ⟨g0, hg0⟩ := ZR w.heap.size
 have HB0 := Z9 hb0
 have Rj := Z9 hg0
 rw [hg0] at hX0
 simp only [hg0]
 clear hb0 hg0 hn
 have tJ := CN.out W
 have CMW := CM.out W
 clear CN CM
 cases t1
 ·refine wl <| ZV (Z5 g0 0) <| ZI rfl ⟨g0, 0, none⟩ (.string snd) (hX0.ZN 0) <| Y2 ZY (fun w' => W = w') (tJ) (fun V hV => ?_)
  subst hV
  simp only [pu]
  refine ZG Z4 Z4 <| wn ?_
  simp only [pu]
  have HE : Hid (r = 10) := Z9 (by rw [HV.out]; rfl)
  clear HV
  go_upto_region 2 with fail
  refine wl <| ZV (Z8 10) <| wn ?_
  simp only [pu]
  go_wp2_with fail
  go_ret
  rw [HE.out]
  exact ⟨rfl, HB0.out⟩
 ·refine wl <| ZV (Z5 g0 0) <| ZI rfl ⟨g0, 0, none⟩ (.string snd) (hX0.ZN 0) <| Y2 Z4 (fun w' => W = w') (tJ) (fun V hV => ?_)
  subst hV
  simp only [pu]
  refine ZG ZY ZY <| wn ?_
  simp only [pu]
  clear tJ
  go_upto_region 3 with fail
  by_cases TV : Zk = 0
  ·refine wl <| ZV (Z5 g0 2) <| ZI rfl ⟨g0, 2, none⟩ (Z7 Zk) (hX0.ZN 2) <| ZM (Wv rfl Zk (decide_eq_true TV)) <| ZV Z4 <| wn ?_
   simp only [pu]
   have HE : Hid (r = 15) := Z9 (by rw [HV.out]; rw [if_neg (by decide), if_pos TV])
   clear HV
   go_upto_region 4 with fail
   refine wl <| ZV (Z8 15) <| wn ?_
   simp only [pu]
   go_wp2_with fail
   go_ret
   rw [HE.out]
   exact ⟨rfl, HB0.out⟩
  ·refine wl <| ZV (Z5 g0 2) <| ZI rfl ⟨g0, 2, none⟩ (Z7 Zk) (hX0.ZN 2) <| ZM (Wv rfl Zk (decide_eq_false TV)) <| ZV ZY <| wn ?_
   simp only [pu]
   go_upto_region 5 with fail
   cases t2
   ·refine wl <| ZV (Z5 g0 4) <| ZI rfl ⟨g0, 4, none⟩ (.string memo) (hX0.ZN 4) <| Y2 ZY (fun w' => W = w') (CMW) (fun V hV => ?_)
    subst hV
    simp only [pu]
    refine ZG Z4 Z4 <| wn ?_
    simp only [pu]
    have HE : Hid (r = 11) := Z9 (by rw [HV.out]; rw [if_neg (by decide), if_neg TV, if_pos rfl])
    clear HV
    go_upto_region 6 with fail
    refine wl <| ZV (Z8 11) <| wn ?_
    simp only [pu]
    go_wp2_with fail
    go_ret
    rw [HE.out]
    exact ⟨rfl, HB0.out⟩
   ·refine wl <| ZV (Z5 g0 4) <| ZI rfl ⟨g0, 4, none⟩ (.string memo) (hX0.ZN 4) <| Y2 Z4 (fun w' => W = w') (CMW) (fun V hV => ?_)
    subst hV
    simp only [pu]
    refine ZG ZY ZY <| wn ?_
    simp only [pu]
    clear CMW
    go_upto_region 7 with fail
    rcases (show n = 0 ∨ 16 < n ∨ (0 < n ∧ n ≤ 16) by omega) with hc | hc | hc
    ·subst hc
     refine wl <| ZV (Z5 g0 5) <| ZI rfl ⟨g0, 5, none⟩ (.slice a 0 c) (hX0.ZN 5) <| YX (Z8 0) Z4 Z4 undef undef undef <| YT undef Z4 Z4 <| wn ?_
     simp only [pu]
     have HE : Hid (r = 3) := Z9 (by rw [HV.out]; rw [if_neg (by decide), if_neg TV, if_neg (by decide), if_pos (.inl rfl)])
     clear HV
     go_upto_region 8 with fail
     refine wl <| ZV (Z8 3) <| wn ?_
     simp only [pu]
     go_wp2_with fail
     go_ret
     rw [HE.out]
     exact ⟨rfl, HB0.out⟩
    ·refine wl <| ZV (Z5 g0 5) <| ZI rfl ⟨g0, 5, none⟩ (.slice a n c) (hX0.ZN 5) <| ZV (Z8 n) <| ZM (RV rfl n dF) <|
      ZG ZY (Z5 g0 5) <| ZI rfl ⟨g0, 5, none⟩ (.slice a n c) (hX0.ZN 5) <| ZV (Z8 n) <| ZM (Zl rfl n 16 dT) <| ZG Z4 Z4 <|
      wpList_nil ?_
     simp only [pu]
     have HE : Hid (r = 3) := Z9 (by rw [HV.out]; rw [if_neg (by decide), if_neg TV, if_neg (by decide), if_pos (.inr hc)])
     clear HV
     go_upto_region 8 with fail
     refine wl <| ZV (Z8 3) <| wn ?_
     simp only [pu]
     go_wp2_with fail
     go_ret
     rw [HE.out]
     exact ⟨rfl, HB0.out⟩
    ·refine wl <| ZV (Z5 g0 5) <| ZI rfl ⟨g0, 5, none⟩ (.slice a n c) (hX0.ZN 5) <| ZV (Z8 n) <| ZM (RV rfl n dF) <|
      ZG ZY (Z5 g0 5) <| ZI rfl ⟨g0, 5, none⟩ (.slice a n c) (hX0.ZN 5) <| ZV (Z8 n) <| ZM (Zl rfl n 16 dF) <| ZG ZY ZY <|
      wpList_nil ?_
     simp only [pu]
     have HE : Hid (r = VP M) := Z9 (by rw [HV.out, if_neg (by decide), if_neg TV, if_neg (by decide), if_neg (by omega)])
     clear HV
     go_upto_region 9 with fail
     refine wl <| ZV (Z5 g0 5) <| ZI rfl ⟨g0, 5, none⟩ (.slice a n c) (hX0.ZN 5) <| ZG (Z8 n) (Z8 0) <| wn ?_
     simp only [pu]
     have zf := Z9 hX0
     clear hX0
     go_wp2_with fail
     go_loopg [33] n (fun gg s33 wx => ∃ j : Nat, s33 = Z8 j ∧ j ≤ n ∧ Hid (JY M j) ∧ Hid (Below W.heap.size W wx) ∧ n - j = gg)
     case atStart => exact ⟨0, rfl, by omega, HO, Z9 (Below.refl _ _), by omega⟩
     case round =>
      obtain ⟨j, rfl, hj, HK, HB, hg⟩ := hrel
      clear HO
      by_cases hlt : j < n
      ·have HD : Hid (decide ((j : Int) < (n : Int)) = true) := Z9 dT
       have HG : Hid (n - (j + 1) = gk - 1 ∧ 0 < gk ∧ j + 1 ≤ n) := Z9 ⟨by omega, by omega, by omega⟩
       have hjm : j < M.length := by rw [HN.out]; exact hlt
       obtain ⟨b, off, rfl, -, hrx⟩ := U5 (HA.out.below HB.out) (k := j) hjm
       have Y0 := Z9 (UG hrx)
       have CT := Z9 (fun V => HT.out j hjm V)
       have xR := Z9 (HK.out.name hjm)
       have PK := Z9 (HK.out.zam hjm)
       have xQ := Z9 (HK.out.step hjm)
       generalize tfa M j = y at *
       obtain ⟨V2, hst, hb2, hbx⟩ := RX wr y
       have HB2 := Z9 (HB.out.trans (hb2.mono HB.out.size))
       clear hrx hb2 HK HB hjm hg
       go_upto_region 10 with fail
       refine wl <| YN Z4 (ZC rfl j n HD.out) <| wn ?_
       simp only [pu]
       go_upto_region 11 with fail
       refine wl <| YO (Z5 b (off + j * 2)) (Qw b off n c j hlt _ _ _ rfl (by kernel_rfl) (by kernel_rfl)) <| ZI rfl ⟨b, off + j * 2, none⟩ (.agg (Yv y)) Y0.out ?_
       simp only [pu]
       refine Zz rfl (some 4) rfl (Z5 wr.heap.size 0) (wr.alloc (.cells (Yv TK) 54)) (by kernel_rfl) ?_
       simp only [pu]
       refine Zt rfl hst <| wn ?_
       obtain ⟨g4, hg4⟩ := ZR wr.heap.size
       rw [hg4] at hbx ⊢
       clear hst hg4 Y0
       have tH := CT.out V2
       clear CT
       generalize isName (nums y.1) = ty at *
       go_upto_region 12 with fail
       cases ty
       ·refine wl <| ZV (Z5 g4 0) <| ZI rfl ⟨g4, 0, none⟩ (.string y.1) (hbx.ZN 0) <| Y2 ZY (fun w' => V2 = w') tH (fun V hV => ?_)
        subst hV
        simp only [pu]
        refine ZV Z4 <| wn ?_
        simp only [pu]
        have HE2 : Hid (r = 10) := Z9 (by rw [HE.out]; exact xR.out rfl)
        have Zj := Z9 (HB0.out.trans (HB2.out.mono HB0.out.size))
        clear HE HB2 xR PK xQ HB0
        go_upto_region 13 with fail
        refine wl <| ZV (Z8 10) <| wn ?_
        simp only [pu]
        go_wp2_with fail
        go_ret
        rw [HE2.out]
        exact ⟨rfl, Zj.out⟩
       ·refine wl <| ZV (Z5 g4 0) <| ZI rfl ⟨g4, 0, none⟩ (.string y.1) (hbx.ZN 0) <| Y2 Z4 (fun w' => V2 = w') tH (fun V hV => ?_)
        subst hV
        simp only [pu]
        refine ZV ZY <| wn ?_
        simp only [pu]
        clear tH
        go_upto_region 14 with fail
        by_cases h0 : y.2 = 0
        ·refine wl <| ZV (Z5 g4 1) <| ZI rfl ⟨g4, 1, none⟩ (Z7 y.2) (hbx.ZN 1) <| ZM (Wv rfl y.2 (decide_eq_true h0)) <| wn ?_
         simp only [pu]
         have HE2 : Hid (r = 12) := Z9 (by rw [HE.out]; exact PK.out rfl h0)
         have Zj := Z9 (HB0.out.trans (HB2.out.mono HB0.out.size))
         clear HE HB2 xR PK xQ HB0
         go_upto_region 15 with fail
         refine wl <| ZV (Z8 12) <| wn ?_
         simp only [pu]
         go_wp2_with fail
         go_ret
         rw [HE2.out]
         exact ⟨rfl, Zj.out⟩
        ·refine wl <| ZV (Z5 g4 1) <| ZI rfl ⟨g4, 1, none⟩ (Z7 y.2) (hbx.ZN 1) <| ZM (Wv rfl y.2 (decide_eq_false h0)) <| wn ?_
         simp only [pu]
         have HK9 := Z9 (xQ.out rfl h0)
         clear xR PK xQ hbx
         go_upto_region 16 with fail
         refine wl <| YO (Z8 (j + 1 : Nat)) (add_one rfl j (by omega) (by kernel_rfl) _) <| ZV (Z8 (j + 1 : Nat)) <| wn ?_
         simp only [pu]
         go_wp2_with fail
         go_roundg (gk - 1)
         case measure => have := HG.out; omega
         case rel => exact ⟨j + 1, rfl, HG.out.2.2, HK9, HB2, HG.out.1⟩
      ·have HD : Hid (decide ((j : Int) < (n : Int)) = false) := Z9 dF
       have HE2 : Hid (r = 0) := Z9 (by rw [HE.out]; exact HK.out.done (by rw [HN.out]; omega))
       have Zj := Z9 (HB0.out.trans (HB.out.mono HB0.out.size))
       clear HE HB HK HB0 hg
       go_upto_region 10 with fail
       refine wl <| YN ZY (ZC rfl j n HD.out) <| wn ?_
       simp only [pu]
       go_upto_region 17 with fail
       refine wl <| ZV (Z8 0) <| wn ?_
       simp only [pu]
       go_wp2_with fail
       go_ret
       rw [HE2.out]
       exact ⟨rfl, Zj.out⟩
theorem Qv (x : Zp) (b : Option Addr) (d : Nat) (V : World) : (Instr.buildSlice 94 1 #[(0, .agg (Yh x b d))]).run Try.prog V = .ok (.slice (some ⟨V.heap.size, 0, none⟩) 1 1) (V.alloc (.cells (Yh x b d) 99)) := by
 obtain ⟨i0, hi, hz0, hz1, hz2⟩ := info_parts info25
 refine run_buildSlice V 94 99 1 _ (Yh x b d) i0 _ Try.underlying94 hi hz0 (by rw [hz1]; omega) (by rw [hz1]; omega) ?_
 rw [hz1]
 kernel_rfl
end Go.Proofs.Ytnhlpahoomcgnaa
namespace Go.Proofs.Ytnhlpahoomcgnaa
open Go.RowKit
theorem Wx.fs {w : World} {B : Nat} {v : Value} {ps : List (Zp × Value)} (h : Wx w B v ps) : ∃ a c, v = .slice a ps.length c ∧ ps.length ≤ c ∧ Fs w a ps := by
  obtain ⟨a, c, rfl, hc⟩ := h.form
  refine ⟨a, c, rfl, hc, fun i p hi => ?_⟩
  have hlt : i < ps.length := (List.getElem?_eq_some_iff.1 hi).1
  obtain ⟨g, rfl, hg, hgl⟩ := VI h.1 (by omega)
  obtain ⟨ba, bc, hb, hs, -⟩ := (h.2 p (List.mem_of_getElem? hi)).sl
  refine ⟨g, 0, ba, bc, rfl, hb, hs, ?_, ?_, ?_, ?_⟩
  · rw [h.1.cellAt _ (by omega), show 0 + i * 4 = i * 4 + 0 by omega, Xr ps i 0 p hi (by omega)]
    rfl
  · rw [h.1.cellAt _ (by omega), show 0 + i * 4 + 1 = i * 4 + 1 by omega, Xr ps i 1 p hi (by omega)]
    rfl
  · rw [h.1.cellAt _ (by omega), show 0 + i * 4 + 2 = i * 4 + 2 by omega, Xr ps i 2 p hi (by omega)]
    rfl
  · rw [h.1.cellAt _ (by omega), show 0 + i * 4 + 3 = i * 4 + 3 by omega, Xr ps i 3 p hi (by omega)]
    simp only [cellsOf, List.getElem?_cons_succ, List.getElem?_cons_zero, hb]
theorem Fs.below {w w' : World} {a : Option Addr} {ps : List (Zp × Value)} (h : Fs w a ps) (hb : Below w.heap.size w w') : Fs w' a ps := by
  intro i p hi
  obtain ⟨b, off, ba, bc, h1, h2, h3, h4⟩ := h i p hi
  exact ⟨b, off, ba, bc, h1, h2, ZH h3 hb, h4.below hb⟩
def f1 : Zp := ⟨1, 0, 300, []⟩
def f2 : Zp := ⟨2, 2, 0, [97, 98]⟩
theorem vf1 : Vf f1 := ⟨⟨by decide, by decide, .inl ⟨rfl, rfl⟩⟩, ⟨by decide, by decide⟩, by simp [f1], by simp [f1]⟩
theorem vf2 : Vf f2 := ⟨⟨by decide, by decide, .inr ⟨rfl, rfl⟩⟩, ⟨by decide, by decide⟩, by simp [f2], by simp [f2]⟩
theorem e1 : encI 1 0 300 [] = [8, 172, 2] := by decide +kernel
theorem e2 : [8, 172, 2] ++ encI 2 2 0 [97, 98] = [8, 172, 2, 18, 2, 97, 98] := by decide +kernel
theorem r1 : YD [8, 172, 2, 18, 2, 97, 98] = ([f1, f2], 0, 0) := by
  have h := Ld [f1, f2] 8 [] 0 (by intro x hx; simp at hx; rcases hx with rfl | rfl; exact vf1; exact vf2) (by simp) (by decide +kernel)
  have he : [f1, f2].flatMap YP = [8, 172, 2, 18, 2, 97, 98] := by decide +kernel
  rw [he] at h
  exact h
def f3 : Zp := ⟨1, 0, 1, []⟩
theorem vf3 : Vf f3 := ⟨⟨by decide, by decide, .inl ⟨rfl, rfl⟩⟩, ⟨by decide, by decide⟩, by simp [f3], by simp [f3]⟩
theorem r2 : YD [8, 1, 18, 2, 97] = ([], 2, 5) := by
  have he : YP f3 = [8, 1] := by decide +kernel
  have h1 := G5 f3 vf3 [18, 2, 97]
  rw [he] at h1
  have h2 : W9 [18, 2, 97] = (Xj, 0, 5) := RP (t := 18) (n := 2) (h := 1) (k := 1) (by decide +kernel) (by unfold X7; omega) (by decide +kernel) (by omega) (by decide)
  have h3 : YD [8, 1, 18, 2, 97] = XU 5 ([] ++ [f3]) (0 + 2) ([8, 1, 18, 2, 97].drop 2) := UD (by decide) (by decide) h1
  rw [h3]
  exact Qm (by decide) (by decide) h2 (by omega)
theorem z2 : szB 2 = 4 := by decide +kernel
end Go.Proofs.Ytnhlpahoomcgnaa
