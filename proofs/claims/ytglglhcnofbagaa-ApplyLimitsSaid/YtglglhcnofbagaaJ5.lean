/-
  The reference's Runes and IsMemo: contracts. The reference's IsName and follow: contracts. Transfers and transactions in memory; which transactions are valid. The reference's ValidateTx: contract. The reference's number: contract. A row that a call made reads as its fields; the fixed example returns true.
  Conditions: none of their own. Rows of fields whose bytes lie anywhere apart from the row; the reference's number and text over them.
-/
import Derived.Test.YtglglhcnofbagaaJ4
import Derived.Test.YtglglhcnofbagaaJ3
import Derived.Lib.SlBytesConst
import Derived.Lib.SmallJoins
import Derived.Lib.ConvBytes
namespace Go.Proofs.Ytglglhcnofbagaa
attribute [local irreducible] wpList wpQuiet
open Go.RowKit
set_option linter.unusedSimpArgs false
set_option linter.unusedVariables false

theorem runs_end {L : List Int} {i : Nat} (h : ¬ i < L.length) : runs L i = some 0 := by rw [runs, dif_neg h]
theorem runs_bad {L : List Int} {i : Nat} (h : i < L.length) (hk : runK L i = 0) : runs L i = none := by rw [runs, dif_pos h, if_pos hk]
theorem runs_step {L : List Int} {i : Nat} (h : i < L.length) (hk : runK L i ≠ 0) : runs L i = (runs L (i + runK L i)).map (· + 1) := by rw [runs, dif_pos h, if_neg hk]
/-- So many runes ahead of a place. -/
def Ran (L : List Int) (i n : Nat) : Prop := runs L 0 = (runs L i).map (· + n)
theorem Ran.zero (L : List Int) : Ran L 0 0 := by
 unfold Ran
 cases runs L 0 <;> rfl
theorem Ran.step {L : List Int} {i n : Nat} (h : Ran L i n) (hi : i < L.length) (hk : runK L i ≠ 0) : Ran L (i + runK L i) (n + 1) := by
 unfold Ran at h ⊢
 rw [h, runs_step hi hk]
 cases runs L (i + runK L i) with
 | none => rfl
 | some m => simp; omega
theorem Ran.bad {L : List Int} {i n : Nat} (h : Ran L i n) (hi : i < L.length) (hk : runK L i = 0) : runs L 0 = none := by
 unfold Ran at h
 rw [h, runs_bad hi hk]
 rfl
theorem Ran.done {L : List Int} {i n : Nat} (h : Ran L i n) (hi : ¬ i < L.length) : runs L 0 = some n := by
 unfold Ran at h
 rw [h, runs_end hi]
 simp
def runsV : Option Nat → Value
 | none => .tuple #[.int .i64 0, .bool false]
 | some n => .tuple #[.int .i64 n, .bool true]
theorem eql_i0 {ρ : Operand → Value} {o : Oper} {x y : Operand} (ho : o.op = .binOp .eql 3 x y 3) (a : Int) {t : Bool} (ht : decide (a = 0) = t) (hx : ρ x = .int .i64 a) (hy : ρ y = .int .i64 0) (w : World) : (execOp ρ o).run Try.prog w = .ok (.value (.bool t)) w := by
 have e : (a == 0) = t := ht
 unfold execOp
 simp only [ho, hx, hy]
 go_simp
set_option maxRecDepth 100000 in
set_option maxHeartbeats 8000000 in
theorem ref_runes (s : ByteArray) (w : World) (hl : s.size ≤ 140737488355328) : Calls Try.prog 46 #[.string s] w fun e w' => e = .returned (runsV (runs (nums s) 0)) ∧ w = w' := by
 have HR := Lib.hid (fun (i : Nat) (V : World) (hi : i < s.size) => ref_rune s i V hi hl)
 have HL := Lib.hid (nums_len s)
 obtain ⟨L, hL⟩ : ∃ L, nums s = L := ⟨_, rfl⟩
 rw [hL] at HR HL ⊢
 have HR0 := Lib.hid (Ran.zero L)
 obtain ⟨r, hr⟩ : ∃ r, runs L 0 = r := ⟨_, rfl⟩
 have HRV := Lib.hid hr
 rw [hr]
 clear hL hr
 obtain ⟨n, hn⟩ : ∃ n, s.size = n := ⟨_, rfl⟩
 rw [hn] at hl
 go_enter Try.func46, Try.ntmps46
 go_upto_region 1 with fail
 refine wl <| gz1 (.int .i64 0) <| wn ?_
 simp only [pu]
 go_upto_region 2 with fail
 refine wl <| gz1 (.int .i64 0) <| wn ?_
 simp only [pu]
 go_wp2_with fail
 go_loopg [4, 5] n (fun gg s4 s5 wx => ∃ i m : Nat, s4 = .int .i64 m ∧ s5 = .int .i64 i ∧ i ≤ n ∧ m ≤ i ∧ Hid (Ran L i m) ∧ wx = w ∧ n - i ≤ gg)
 case atStart => exact ⟨0, 0, rfl, rfl, by omega, by omega, HR0, rfl, by omega⟩
 case round =>
  obtain ⟨i, m, rfl, rfl, hi, hmi, HM, rfl, hg⟩ := hrel
  clear HR0
  by_cases hlt : i < n
  ·have HD : Hid (decide ((i : Int) < (n : Int)) = true) := Lib.hid dT
   have CR := HR.out i wr (by omega)
   have hk4 := run_le L i
   have hkl := run_len (L := L) (i := i) (by rw [HL.out]; omega)
   have HST := Lib.hid (HM.out.step (by rw [HL.out]; omega))
   have HBD := Lib.hid (HM.out.bad (by rw [HL.out]; omega))
   rw [HL.out] at hkl
   clear HM
   generalize runK L i = k at *
   go_upto_region 3 with fail
   refine wl <| gz2 (.int .i64 i) (.string s) <| gzv (.int .i64 n) (by rw [← hn]; kernel_rfl) <| gzw (.bool true) (lss_n rfl i n HD.out) <| wn ?_
   simp only [pu]
   go_upto_region 4 with fail
   refine wl <| gz2 (.string s) (.int .i64 i) <| gzc (.int .i64 k) (fun w' => wr = w') CR (fun W hW => ?_)
   subst hW
   simp only [pu]
   refine gz1 (.int .i64 k) <| wn ?_
   simp only [pu]
   go_upto_region 5 with fail
   by_cases h0 : k = 0
   ·have HE : Hid (r = none) := Lib.hid (by rw [← HRV.out]; exact HBD.out h0)
    subst h0
    clear HST HBD HRV CR HR
    refine wl <| gz1 (.int .i64 (0 : Nat)) <| gzw (.bool true) (eql_i0 rfl 0 rfl) <| wn ?_
    simp only [pu]
    go_upto_region 6 with fail
    refine wl <| gz2 (.int .i64 0) (.bool false) <| wn ?_
    simp only [pu]
    go_wp2_with fail
    go_ret2
    rw [HE.out]
    exact ⟨rfl, rfl⟩
   ·have HS2 := Lib.hid (HST.out h0)
    have HG : Hid (i < n ∧ 0 < k ∧ i + k ≤ n ∧ n - i ≤ gk) := Lib.hid ⟨hlt, by omega, by rw [← hn]; exact hkl, hg⟩
    clear HST HBD CR hg
    refine wl <| gz1 (.int .i64 k) <| gzb (eql_i0 rfl k dF) <| wn ?_
    simp only [pu]
    go_upto_region 7 with fail
    refine wl <| gz2 (.int .i64 i) (.int .i64 k) <| gzw (.int .i64 (i + k : Nat)) (add_nat rfl i k (by omega)) <| gz1 (.int .i64 (i + k : Nat)) <| wn ?_
    simp only [pu]
    go_upto_region 8 with fail
    refine wl <| gz1 (.int .i64 m) <| gzw (.int .i64 (m + 1 : Nat)) (add_nat rfl m 1 (by omega)) <| gz1 (.int .i64 (m + 1 : Nat)) <| wn ?_
    simp only [pu]
    go_wp2_with fail
    go_roundg (n - (i + k))
    case measure => have := HG.out; omega
    case rel => exact ⟨i + k, m + 1, rfl, rfl, HG.out.2.2.1, by have := HG.out; omega, HS2, rfl, Nat.le_refl _⟩
  ·have HD : Hid (decide ((i : Int) < (n : Int)) = false) := Lib.hid dF
   have HE : Hid (r = some m) := Lib.hid (by rw [← HRV.out]; exact HM.out.done (by rw [HL.out]; omega))
   clear HM HRV HR hg
   go_upto_region 3 with fail
   refine wl <| gz2 (.int .i64 i) (.string s) <| gzv (.int .i64 n) (by rw [← hn]; kernel_rfl) <| gzw (.bool false) (lss_n rfl i n HD.out) <| wn ?_
   simp only [pu]
   go_upto_region 9 with fail
   refine wl <| gz3 (.int .i64 m) (.int .i64 m) (.bool true) <| wn ?_
   simp only [pu]
   go_wp2_with fail
   go_ret2
   rw [HE.out]
   exact ⟨rfl, rfl⟩
set_option maxRecDepth 100000 in
set_option maxHeartbeats 8000000 in
theorem ref_ismemo (s : ByteArray) (w : World) (hl : s.size ≤ 140737488355328) : Calls Try.prog 23 #[.string s] w fun e w' => e = .returned (.bool (isMemo (nums s))) ∧ w = w' := by
 have CS := ref_runes s w hl
 unfold isMemo
 generalize runs (nums s) 0 = r at *
 cases r with
 | none =>
  have CS : Calls Try.prog 46 #[.string s] w fun e w2 => e = .returned (.tuple #[.int .i64 0, .bool false]) ∧ w = w2 := CS
  have HE : Hid (False → False) := Lib.hid id
  go_enter Try.func23, Try.ntmps23
  go_upto_region 1 with fail
  refine wl <| gz1 (.string s) <| gzc (.tuple #[.int .i64 0, .bool false]) (fun w' => w = w') CS (fun W hW => ?_)
  subst hW
  simp only [pu]
  refine gz5 (.tuple #[.int .i64 0, .bool false]) (.int .i64 0) (.bool false) (.int .i64 0) (.bool false) <| wn ?_
  simp only [pu]
  clear CS
  go_upto_region 2 with fail
  refine wl <| gz6 (.bool false) (.bool false) undef undef (.bool false) (.bool false) <| wn ?_
  simp only [pu]
  go_wp2_with fail
  go_ret
  exact ⟨rfl, rfl⟩
 | some n =>
  have CS : Calls Try.prog 46 #[.string s] w fun e w2 => e = .returned (.tuple #[.int .i64 n, .bool true]) ∧ w = w2 := CS
  obtain ⟨t, ht⟩ : ∃ t, decide (n ≤ 64) = t := ⟨_, rfl⟩
  have H2 : Hid (decide ((n : Int) ≤ (64 : Int)) = t) := Lib.hid (by rw [← ht]; exact decide_eq_decide.2 (by omega))
  show Calls _ _ _ _ fun e w2 => e = .returned (.bool (decide (n ≤ 64))) ∧ w = w2
  rw [ht]
  clear ht
  go_enter Try.func23, Try.ntmps23
  go_upto_region 1 with fail
  refine wl <| gz1 (.string s) <| gzc (.tuple #[.int .i64 n, .bool true]) (fun w' => w = w') CS (fun W hW => ?_)
  subst hW
  simp only [pu]
  refine gz5 (.tuple #[.int .i64 n, .bool true]) (.int .i64 n) (.bool true) (.int .i64 n) (.bool true) <| wn ?_
  simp only [pu]
  clear CS
  go_upto_region 2 with fail
  refine wl <| gz3 (.bool true) (.bool true) (.int .i64 n) <| gzw (.bool t) (leq_n rfl n 64 H2.out) <| gz2 (.bool t) (.bool t) <| wn ?_
  simp only [pu]
  go_wp2_with fail
  go_ret
  exact ⟨rfl, rfl⟩
end Go.Proofs.Ytglglhcnofbagaa
namespace Go.Proofs.Ytglglhcnofbagaa
attribute [local irreducible] wpList wpQuiet
open Go.RowKit
set_option linter.unusedSimpArgs false
set_option linter.unusedVariables false

set_option maxRecDepth 100000 in
set_option maxHeartbeats 4000000 in
theorem ref_isname (s : ByteArray) (w : World) (hl : s.size ≤ 140737488355328) : Calls Try.prog 22 #[.string s] w fun e w' => e = .returned (.bool (isName (nums s))) ∧ w = w' := by
 have HIX := Lib.hid (fun (i : Nat) (h : i < s.size) => str_at s i h)
 have HL := Lib.hid (nums_len s)
 obtain ⟨L, hL⟩ : ∃ L, nums s = L := ⟨_, rfl⟩
 rw [hL] at HIX HL ⊢
 have HNO := Lib.hid (fun i (h : i < L.length) => all_no h)
 have HYES := Lib.hid (@all_yes L)
 clear hL
 obtain ⟨n, hn⟩ : ∃ n, s.size = n := ⟨_, rfl⟩
 go_enter Try.func22, Try.ntmps22
 go_upto_region 1 with fail
 refine wl <| gz1 (.int .i64 0) <| wn ?_
 simp only [pu]
 go_wp2_with fail
 go_loopg [3] n (fun gg s3 wx => ∃ i : Nat, s3 = .int .i64 i ∧ i ≤ n ∧ (∀ j, j < i → nmB (L.getD j 0) = true) ∧ wx = w ∧ n - i = gg)
 case atStart => exact ⟨0, rfl, by omega, fun j hj => by omega, rfl, by omega⟩
 case round =>
  obtain ⟨i, rfl, hi, hyes, rfl, hg⟩ := hrel
  by_cases hlt : i < n
  ·have HG : Hid (n - (i + 1) = gk - 1 ∧ 0 < gk ∧ i + 1 ≤ n) := Lib.hid ⟨by omega, by omega, by omega⟩
   have hix := HIX.out i (by omega)
   have hno := HNO.out i (by rw [HL.out]; omega)
   obtain ⟨c, hc⟩ : ∃ c, L.getD i 0 = c := ⟨_, rfl⟩
   rw [hc] at hix hno
   have HYS : Hid (nmB c = true → ∀ j, j < i + 1 → nmB (L.getD j 0) = true) := Lib.hid fun hb j hj => by
    by_cases e : j = i
    ·rw [e, hc]; exact hb
    ·exact hyes j (by omega)
   have HD : Hid (decide ((i : Int) < (n : Int)) = true) := Lib.hid dT
   clear hc hyes hg
   go_upto_region 2 with fail
   refine wl <| gz2 (.int .i64 i) (.string s) <| gzv (.int .i64 n) (by rw [← hn]; kernel_rfl) <| gzw (.bool true) (lss_n rfl i n HD.out) <| wn ?_
   simp only [pu]
   go_upto_region 4 with fail
   refine wl <| gz2 (.string s) (.int .i64 i) <| gzv (.int .u8 c) (hix _ _ _ _ rfl (by kernel_rfl) (by kernel_rfl) _) <| gz1 (.int .u8 c) <| wn ?_
   simp only [pu]
   go_upto_region 5 with fail
   have hcl : (97 ≤ c ∧ c ≤ 122) ∨ (48 ≤ c ∧ c ≤ 57) ∨ (c = 45) ∨ (122 < c) ∨ (57 < c ∧ c < 97) ∨ (c < 48 ∧ c ≠ 45) := by omega
   rcases hcl with hc | hc | hc | hc | hc | hc
   ·apply wp_region_lit
    refine gz1 (.int .u8 c) <| gzb (geq_u rfl c 97 dT) <| gz2 (.bool true) (.int .u8 c) <| gzb (leq_u rfl c 122 dT) <|
     gz6 (.bool true) (.bool true) undef undef undef undef <| gz6 undef undef (.bool true) (.bool true) undef undef <| gz2 (.bool true) (.bool false) <| wn ?_
    simp only [pu]
    have HY2 := Lib.hid (HYS.out (by simp only [nmB, Bool.or_eq_true, Bool.and_eq_true, decide_eq_true_eq]; omega))
    clear hno HYS hix HIX
    go_upto_region 3 with fail
    refine wl <| gz1 (.int .i64 i) <| gzw (.int .i64 (i + 1 : Nat)) (add_nat rfl i 1 (by omega)) <| gz1 (.int .i64 (i + 1 : Nat)) <| wn ?_
    simp only [pu]
    go_wp2_with fail
    go_roundg (gk - 1)
    case measure => have := HG.out; omega
    case rel => exact ⟨i + 1, rfl, HG.out.2.2, HY2.out, rfl, HG.out.1⟩
   ·apply wp_region_lit
    refine gz1 (.int .u8 c) <| gzb (geq_u rfl c 97 dF) <| gz6 (.bool false) undef undef (.bool false) (.bool false) (.int .u8 c) <|
     gzb (geq_u rfl c 48 dT) <| gz2 (.bool true) (.int .u8 c) <| gzb (leq_u rfl c 57 dT) <|
     gz6 (.bool true) (.bool true) (.bool true) undef undef (.bool true) <| gz1 (.bool false) <| wn ?_
    simp only [pu]
    have HY2 := Lib.hid (HYS.out (by simp only [nmB, Bool.or_eq_true, Bool.and_eq_true, decide_eq_true_eq]; omega))
    clear hno HYS hix HIX
    go_upto_region 3 with fail
    refine wl <| gz1 (.int .i64 i) <| gzw (.int .i64 (i + 1 : Nat)) (add_nat rfl i 1 (by omega)) <| gz1 (.int .i64 (i + 1 : Nat)) <| wn ?_
    simp only [pu]
    go_wp2_with fail
    go_roundg (gk - 1)
    case measure => have := HG.out; omega
    case rel => exact ⟨i + 1, rfl, HG.out.2.2, HY2.out, rfl, HG.out.1⟩
   ·apply wp_region_lit
    refine gz1 (.int .u8 c) <| gzb (geq_u rfl c 97 dF) <| gz6 (.bool false) undef undef (.bool false) (.bool false) (.int .u8 c) <|
     gzb (geq_u rfl c 48 dF) <| gz6 (.bool false) undef undef (.bool false) (.bool false) (.bool false) <| gz1 (.int .u8 c) <|
     gzb (eql_u rfl c 45 dT) <| gz2 (.bool true) (.bool false) <| wn ?_
    simp only [pu]
    have HY2 := Lib.hid (HYS.out (by simp only [nmB, Bool.or_eq_true, Bool.and_eq_true, decide_eq_true_eq]; omega))
    clear hno HYS hix HIX
    go_upto_region 3 with fail
    refine wl <| gz1 (.int .i64 i) <| gzw (.int .i64 (i + 1 : Nat)) (add_nat rfl i 1 (by omega)) <| gz1 (.int .i64 (i + 1 : Nat)) <| wn ?_
    simp only [pu]
    go_wp2_with fail
    go_roundg (gk - 1)
    case measure => have := HG.out; omega
    case rel => exact ⟨i + 1, rfl, HG.out.2.2, HY2.out, rfl, HG.out.1⟩
   ·apply wp_region_lit
    refine gz1 (.int .u8 c) <| gzb (geq_u rfl c 97 dT) <| gz2 (.bool true) (.int .u8 c) <| gzb (leq_u rfl c 122 dF) <|
     gz3 (.bool false) (.bool false) (.int .u8 c) <| gzb (geq_u rfl c 48 dT) <| gz2 (.bool true) (.int .u8 c) <| gzb (leq_u rfl c 57 dF) <|
     gz4 (.bool false) (.bool false) (.bool false) (.int .u8 c) <| gzb (eql_u rfl c 45 dF) <| gz2 (.bool false) (.bool true) <| wn ?_
    simp only [pu]
    have HE := Lib.hid (hno (by rw [Bool.eq_false_iff]; simp only [ne_eq, nmB, Bool.or_eq_true, Bool.and_eq_true, decide_eq_true_eq]; omega))
    clear hno HYS hix HIX
    go_upto_region 6 with fail
    refine wl <| gz1 (.bool false) <| wn ?_
    simp only [pu]
    go_wp2_with fail
    go_ret
    rw [HE.out]
    exact ⟨rfl, rfl⟩
   ·apply wp_region_lit
    refine gz1 (.int .u8 c) <| gzb (geq_u rfl c 97 dF) <| gz6 (.bool false) undef undef (.bool false) (.bool false) (.int .u8 c) <|
     gzb (geq_u rfl c 48 dT) <| gz2 (.bool true) (.int .u8 c) <| gzb (leq_u rfl c 57 dF) <|
     gz4 (.bool false) (.bool false) (.bool false) (.int .u8 c) <| gzb (eql_u rfl c 45 dF) <| gz2 (.bool false) (.bool true) <| wn ?_
    simp only [pu]
    have HE := Lib.hid (hno (by rw [Bool.eq_false_iff]; simp only [ne_eq, nmB, Bool.or_eq_true, Bool.and_eq_true, decide_eq_true_eq]; omega))
    clear hno HYS hix HIX
    go_upto_region 6 with fail
    refine wl <| gz1 (.bool false) <| wn ?_
    simp only [pu]
    go_wp2_with fail
    go_ret
    rw [HE.out]
    exact ⟨rfl, rfl⟩
   ·apply wp_region_lit
    refine gz1 (.int .u8 c) <| gzb (geq_u rfl c 97 dF) <| gz6 (.bool false) undef undef (.bool false) (.bool false) (.int .u8 c) <|
     gzb (geq_u rfl c 48 dF) <| gz6 (.bool false) undef undef (.bool false) (.bool false) (.bool false) <| gz1 (.int .u8 c) <|
     gzb (eql_u rfl c 45 dF) <| gz2 (.bool false) (.bool true) <| wn ?_
    simp only [pu]
    have HE := Lib.hid (hno (by rw [Bool.eq_false_iff]; simp only [ne_eq, nmB, Bool.or_eq_true, Bool.and_eq_true, decide_eq_true_eq]; omega))
    clear hno HYS hix HIX
    go_upto_region 6 with fail
    refine wl <| gz1 (.bool false) <| wn ?_
    simp only [pu]
    go_wp2_with fail
    go_ret
    rw [HE.out]
    exact ⟨rfl, rfl⟩
  ·have HD : Hid (decide ((i : Int) < (n : Int)) = false) := Lib.hid dF
   have hall := HYES.out (fun j hj => hyes j (by rw [HL.out] at hj; omega))
   have HV : Hid (isName L = (decide (1 ≤ n) && decide (n ≤ 20))) := Lib.hid (by unfold isName; rw [hall, HL.out, hn]; rfl)
   clear hyes hall hg HIX HNO HYES
   go_upto_region 2 with fail
   refine wl <| gz2 (.int .i64 i) (.string s) <| gzv (.int .i64 n) (by rw [← hn]; kernel_rfl) <| gzw (.bool false) (lss_n rfl i n HD.out) <| wn ?_
   simp only [pu]
   go_upto_region 7 with fail
   by_cases h1 : 1 ≤ n
   ·have H1 : Hid (decide ((1 : Int) ≤ (n : Int)) = true) := Lib.hid dT
    obtain ⟨t, ht⟩ : ∃ t, decide (n ≤ 20) = t := ⟨_, rfl⟩
    have H2 : Hid (decide ((n : Int) ≤ (20 : Int)) = t) := Lib.hid (by rw [← ht]; exact decide_eq_decide.2 (by omega))
    have HE : Hid (isName L = t) := Lib.hid (by rw [HV.out, decide_eq_true h1, ht]; rfl)
    clear ht HV
    refine wl <| gz1 (.string s) <| gzv (.int .i64 n) (by rw [← hn]; kernel_rfl) <| gzw (.bool true) (geq_n rfl n 1 H1.out) <| gz2 (.bool true) (.string s) <| gzv (.int .i64 n) (by rw [← hn]; kernel_rfl) <|
     gzw (.bool t) (leq_n rfl n 20 H2.out) <| gz2 (.bool t) (.bool t) <| wn ?_
    simp only [pu]
    go_wp2_with fail
    go_ret
    rw [HE.out]
    exact ⟨rfl, rfl⟩
   ·have H1 : Hid (decide ((1 : Int) ≤ (n : Int)) = false) := Lib.hid dF
    have HE : Hid (isName L = false) := Lib.hid (by rw [HV.out, decide_eq_false h1]; rfl)
    clear HV
    refine wl <| gz1 (.string s) <| gzv (.int .i64 n) (by rw [← hn]; kernel_rfl) <| gzw (.bool false) (geq_n rfl n 1 H1.out) <| gz6 (.bool false) undef undef undef (.bool false) (.bool false) <| wn ?_
    simp only [pu]
    go_wp2_with fail
    go_ret
    rw [HE.out]
    exact ⟨rfl, rfl⟩
end Go.Proofs.Ytglglhcnofbagaa
namespace Go.Proofs.Ytglglhcnofbagaa
open Go.RowKit
set_option linter.unusedSimpArgs false
set_option linter.unusedVariables false

abbrev Tf := ByteArray × Int
def tfl (x : Tf) : List Value := [.string x.1, .int .u64 x.2]
abbrev tfA (x : Tf) : Array Value := #[.string x.1, .int .u64 x.2]
def tfc (A : List Tf) : List Value := A.flatMap tfl
def tfa (A : List Tf) (j : Nat) : Tf := A.getD j (ByteArray.empty, 0)
theorem tfa_get {A : List Tf} {j : Nat} (h : j < A.length) : tfa A j = A[j] := getD_lt A j _ h
theorem tfc_cons (x : Tf) (r : List Tf) : tfc (x :: r) = .string x.1 :: .int .u64 x.2 :: tfc r := rfl
theorem tfc_app (A B : List Tf) : tfc (A ++ B) = tfc A ++ tfc B := by simp [tfc]
theorem tfA_one (x : Tf) : (tfA x).all (·.oneCell') = true := by simp [Value.oneCell']
theorem tfc_at : ∀ (A : List Tf) (k : Nat), k < A.length → (tfc A)[k * 2]? = some (.string (tfa A k).1) ∧ (tfc A)[k * 2 + 1]? = some (.int .u64 (tfa A k).2)
 | [], k, h => absurd h (by simp)
 | x :: r, 0, h => by rw [tfc_cons]; exact ⟨rfl, rfl⟩
 | x :: r, k + 1, h => by
  have := tfc_at r k (by simpa using h)
  rw [tfc_cons, show (k + 1) * 2 = k * 2 + 1 + 1 by omega, show k * 2 + 1 + 1 + 1 = (k * 2 + 1) + 1 + 1 by omega]
  simpa [tfa, List.getD] using this
theorem infoT : (Try.prog.info? 35).map (fun i => (i.zero, i.size, i.bytes)) = some (some (.agg #[.string ByteArray.empty, .int .u64 0]), 2, 24) := by kernel_rfl
theorem tf_range {w : World} {a : Option Addr} {A : List Tf} (h : Cs w a (tfc A)) {k : Nat} (hk : k < A.length) : ∃ b off, a = some ⟨b, off, none⟩ ∧ b < w.heap.size ∧ w.rangeAt b (off + k * 2) (tfl (tfa A k)) := by
 obtain ⟨h0, h1⟩ := tfc_at A k hk
 obtain ⟨b, off, rfl, hb, c0⟩ := h _ _ h0
 obtain ⟨b1, off1, e1, -, c1⟩ := h _ _ h1
 simp only [Option.some.injEq, Addr.mk.injEq, and_true] at e1
 obtain ⟨rfl, rfl⟩ := e1
 refine ⟨b, off, rfl, hb, fun j v hj => ?_⟩
 have hj2 : j < 2 := by
  have := (List.getElem?_eq_some_iff.1 hj).1
  simpa [tfl] using this
 rcases (show j = 0 ∨ j = 1 by omega) with rfl | rfl
 ·simp [tfl] at hj; rw [← hj]; exact c0
 ·simp [tfl] at hj; rw [← hj, Nat.add_assoc]; exact c1
theorem load_tf {w : World} {b o : Nat} {x : Tf} (h : w.rangeAt b o (tfl x)) : (Instr.loadAt 35 (.pointer (some ⟨b, o, none⟩))).run Try.prog w = .ok (.agg (tfA x)) w :=
 run_loadAt_mid w b o 35 (tfl x) _ h Try.underlying35 rfl (by kernel_rfl)
theorem idx_tf (b off n c k : Nat) (hk : k < n) (V : World) (ρ : Operand → Value) (o : Oper) {x y : Operand} (ho : o.op = .indexAddr 30 x y) (hx : ρ x = .slice (some ⟨b, off, none⟩) n c) (hy : ρ y = .int .i64 k) : (execOp ρ o).run Try.prog V = .ok (.value (.pointer (some ⟨b, off + k * 2, none⟩))) V := by
 have hs : (sizeOf (Try.prog.elem 30)).run Try.prog V = .ok 2 V := by kernel_rfl
 have hlm : (k : Int) < (n : Int) := by omega
 unfold execOp
 simp only [ho, hx, hy]
 go_simp
def zTf : Tf := (ByteArray.empty, 0)
theorem store_tf {w : World} {g : Nat} {x y : Tf} (h : Bx w g (tfA x) 35) : (Instr.storeAt 35 (.pointer (some ⟨g, 0, none⟩)) (.agg (tfA y))).run Try.prog w = .ok () (w.setRow g (tfA y)) ∧ Bx (w.setRow g (tfA y)) g (tfA y) 35 :=
 ⟨run_store_all h rfl (tfA_one y) (by kernel_rfl), h.set⟩
theorem new_tf (V : World) (x : Tf) : ∃ V2, (Instr.storeAt 35 (.pointer (some ⟨V.heap.size, 0, none⟩)) (.agg (tfA x))).run Try.prog (V.alloc (.cells (tfA zTf) 35)) = .ok () V2 ∧ Below V.heap.size V V2 ∧ Bx V2 V.heap.size (tfA x) 35 :=
 have hb : Bx (V.alloc (.cells (tfA zTf) 35)) V.heap.size (tfA zTf) 35 := heap_alloc_last V _
 ⟨_, (store_tf hb).1, belowRow ((Below.refl _ V).alloc (Nat.le_refl _) _) (Nat.le_refl _) _, (store_tf hb).2⟩
/-- A transaction without its transfers' place. -/
structure Txd where
 snd : ByteArray
 sq : Int
 gas : Int
 fee : Int
 memo : ByteArray
 tr : List Tf
abbrev txA (x : Txd) (a : Option Addr) (c : Nat) : Array Value := #[.string x.snd, .int .u64 x.sq, .int .u64 x.gas, .int .u64 x.fee, .string x.memo, .slice a x.tr.length c]
/-- Validate over lists: the transfers, then all. -/
def valT : List Tf → Int
 | [] => 0
 | x :: r => if isName (nums x.1) = false then 10 else if x.2 = 0 then 12 else valT r
def valX (x : Txd) : Int := if isName (nums x.snd) = false then 10 else if x.gas = 0 then 15 else if isMemo (nums x.memo) = false then 11 else if x.tr.length = 0 ∨ 16 < x.tr.length then 3 else valT x.tr
/-- No error ahead of a place. -/
def Okt (A : List Tf) (j : Nat) : Prop := valT A = valT (A.drop j)
theorem Okt.zero (A : List Tf) : Okt A 0 := rfl
theorem drop_tf {A : List Tf} {j : Nat} (h : j < A.length) : A.drop j = tfa A j :: A.drop (j + 1) := by rw [tfa_get h, List.getElem_cons_drop]
theorem Okt.name {A : List Tf} {j : Nat} (h : Okt A j) (hj : j < A.length) (hn : isName (nums (tfa A j).1) = false) : valT A = 10 := by
 rw [h, drop_tf hj]
 simp [valT, hn]
theorem Okt.zam {A : List Tf} {j : Nat} (h : Okt A j) (hj : j < A.length) (hn : isName (nums (tfa A j).1) = true) (h0 : (tfa A j).2 = 0) : valT A = 12 := by
 rw [h, drop_tf hj]
 simp [valT, hn, h0]
theorem Okt.step {A : List Tf} {j : Nat} (h : Okt A j) (hj : j < A.length) (hn : isName (nums (tfa A j).1) = true) (h0 : (tfa A j).2 ≠ 0) : Okt A (j + 1) := by
 unfold Okt at h ⊢
 rw [h, drop_tf hj]
 simp [valT, hn, h0]
theorem Okt.done {A : List Tf} {j : Nat} (h : Okt A j) (hj : A.length ≤ j) : valT A = 0 := by
 rw [h, List.drop_eq_nil_of_le hj]
 rfl
end Go.Proofs.Ytglglhcnofbagaa
namespace Go.Proofs.Ytglglhcnofbagaa
attribute [local irreducible] wpList wpQuiet
open Go.RowKit
set_option linter.unusedSimpArgs false
set_option linter.unusedVariables false

theorem eql_u0 {ρ : Operand → Value} {o : Oper} {x y : Operand} (ho : o.op = .binOp .eql 22 x y 22) (a : Int) {t : Bool} (ht : decide (a = 0) = t) (hx : ρ x = .int .u64 a) (hy : ρ y = .int .u64 0) (w : World) : (execOp ρ o).run Try.prog w = .ok (.value (.bool t)) w := by
 have e : (a == 0) = t := ht
 unfold execOp
 simp only [ho, hx, hy]
 go_simp
theorem gtr_n {ρ : Operand → Value} {o : Oper} {x y : Operand} (ho : o.op = .binOp .gtr 3 x y 3) (a b : Int) {t : Bool} (ht : decide (b < a) = t) (hx : ρ x = .int .i64 a) (hy : ρ y = .int .i64 b) (w : World) : (execOp ρ o).run Try.prog w = .ok (.value (.bool t)) w := by
 rw [← ht]
 unfold execOp
 simp only [ho, hx, hy]
 go_simp
set_option maxRecDepth 100000 in
set_option maxHeartbeats 8000000 in
theorem ref_validate (x : Txd) (a : Option Addr) (c : Nat) (w : World) (hR : Cs w a (tfc x.tr)) (h1 : x.snd.size ≤ 140737488355328) (h2 : x.memo.size ≤ 140737488355328) (h3 : ∀ y, y ∈ x.tr → y.1.size ≤ 140737488355328) :
  Calls Try.prog 10 #[.agg (txA x a c)] w fun e w' => e = .returned (.int .i64 (valX x)) ∧ Below w.heap.size w w' := by
 have hb0 : Below w.heap.size w (w.alloc (.cells (txA x a c) 32)) := (Below.refl _ w).alloc (Nat.le_refl _) _
 have hX0 : Bx (w.alloc (.cells (txA x a c) 32)) w.heap.size (txA x a c) 32 := heap_alloc_last w _
 have HA := Lib.hid (hR.below hb0)
 have CN := Lib.hid (fun V => ref_isname x.snd V h1)
 have CM := Lib.hid (fun V => ref_ismemo x.memo V h2)
 have HV : Hid (valX x = if isName (nums x.snd) = false then 10 else if x.gas = 0 then 15 else if isMemo (nums x.memo) = false then 11 else if x.tr.length = 0 ∨ 16 < x.tr.length then 3 else valT x.tr) := Lib.hid rfl
 have HT := Lib.hid (fun j (hj : j < x.tr.length) V => ref_isname (tfa x.tr j).1 V (h3 _ (by rw [tfa_get hj]; exact List.getElem_mem hj)))
 obtain ⟨snd, sq, gas, fee, memo, M⟩ := x
 simp only [txA] at hb0 hX0 HA ⊢
 dsimp only at *
 have HO := Lib.hid (Okt.zero M)
 generalize valX _ = r at *
 generalize isName (nums snd) = t1 at *
 generalize isMemo (nums memo) = t2 at *
 obtain ⟨n, hn⟩ : ∃ n, M.length = n := ⟨_, rfl⟩
 have HN := Lib.hid hn
 rw [hn] at hb0 hX0 HA HV ⊢
 clear hR h1 h2 h3
 go_enter Try.func10, Try.ntmps10
 go_upto_region 1 with fail
 change Code.wp _ _ _ _ (w.alloc (.cells #[.string snd, .int .u64 sq, .int .u64 gas, .int .u64 fee, .string memo, .slice a n c] 32))
 generalize w.alloc (.cells #[.string snd, .int .u64 sq, .int .u64 gas, .int .u64 fee, .string memo, .slice a n c] 32) = W at *
 obtain ⟨g0, hg0⟩ : ∃ g0, w.heap.size = g0 := ⟨_, rfl⟩
 have HB0 := Lib.hid hb0
 have HG0 := Lib.hid hg0
 rw [hg0] at hX0
 simp only [hg0]
 clear hb0 hg0 hn
 have CNW := CN.out W
 have CMW := CM.out W
 clear CN CM
 cases t1
 ·skip
  refine wl <| gz1 (.pointer (some ⟨g0, 0, none⟩)) <| gzl rfl ⟨g0, 0, none⟩ (.string snd) (hX0.load (i := 0) rfl (by kernel_rfl)) <| gzc (.bool false) (fun w' => W = w') (CNW) (fun V hV => ?_)
  subst hV
  simp only [pu]
  refine gz2 (.bool true) (.bool true) <| wn ?_
  simp only [pu]
  have HE : Hid (r = 10) := Lib.hid (by rw [HV.out]; rfl)
  clear HV
  go_upto_region 2 with fail
  refine wl <| gz1 (.int .i64 10) <| wn ?_
  simp only [pu]
  go_wp2_with fail
  go_ret
  rw [HE.out]
  exact ⟨rfl, HB0.out⟩
 ·skip
  refine wl <| gz1 (.pointer (some ⟨g0, 0, none⟩)) <| gzl rfl ⟨g0, 0, none⟩ (.string snd) (hX0.load (i := 0) rfl (by kernel_rfl)) <| gzc (.bool true) (fun w' => W = w') (CNW) (fun V hV => ?_)
  subst hV
  simp only [pu]
  refine gz2 (.bool false) (.bool false) <| wn ?_
  simp only [pu]
  clear CNW
  go_upto_region 3 with fail
  by_cases hgas : gas = 0
  ·skip
   refine wl <| gz1 (.pointer (some ⟨g0, 2, none⟩)) <| gzl rfl ⟨g0, 2, none⟩ (.int .u64 gas) (hX0.load (i := 2) rfl (by kernel_rfl)) <| gzb (eql_u0 rfl gas (decide_eq_true hgas)) <| gz1 (.bool true) <| wn ?_
   simp only [pu]
   have HE : Hid (r = 15) := Lib.hid (by rw [HV.out]; rw [if_neg (by decide), if_pos hgas])
   clear HV
   go_upto_region 4 with fail
   refine wl <| gz1 (.int .i64 15) <| wn ?_
   simp only [pu]
   go_wp2_with fail
   go_ret
   rw [HE.out]
   exact ⟨rfl, HB0.out⟩
  ·skip
   refine wl <| gz1 (.pointer (some ⟨g0, 2, none⟩)) <| gzl rfl ⟨g0, 2, none⟩ (.int .u64 gas) (hX0.load (i := 2) rfl (by kernel_rfl)) <| gzb (eql_u0 rfl gas (decide_eq_false hgas)) <| gz1 (.bool false) <| wn ?_
   simp only [pu]
   go_upto_region 5 with fail
   cases t2
   ·skip
    refine wl <| gz1 (.pointer (some ⟨g0, 4, none⟩)) <| gzl rfl ⟨g0, 4, none⟩ (.string memo) (hX0.load (i := 4) rfl (by kernel_rfl)) <| gzc (.bool false) (fun w' => W = w') (CMW) (fun V hV => ?_)
    subst hV
    simp only [pu]
    refine gz2 (.bool true) (.bool true) <| wn ?_
    simp only [pu]
    have HE : Hid (r = 11) := Lib.hid (by rw [HV.out]; rw [if_neg (by decide), if_neg hgas, if_pos rfl])
    clear HV
    go_upto_region 6 with fail
    refine wl <| gz1 (.int .i64 11) <| wn ?_
    simp only [pu]
    go_wp2_with fail
    go_ret
    rw [HE.out]
    exact ⟨rfl, HB0.out⟩
   ·skip
    refine wl <| gz1 (.pointer (some ⟨g0, 4, none⟩)) <| gzl rfl ⟨g0, 4, none⟩ (.string memo) (hX0.load (i := 4) rfl (by kernel_rfl)) <| gzc (.bool true) (fun w' => W = w') (CMW) (fun V hV => ?_)
    subst hV
    simp only [pu]
    refine gz2 (.bool false) (.bool false) <| wn ?_
    simp only [pu]
    clear CMW
    go_upto_region 7 with fail
    rcases (show n = 0 ∨ 16 < n ∨ (0 < n ∧ n ≤ 16) by omega) with hc | hc | hc
    ·subst hc
     refine wl <| gz1 (.pointer (some ⟨g0, 5, none⟩)) <| gzl rfl ⟨g0, 5, none⟩ (.slice a 0 c) (hX0.load (i := 5) rfl (by kernel_rfl)) <| gz6 (.int .i64 0) (.bool true) (.bool true) undef undef undef <| gz3 undef (.bool true) (.bool true) <| wn ?_
     simp only [pu]
     have HE : Hid (r = 3) := Lib.hid (by rw [HV.out]; rw [if_neg (by decide), if_neg hgas, if_neg (by decide), if_pos (.inl rfl)])
     clear HV
     go_upto_region 8 with fail
     refine wl <| gz1 (.int .i64 3) <| wn ?_
     simp only [pu]
     go_wp2_with fail
     go_ret
     rw [HE.out]
     exact ⟨rfl, HB0.out⟩
    ·skip
     refine wl <| gz1 (.pointer (some ⟨g0, 5, none⟩)) <| gzl rfl ⟨g0, 5, none⟩ (.slice a n c) (hX0.load (i := 5) rfl (by kernel_rfl)) <| gz1 (.int .i64 n) <| gzb (eql_i0 rfl n dF) <|
      gz2 (.bool false) (.pointer (some ⟨g0, 5, none⟩)) <| gzl rfl ⟨g0, 5, none⟩ (.slice a n c) (hX0.load (i := 5) rfl (by kernel_rfl)) <| gz1 (.int .i64 n) <| gzb (gtr_n rfl n 16 dT) <| gz2 (.bool true) (.bool true) <|
      wpList_nil ?_
     simp only [pu]
     have HE : Hid (r = 3) := Lib.hid (by rw [HV.out]; rw [if_neg (by decide), if_neg hgas, if_neg (by decide), if_pos (.inr hc)])
     clear HV
     go_upto_region 8 with fail
     refine wl <| gz1 (.int .i64 3) <| wn ?_
     simp only [pu]
     go_wp2_with fail
     go_ret
     rw [HE.out]
     exact ⟨rfl, HB0.out⟩
    ·skip
     refine wl <| gz1 (.pointer (some ⟨g0, 5, none⟩)) <| gzl rfl ⟨g0, 5, none⟩ (.slice a n c) (hX0.load (i := 5) rfl (by kernel_rfl)) <| gz1 (.int .i64 n) <| gzb (eql_i0 rfl n dF) <|
      gz2 (.bool false) (.pointer (some ⟨g0, 5, none⟩)) <| gzl rfl ⟨g0, 5, none⟩ (.slice a n c) (hX0.load (i := 5) rfl (by kernel_rfl)) <| gz1 (.int .i64 n) <| gzb (gtr_n rfl n 16 dF) <| gz2 (.bool false) (.bool false) <|
      wpList_nil ?_
     simp only [pu]
     have HE : Hid (r = valT M) := Lib.hid (by rw [HV.out, if_neg (by decide), if_neg hgas, if_neg (by decide), if_neg (by omega)])
     clear HV
     go_upto_region 9 with fail
     refine wl <| gz1 (.pointer (some ⟨g0, 5, none⟩)) <| gzl rfl ⟨g0, 5, none⟩ (.slice a n c) (hX0.load (i := 5) rfl (by kernel_rfl)) <| gz2 (.int .i64 n) (.int .i64 0) <| wn ?_
     simp only [pu]
     have HS0 := Lib.hid hX0
     clear hX0
     go_wp2_with fail
     go_loopg [33] n (fun gg s33 wx => ∃ j : Nat, s33 = .int .i64 j ∧ j ≤ n ∧ Hid (Okt M j) ∧ Hid (Below W.heap.size W wx) ∧ n - j = gg)
     case atStart => exact ⟨0, rfl, by omega, HO, Lib.hid (Below.refl _ _), by omega⟩
     case round =>
      obtain ⟨j, rfl, hj, HK, HB, hg⟩ := hrel
      clear HO
      by_cases hlt : j < n
      ·have HD : Hid (decide ((j : Int) < (n : Int)) = true) := Lib.hid dT
       have HG : Hid (n - (j + 1) = gk - 1 ∧ 0 < gk ∧ j + 1 ≤ n) := Lib.hid ⟨by omega, by omega, by omega⟩
       have hjm : j < M.length := by rw [HN.out]; exact hlt
       obtain ⟨b, off, rfl, -, hrx⟩ := tf_range (HA.out.below HB.out) (k := j) hjm
       have HLD := Lib.hid (load_tf hrx)
       have CT := Lib.hid (fun V => HT.out j hjm V)
       have HK1 := Lib.hid (HK.out.name hjm)
       have HK2 := Lib.hid (HK.out.zam hjm)
       have HK3 := Lib.hid (HK.out.step hjm)
       generalize tfa M j = y at *
       obtain ⟨V2, hst, hb2, hbx⟩ := new_tf wr y
       have HB2 := Lib.hid (HB.out.trans (hb2.mono HB.out.size))
       clear hrx hb2 HK HB hjm hg
       go_upto_region 10 with fail
       refine wl <| gzw (.bool true) (lss_n rfl j n HD.out) <| wn ?_
       simp only [pu]
       go_upto_region 11 with fail
       refine wl <| gzv (.pointer (some ⟨b, off + j * 2, none⟩)) (idx_tf b off n c j hlt _ _ _ rfl (by kernel_rfl) (by kernel_rfl)) <| gzl rfl ⟨b, off + j * 2, none⟩ (.agg (tfA y)) HLD.out ?_
       simp only [pu]
       refine run_to rfl (some 4) rfl (.pointer (some ⟨wr.heap.size, 0, none⟩)) (wr.alloc (.cells (tfA zTf) 35)) (by kernel_rfl) ?_
       simp only [pu]
       refine gzs rfl hst <| wn ?_
       obtain ⟨g4, hg4⟩ : ∃ g4, wr.heap.size = g4 := ⟨_, rfl⟩
       rw [hg4] at hbx ⊢
       clear hst hg4 HLD
       have CTV := CT.out V2
       clear CT
       generalize isName (nums y.1) = ty at *
       go_upto_region 12 with fail
       cases ty
       ·skip
        refine wl <| gz1 (.pointer (some ⟨g4, 0, none⟩)) <| gzl rfl ⟨g4, 0, none⟩ (.string y.1) (hbx.load (i := 0) rfl (by kernel_rfl)) <| gzc (.bool false) (fun w' => V2 = w') CTV (fun V hV => ?_)
        subst hV
        simp only [pu]
        refine gz1 (.bool true) <| wn ?_
        simp only [pu]
        have HE2 : Hid (r = 10) := Lib.hid (by rw [HE.out]; exact HK1.out rfl)
        have HB9 := Lib.hid (HB0.out.trans (HB2.out.mono HB0.out.size))
        clear HE HB2 HK1 HK2 HK3 HB0
        go_upto_region 13 with fail
        refine wl <| gz1 (.int .i64 10) <| wn ?_
        simp only [pu]
        go_wp2_with fail
        go_ret
        rw [HE2.out]
        exact ⟨rfl, HB9.out⟩
       ·skip
        refine wl <| gz1 (.pointer (some ⟨g4, 0, none⟩)) <| gzl rfl ⟨g4, 0, none⟩ (.string y.1) (hbx.load (i := 0) rfl (by kernel_rfl)) <| gzc (.bool true) (fun w' => V2 = w') CTV (fun V hV => ?_)
        subst hV
        simp only [pu]
        refine gz1 (.bool false) <| wn ?_
        simp only [pu]
        clear CTV
        go_upto_region 14 with fail
        by_cases h0 : y.2 = 0
        ·skip
         refine wl <| gz1 (.pointer (some ⟨g4, 1, none⟩)) <| gzl rfl ⟨g4, 1, none⟩ (.int .u64 y.2) (hbx.load (i := 1) rfl (by kernel_rfl)) <| gzb (eql_u0 rfl y.2 (decide_eq_true h0)) <| wn ?_
         simp only [pu]
         have HE2 : Hid (r = 12) := Lib.hid (by rw [HE.out]; exact HK2.out rfl h0)
         have HB9 := Lib.hid (HB0.out.trans (HB2.out.mono HB0.out.size))
         clear HE HB2 HK1 HK2 HK3 HB0
         go_upto_region 15 with fail
         refine wl <| gz1 (.int .i64 12) <| wn ?_
         simp only [pu]
         go_wp2_with fail
         go_ret
         rw [HE2.out]
         exact ⟨rfl, HB9.out⟩
        ·skip
         refine wl <| gz1 (.pointer (some ⟨g4, 1, none⟩)) <| gzl rfl ⟨g4, 1, none⟩ (.int .u64 y.2) (hbx.load (i := 1) rfl (by kernel_rfl)) <| gzb (eql_u0 rfl y.2 (decide_eq_false h0)) <| wn ?_
         simp only [pu]
         have HK9 := Lib.hid (HK3.out rfl h0)
         clear HK1 HK2 HK3 hbx
         go_upto_region 16 with fail
         refine wl <| gzv (.int .i64 (j + 1 : Nat)) (add_one rfl j (by omega) (by kernel_rfl) _) <| gz1 (.int .i64 (j + 1 : Nat)) <| wn ?_
         simp only [pu]
         go_wp2_with fail
         go_roundg (gk - 1)
         case measure => have := HG.out; omega
         case rel => exact ⟨j + 1, rfl, HG.out.2.2, HK9, HB2, HG.out.1⟩
      ·have HD : Hid (decide ((j : Int) < (n : Int)) = false) := Lib.hid dF
       have HE2 : Hid (r = 0) := Lib.hid (by rw [HE.out]; exact HK.out.done (by rw [HN.out]; omega))
       have HB9 := Lib.hid (HB0.out.trans (HB.out.mono HB0.out.size))
       clear HE HB HK HB0 hg
       go_upto_region 10 with fail
       refine wl <| gzw (.bool false) (lss_n rfl j n HD.out) <| wn ?_
       simp only [pu]
       go_upto_region 17 with fail
       refine wl <| gz1 (.int .i64 0) <| wn ?_
       simp only [pu]
       go_wp2_with fail
       go_ret
       rw [HE2.out]
       exact ⟨rfl, HB9.out⟩
end Go.Proofs.Ytglglhcnofbagaa
namespace Go.Proofs.Ytglglhcnofbagaa
attribute [local irreducible] wpList wpQuiet
open Go.RowKit
set_option linter.unusedSimpArgs false
set_option linter.unusedVariables false

theorem build_fd (x : Fld) (b : Option Addr) (d : Nat) (V : World) : (Instr.buildSlice 61 1 #[(0, .agg (fdA x b d))]).run Try.prog V = .ok (.slice (some ⟨V.heap.size, 0, none⟩) 1 1) (V.alloc (.cells (fdA x b d) 66)) := by
 obtain ⟨i0, hi, hz0, hz1, hz2⟩ := info_parts info25
 refine run_buildSlice V 61 66 1 _ (fdA x b d) i0 _ Try.underlying61 hi hz0 (by rw [hz1]; omega) (by rw [hz1]; omega) ?_
 rw [hz1]
 kernel_rfl
end Go.Proofs.Ytglglhcnofbagaa
namespace Go.Proofs.Ytglglhcnofbagaa
set_option maxRecDepth 100000
open Go.RowKit

theorem RowB.fs {w : World} {B : Nat} {v : Value} {ps : List (Fld × Value)} (h : RowB w B v ps) : ∃ a c, v = .slice a ps.length c ∧ ps.length ≤ c ∧ Fs w a ps := by
  obtain ⟨a, c, rfl, hc⟩ := h.form
  refine ⟨a, c, rfl, hc, fun i p hi => ?_⟩
  have hlt : i < ps.length := (List.getElem?_eq_some_iff.1 hi).1
  obtain ⟨g, rfl, hg, hgl⟩ := own_at h.1 (by omega)
  obtain ⟨ba, bc, hb, hs, -⟩ := (h.2 p (List.mem_of_getElem? hi)).sl
  refine ⟨g, 0, ba, bc, rfl, hb, hs, ?_, ?_, ?_, ?_⟩
  · rw [h.1.cellAt _ (by omega), show 0 + i * 4 = i * 4 + 0 by omega, row4_get ps i 0 p hi (by omega)]
    rfl
  · rw [h.1.cellAt _ (by omega), show 0 + i * 4 + 1 = i * 4 + 1 by omega, row4_get ps i 1 p hi (by omega)]
    rfl
  · rw [h.1.cellAt _ (by omega), show 0 + i * 4 + 2 = i * 4 + 2 by omega, row4_get ps i 2 p hi (by omega)]
    rfl
  · rw [h.1.cellAt _ (by omega), show 0 + i * 4 + 3 = i * 4 + 3 by omega, row4_get ps i 3 p hi (by omega)]
    simp only [cellsOf, List.getElem?_cons_succ, List.getElem?_cons_zero, hb]
theorem Fs.below {w w' : World} {a : Option Addr} {ps : List (Fld × Value)} (h : Fs w a ps) (hb : Below w.heap.size w w') : Fs w' a ps := by
  intro i p hi
  obtain ⟨b, off, ba, bc, h1, h2, h3, h4⟩ := h i p hi
  exact ⟨b, off, ba, bc, h1, h2, sl_below h3 hb, h4.below hb⟩

def f1 : Fld := ⟨1, 0, 300, []⟩
def f2 : Fld := ⟨2, 2, 0, [97, 98]⟩
theorem vf1 : Vf f1 := ⟨⟨by decide, by decide, .inl ⟨rfl, rfl⟩⟩, ⟨by decide, by decide⟩, by simp [f1], by simp [f1]⟩
theorem vf2 : Vf f2 := ⟨⟨by decide, by decide, .inr ⟨rfl, rfl⟩⟩, ⟨by decide, by decide⟩, by simp [f2], by simp [f2]⟩
theorem e1 : encI 1 0 300 [] = [8, 172, 2] := by decide +kernel
theorem e2 : [8, 172, 2] ++ encI 2 2 0 [97, 98] = [8, 172, 2, 18, 2, 97, 98] := by decide +kernel
theorem r1 : flds [8, 172, 2, 18, 2, 97, 98] = ([f1, f2], 0, 0) := by
  have h := flds_enc [f1, f2] 8 [] 0 (by intro x hx; simp at hx; rcases hx with rfl | rfl; exact vf1; exact vf2) (by simp) (by decide +kernel)
  have he : [f1, f2].flatMap encF = [8, 172, 2, 18, 2, 97, 98] := by decide +kernel
  rw [he] at h
  exact h
def f3 : Fld := ⟨1, 0, 1, []⟩
theorem vf3 : Vf f3 := ⟨⟨by decide, by decide, .inl ⟨rfl, rfl⟩⟩, ⟨by decide, by decide⟩, by simp [f3], by simp [f3]⟩
theorem r2 : flds [8, 1, 18, 2, 97] = ([], 2, 5) := by
  have he : encF f3 = [8, 1] := by decide +kernel
  have h1 := one_enc f3 vf3 [18, 2, 97]
  rw [he] at h1
  have h2 : onef [18, 2, 97] = (zeroF, 0, 5) := one_short (t := 18) (n := 2) (h := 1) (k := 1) (by decide +kernel) (by unfold goodT; omega) (by decide +kernel) (by omega) (by decide)
  have h3 : flds [8, 1, 18, 2, 97] = fldsG 5 ([] ++ [f3]) (0 + 2) ([8, 1, 18, 2, 97].drop 2) := flds_next (by decide) (by decide) h1
  rw [h3]
  exact flds_err (by decide) (by decide) h2 (by omega)
theorem z2 : szB 2 = 4 := by decide +kernel

end Go.Proofs.Ytglglhcnofbagaa
namespace Go.Proofs.Ytglglhcnofbagaa
attribute [local irreducible] wpList wpQuiet
open Go.RowKit
set_option linter.unusedSimpArgs false
set_option linter.unusedVariables false

/-- A field's bytes, apart from a row. -/
def Apt (w : World) (B : Nat) (v : Value) (p : Fld × Value) : Prop := ∃ a c, p.2 = .slice a p.1.bytes.length c ∧ Sl w a c p.1.bytes ∧ ∀ x, a = some x → B ≤ x.block ∧ x.block < w.heap.size ∧ v.ownBlock ≠ some x.block
def RowS (w : World) (B : Nat) (v : Value) (ps : List (Fld × Value)) : Prop := w.ownsRow B 66 4 v ps.length (row4 ps) ∧ ∀ p, p ∈ ps → Apt w B v p
theorem RowS.nil (w : World) (B : Nat) : RowS w B (.slice none 0 0) [] := ⟨World.ownsRow_nil _ _ _ _, fun p h => by simp at h⟩
theorem Apt.below {w w' : World} {B : Nat} {v : Value} {p : Fld × Value} (h : Apt w B v p) (hb : Below w.heap.size w w') : Apt w' B v p := by
 obtain ⟨a, c, h1, h2, h3⟩ := h
 exact ⟨a, c, h1, sl_below h2 hb, fun x hx => ⟨(h3 x hx).1, Nat.lt_of_lt_of_le (h3 x hx).2.1 hb.size, (h3 x hx).2.2⟩⟩
theorem RowS.below {w w' : World} {B : Nat} {v : Value} {ps : List (Fld × Value)} (h : RowS w B v ps) (hb : Below w.heap.size w w') : RowS w' B v ps := ⟨own_below h.1 hb, fun p hp => (h.2 p hp).below hb⟩
theorem RowS.form {w : World} {B : Nat} {v : Value} {ps : List (Fld × Value)} (h : RowS w B v ps) : ∃ a c, v = .slice a ps.length c ∧ ps.length ≤ c := by
 rcases h.1.2 with ⟨rfl, h0⟩ | ⟨g, cap, cur, rfl, _, _, hcap, _⟩
 ·exact ⟨none, 0, by rw [h0], by omega⟩
 ·exact ⟨_, cap, rfl, hcap⟩
theorem RowS.fs {w : World} {B : Nat} {v : Value} {ps : List (Fld × Value)} (h : RowS w B v ps) : ∃ a c, v = .slice a ps.length c ∧ ps.length ≤ c ∧ Fs w a ps := by
 obtain ⟨a, c, rfl, hc⟩ := h.form
 refine ⟨a, c, rfl, hc, fun i p hi => ?_⟩
 have hlt : i < ps.length := (List.getElem?_eq_some_iff.1 hi).1
 obtain ⟨g, rfl, hg, hgl⟩ := own_at h.1 (by omega)
 obtain ⟨ba, bc, hb, hs, -⟩ := h.2 p (List.mem_of_getElem? hi)
 refine ⟨g, 0, ba, bc, rfl, hb, hs, ?_, ?_, ?_, ?_⟩
 ·rw [h.1.cellAt _ (by omega), show 0 + i * 4 = i * 4 + 0 by omega, row4_get ps i 0 p hi (by omega)]
  rfl
 ·rw [h.1.cellAt _ (by omega), show 0 + i * 4 + 1 = i * 4 + 1 by omega, row4_get ps i 1 p hi (by omega)]
  rfl
 ·rw [h.1.cellAt _ (by omega), show 0 + i * 4 + 2 = i * 4 + 2 by omega, row4_get ps i 2 p hi (by omega)]
  rfl
 ·rw [h.1.cellAt _ (by omega), show 0 + i * 4 + 3 = i * 4 + 3 by omega, row4_get ps i 3 p hi (by omega)]
  simp only [cellsOf, List.getElem?_cons_succ, List.getElem?_cons_zero, hb]
theorem Apt.but {w w' : World} {B g : Nat} {v : Value} {p : Fld × Value} (h : Apt w B v p) (hb : But g w w') (hg : g < B) : Apt w' B v p := by
 obtain ⟨a, c, h1, h2, h3⟩ := h
 refine ⟨a, c, h1, ?_, fun x hx => ⟨(h3 x hx).1, Nat.lt_of_lt_of_le (h3 x hx).2.1 hb.1.size, (h3 x hx).2.2⟩⟩
 rcases h2 with h2 | ⟨x, rfl, hx⟩
 ·exact .inl h2
 ·refine .inr ⟨x, rfl, fun k hk => ?_⟩
  obtain ⟨b, off, rfl, hc⟩ := hx k hk
  have q := (h3 _ rfl).1
  exact ⟨b, off, rfl, (World.cell?_of_block (a := ⟨b, off + k, none⟩) (hb.2 b (World.block_lt_of_cell? w _ hc) (by have : B ≤ b := q; omega))).trans hc⟩
theorem RowS.but {w w' : World} {B g : Nat} {v : Value} {ps : List (Fld × Value)} (h : RowS w B v ps) (hb : But g w w') (hg : g < B) : RowS w' B v ps := ⟨own_but h.1 hb hg, fun p hp => (h.2 p hp).but hb hg⟩
theorem Apt.grown {w w' : World} {B : Nat} {v v' : Value} {p : Fld × Value} (h : Apt w B v p) (hg : w.grownBy w' v.ownBlock) (hat : v'.ownBlock = v.ownBlock ∨ v'.ownBlock = some w.heap.size) : Apt w' B v' p := by
 obtain ⟨a, c, h1, h2, h3⟩ := h
 refine ⟨a, c, h1, ?_, fun x hx => ⟨(h3 x hx).1, Nat.lt_of_lt_of_le (h3 x hx).2.1 hg.size, fun e => ?_⟩⟩
 ·rcases h2 with h2 | ⟨x, rfl, hx⟩
  ·exact .inl h2
  ·refine .inr ⟨x, rfl, fun k hk => ?_⟩
   obtain ⟨b, off, rfl, hc⟩ := hx k hk
   exact ⟨b, off, rfl, hg.cell hc fun e => (h3 _ rfl).2.2 e.symm⟩
 ·rcases hat with h4 | h4
  ·exact (h3 x hx).2.2 (h4.symm.trans e)
  ·have h5 := h4.symm.trans e
   have := (h3 x hx).2.1
   simp only [Option.some.injEq] at h5
   omega
/-- A field is appended. -/
theorem grow_s {w : World} {B : Nat} {v : Value} {ps : List (Fld × Value)} (h : RowS w B v ps) (hB : B ≤ w.heap.size) (x : Fld) (b : Option Addr) (d : Nat) (hx : Apt w B v (x, .slice b x.bytes.length d)) (hl : ps.length ≤ 100000) :
  ∃ v2 V2, (Builtin.append_ #[61, 61] 61 #[v, .slice (some ⟨w.heap.size, 0, none⟩) 1 1]).run Try.prog (w.alloc (.cells (fdA x b d) 66)) = .ok v2 V2 ∧ RowS V2 B v2 (ps ++ [(x, .slice b x.bytes.length d)]) ∧ Below B w V2 := by
 have hba : Below w.heap.size w (w.alloc (.cells (fdA x b d) 66)) := (Below.refl _ w).alloc (Nat.le_refl _) _
 have hO := own_below h.1 hba
 have hsz : (w.alloc (.cells (fdA x b d) 66)).heap.size = w.heap.size + 1 := by simp
 obtain ⟨i0, hi, hz0, hz1, hz2⟩ := info_parts info25
 obtain ⟨v2, V2, hr, hO2, hg, -, hat⟩ := run_append_own_at (P := Try.prog) (w.alloc (.cells (fdA x b d) 66)) B 61 61 66 i0 _ 4 48 (by kernel_rfl) hi hz0 hz1 hz2 (by kernel_rfl) (by omega) v ps.length (row4 ps) hO ⟨w.heap.size, 0, none⟩ 1 1 (cellsOf (x, .slice b x.bytes.length d)) rfl (fun j u hu => by
  rw [Go.WideShapes.add_plain, cell_of_row _ w.heap.size (0 + j) _ 66 (0, 0) (heap_alloc_last w _), Nat.zero_add]
  simpa [cellsOf] using hu) (fun u hu => by
  simp only [cellsOf, List.mem_cons, List.not_mem_nil, or_false] at hu
  rcases hu with rfl | rfl | rfl | rfl <;> rfl) (by unfold maxLen; omega) (by omega) (by omega)
 refine ⟨v2, V2, hr, ⟨by rw [row4_snoc, List.length_append]; exact hO2, fun p hp => ?_⟩, (hba.mono hB).trans ((Below.refl _ _).grown hg (by omega) fun j hj => (hO.lt j hj).1)⟩
 rcases List.mem_append.1 hp with hp | hp
 ·exact ((h.2 p hp).below hba).grown hg hat
 ·obtain rfl : p = (x, .slice b x.bytes.length d) := by simpa using hp
  exact (hx.below hba).grown hg hat
def FldS (w : World) (B : Nat) (ps : List (Fld × Value)) (X : List Fld) (e : Ending) (w' : World) : Prop := ∃ v qs, e = .returned v ∧ qs.map Prod.fst = ps.map Prod.fst ++ X ∧ RowS w' B v qs ∧ Below B w w'
theorem Apt.non (w : World) (B : Nat) (v : Value) (x : Fld) (h : x.bytes = []) : Apt w B v (x, .slice none x.bytes.length 0) := ⟨none, 0, rfl, .inl ⟨rfl, rfl, h⟩, fun y hy => by cases hy⟩
set_option maxRecDepth 100000 in
set_option maxHeartbeats 8000000 in
theorem ref_number2 (v : Value) (ps : List (Fld × Value)) (B : Nat) (k val : Int) (w : World) (h : RowS w B v ps) (hB : B ≤ w.heap.size) (hl : ps.length ≤ 100000) :
  Calls Try.prog 25 #[v, .int .i64 k, .int .u64 val] w (FldS w B ps (if val = 0 then [] else [⟨k, 0, val, []⟩])) := by
 by_cases h0 : val = 0
 ·rw [if_pos h0]
  have HE := Lib.hid (⟨v, ps, rfl, by simp, h, Below.refl _ _⟩ : FldS w B ps [] (.returned v) w)
  clear h
  go_enter Try.func25, Try.ntmps25
  go_upto_region 1 with fail
  refine wl <| gz1 (.int .u64 val) <| gzb (eql_u0 rfl val (decide_eq_true h0)) <| wn ?_
  simp only [pu]
  go_upto_region 2 with fail
  refine wl <| gz2 (v) (v) <| wn ?_
  simp only [pu]
  go_wp2_with fail
  go_ret
  exact HE.out
 ·rw [if_neg h0]
  obtain ⟨v2, V2, hap, hr2, hb2⟩ := grow_s h hB ⟨k, 0, val, []⟩ none 0 (Apt.non w B v _ rfl) hl
  have HE := Lib.hid (⟨v2, _, rfl, by simp, hr2, hb2⟩ : FldS w B ps [⟨k, 0, val, []⟩] (.returned v2) V2)
  clear h hr2 hb2
  go_enter Try.func25, Try.ntmps25
  go_upto_region 1 with fail
  refine wl <| gz1 (.int .u64 val) <| gzb (eql_u0 rfl val (decide_eq_false h0)) <| wn ?_
  simp only [pu]
  go_upto_region 3 with fail
  refine wl <| gz4 (v) (.int .i64 k) (.int .u64 val) (.agg (fdA (⟨k, 0, val, []⟩ : Fld) none 0)) ?_
  simp only [pu]
  refine gw_build (by kernel_rfl) (some 14) rfl 61 1 #[(0, .tmp 13)] rfl #[(0, .agg (fdA (⟨k, 0, val, []⟩ : Fld) none 0))] (by kernel_rfl) (.slice (some ⟨w.heap.size, 0, none⟩) 1 1) _ (build_fd (⟨k, 0, val, []⟩ : Fld) none 0 w) ?_
  simp only [pu]
  refine append_step rfl (some 15) rfl 61 rfl (.tmp 10) (.tmp 14) 61 rfl (v) (.slice (some ⟨w.heap.size, 0, none⟩) 1 1) (v2) V2 (by kernel_rfl) (by kernel_rfl) hap ?_
  simp only [pu]
  refine gz1 (v2) <| wn ?_
  simp only [pu]
  clear hap
  go_wp2_with fail
  go_ret
  exact HE.out
theorem eql_s {ρ : Operand → Value} {o : Oper} {x y : Operand} (ho : o.op = .binOp .eql 9 x y 9) (a b : ByteArray) {t : Bool} (ht : (a == b) = t) (hx : ρ x = .string a) (hy : ρ y = .string b) (w : World) : (execOp ρ o).run Try.prog w = .ok (.value (.bool t)) w := by
 have e : (a.toList == b.toList) = t := by rw [← beq_toListBytes]; exact ht
 unfold execOp
 simp only [ho, hx, hy]
 go_simp
theorem mt_true {s : ByteArray} (h : s.size = 0) : (s == (⟨#[]⟩ : ByteArray)) = true := by
 have e : s = ⟨#[]⟩ := ByteArray.ext (Array.eq_empty_of_size_eq_zero h)
 subst e
 rfl
theorem mt_false {s : ByteArray} (h : s.size ≠ 0) : (s == (⟨#[]⟩ : ByteArray)) = false := by
 rw [Bool.eq_false_iff]
 intro e
 rw [beq_toListBytes] at e
 have e2 := eq_of_beq e
 rw [ByteArray.toList_eq, ByteArray.toList_eq] at e2
 have e3 := congrArg List.length e2
 exact h (by simpa using e3)
theorem conv_s {ρ : Operand → Value} {o : Oper} {x : Operand} (ho : o.op = .convert 9 29 x) (s : ByteArray) (hx : ρ x = .string s) (w : World) : (execOp ρ o).run Try.prog w = .ok (.value (.slice (some ⟨w.heap.size, 0, none⟩) s.size (grownCap w s.size 0 5))) (Lib.bytesWorld w 5 s) := by
 have h := Lib.run_convert_string_bytes (P := Try.prog) w 9 29 5 s Try.underlying9 Try.underlying29 Try.underlying5
 unfold execOp
 simp only [ho, hx, Sem.run_bind, h]
 rfl
/-- What the conversion leaves. -/
theorem conv_world (w : World) (s : ByteArray) (c : Nat) : Below w.heap.size w (Lib.bytesWorld w 5 s) ∧ Sl (Lib.bytesWorld w 5 s) (some ⟨w.heap.size, 0, none⟩) c (nums s) ∧ (Lib.bytesWorld w 5 s).heap.size = w.heap.size + 1 := by
 refine ⟨⟨rfl, rfl, rfl, by rw [Lib.bytesWorld_size]; omega, fun k hk => Lib.bytesWorld_at_old w _ s k hk⟩, .inr ⟨_, rfl, fun k hk => ⟨w.heap.size, 0, rfl, ?_⟩⟩, Lib.bytesWorld_size w _ s⟩
 rw [nums_len] at hk
 rw [Nat.zero_add, Lib.bytesWorld_cell w _ s k hk]
 unfold nums
 simp [List.getD_eq_getElem?_getD, List.getElem?_map]
 cases h : s.data[k]? with
 | none =>
  rw [Array.getElem?_eq_none_iff] at h
  exact absurd hk (by show ¬ k < s.data.size; omega)
 | some u => simp
set_option maxRecDepth 100000 in
set_option maxHeartbeats 8000000 in
theorem ref_text (v : Value) (ps : List (Fld × Value)) (B : Nat) (k : Int) (s : ByteArray) (w : World) (h : RowS w B v ps) (hB : B ≤ w.heap.size) (hl : ps.length ≤ 100000) :
  Calls Try.prog 24 #[v, .int .i64 k, .string s] w (FldS w B ps (if s.size = 0 then [] else [⟨k, 2, 0, nums s⟩])) := by
 by_cases h0 : s.size = 0
 ·rw [if_pos h0]
  have HE := Lib.hid (⟨v, ps, rfl, by simp, h, Below.refl _ _⟩ : FldS w B ps [] (.returned v) w)
  have HQ := mt_true h0
  clear h
  go_enter Try.func24, Try.ntmps24
  go_upto_region 1 with fail
  refine wl <| gz1 (.string s) <| gzw (.bool true) (eql_s rfl s ⟨#[]⟩ HQ) <| wn ?_
  simp only [pu]
  go_upto_region 2 with fail
  refine wl <| gz2 (v) (v) <| wn ?_
  simp only [pu]
  go_wp2_with fail
  go_ret
  exact HE.out
 ·rw [if_neg h0]
  obtain ⟨hbw, hsl, hsz⟩ := conv_world w s (grownCap w s.size 0 5)
  have HQ := mt_false h0
  have CV := fun (ρ : Operand → Value) (o : Oper) (x : Operand) ho hx => conv_s (ρ := ρ) (o := o) (x := x) ho s hx w
  generalize grownCap w s.size 0 5 = d at *
  generalize Lib.bytesWorld w 5 s = W at *
  obtain ⟨q, hq⟩ : ∃ q, w.heap.size = q := ⟨_, rfl⟩
  have hap0 : Apt W B v ((⟨k, 2, 0, nums s⟩ : Fld), .slice (some ⟨q, 0, none⟩) (nums s).length d) := ⟨_, _, rfl, by rw [← hq]; exact hsl, fun x hx => by
   cases hx
   refine ⟨by show B ≤ q; omega, by show q < _; omega, fun e => ?_⟩
   have h4 : q < w.heap.size := (h.1.lt _ e).2
   omega⟩
  obtain ⟨v2, V2, hap, hr2, hb2⟩ := grow_s (h.below hbw) (by omega) ⟨k, 2, 0, nums s⟩ (some ⟨q, 0, none⟩) d hap0 hl
  have HE := Lib.hid (⟨v2, _, rfl, by simp, hr2, (hbw.mono hB).trans hb2⟩ : FldS w B ps [⟨k, 2, 0, nums s⟩] (.returned v2) V2)
  rw [hq] at CV
  rw [← nums_len s] at CV
  clear h hr2 hb2 hap0 hsl hbw hsz hq
  generalize nums s = L at *
  go_enter Try.func24, Try.ntmps24
  go_upto_region 1 with fail
  refine wl <| gz1 (.string s) <| gzw (.bool false) (eql_s rfl s ⟨#[]⟩ HQ) <| wn ?_
  simp only [pu]
  go_upto_region 3 with fail
  refine wl <| gz3 (v) (.int .i64 k) (.string s) ?_
  simp only [pu]
  refine gw_new (by kernel_rfl) (some 13) rfl (.slice (some ⟨q, 0, none⟩) L.length d) W (CV _ _ _ rfl (by kernel_rfl)) ?_
  simp only [pu]
  refine gz1 (.agg (fdA (⟨k, 2, 0, L⟩ : Fld) (some ⟨q, 0, none⟩) d)) ?_
  simp only [pu]
  refine gw_build (by kernel_rfl) (some 15) rfl 61 1 #[(0, .tmp 14)] rfl #[(0, .agg (fdA (⟨k, 2, 0, L⟩ : Fld) (some ⟨q, 0, none⟩) d))] (by kernel_rfl) (.slice (some ⟨W.heap.size, 0, none⟩) 1 1) _ (build_fd (⟨k, 2, 0, L⟩ : Fld) (some ⟨q, 0, none⟩) d W) ?_
  simp only [pu]
  refine append_step rfl (some 16) rfl 61 rfl (.tmp 10) (.tmp 15) 61 rfl (v) (.slice (some ⟨W.heap.size, 0, none⟩) 1 1) (v2) V2 (by kernel_rfl) (by kernel_rfl) hap ?_
  simp only [pu]
  refine gz1 (v2) <| wn ?_
  simp only [pu]
  clear hap CV
  go_wp2_with fail
  go_ret
  exact HE.out
end Go.Proofs.Ytglglhcnofbagaa
