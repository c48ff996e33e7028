/-
 The reference's Runes and IsMemo: contracts.
-/
import Derived.Test.YtplfineaomneiaaDoorUR
namespace Go.Proofs.YtplfineaomneiaaDoor
attribute [local irreducible] wpList wpQuiet
open Go.RowKit
set_option linter.unusedSimpArgs false
set_option linter.unusedVariables false

theorem runs_end {L : List Int} {i : Nat} (h : ¬ i < L.length) : runs L i = some 0 := by rw [runs, dif_neg h]
theorem runs_bad {L : List Int} {i : Nat} (h : i < L.length) (hk : runK L i = 0) : runs L i = none := by rw [runs, dif_pos h, if_pos hk]
theorem runs_step {L : List Int} {i : Nat} (h : i < L.length) (hk : runK L i ≠ 0) : runs L i = (runs L (i + runK L i)).map (· + 1) := by rw [runs, dif_pos h, if_neg hk]
/-- So many runes ahead of a place. -/
def Ran (L : List Int) (i n : Nat) : Prop := runs L 0 = (runs L i).map (· + n)
theorem Ran.zero (L : List Int) : Ran L 0 0 := by
 unfold Ran
 cases runs L 0 <;> rfl
theorem Ran.step {L : List Int} {i n : Nat} (h : Ran L i n) (hi : i < L.length) (hk : runK L i ≠ 0) : Ran L (i + runK L i) (n + 1) := by
 unfold Ran at h ⊢
 rw [h, runs_step hi hk]
 cases runs L (i + runK L i) with
 | none => rfl
 | some m => simp; omega
theorem Ran.bad {L : List Int} {i n : Nat} (h : Ran L i n) (hi : i < L.length) (hk : runK L i = 0) : runs L 0 = none := by
 unfold Ran at h
 rw [h, runs_bad hi hk]
 rfl
theorem Ran.done {L : List Int} {i n : Nat} (h : Ran L i n) (hi : ¬ i < L.length) : runs L 0 = some n := by
 unfold Ran at h
 rw [h, runs_end hi]
 simp
def runsV : Option Nat → Value
 | none => .tuple #[.int .i64 0, .bool false]
 | some n => .tuple #[.int .i64 n, .bool true]
theorem eql_i0 {ρ : Operand → Value} {o : Oper} {x y : Operand} (ho : o.op = .binOp .eql 3 x y 3) (a : Int) {t : Bool} (ht : decide (a = 0) = t) (hx : ρ x = .int .i64 a) (hy : ρ y = .int .i64 0) (w : World) : (execOp ρ o).run Tryd.prog w = .ok (.value (.bool t)) w := by
 have e : (a == 0) = t := ht
 unfold execOp
 simp only [ho, hx, hy]
 go_simp
set_option maxRecDepth 100000 in
set_option maxHeartbeats 8000000 in
theorem ref_runes (s : ByteArray) (w : World) (hl : s.size ≤ 140737488355328) : Calls Tryd.prog 53 #[.string s] w fun e w' => e = .returned (runsV (runs (nums s) 0)) ∧ w = w' := by
 have HR := Lib.hid (fun (i : Nat) (V : World) (hi : i < s.size) => ref_rune s i V hi hl)
 have HL := Lib.hid (nums_len s)
 obtain ⟨L, hL⟩ : ∃ L, nums s = L := ⟨_, rfl⟩
 rw [hL] at HR HL ⊢
 have HR0 := Lib.hid (Ran.zero L)
 obtain ⟨r, hr⟩ : ∃ r, runs L 0 = r := ⟨_, rfl⟩
 have HRV := Lib.hid hr
 rw [hr]
 clear hL hr
 obtain ⟨n, hn⟩ : ∃ n, s.size = n := ⟨_, rfl⟩
 rw [hn] at hl
 go_enter Tryd.func53, Tryd.ntmps53
 go_upto_region 1 with fail
 refine wl <| gz1 (.int .i64 0) <| wn ?_
 simp only [pu]
 go_upto_region 2 with fail
 refine wl <| gz1 (.int .i64 0) <| wn ?_
 simp only [pu]
 go_wp2_with fail
 go_loopg [4, 5] n (fun gg s4 s5 wx => ∃ i m : Nat, s4 = .int .i64 m ∧ s5 = .int .i64 i ∧ i ≤ n ∧ m ≤ i ∧ Hid (Ran L i m) ∧ wx = w ∧ n - i ≤ gg)
 case atStart => exact ⟨0, 0, rfl, rfl, by omega, by omega, HR0, rfl, by omega⟩
 case round =>
  obtain ⟨i, m, rfl, rfl, hi, hmi, HM, rfl, hg⟩ := hrel
  clear HR0
  by_cases hlt : i < n
  ·have HD : Hid (decide ((i : Int) < (n : Int)) = true) := Lib.hid dT
   have CR := HR.out i wr (by omega)
   have hk4 := run_le L i
   have hkl := run_len (L := L) (i := i) (by rw [HL.out]; omega)
   have HST := Lib.hid (HM.out.step (by rw [HL.out]; omega))
   have HBD := Lib.hid (HM.out.bad (by rw [HL.out]; omega))
   rw [HL.out] at hkl
   clear HM
   generalize runK L i = k at *
   go_upto_region 3 with fail
   refine wl <| gz2 (.int .i64 i) (.string s) <| gzv (.int .i64 n) (by rw [← hn]; kernel_rfl) <| gzw (.bool true) (lss_n rfl i n HD.out) <| wn ?_
   simp only [pu]
   go_upto_region 4 with fail
   refine wl <| gz2 (.string s) (.int .i64 i) <| gzc (.int .i64 k) (fun w' => wr = w') CR (fun W hW => ?_)
   subst hW
   simp only [pu]
   refine gz1 (.int .i64 k) <| wn ?_
   simp only [pu]
   go_upto_region 5 with fail
   by_cases h0 : k = 0
   ·have HE : Hid (r = none) := Lib.hid (by rw [← HRV.out]; exact HBD.out h0)
    subst h0
    clear HST HBD HRV CR HR
    refine wl <| gz1 (.int .i64 (0 : Nat)) <| gzw (.bool true) (eql_i0 rfl 0 rfl) <| wn ?_
    simp only [pu]
    go_upto_region 6 with fail
    refine wl <| gz2 (.int .i64 0) (.bool false) <| wn ?_
    simp only [pu]
    go_wp2_with fail
    go_ret2
    rw [HE.out]
    exact ⟨rfl, rfl⟩
   ·have HS2 := Lib.hid (HST.out h0)
    have HG : Hid (i < n ∧ 0 < k ∧ i + k ≤ n ∧ n - i ≤ gk) := Lib.hid ⟨hlt, by omega, by rw [← hn]; exact hkl, hg⟩
    clear HST HBD CR hg
    refine wl <| gz1 (.int .i64 k) <| gzb (eql_i0 rfl k dF) <| wn ?_
    simp only [pu]
    go_upto_region 7 with fail
    refine wl <| gz2 (.int .i64 i) (.int .i64 k) <| gzw (.int .i64 (i + k : Nat)) (add_nat rfl i k (by omega)) <| gz1 (.int .i64 (i + k : Nat)) <| wn ?_
    simp only [pu]
    go_upto_region 8 with fail
    refine wl <| gz1 (.int .i64 m) <| gzw (.int .i64 (m + 1 : Nat)) (add_nat rfl m 1 (by omega)) <| gz1 (.int .i64 (m + 1 : Nat)) <| wn ?_
    simp only [pu]
    go_wp2_with fail
    go_roundg (n - (i + k))
    case measure => have := HG.out; omega
    case rel => exact ⟨i + k, m + 1, rfl, rfl, HG.out.2.2.1, by have := HG.out; omega, HS2, rfl, Nat.le_refl _⟩
  ·have HD : Hid (decide ((i : Int) < (n : Int)) = false) := Lib.hid dF
   have HE : Hid (r = some m) := Lib.hid (by rw [← HRV.out]; exact HM.out.done (by rw [HL.out]; omega))
   clear HM HRV HR hg
   go_upto_region 3 with fail
   refine wl <| gz2 (.int .i64 i) (.string s) <| gzv (.int .i64 n) (by rw [← hn]; kernel_rfl) <| gzw (.bool false) (lss_n rfl i n HD.out) <| wn ?_
   simp only [pu]
   go_upto_region 9 with fail
   refine wl <| gz3 (.int .i64 m) (.int .i64 m) (.bool true) <| wn ?_
   simp only [pu]
   go_wp2_with fail
   go_ret2
   rw [HE.out]
   exact ⟨rfl, rfl⟩
end Go.Proofs.YtplfineaomneiaaDoor
