/-
 The reference's Mul, Add, Unsigned, Decimal, Number, digits: contracts.
-/
import Derived.Test.YtplfineaomneiaaDoorRV
namespace Go.Proofs.YtplfineaomneiaaDoor
attribute [local irreducible] wpList wpQuiet
open Go.RowKit
set_option maxRecDepth 100000
set_option linter.unusedSimpArgs false
set_option linter.unusedVariables false

section
variable {ρ : Operand → Value} {o : Oper} {x y : Operand}
theorem rem_w (ho : o.op = .binOp .rem 22 x y 22) (a b : Nat) (hb : b ≠ 0) (hx : ρ x = .int .u64 a) (hy : ρ y = .int .u64 b) (w : World) : (execOp ρ o).run Tryd.prog w = .ok (.value (.int .u64 (a % b : Nat))) w := by
 have h0 : ¬ ((b : Int) = 0) := by omega
 have hw : (a : Int).tmod b = ((a % b : Nat) : Int) := by rw [Int.tmod_eq_emod_of_nonneg (by omega)]; exact (Int.natCast_emod a b).symm
 unfold execOp
 simp only [ho, hx, hy]
 go_simp
theorem quo_w (ho : o.op = .binOp .quo 22 x y 22) (a b q : Nat) (hq : a / b = q) (ha : a < 18446744073709551616) (hb : b ≠ 0) (hx : ρ x = .int .u64 a) (hy : ρ y = .int .u64 b) (w : World) : (execOp ρ o).run Tryd.prog w = .ok (.value (.int .u64 q)) w := by
 have h0 : ¬ ((b : Int) = 0) := by omega
 have hl : q ≤ a := by rw [← hq]; exact Nat.div_le_self a b
 have hc : (a : Int) / b = (q : Int) := by rw [← hq]; exact (Int.natCast_ediv a b).symm
 have hc2 : (a : Int).tdiv b = (q : Int) := by rw [Int.tdiv_eq_ediv_of_nonneg (by omega)]; exact hc
 have hw : IntKind.u64.wrap (q : Int) = q := by rw [IntKind.wrap_u64]; omega
 clear hq
 unfold execOp
 simp only [ho, hx, hy]
 go_simp
theorem sub_w (ho : o.op = .binOp .sub 22 x y 22) (a b : Nat) (h : b ≤ a) (ha : a < 18446744073709551616) (hx : ρ x = .int .u64 a) (hy : ρ y = .int .u64 b) (w : World) : (execOp ρ o).run Tryd.prog w = .ok (.value (.int .u64 (a - b : Nat))) w := by
 have hw : IntKind.u64.wrap ((a : Int) - b) = ((a - b : Nat) : Int) := by rw [IntKind.wrap_u64]; omega
 unfold execOp
 simp only [ho, hx, hy]
 go_simp
theorem add_w (ho : o.op = .binOp .add 22 x y 22) (a b : Nat) (h : a + b < 18446744073709551616) (hx : ρ x = .int .u64 a) (hy : ρ y = .int .u64 b) (w : World) : (execOp ρ o).run Tryd.prog w = .ok (.value (.int .u64 (a + b : Nat))) w := by
 have hw : IntKind.u64.wrap ((a : Int) + b) = ((a + b : Nat) : Int) := by rw [IntKind.wrap_u64]; omega
 unfold execOp
 simp only [ho, hx, hy]
 go_simp
theorem mul_w (ho : o.op = .binOp .mul 22 x y 22) (a b : Nat) (h : a * b < 18446744073709551616) (hx : ρ x = .int .u64 a) (hy : ρ y = .int .u64 b) (w : World) : (execOp ρ o).run Tryd.prog w = .ok (.value (.int .u64 (a * b : Nat))) w := by
 have hw : IntKind.u64.wrap ((a : Int) * b) = ((a * b : Nat) : Int) := by rw [IntKind.wrap_u64, ← Int.natCast_mul]; omega
 unfold execOp
 simp only [ho, hx, hy]
 go_simp
theorem gtr_wn (ho : o.op = .binOp .gtr 22 x y 22) (a b : Nat) {t : Bool} (ht : decide (b < a) = t) (hx : ρ x = .int .u64 a) (hy : ρ y = .int .u64 b) (w : World) : (execOp ρ o).run Tryd.prog w = .ok (.value (.bool t)) w :=
 gtr_w ho a b (by rw [← ht]; exact decide_eq_decide.2 (by omega)) hx hy w
theorem neq_wn (ho : o.op = .binOp .neq 22 x y 22) (a b : Nat) {t : Bool} (ht : decide (a ≠ b) = t) (hx : ρ x = .int .u64 a) (hy : ρ y = .int .u64 b) (w : World) : (execOp ρ o).run Tryd.prog w = .ok (.value (.bool t)) w :=
 neq_w ho a b (by rw [← ht]; exact decide_eq_decide.2 (by omega)) hx hy w
theorem eql_wn (ho : o.op = .binOp .eql 22 x y 22) (a b : Nat) {t : Bool} (ht : decide (a = b) = t) (hx : ρ x = .int .u64 a) (hy : ρ y = .int .u64 b) (w : World) : (execOp ρ o).run Tryd.prog w = .ok (.value (.bool t)) w :=
 eql_w ho a b (by rw [← ht]; exact decide_eq_decide.2 (by omega)) hx hy w
theorem leq_wn (ho : o.op = .binOp .leq 22 x y 22) (a b : Nat) {t : Bool} (ht : decide (a ≤ b) = t) (hx : ρ x = .int .u64 a) (hy : ρ y = .int .u64 b) (w : World) : (execOp ρ o).run Tryd.prog w = .ok (.value (.bool t)) w := by
 have ht2 : decide ((a : Int) ≤ b) = t := by rw [← ht]; exact decide_eq_decide.2 (by omega)
 rw [← ht2]
 unfold execOp
 simp only [ho, hx, hy]
 go_simp
theorem cv_w8 (ho : o.op = .convert 22 5 x) (a : Nat) (h : a < 256) (hx : ρ x = .int .u64 a) (w : World) : (execOp ρ o).run Tryd.prog w = .ok (.value (.int .u8 a)) w := by
 have hw : IntKind.u8.wrap (a : Int) = a := by rw [IntKind.wrap_u8]; omega
 unfold execOp
 simp only [ho, hx]
 go_simp
theorem cv_8w (ho : o.op = .convert 5 22 x) (a : Nat) (h : a < 256) (hx : ρ x = .int .u8 a) (w : World) : (execOp ρ o).run Tryd.prog w = .ok (.value (.int .u64 a)) w := by
 have hw : IntKind.u64.wrap (a : Int) = a := by rw [IntKind.wrap_u64]; omega
 unfold execOp
 simp only [ho, hx]
 go_simp
theorem sub_8 (ho : o.op = .binOp .sub 5 x y 5) (c : Int) (d : Nat) (h : c - 48 = d) (hd : d < 256) (hx : ρ x = .int .u8 c) (hy : ρ y = .int .u8 48) (w : World) : (execOp ρ o).run Tryd.prog w = .ok (.value (.int .u8 d)) w := by
 have hw : IntKind.u8.wrap (c - 48) = d := by rw [IntKind.wrap_u8]; omega
 have hw2 : IntKind.u8.wrap (d : Int) = d := by rw [IntKind.wrap_u8]; omega
 unfold execOp
 simp only [ho, hx, hy]
 go_simp
theorem cv_iw (ho : o.op = .convert 3 22 x) (a : Int) (h : 0 ≤ a) (h2 : a < 18446744073709551616) (hx : ρ x = .int .i64 a) (w : World) : (execOp ρ o).run Tryd.prog w = .ok (.value (.int .u64 a.toNat)) w := by
 have hw : IntKind.u64.wrap a = (a.toNat : Int) := by rw [IntKind.wrap_u64]; omega
 unfold execOp
 simp only [ho, hx]
 go_simp
theorem cv_in (ho : o.op = .convert 3 22 x) (a : Int) (h : a < 0) (h2 : -9223372036854775808 ≤ a) (hx : ρ x = .int .i64 a) (w : World) : (execOp ρ o).run Tryd.prog w = .ok (.value (.int .u64 (18446744073709551616 - (-a).toNat : Nat))) w := by
 have hw : IntKind.u64.wrap a = ((18446744073709551616 - (-a).toNat : Nat) : Int) := by rw [IntKind.wrap_u64]; omega
 unfold execOp
 simp only [ho, hx]
 go_simp
theorem neg_w (ho : o.op = .unOp .neg 22 x) (a : Nat) (h : 0 < a) (h2 : a < 18446744073709551616) (hx : ρ x = .int .u64 (18446744073709551616 - a : Nat)) (w : World) : (execOp ρ o).run Tryd.prog w = .ok (.value (.int .u64 a)) w := by
 have hw : IntKind.u64.wrap (-((18446744073709551616 - a : Nat) : Int)) = a := by rw [IntKind.wrap_u64]; omega
 unfold execOp
 simp only [ho, hx]
 go_simp
theorem add_s (ho : o.op = .binOp .add 9 x y 9) (a b c : ByteArray) (h : a ++ b = c) (hl : a.size + b.size ≤ 9223372036854775807) (hx : ρ x = .string a) (hy : ρ y = .string b) (w : World) : (execOp ρ o).run Tryd.prog w = .ok (.value (.string c)) w := by
 subst h
 unfold execOp
 simp only [ho, hx, hy]
 go_simp
theorem conv_b1 (ho : o.op = .convert 38 9 x) (n : Int) {w : World} {g k : Nat} (hX : Bx w g #[.int .u8 n] k) (hx : ρ x = .slice (some ⟨g, 0, none⟩) 1 1) : (execOp ρ o).run Tryd.prog w = .ok (.value (.string (strOfNums [n]))) w := by
 have h := run_convert_bytes_arg (P := Tryd.prog) w 38 5 (by kernel_rfl) (by kernel_rfl) g 0 1 1 [n] rfl (fun i hi => by
  obtain rfl : i = 0 := by omega
  exact cell_of_row w g 0 #[.int .u8 n] k (0, 0) hX) 9 (by kernel_rfl)
 unfold execOp
 simp only [ho, hx, Sem.run_bind, h]
 rfl
end
theorem infoB8 : (Tryd.prog.info? 5).map (fun i => (i.zero, i.size, i.bytes)) = some (some (.int .u8 0), 1, 1) := by kernel_rfl
theorem build_b1 (n : Int) (V : World) : (Instr.buildSlice 38 1 #[(0, .int .u8 n)]).run Tryd.prog V = .ok (.slice (some ⟨V.heap.size, 0, none⟩) 1 1) (V.alloc (.cells #[.int .u8 n] 5)) := by
 obtain ⟨i0, hi, hz0, hz1, hz2⟩ := info_parts infoB8
 refine run_buildSlice V 38 5 1 _ #[.int .u8 n] i0 _ Tryd.underlying38 hi hz0 (by rw [hz1]; omega) (by rw [hz1]; omega) ?_
 rw [hz1]
 kernel_rfl
theorem nums_app (a b : ByteArray) : nums (a ++ b) = nums a ++ nums b := by
 unfold nums
 rw [ByteArray.data_append, Array.toList_append, List.map_append]
theorem str_app (A B : List Int) : strOfNums (A ++ B) = strOfNums A ++ strOfNums B := by
 apply ByteArray.ext
 rw [ByteArray.data_append]
 unfold strOfNums
 simp
set_option maxRecDepth 100000 in
set_option maxHeartbeats 8000000 in
theorem r_mul (a b : Nat) (ha : a < 18446744073709551616) (hb : b < 18446744073709551616) (w : World) : Calls Tryd.prog 83 #[.int .u64 a, .int .u64 b] w fun e w' => e = .returned (if a * b < 18446744073709551616 then .tuple #[.int .u64 (a * b : Nat), .bool true] else .tuple #[.int .u64 0, .bool false]) ∧ w = w' := by
 have HD : Hid (a ≠ 0 → ((18446744073709551615 / a < b ↔ ¬ a * b < 18446744073709551616))) := Lib.hid fun h0 => by
  rw [Nat.div_lt_iff_lt_mul (by omega), Nat.mul_comm b a]
  omega
 obtain ⟨z, hz⟩ : ∃ z, (if a * b < 18446744073709551616 then Value.tuple #[.int .u64 (a * b : Nat), .bool true] else .tuple #[.int .u64 0, .bool false]) = z := ⟨_, rfl⟩
 rw [hz]
 go_enter Tryd.func83, Tryd.ntmps83
 go_upto_region 1 with fail
 by_cases h0 : a = 0
 ·skip
  rw [if_pos (by rw [h0, Nat.zero_mul]; omega)] at hz
  obtain rfl := hz
  have HZ : Hid (a * b < 18446744073709551616) := Lib.hid (by rw [h0, Nat.zero_mul]; omega)
  go_upto_region 1 with fail
  refine wl <| gz1 (.int .u64 a) <| gzb (neq_wn rfl (a) (0) dF) <| gz6 (.bool false) undef undef undef undef (.bool false) <| wn ?_
  simp only [pu]
  go_upto_region 3 with fail
  refine wl <| gz2 (.int .u64 a) (.int .u64 b) <| gzw (.int .u64 (a * b : Nat)) (mul_w rfl a b HZ.out) <| gz2 (.int .u64 (a * b : Nat)) (.bool true) <| wn ?_
  simp only [pu]
  go_wp2_with fail
  go_ret2
  exact ⟨rfl, rfl⟩
 ·skip
  have hd := HD.out h0
  by_cases h1 : a * b < 18446744073709551616
  ·skip
   rw [if_pos h1] at hz
   obtain rfl := hz
   have h2 : ¬ 18446744073709551615 / a < b := by rw [hd]; exact not_not_intro h1
   have H1 := Lib.hid h1
   clear hd HD h1
   go_upto_region 1 with fail
   refine wl <| gz1 (.int .u64 a) <| gzb (neq_wn rfl (a) (0) (decide_eq_true (h0))) <| gz3 (.bool true) (.int .u64 b) (.int .u64 a) <|
    gzw (.int .u64 (18446744073709551615 / a : Nat)) (quo_w rfl 18446744073709551615 a _ rfl (by omega) h0) <| gzb (gtr_wn rfl (b) (18446744073709551615 / a) (decide_eq_false (h2))) <| gz1 (.bool false) <|
    wpList_nil ?_
   simp only [pu]
   go_upto_region 3 with fail
   refine wl <| gz2 (.int .u64 a) (.int .u64 b) <| gzw (.int .u64 (a * b : Nat)) (mul_w rfl a b H1.out) <| gz2 (.int .u64 (a * b : Nat)) (.bool true) <| wn ?_
   simp only [pu]
   go_wp2_with fail
   go_ret2
   exact ⟨rfl, rfl⟩
  ·skip
   rw [if_neg h1] at hz
   obtain rfl := hz
   have h2 : 18446744073709551615 / a < b := by rw [hd]; exact h1
   have H1 := Lib.hid h1
   clear hd HD h1
   go_upto_region 1 with fail
   refine wl <| gz1 (.int .u64 a) <| gzb (neq_wn rfl (a) (0) (decide_eq_true (h0))) <| gz3 (.bool true) (.int .u64 b) (.int .u64 a) <|
    gzw (.int .u64 (18446744073709551615 / a : Nat)) (quo_w rfl 18446744073709551615 a _ rfl (by omega) h0) <| gzb (gtr_wn rfl (b) (18446744073709551615 / a) (decide_eq_true (h2))) <| gz1 (.bool true) <| wn ?_
   simp only [pu]
   go_upto_region 2 with fail
   refine wl <| gz2 (.int .u64 0) (.bool false) <| wn ?_
   simp only [pu]
   go_wp2_with fail
   go_ret2
   exact ⟨rfl, rfl⟩
set_option maxRecDepth 100000 in
set_option maxHeartbeats 8000000 in
theorem r_add (a b : Nat) (ha : a < 18446744073709551616) (hb : b < 18446744073709551616) (w : World) : Calls Tryd.prog 84 #[.int .u64 a, .int .u64 b] w fun e w' => e = .returned (if a + b < 18446744073709551616 then .tuple #[.int .u64 (a + b : Nat), .bool true] else .tuple #[.int .u64 0, .bool false]) ∧ w = w' := by
 obtain ⟨z, hz⟩ : ∃ z, (if a + b < 18446744073709551616 then Value.tuple #[.int .u64 (a + b : Nat), .bool true] else .tuple #[.int .u64 0, .bool false]) = z := ⟨_, rfl⟩
 rw [hz]
 go_enter Tryd.func84, Tryd.ntmps84
 go_upto_region 1 with fail
 by_cases h1 : a + b < 18446744073709551616
 ·skip
  rw [if_pos h1] at hz
  obtain rfl := hz
  go_upto_region 1 with fail
  refine wl <| gz2 (.int .u64 a) (.int .u64 b) <| gzw (.int .u64 (18446744073709551615 - b : Nat)) (sub_w rfl 18446744073709551615 b (by omega) (by omega)) <|
   gzb (gtr_wn rfl (a) (18446744073709551615 - b) dF) <| wn ?_
  simp only [pu]
  go_upto_region 3 with fail
  refine wl <| gz2 (.int .u64 a) (.int .u64 b) <| gzw (.int .u64 (a + b : Nat)) (add_w rfl a b h1) <| gz2 (.int .u64 (a + b : Nat)) (.bool true) <| wn ?_
  simp only [pu]
  go_wp2_with fail
  go_ret2
  exact ⟨rfl, rfl⟩
 ·skip
  rw [if_neg h1] at hz
  obtain rfl := hz
  go_upto_region 1 with fail
  refine wl <| gz2 (.int .u64 a) (.int .u64 b) <| gzw (.int .u64 (18446744073709551615 - b : Nat)) (sub_w rfl 18446744073709551615 b (by omega) (by omega)) <|
   gzb (gtr_wn rfl (a) (18446744073709551615 - b) dT) <| wn ?_
  simp only [pu]
  go_upto_region 2 with fail
  refine wl <| gz2 (.int .u64 0) (.bool false) <| wn ?_
  simp only [pu]
  go_wp2_with fail
  go_ret2
  exact ⟨rfl, rfl⟩
theorem dec_last {n m : Nat} {s : ByteArray} (h : decN n = decN m ++ nums s) (hm : m < 10) : strOfNums [((48 + m % 10 : Nat) : Int)] ++ s = strOfNums (decN n) := by
 rw [h, str_app, str_nums, show decN m = [((48 + m : Nat) : Int)] by rw [decN, if_pos hm], Nat.mod_eq_of_lt hm]
theorem dec_step {n m : Nat} {s : ByteArray} (h : decN n = decN m ++ nums s) (hm : ¬ m < 10) : decN n = decN (m / 10) ++ nums (strOfNums [((48 + m % 10 : Nat) : Int)] ++ s) := by
 have h8 : ∀ x, x ∈ [((48 + m % 10 : Nat) : Int)] → W8 x := fun x hx => by
  rw [List.mem_singleton] at hx
  subst hx
  exact ⟨by omega, by omega⟩
 rw [h, nums_app, nums_str _ h8, ← List.append_assoc, decN, if_neg hm]
set_option maxRecDepth 100000 in
set_option maxHeartbeats 8000000 in
theorem r_uns (n : Nat) (hn : n < 18446744073709551616) (w : World) : Calls Tryd.prog 25 #[.int .u64 n] w fun e w' => e = .returned (.string (strOfNums (decN n))) ∧ Below w.heap.size w w' := by
 have HL : Hid (∀ m s, decN n = decN m ++ nums s → m < 10 → strOfNums [((48 + m % 10 : Nat) : Int)] ++ s = strOfNums (decN n)) := Lib.hid fun m s h hm => dec_last h hm
 have HS : Hid (∀ m s, decN n = decN m ++ nums s → ¬ m < 10 → decN n = decN (m / 10) ++ nums (strOfNums [((48 + m % 10 : Nat) : Int)] ++ s)) := Lib.hid fun m s h hm => dec_step h hm
 have HDL : Hid ((decN n).length ≤ 20) := Lib.hid (dec_len 19 n (by omega))
 have H0 : Hid (decN n = decN n ++ nums ⟨#[]⟩) := Lib.hid (List.append_nil _).symm
 obtain ⟨z, hz⟩ : ∃ z, strOfNums (decN n) = z := ⟨_, rfl⟩
 rw [hz] at HL ⊢
 obtain ⟨D, hD⟩ : ∃ D, decN n = D := ⟨_, rfl⟩
 have H0' : Hid (D = decN n ++ nums ⟨#[]⟩) := Lib.hid (hD.symm.trans H0.out)
 rw [hD] at HL HS HDL
 clear hz hD H0
 go_enter Tryd.func25, Tryd.ntmps25
 go_upto_region 1 with fail
 refine wl <| gz1 (.string ⟨#[]⟩) <| wn ?_
 simp only [pu]
 go_wp2_with fail
 go_loopg [0, 3] n (fun gg s0 s3 wx => ∃ (m : Nat) (s : ByteArray), s0 = .int .u64 m ∧ s3 = .string s ∧ m ≤ gg ∧ m < 18446744073709551616 ∧ Hid (D = decN m ++ nums s) ∧ Hid (Below w.heap.size w wx))
 case atStart => exact ⟨n, _, rfl, rfl, by omega, hn, H0', Lib.hid (Below.refl _ _)⟩
 case round =>
  obtain ⟨m, s, hs0, hs3, hg, hm, HP, HR⟩ := hrel
  obtain rfl := hs0
  obtain rfl := hs3
  clear H0'
  have hXA : Bx (wr.alloc (.cells #[.int .u8 ((48 + m % 10 : Nat) : Int)] 5)) wr.heap.size #[.int .u8 ((48 + m % 10 : Nat) : Int)] 5 := heap_alloc_last wr _
  have hbA : Below wr.heap.size wr (wr.alloc (.cells #[.int .u8 ((48 + m % 10 : Nat) : Int)] 5)) := (Below.refl _ wr).alloc (Nat.le_refl _) _
  have hbd := build_b1 ((48 + m % 10 : Nat) : Int) wr
  generalize wr.alloc (.cells #[.int .u8 ((48 + m % 10 : Nat) : Int)] 5) = V1 at *
  have HR1 := Lib.hid (HR.out.trans (hbA.mono HR.out.size))
  have hl := HL.out m s HP.out
  have hs := HS.out m s HP.out
  have hlt8 : 48 + m % 10 < 256 := by omega
  have hsz : (strOfNums [((48 + m % 10 : Nat) : Int)]).size + s.size ≤ 9223372036854775807 := by
   have h1 := congrArg List.length HP.out
   rw [List.length_append, nums_len] at h1
   have h2 := HDL.out
   rw [strOfNums_size]
   show 1 + s.size ≤ _
   omega
  have hlt9 : 48 + m % 10 < 18446744073709551616 := by omega
  obtain ⟨x, hx⟩ : ∃ x, 48 + m % 10 = x := ⟨_, rfl⟩
  obtain ⟨s2, hs2⟩ : ∃ s2, strOfNums [(x : Int)] ++ s = s2 := ⟨_, rfl⟩
  rw [hx] at hXA hbd hl hs hlt8 hlt9 hsz
  rw [hs2] at hl hs
  have HL2 := Lib.hid hl
  have HS2 := Lib.hid hs
  have HX := Lib.hid hx
  clear hl hs HP HR hbA hx
  go_upto_region 2 with fail
  refine wl <| gz1 (.int .u64 m) <| gzw (.int .u64 (m % 10 : Nat)) (rem_w rfl m 10 (by omega)) <| gzv (.int .u64 x) ((by rw [← HX.out]; exact add_w rfl 48 (m % 10) (by rw [HX.out]; exact hlt9) (by kernel_rfl) (by kernel_rfl) _)) <|
   gzv (.int .u8 x) (cv_w8 rfl x hlt8 (by kernel_rfl) _) ?_
  simp only [pu]
  refine gw_build (by kernel_rfl) (some 8) rfl 38 1 #[(0, .tmp 7)] rfl #[(0, .int .u8 x)] (by kernel_rfl) (.slice (some ⟨wr.heap.size, 0, none⟩) 1 1) _ hbd ?_
  simp only [pu]
  refine gzv (.string (strOfNums [(x : Int)])) (conv_b1 rfl (x : Int) hXA (by kernel_rfl)) <| gz1 (.string s) <| gzw (.string s2) (add_s rfl _ _ _ hs2 hsz) <| gz1 (.string s2) <| wn ?_
  simp only [pu]
  clear hXA hbd hs2 hsz
  go_upto_region 3 with fail
  refine wl <| gz1 (.int .u64 m) <| gzw (.int .u64 (m / 10 : Nat)) (quo_w rfl m 10 _ rfl hm (by omega)) <| gz1 (.int .u64 (m / 10 : Nat)) <| wn ?_
  simp only [pu]
  by_cases h0 : m / 10 = 0
  ·skip
   obtain rfl := HL2.out (by omega)
   go_upto_region 4 with fail
   refine wl <| gz1 (.int .u64 (m / 10 : Nat)) <| gzb (eql_wn rfl (m / 10) (0) (decide_eq_true (h0))) <| wn ?_
   simp only [pu]
   go_upto_region 5 with fail
   refine wl <| gz2 (.string s2) (.string s2) <| wn ?_
   simp only [pu]
   go_wp2_with fail
   go_ret
   exact ⟨rfl, HR1.out⟩
  ·skip
   have HP2 := Lib.hid (HS2.out (by omega))
   go_upto_region 4 with fail
   refine wl <| gz1 (.int .u64 (m / 10 : Nat)) <| gzb (eql_wn rfl (m / 10) (0) (decide_eq_false (h0))) <| wn ?_
   simp only [pu]
   go_wp2_with fail
   go_roundg (m / 10)
   case measure => omega
   case rel => exact ⟨m / 10, s2, rfl, rfl, by omega, by omega, HP2, HR1⟩
set_option maxRecDepth 100000 in
set_option maxHeartbeats 8000000 in
theorem r_dec (n : Int) (h1 : -9223372036854775808 ≤ n) (h2 : n < 9223372036854775808) (w : World) : Calls Tryd.prog 36 #[.int .i64 n] w fun e w' => e = .returned (.string (strOfNums (decI n))) ∧ Below w.heap.size w w' := by
 obtain ⟨s2, hs2⟩ : ∃ s2, strOfNums (decI n) = s2 := ⟨_, rfl⟩
 rw [hs2]
 go_enter Tryd.func36, Tryd.ntmps36
 go_upto_region 1 with fail
 by_cases h0 : n < 0
 ·skip
  have CU := r_uns (-n).toNat (by omega) w
  have hd : (⟨#[45]⟩ : ByteArray) ++ strOfNums (decN (-n).toNat) = s2 := by
   rw [← hs2, show decI n = [45] ++ decN (-n).toNat by unfold decI; rw [if_pos h0]; rfl, str_app]
   rfl
  have hsz : (⟨#[45]⟩ : ByteArray).size + (strOfNums (decN (-n).toNat)).size ≤ 9223372036854775807 := by
   have := dec_len 19 (-n).toNat (by omega)
   rw [strOfNums_size]
   show 1 + _ ≤ _
   omega
  generalize strOfNums (decN (-n).toNat) = s at *
  clear hs2
  have hk1 : 0 < (-n).toNat := by omega
  have hk2 : (-n).toNat < 18446744073709551616 := by omega
  go_upto_region 1 with fail
  refine wl <| gz1 (.int .i64 n) <| gzb (lss_n rfl n 0 (decide_eq_true h0)) <| wn ?_
  simp only [pu]
  go_upto_region 2 with fail
  refine wl <| gz1 (.int .i64 n) <| gzv (.int .u64 (18446744073709551616 - (-n).toNat : Nat)) (cv_in rfl n h0 h1 (by kernel_rfl) _) <| gzv (.int .u64 ((-n).toNat : Nat)) (neg_w rfl _ hk1 hk2 (by kernel_rfl) _) <| gzc (.string s) (fun w' => Below w.heap.size w w') (CU) (fun V2 hb2 => ?_)
  simp only [pu]
  refine gzw (.string s2) (add_s rfl _ _ _ hd hsz) <| gz1 (.string s2) <| wn ?_
  simp only [pu]
  go_wp2_with fail
  go_ret
  exact ⟨rfl, hb2⟩
 ·skip
  have CU := r_uns n.toNat (by omega) w
  rw [show decN n.toNat = decI n by unfold decI; rw [if_neg h0], hs2] at CU
  clear hs2
  go_upto_region 1 with fail
  refine wl <| gz1 (.int .i64 n) <| gzb (lss_n rfl n 0 (decide_eq_false h0)) <| wn ?_
  simp only [pu]
  go_upto_region 3 with fail
  refine wl <| gz1 (.int .i64 n) <| gzv (.int .u64 (n.toNat : Nat)) (cv_iw rfl n (by omega) (by omega) (by kernel_rfl) _) <| gzc (.string s2) (fun w' => Below w.heap.size w w') (CU) (fun V2 hb2 => ?_)
  simp only [pu]
  refine gz1 (.string s2) <| wn ?_
  simp only [pu]
  go_wp2_with fail
  go_ret
  exact ⟨rfl, hb2⟩
end Go.Proofs.YtplfineaomneiaaDoor
