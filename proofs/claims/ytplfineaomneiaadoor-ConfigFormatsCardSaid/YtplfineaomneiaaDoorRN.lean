/-
 The reference's Number, digits: contracts.
-/
import Derived.Test.YtplfineaomneiaaDoorRO
namespace Go.Proofs.YtplfineaomneiaaDoor
attribute [local irreducible] wpList wpQuiet
open Go.RowKit
set_option maxRecDepth 100000
set_option linter.unusedSimpArgs false
set_option linter.unusedVariables false

theorem gtr_8 {ρ : Operand → Value} {o : Oper} {x y : Operand} (ho : o.op = .binOp .gtr 5 x y 5) (a b : Int) {t : Bool} (ht : decide (b < a) = t) (hx : ρ x = .int .u8 a) (hy : ρ y = .int .u8 b) (w : World) : (execOp ρ o).run Tryd.prog w = .ok (.value (.bool t)) w := by
 rw [← ht]
 unfold execOp
 simp only [ho, hx, hy]
 go_simp
theorem neq_8 {ρ : Operand → Value} {o : Oper} {x y : Operand} (ho : o.op = .binOp .neq 5 x y 5) (a b : Int) {t : Bool} (ht : decide (a ≠ b) = t) (hx : ρ x = .int .u8 a) (hy : ρ y = .int .u8 b) (w : World) : (execOp ρ o).run Tryd.prog w = .ok (.value (.bool t)) w := by
 have e : (a != b) = t := by rw [← ht]; by_cases h : a = b <;> simp [h]
 unfold execOp
 simp only [ho, hx, hy]
 go_simp
/-- What 'Number' tells of a text. -/
def numV (L : List Int) : Value := if digitsX L = true ∧ dval L < 18446744073709551616 then .tuple #[.int .u64 (dval L), .bool true] else .tuple #[.int .u64 0, .bool false]
theorem dig_bad {L : List Int} {i : Nat} (hi : i < L.length) (h : ¬ (48 ≤ L.getD i 0 ∧ L.getD i 0 ≤ 57)) : digitsX L = false := by
 cases hd : digitsX L with
 | false => rfl
 | true =>
  unfold digitsX at hd
  rw [Bool.and_eq_true, List.all_eq_true] at hd
  have h1 := hd.1 (L.getD i 0) (by rw [List.getD_eq_getElem?_getD, List.getElem?_eq_getElem hi]; exact List.getElem_mem hi)
  rw [Bool.and_eq_true, decide_eq_true_eq, decide_eq_true_eq] at h1
  exact absurd h1 h
theorem dig_empty {L : List Int} (h : L.length = 0) : digitsX L = false := by
 obtain rfl := List.eq_nil_of_length_eq_zero h
 rfl
theorem dig_lead {L : List Int} (h : 1 < L.length) (h0 : L.getD 0 0 = 48) : digitsX L = false := by
 unfold digitsX
 rw [decide_eq_false (show ¬ L.length = 1 by omega), decide_eq_false (not_not_intro h0), Bool.or_false, Bool.and_false, Bool.and_false]
theorem dig_yes {L : List Int} (h : ∀ j, j < L.length → 48 ≤ L.getD j 0 ∧ L.getD j 0 ≤ 57) (h0 : 0 < L.length) (h1 : L.length = 1 ∨ L.getD 0 0 ≠ 48) : digitsX L = true := by
 unfold digitsX
 have ha : L.all (fun x => decide (48 ≤ x) && decide (x ≤ 57)) = true := by
  rw [List.all_eq_true]
  intro x hx
  obtain ⟨j, hj, rfl⟩ := List.getElem_of_mem hx
  have := h j hj
  rw [List.getD_eq_getElem?_getD, List.getElem?_eq_getElem hj] at this
  rw [Bool.and_eq_true, decide_eq_true_eq, decide_eq_true_eq]
  exact this
 rw [ha, decide_eq_true (show L ≠ [] by intro e; rw [e] at h0; exact Nat.lt_irrefl _ h0), Bool.true_and, Bool.true_and]
 rcases h1 with h1 | h1
 ·rw [decide_eq_true h1, Bool.true_or]
 ·rw [decide_eq_true h1, Bool.or_true]
theorem dvalF_ge : ∀ (s : List Int) (n : Int), (∀ x ∈ s, 48 ≤ x) → 0 ≤ n → n ≤ dvalF s n
 | [], n, _, _ => Int.le_refl n
 | x :: r, n, h, h0 => by
  have hx := h x (by simp)
  have := dvalF_ge r (10 * n + (x - 48)) (fun y hy => h y (by simp [hy])) (by omega)
  unfold dvalF at this ⊢
  rw [List.foldl_cons]
  omega
theorem dval_app (A B : List Int) : dval (A ++ B) = dvalF B (dval A) := by
 unfold dval dvalF
 rw [List.foldl_append]
/-- So far the number is read. -/
def NmI (L : List Int) (i m : Nat) : Prop := (∀ j, j < i → 48 ≤ L.getD j 0 ∧ L.getD j 0 ≤ 57) ∧ dval (L.take i) = (m : Int) ∧ m < 18446744073709551616
theorem NmI.zero (L : List Int) : NmI L 0 0 := ⟨fun j hj => absurd hj (Nat.not_lt_zero j), rfl, by omega⟩
section
variable {L : List Int} {i m d : Nat}
theorem take_getD (hi : i < L.length) : L.take (i + 1) = L.take i ++ [L.getD i 0] := by
 rw [List.take_add_one, List.getElem?_eq_getElem hi, Option.toList_some, List.getD_eq_getElem?_getD, List.getElem?_eq_getElem hi]
 rfl
theorem dval_next (hi : i < L.length) (h : dval (L.take i) = (m : Int)) (hd : L.getD i 0 - 48 = (d : Int)) : dval (L.take (i + 1)) = ((m * 10 + d : Nat) : Int) := by
 rw [take_getD hi, dval_app, h]
 show 10 * (m : Int) + (L.getD i 0 - 48) = _
 rw [hd]
 omega
theorem NmI.step (h : NmI L i m) (hi : i < L.length) (hc : 48 ≤ L.getD i 0 ∧ L.getD i 0 ≤ 57) (hd : L.getD i 0 - 48 = (d : Int)) (hl : m * 10 + d < 18446744073709551616) : NmI L (i + 1) (m * 10 + d) :=
 ⟨fun j hj => if e : j < i then h.1 j e else by rw [show j = i by omega]; exact hc, dval_next hi h.2.1 hd, hl⟩
theorem NmI.over (h : NmI L i m) (hi : i < L.length) (hd : L.getD i 0 - 48 = (d : Int)) (hl : ¬ m * 10 + d < 18446744073709551616) : ¬ (digitsX L = true ∧ dval L < 18446744073709551616) := by
 rintro ⟨h1, h2⟩
 have h3 := dval_next hi h.2.1 hd
 have h4 : dval L = dvalF (L.drop (i + 1)) (dval (L.take (i + 1))) := by rw [← dval_app, List.take_append_drop]
 have h5 := dvalF_ge (L.drop (i + 1)) (dval (L.take (i + 1))) (fun x hx => by
  unfold digitsX at h1
  rw [Bool.and_eq_true, List.all_eq_true] at h1
  have := h1.1 x (List.mem_of_mem_drop hx)
  rw [Bool.and_eq_true, decide_eq_true_eq] at this
  exact this.1) (by rw [h3]; omega)
 rw [← h4, h3] at h5
 omega
theorem NmI.fin (h : NmI L i m) (hi : i = L.length) (h0 : 0 < L.length) (h1 : L.length = 1 ∨ L.getD 0 0 ≠ 48) : .tuple #[.int .u64 m, .bool true] = numV L := by
 subst hi
 have e := h.2.1
 rw [List.take_length] at e
 unfold numV
 rw [if_pos ⟨dig_yes h.1 h0 h1, by rw [e]; have := h.2.2; omega⟩, e]
end
theorem numV_no {L : List Int} (h : ¬ (digitsX L = true ∧ dval L < 18446744073709551616)) : .tuple #[.int .u64 0, .bool false] = numV L := by
 unfold numV
 rw [if_neg h]
theorem num_no {L : List Int} (h : digitsX L = false) : .tuple #[.int .u64 0, .bool false] = numV L := numV_no fun q => by rw [h] at q; exact Bool.false_ne_true q.1
set_option maxRecDepth 100000 in
set_option maxHeartbeats 8000000 in
theorem r_number (s : ByteArray) (hl : s.size ≤ 1000000) (w : World) : Calls Tryd.prog 68 #[.string s, .int .u64 18446744073709551615] w fun e w' => e = .returned (numV (nums s)) ∧ w = w' := by
 have HSA : Hid (∀ i, i < s.size → StrAt s i ((nums s).getD i 0)) := Lib.hid fun i hi => str_at s i hi
 have HW : Hid (∀ i, 0 ≤ (nums s).getD i 0 ∧ (nums s).getD i 0 < 256) := Lib.hid fun i => by
  by_cases hi : i < s.size
  ·have hw8 : W8 _ := nums_byte s ((nums s).getD i 0) (by rw [List.getD_eq_getElem?_getD, List.getElem?_eq_getElem (by rw [nums_len]; exact hi)]; exact List.getElem_mem _)
   exact ⟨hw8.1, by have := hw8.2; omega⟩
  ·rw [List.getD_eq_getElem?_getD, List.getElem?_eq_none (by rw [nums_len]; omega)]
   exact ⟨Int.le_refl 0, by show (0 : Int) < 256; omega⟩
 have HLL := Lib.hid (nums_len s)
 have HEM : Hid (s = ⟨#[]⟩ ↔ (nums s).length = 0) := Lib.hid ⟨fun e => by rw [e]; rfl, fun e => nums_inj (by rw [List.eq_nil_of_length_eq_zero e]; rfl)⟩
 obtain ⟨z, hz⟩ : ∃ z, numV (nums s) = z := ⟨_, rfl⟩
 rw [hz]
 generalize nums s = L at *
 have HNO : Hid (¬ (digitsX L = true ∧ dval L < 18446744073709551616) → .tuple #[.int .u64 0, .bool false] = z) := Lib.hid fun h => by rw [← hz]; exact numV_no h
 have HN2 : Hid (digitsX L = false → .tuple #[.int .u64 0, .bool false] = z) := Lib.hid fun h => by rw [← hz]; exact num_no h
 have HFI : Hid (∀ i m, NmI L i m → i = L.length → 0 < L.length → (L.length = 1 ∨ L.getD 0 0 ≠ 48) → .tuple #[.int .u64 m, .bool true] = z) := Lib.hid fun i m h h1 h2 h3 => by rw [← hz]; exact h.fin h1 h2 h3
 clear hz
 obtain ⟨n, hn⟩ : ∃ n, s.size = n := ⟨_, rfl⟩
 rw [hn] at HSA HLL hl
 go_enter Tryd.func68, Tryd.ntmps68
 go_upto_region 1 with fail
 by_cases hs : s = (⟨#[]⟩ : ByteArray)
 ·skip
  obtain rfl := HN2.out (dig_empty (HEM.out.1 hs))
  go_upto_region 1 with fail
  refine wl <| gz1 (.string s) <| gzw (.bool true) (eql_s rfl s (⟨#[]⟩ : ByteArray) (by rw [beqB]; exact decide_eq_true hs)) <| gz6 (.bool true) undef undef undef undef undef <| gz4 undef undef undef (.bool true) <| wn ?_
  simp only [pu]
  clear HNO HN2 HFI HSA HW HEM hs
  go_upto_region 2 with fail
  refine wl <| gz2 (.int .u64 0) (.bool false) <| wn ?_
  simp only [pu]
  go_wp2_with fail
  go_ret2
  exact ⟨rfl, rfl⟩
 ·skip
  have hn0 : 0 < n := by have h1 := HEM.out; have h2 := HLL.out; rw [h2] at h1; exact Nat.pos_of_ne_zero fun q => hs (h1.2 q)
  have hat0 := HSA.out 0 hn0
  have HC : Hid ((1 < n → L.getD 0 0 = 48 → .tuple #[.int .u64 0, .bool false] = z) ∧ (¬ (1 < n ∧ L.getD 0 0 = 48) → (L.length = 1 ∨ L.getD 0 0 ≠ 48))) := Lib.hid ⟨fun h h2 => HN2.out (dig_lead (by rw [HLL.out]; exact h) h2), fun h => by rw [HLL.out]; exact if q : n = 1 then .inl q else .inr fun e => h ⟨by omega, e⟩⟩
  obtain ⟨c0, hc0⟩ : ∃ c, L.getD 0 0 = c := ⟨_, rfl⟩
  rw [hc0] at hat0 HC
  have HC0 := Lib.hid hc0
  clear hc0
  by_cases h1n : 1 < n
  ·skip
   by_cases hc48 : c0 = 48
   ·skip
    go_upto_region 1 with fail
    refine wl <| gz1 (.string s) <| gzw (.bool false) (eql_s rfl s (⟨#[]⟩ : ByteArray) (by rw [beqB]; exact decide_eq_false hs)) <| gz2 (.bool false) (.string s) <| gzv (.int .i64 n) (by rw [← hn]; kernel_rfl) <|
     gzb (gtr_n rfl (n) (1) dT) <| gz2 (.bool true) (.string s) <| gzv (.int .u8 c0) (hat0 _ _ _ _ rfl (by kernel_rfl) (by kernel_rfl) _) <|
     gzb (eql_u rfl c0 48 (decide_eq_true hc48)) <| gz2 (.bool true) (.bool true) <| wn ?_
    simp only [pu]
    obtain rfl := HC.out.1 h1n hc48
    clear HC hat0 hs
    clear HNO HN2 HFI HSA HW HEM
    go_upto_region 2 with fail
    refine wl <| gz2 (.int .u64 0) (.bool false) <| wn ?_
    simp only [pu]
    go_wp2_with fail
    go_ret2
    exact ⟨rfl, rfl⟩
   ·skip
    go_upto_region 1 with fail
    refine wl <| gz1 (.string s) <| gzw (.bool false) (eql_s rfl s (⟨#[]⟩ : ByteArray) (by rw [beqB]; exact decide_eq_false hs)) <| gz2 (.bool false) (.string s) <| gzv (.int .i64 n) (by rw [← hn]; kernel_rfl) <|
     gzb (gtr_n rfl (n) (1) dT) <| gz2 (.bool true) (.string s) <| gzv (.int .u8 c0) (hat0 _ _ _ _ rfl (by kernel_rfl) (by kernel_rfl) _) <|
     gzb (eql_u rfl c0 48 (decide_eq_false hc48)) <| gz2 (.bool false) (.bool false) <| wn ?_
    simp only [pu]
    have HFC : Hid (L.length = 1 ∨ L.getD 0 0 ≠ 48) := Lib.hid (by rw [HC0.out]; exact HC.out.2 fun q => hc48 q.2)
    clear hc48 hs
    clear HC hat0
    go_upto_region 3 with fail
    refine wl <| gz1 (.int .u64 0) <| wn ?_
    simp only [pu]
    go_upto_region 4 with fail
    refine wl <| gz1 (.int .i64 0) <| wn ?_
    simp only [pu]
    go_wp2_with fail
    go_loopg [6, 7] n (fun gg s6 s7 wx => ∃ (i m : Nat), s7 = .int .i64 i ∧ s6 = .int .u64 m ∧ i ≤ n ∧ gg + i = n ∧ m < 18446744073709551616 ∧ Hid (NmI L i m) ∧ wx = w)
    case atStart => exact ⟨0, 0, rfl, rfl, by omega, by omega, by omega, Lib.hid (NmI.zero L), rfl⟩
    case round =>
     obtain ⟨i, m, hs7, hs6, hin, hg, hm, HI, hwx⟩ := hrel
     obtain rfl := hs7
     obtain rfl := hs6
     obtain rfl := hwx
     have HGK : Hid (gk + i = n) := Lib.hid hg
     clear hg
     by_cases hlt : i < n
     ·skip
      have hat := HSA.out i hlt
      have hcw := HW.out i
      have HBD : Hid (¬ (48 ≤ L.getD i 0 ∧ L.getD i 0 ≤ 57) → .tuple #[.int .u64 0, .bool false] = z) := Lib.hid fun h => HN2.out (dig_bad (by rw [HLL.out]; exact hlt) h)
      have HOV : Hid (∀ d : Nat, L.getD i 0 - 48 = (d : Int) → ¬ m * 10 + d < 18446744073709551616 → .tuple #[.int .u64 0, .bool false] = z) := Lib.hid fun d hd h => HNO.out (HI.out.over (by rw [HLL.out]; exact hlt) hd h)
      have HSTP : Hid (∀ d : Nat, (48 ≤ L.getD i 0 ∧ L.getD i 0 ≤ 57) → L.getD i 0 - 48 = (d : Int) → m * 10 + d < 18446744073709551616 → NmI L (i + 1) (m * 10 + d)) := Lib.hid fun d hc hd h => HI.out.step (by rw [HLL.out]; exact hlt) hc hd h
      generalize L.getD i 0 = c at *
      go_upto_region 5 with fail
      refine wl <| gz2 (.int .i64 i) (.string s) <| gzv (.int .i64 n) (by rw [← hn]; kernel_rfl) <| gzb (lss_n rfl (i) (n) dT) <| wn ?_
      simp only [pu]
      by_cases h1 : c < 48
      ·skip
       go_upto_region 7 with fail
       refine wl <| gz2 (.string s) (.int .i64 i) <| gzv (.int .u8 c) (hat _ _ _ _ rfl (by kernel_rfl) (by kernel_rfl) _) <| gzb (lss_u rfl c 48 (decide_eq_true h1)) <| gz6 (.bool true) undef undef undef undef (.bool true) <|
        wpList_nil ?_
       simp only [pu]
       obtain rfl := HBD.out (by omega)
       clear HBD HOV HSTP hat HI
       clear HNO HN2 HFI HSA HW HEM
       go_upto_region 8 with fail
       refine wl <| gz2 (.int .u64 0) (.bool false) <| wn ?_
       simp only [pu]
       go_wp2_with fail
       go_ret2
       exact ⟨rfl, rfl⟩
      ·skip
       by_cases h2 : 57 < c
       ·skip
        go_upto_region 7 with fail
        refine wl <| gz2 (.string s) (.int .i64 i) <| gzv (.int .u8 c) (hat _ _ _ _ rfl (by kernel_rfl) (by kernel_rfl) _) <| gzb (lss_u rfl c 48 (decide_eq_false h1)) <| gz3 (.bool false) (.string s) (.int .i64 i) <|
         gzv (.int .u8 c) (hat _ _ _ _ rfl (by kernel_rfl) (by kernel_rfl) _) <| gzb (gtr_8 rfl c 57 (decide_eq_true h2)) <| gz1 (.bool true) <| wn ?_
        simp only [pu]
        obtain rfl := HBD.out (by omega)
        clear HBD HOV HSTP hat HI
        clear HNO HN2 HFI HSA HW HEM
        go_upto_region 8 with fail
        refine wl <| gz2 (.int .u64 0) (.bool false) <| wn ?_
        simp only [pu]
        go_wp2_with fail
        go_ret2
        exact ⟨rfl, rfl⟩
       ·skip
        go_upto_region 7 with fail
        refine wl <| gz2 (.string s) (.int .i64 i) <| gzv (.int .u8 c) (hat _ _ _ _ rfl (by kernel_rfl) (by kernel_rfl) _) <| gzb (lss_u rfl c 48 (decide_eq_false h1)) <| gz3 (.bool false) (.string s) (.int .i64 i) <|
         gzv (.int .u8 c) (hat _ _ _ _ rfl (by kernel_rfl) (by kernel_rfl) _) <| gzb (gtr_8 rfl c 57 (decide_eq_false h2)) <| gz1 (.bool false) <| wn ?_
        simp only [pu]
        obtain ⟨d, hd⟩ : ∃ d : Nat, c - 48 = (d : Int) := ⟨(c - 48).toNat, by omega⟩
        have hd8 : d < 256 := by omega
        have hOV := HOV.out d hd
        have hST := HSTP.out d ⟨by omega, by omega⟩ hd
        have CM := r_mul m 10 hm (by omega) wr
        obtain ⟨p, hp⟩ : ∃ p, m * 10 = p := ⟨_, rfl⟩
        rw [hp] at hOV hST CM
        have HOV2 := Lib.hid hOV
        have HST2 := Lib.hid hST
        clear hOV hST HOV HSTP HBD hp
        by_cases hpl : p < 18446744073709551616
        ·skip
         rw [if_pos hpl] at CM
         have CA := r_add p d hpl (by omega) wr
         go_upto_region 9 with fail
         refine wl <| gz1 (.int .u64 m) <| gzc (.tuple #[.int .u64 p, .bool true]) (fun w' => wr = w') (CM) (fun V9 hV9 => ?_)
         subst hV9
         simp only [pu]
         refine gz5 (.tuple #[.int .u64 p, .bool true]) (.int .u64 p) (.bool true) (.int .u64 p) (.bool true) <| wn ?_
         simp only [pu]
         by_cases hsl : p + d < 18446744073709551616
         ·skip
          rw [if_pos hsl] at CA
          have HI2 := Lib.hid (HST2.out hsl)
          obtain ⟨m2, hm2⟩ : ∃ m2, p + d = m2 := ⟨_, rfl⟩
          rw [hm2] at CA HI2 hsl
          clear hm2
          go_upto_region 10 with fail
          refine wl <| gz3 (.int .u64 p) (.string s) (.int .i64 i) <| gzv (.int .u8 c) (hat _ _ _ _ rfl (by kernel_rfl) (by kernel_rfl) _) <| gzw (.int .u8 d) (sub_8 rfl c d hd hd8) <| gzv (.int .u64 d) (cv_8w rfl d hd8 (by kernel_rfl) _) <|
           gzc (.tuple #[.int .u64 m2, .bool true]) (fun w' => wr = w') (CA) (fun V9 hV9 => ?_)
          subst hV9
          simp only [pu]
          refine gz5 (.tuple #[.int .u64 m2, .bool true]) (.int .u64 m2) (.bool true) (.int .u64 m2) (.bool true) <| wn ?_
          simp only [pu]
          clear CA CM hat
          go_upto_region 11 with fail
          refine wl <| gz6 (.bool true) (.bool false) (.bool false) (.bool true) (.bool false) (.bool false) <| wn ?_
          simp only [pu]
          go_upto_region 13 with fail
          refine wl <| gz2 (.int .u64 m2) (.int .u64 m2) <| wn ?_
          simp only [pu]
          go_upto_region 6 with fail
          refine wl <| gz1 (.int .i64 i) <| gzv (.int .i64 (i + 1 : Nat)) (add_one rfl i (by omega) (by kernel_rfl) _) <| gz1 (.int .i64 (i + 1 : Nat)) <| wn ?_
          simp only [pu]
          go_wp2_with fail
          go_roundg (n - (i + 1))
          case measure => have := HGK.out; omega
          case rel => exact ⟨i + 1, m2, rfl, rfl, by omega, by omega, hsl, HI2, rfl⟩
         ·skip
          rw [if_neg hsl] at CA
          go_upto_region 10 with fail
          refine wl <| gz3 (.int .u64 p) (.string s) (.int .i64 i) <| gzv (.int .u8 c) (hat _ _ _ _ rfl (by kernel_rfl) (by kernel_rfl) _) <| gzw (.int .u8 d) (sub_8 rfl c d hd hd8) <| gzv (.int .u64 d) (cv_8w rfl d hd8 (by kernel_rfl) _) <|
           gzc (.tuple #[.int .u64 0, .bool false]) (fun w' => wr = w') (CA) (fun V9 hV9 => ?_)
          subst hV9
          simp only [pu]
          refine gz5 (.tuple #[.int .u64 0, .bool false]) (.int .u64 0) (.bool false) (.int .u64 0) (.bool false) <| wn ?_
          simp only [pu]
          clear CA CM hat
          go_upto_region 11 with fail
          refine wl <| gz6 (.bool true) (.bool false) (.bool false) (.bool false) (.bool true) (.bool true) <| wn ?_
          simp only [pu]
          obtain rfl := HOV2.out hsl
          clear HOV2 HST2 HI
          clear HNO HN2 HFI HSA HW HEM
          go_upto_region 12 with fail
          refine wl <| gz2 (.int .u64 0) (.bool false) <| wn ?_
          simp only [pu]
          go_wp2_with fail
          go_ret2
          exact ⟨rfl, rfl⟩
        ·skip
         rw [if_neg hpl] at CM
         have CA := r_add 0 d (by omega) (by omega) wr
         rw [if_pos (by omega), Nat.zero_add] at CA
         obtain rfl := HOV2.out (by omega)
         go_upto_region 9 with fail
         refine wl <| gz1 (.int .u64 m) <| gzc (.tuple #[.int .u64 0, .bool false]) (fun w' => wr = w') (CM) (fun V9 hV9 => ?_)
         subst hV9
         simp only [pu]
         refine gz5 (.tuple #[.int .u64 0, .bool false]) (.int .u64 0) (.bool false) (.int .u64 0) (.bool false) <| wn ?_
         simp only [pu]
         go_upto_region 10 with fail
         refine wl <| gz3 (.int .u64 0) (.string s) (.int .i64 i) <| gzv (.int .u8 c) (hat _ _ _ _ rfl (by kernel_rfl) (by kernel_rfl) _) <| gzw (.int .u8 d) (sub_8 rfl c d hd hd8) <| gzv (.int .u64 d) (cv_8w rfl d hd8 (by kernel_rfl) _) <|
          gzc (.tuple #[.int .u64 d, .bool true]) (fun w' => wr = w') (CA) (fun V9 hV9 => ?_)
         subst hV9
         simp only [pu]
         refine gz5 (.tuple #[.int .u64 d, .bool true]) (.int .u64 d) (.bool true) (.int .u64 d) (.bool true) <| wn ?_
         simp only [pu]
         clear CA CM hat HOV2 HST2 HI
         clear HNO HN2 HFI HSA HW HEM
         go_upto_region 11 with fail
         refine wl <| gz6 (.bool false) (.bool true) (.bool true) undef undef (.bool true) <| wn ?_
         simp only [pu]
         go_upto_region 12 with fail
         refine wl <| gz2 (.int .u64 0) (.bool false) <| wn ?_
         simp only [pu]
         go_wp2_with fail
         go_ret2
         exact ⟨rfl, rfl⟩
     ·skip
      obtain rfl : i = n := by omega
      obtain rfl := HFI.out i m HI.out HLL.out.symm (by rw [HLL.out]; exact hn0) HFC.out
      clear HI HFC
      clear HNO HN2 HFI HSA HW HEM
      go_upto_region 5 with fail
      refine wl <| gz2 (.int .i64 i) (.string s) <| gzv (.int .i64 i) (by rw [← hn]; kernel_rfl) <| gzb (lss_n rfl (i) (i) dF) <| wn ?_
      simp only [pu]
      go_upto_region 14 with fail
      refine wl <| gz3 (.int .u64 m) (.int .u64 m) (.int .u64 18446744073709551615) <| gzb (leq_wn rfl (m) (18446744073709551615) dT) <| gz2 (.int .u64 m) (.bool true) <| wn ?_
      simp only [pu]
      go_wp2_with fail
      go_ret2
      exact ⟨rfl, rfl⟩
  ·skip
   go_upto_region 1 with fail
   refine wl <| gz1 (.string s) <| gzw (.bool false) (eql_s rfl s (⟨#[]⟩ : ByteArray) (by rw [beqB]; exact decide_eq_false hs)) <| gz2 (.bool false) (.string s) <| gzv (.int .i64 n) (by rw [← hn]; kernel_rfl) <|
    gzb (gtr_n rfl (n) (1) dF) <| gz6 (.bool false) undef undef undef (.bool false) (.bool false) <| wn ?_
   simp only [pu]
   have HFC : Hid (L.length = 1 ∨ L.getD 0 0 ≠ 48) := Lib.hid (by rw [HC0.out]; exact HC.out.2 fun q => h1n q.1)
   clear hs
   clear HC hat0
   go_upto_region 3 with fail
   refine wl <| gz1 (.int .u64 0) <| wn ?_
   simp only [pu]
   go_upto_region 4 with fail
   refine wl <| gz1 (.int .i64 0) <| wn ?_
   simp only [pu]
   go_wp2_with fail
   go_loopg [6, 7] n (fun gg s6 s7 wx => ∃ (i m : Nat), s7 = .int .i64 i ∧ s6 = .int .u64 m ∧ i ≤ n ∧ gg + i = n ∧ m < 18446744073709551616 ∧ Hid (NmI L i m) ∧ wx = w)
   case atStart => exact ⟨0, 0, rfl, rfl, by omega, by omega, by omega, Lib.hid (NmI.zero L), rfl⟩
   case round =>
    obtain ⟨i, m, hs7, hs6, hin, hg, hm, HI, hwx⟩ := hrel
    obtain rfl := hs7
    obtain rfl := hs6
    obtain rfl := hwx
    have HGK : Hid (gk + i = n) := Lib.hid hg
    clear hg
    by_cases hlt : i < n
    ·skip
     have hat := HSA.out i hlt
     have hcw := HW.out i
     have HBD : Hid (¬ (48 ≤ L.getD i 0 ∧ L.getD i 0 ≤ 57) → .tuple #[.int .u64 0, .bool false] = z) := Lib.hid fun h => HN2.out (dig_bad (by rw [HLL.out]; exact hlt) h)
     have HOV : Hid (∀ d : Nat, L.getD i 0 - 48 = (d : Int) → ¬ m * 10 + d < 18446744073709551616 → .tuple #[.int .u64 0, .bool false] = z) := Lib.hid fun d hd h => HNO.out (HI.out.over (by rw [HLL.out]; exact hlt) hd h)
     have HSTP : Hid (∀ d : Nat, (48 ≤ L.getD i 0 ∧ L.getD i 0 ≤ 57) → L.getD i 0 - 48 = (d : Int) → m * 10 + d < 18446744073709551616 → NmI L (i + 1) (m * 10 + d)) := Lib.hid fun d hc hd h => HI.out.step (by rw [HLL.out]; exact hlt) hc hd h
     generalize L.getD i 0 = c at *
     go_upto_region 5 with fail
     refine wl <| gz2 (.int .i64 i) (.string s) <| gzv (.int .i64 n) (by rw [← hn]; kernel_rfl) <| gzb (lss_n rfl (i) (n) dT) <| wn ?_
     simp only [pu]
     by_cases h1 : c < 48
     ·skip
      go_upto_region 7 with fail
      refine wl <| gz2 (.string s) (.int .i64 i) <| gzv (.int .u8 c) (hat _ _ _ _ rfl (by kernel_rfl) (by kernel_rfl) _) <| gzb (lss_u rfl c 48 (decide_eq_true h1)) <| gz6 (.bool true) undef undef undef undef (.bool true) <| wn ?_
      simp only [pu]
      obtain rfl := HBD.out (by omega)
      clear HBD HOV HSTP hat HI
      clear HNO HN2 HFI HSA HW HEM
      go_upto_region 8 with fail
      refine wl <| gz2 (.int .u64 0) (.bool false) <| wn ?_
      simp only [pu]
      go_wp2_with fail
      go_ret2
      exact ⟨rfl, rfl⟩
     ·skip
      by_cases h2 : 57 < c
      ·skip
       go_upto_region 7 with fail
       refine wl <| gz2 (.string s) (.int .i64 i) <| gzv (.int .u8 c) (hat _ _ _ _ rfl (by kernel_rfl) (by kernel_rfl) _) <| gzb (lss_u rfl c 48 (decide_eq_false h1)) <| gz3 (.bool false) (.string s) (.int .i64 i) <|
        gzv (.int .u8 c) (hat _ _ _ _ rfl (by kernel_rfl) (by kernel_rfl) _) <| gzb (gtr_8 rfl c 57 (decide_eq_true h2)) <| gz1 (.bool true) <| wn ?_
       simp only [pu]
       obtain rfl := HBD.out (by omega)
       clear HBD HOV HSTP hat HI
       clear HNO HN2 HFI HSA HW HEM
       go_upto_region 8 with fail
       refine wl <| gz2 (.int .u64 0) (.bool false) <| wn ?_
       simp only [pu]
       go_wp2_with fail
       go_ret2
       exact ⟨rfl, rfl⟩
      ·skip
       go_upto_region 7 with fail
       refine wl <| gz2 (.string s) (.int .i64 i) <| gzv (.int .u8 c) (hat _ _ _ _ rfl (by kernel_rfl) (by kernel_rfl) _) <| gzb (lss_u rfl c 48 (decide_eq_false h1)) <| gz3 (.bool false) (.string s) (.int .i64 i) <|
        gzv (.int .u8 c) (hat _ _ _ _ rfl (by kernel_rfl) (by kernel_rfl) _) <| gzb (gtr_8 rfl c 57 (decide_eq_false h2)) <| gz1 (.bool false) <| wn ?_
       simp only [pu]
       obtain ⟨d, hd⟩ : ∃ d : Nat, c - 48 = (d : Int) := ⟨(c - 48).toNat, by omega⟩
       have hd8 : d < 256 := by omega
       have hOV := HOV.out d hd
       have hST := HSTP.out d ⟨by omega, by omega⟩ hd
       have CM := r_mul m 10 hm (by omega) wr
       obtain ⟨p, hp⟩ : ∃ p, m * 10 = p := ⟨_, rfl⟩
       rw [hp] at hOV hST CM
       have HOV2 := Lib.hid hOV
       have HST2 := Lib.hid hST
       clear hOV hST HOV HSTP HBD hp
       by_cases hpl : p < 18446744073709551616
       ·skip
        rw [if_pos hpl] at CM
        have CA := r_add p d hpl (by omega) wr
        go_upto_region 9 with fail
        refine wl <| gz1 (.int .u64 m) <| gzc (.tuple #[.int .u64 p, .bool true]) (fun w' => wr = w') (CM) (fun V9 hV9 => ?_)
        subst hV9
        simp only [pu]
        refine gz5 (.tuple #[.int .u64 p, .bool true]) (.int .u64 p) (.bool true) (.int .u64 p) (.bool true) <| wn ?_
        simp only [pu]
        by_cases hsl : p + d < 18446744073709551616
        ·skip
         rw [if_pos hsl] at CA
         have HI2 := Lib.hid (HST2.out hsl)
         obtain ⟨m2, hm2⟩ : ∃ m2, p + d = m2 := ⟨_, rfl⟩
         rw [hm2] at CA HI2 hsl
         clear hm2
         go_upto_region 10 with fail
         refine wl <| gz3 (.int .u64 p) (.string s) (.int .i64 i) <| gzv (.int .u8 c) (hat _ _ _ _ rfl (by kernel_rfl) (by kernel_rfl) _) <| gzw (.int .u8 d) (sub_8 rfl c d hd hd8) <| gzv (.int .u64 d) (cv_8w rfl d hd8 (by kernel_rfl) _) <|
          gzc (.tuple #[.int .u64 m2, .bool true]) (fun w' => wr = w') (CA) (fun V9 hV9 => ?_)
         subst hV9
         simp only [pu]
         refine gz5 (.tuple #[.int .u64 m2, .bool true]) (.int .u64 m2) (.bool true) (.int .u64 m2) (.bool true) <| wn ?_
         simp only [pu]
         clear CA CM hat
         go_upto_region 11 with fail
         refine wl <| gz6 (.bool true) (.bool false) (.bool false) (.bool true) (.bool false) (.bool false) <| wn ?_
         simp only [pu]
         go_upto_region 13 with fail
         refine wl <| gz2 (.int .u64 m2) (.int .u64 m2) <| wn ?_
         simp only [pu]
         go_upto_region 6 with fail
         refine wl <| gz1 (.int .i64 i) <| gzv (.int .i64 (i + 1 : Nat)) (add_one rfl i (by omega) (by kernel_rfl) _) <| gz1 (.int .i64 (i + 1 : Nat)) <| wn ?_
         simp only [pu]
         go_wp2_with fail
         go_roundg (n - (i + 1))
         case measure => have := HGK.out; omega
         case rel => exact ⟨i + 1, m2, rfl, rfl, by omega, by omega, hsl, HI2, rfl⟩
        ·skip
         rw [if_neg hsl] at CA
         go_upto_region 10 with fail
         refine wl <| gz3 (.int .u64 p) (.string s) (.int .i64 i) <| gzv (.int .u8 c) (hat _ _ _ _ rfl (by kernel_rfl) (by kernel_rfl) _) <| gzw (.int .u8 d) (sub_8 rfl c d hd hd8) <| gzv (.int .u64 d) (cv_8w rfl d hd8 (by kernel_rfl) _) <|
          gzc (.tuple #[.int .u64 0, .bool false]) (fun w' => wr = w') (CA) (fun V9 hV9 => ?_)
         subst hV9
         simp only [pu]
         refine gz5 (.tuple #[.int .u64 0, .bool false]) (.int .u64 0) (.bool false) (.int .u64 0) (.bool false) <| wn ?_
         simp only [pu]
         clear CA CM hat
         go_upto_region 11 with fail
         refine wl <| gz6 (.bool true) (.bool false) (.bool false) (.bool false) (.bool true) (.bool true) <| wn ?_
         simp only [pu]
         obtain rfl := HOV2.out hsl
         clear HOV2 HST2 HI
         clear HNO HN2 HFI HSA HW HEM
         go_upto_region 12 with fail
         refine wl <| gz2 (.int .u64 0) (.bool false) <| wn ?_
         simp only [pu]
         go_wp2_with fail
         go_ret2
         exact ⟨rfl, rfl⟩
       ·skip
        rw [if_neg hpl] at CM
        have CA := r_add 0 d (by omega) (by omega) wr
        rw [if_pos (by omega), Nat.zero_add] at CA
        obtain rfl := HOV2.out (by omega)
        go_upto_region 9 with fail
        refine wl <| gz1 (.int .u64 m) <| gzc (.tuple #[.int .u64 0, .bool false]) (fun w' => wr = w') (CM) (fun V9 hV9 => ?_)
        subst hV9
        simp only [pu]
        refine gz5 (.tuple #[.int .u64 0, .bool false]) (.int .u64 0) (.bool false) (.int .u64 0) (.bool false) <| wn ?_
        simp only [pu]
        go_upto_region 10 with fail
        refine wl <| gz3 (.int .u64 0) (.string s) (.int .i64 i) <| gzv (.int .u8 c) (hat _ _ _ _ rfl (by kernel_rfl) (by kernel_rfl) _) <| gzw (.int .u8 d) (sub_8 rfl c d hd hd8) <| gzv (.int .u64 d) (cv_8w rfl d hd8 (by kernel_rfl) _) <|
         gzc (.tuple #[.int .u64 d, .bool true]) (fun w' => wr = w') (CA) (fun V9 hV9 => ?_)
        subst hV9
        simp only [pu]
        refine gz5 (.tuple #[.int .u64 d, .bool true]) (.int .u64 d) (.bool true) (.int .u64 d) (.bool true) <| wn ?_
        simp only [pu]
        clear CA CM hat HOV2 HST2 HI
        clear HNO HN2 HFI HSA HW HEM
        go_upto_region 11 with fail
        refine wl <| gz6 (.bool false) (.bool true) (.bool true) undef undef (.bool true) <| wn ?_
        simp only [pu]
        go_upto_region 12 with fail
        refine wl <| gz2 (.int .u64 0) (.bool false) <| wn ?_
        simp only [pu]
        go_wp2_with fail
        go_ret2
        exact ⟨rfl, rfl⟩
    ·skip
     obtain rfl : i = n := by omega
     obtain rfl := HFI.out i m HI.out HLL.out.symm (by rw [HLL.out]; exact hn0) HFC.out
     clear HI HFC
     clear HNO HN2 HFI HSA HW HEM
     go_upto_region 5 with fail
     refine wl <| gz2 (.int .i64 i) (.string s) <| gzv (.int .i64 i) (by rw [← hn]; kernel_rfl) <| gzb (lss_n rfl (i) (i) dF) <| wn ?_
     simp only [pu]
     go_upto_region 14 with fail
     refine wl <| gz3 (.int .u64 m) (.int .u64 m) (.int .u64 18446744073709551615) <| gzb (leq_wn rfl (m) (18446744073709551615) dT) <| gz2 (.int .u64 m) (.bool true) <| wn ?_
     simp only [pu]
     go_wp2_with fail
     go_ret2
     exact ⟨rfl, rfl⟩
end Go.Proofs.YtplfineaomneiaaDoor
