/-
 The reference's digits: contract.
-/
import Derived.Test.YtplfineaomneiaaDoorRN
namespace Go.Proofs.YtplfineaomneiaaDoor
open Go.RowKit
set_option maxRecDepth 100000
set_option linter.unusedSimpArgs false
set_option linter.unusedVariables false

set_option maxRecDepth 100000 in
set_option maxHeartbeats 8000000 in
theorem r_digits (s : ByteArray) (hl : s.size ≤ 1000000) (w : World) : Calls Tryd.prog 69 #[.string s] w fun e w' => e = .returned (.bool (digitsX (nums s))) ∧ w = w' := by
 have HSA : Hid (∀ i, i < s.size → StrAt s i ((nums s).getD i 0)) := Lib.hid fun i hi => str_at s i hi
 have HLL := Lib.hid (nums_len s)
 have HEM : Hid (s = ⟨#[]⟩ ↔ (nums s).length = 0) := Lib.hid ⟨fun e => by rw [e]; rfl, fun e => nums_inj (by rw [List.eq_nil_of_length_eq_zero e]; rfl)⟩
 obtain ⟨z, hz⟩ : ∃ z, digitsX (nums s) = z := ⟨_, rfl⟩
 rw [hz]
 generalize nums s = L at *
 have HBD : Hid (∀ i, i < L.length → ¬ (48 ≤ L.getD i 0 ∧ L.getD i 0 ≤ 57) → false = z) := Lib.hid fun i hi h => by rw [← hz]; exact (dig_bad hi h).symm
 have HE0 : Hid (L.length = 0 → false = z) := Lib.hid fun h => by rw [← hz]; exact (dig_empty h).symm
 have HLD : Hid (1 < L.length → L.getD 0 0 = 48 → false = z) := Lib.hid fun h h0 => by rw [← hz]; exact (dig_lead h h0).symm
 have HYE : Hid ((∀ j, j < L.length → 48 ≤ L.getD j 0 ∧ L.getD j 0 ≤ 57) → 0 < L.length → (L.length = 1 ∨ L.getD 0 0 ≠ 48) → true = z) := Lib.hid fun h h0 h1 => by rw [← hz]; exact (dig_yes h h0 h1).symm
 clear hz
 obtain ⟨n, hn⟩ : ∃ n, s.size = n := ⟨_, rfl⟩
 rw [hn] at HSA hl
 rw [hn] at HLL
 rw [HLL.out] at HBD HE0 HLD HYE HEM
 go_enter Tryd.func69, Tryd.ntmps69
 go_upto_region 1 with fail
 refine wl <| gz1 (.int .i64 0) <| wn ?_
 simp only [pu]
 go_wp2_with fail
 go_loopg [3] n (fun gg s3 wx => ∃ (i : Nat), s3 = .int .i64 i ∧ i ≤ n ∧ gg + i = n ∧ Hid (∀ j, j < i → 48 ≤ L.getD j 0 ∧ L.getD j 0 ≤ 57) ∧ wx = w)
 case atStart => exact ⟨0, rfl, by omega, by omega, Lib.hid (fun j hj => absurd hj (Nat.not_lt_zero j)), rfl⟩
 case round =>
  obtain ⟨i, hs3, hin, hg, HI, hwx⟩ := hrel
  obtain rfl := hs3
  obtain rfl := hwx
  have HGK : Hid (gk + i = n) := Lib.hid hg
  clear hg
  by_cases hlt : i < n
  ·skip
   have hat := HSA.out i hlt
   have HB2 : Hid (¬ (48 ≤ L.getD i 0 ∧ L.getD i 0 ≤ 57) → false = z) := Lib.hid fun h => HBD.out i hlt h
   have HST : Hid ((48 ≤ L.getD i 0 ∧ L.getD i 0 ≤ 57) → ∀ j, j < i + 1 → 48 ≤ L.getD j 0 ∧ L.getD j 0 ≤ 57) := Lib.hid fun h j hj => if e : j < i then HI.out j e else by rw [show j = i by omega]; exact h
   generalize L.getD i 0 = c at *
   go_upto_region 2 with fail
   refine wl <| gz2 (.int .i64 i) (.string s) <| gzv (.int .i64 n) (by rw [← hn]; kernel_rfl) <| gzb (lss_n rfl (i) (n) dT) <| wn ?_
   simp only [pu]
   by_cases h1 : c < 48
   ·skip
    go_upto_region 4 with fail
    refine wl <| gz2 (.string s) (.int .i64 i) <| gzv (.int .u8 c) (hat _ _ _ _ rfl (by kernel_rfl) (by kernel_rfl) _) <| gzb (lss_u rfl c 48 (decide_eq_true h1)) <| gz6 (.bool true) undef undef undef undef (.bool true) <| wn ?_
    simp only [pu]
    obtain rfl := HB2.out (by omega)
    clear HBD HE0 HLD HYE HSA HEM HI HB2 HST hat
    go_upto_region 5 with fail
    refine wl <| gz1 (.bool false) <| wn ?_
    simp only [pu]
    go_wp2_with fail
    go_ret
    exact ⟨rfl, rfl⟩
   ·skip
    by_cases h2 : 57 < c
    ·skip
     go_upto_region 4 with fail
     refine wl <| gz2 (.string s) (.int .i64 i) <| gzv (.int .u8 c) (hat _ _ _ _ rfl (by kernel_rfl) (by kernel_rfl) _) <| gzb (lss_u rfl c 48 (decide_eq_false h1)) <| gz3 (.bool false) (.string s) (.int .i64 i) <|
      gzv (.int .u8 c) (hat _ _ _ _ rfl (by kernel_rfl) (by kernel_rfl) _) <| gzb (gtr_8 rfl c 57 (decide_eq_true h2)) <| gz1 (.bool true) <| wn ?_
     simp only [pu]
     obtain rfl := HB2.out (by omega)
     clear HBD HE0 HLD HYE HSA HEM HI HB2 HST hat
     go_upto_region 5 with fail
     refine wl <| gz1 (.bool false) <| wn ?_
     simp only [pu]
     go_wp2_with fail
     go_ret
     exact ⟨rfl, rfl⟩
    ·skip
     go_upto_region 4 with fail
     refine wl <| gz2 (.string s) (.int .i64 i) <| gzv (.int .u8 c) (hat _ _ _ _ rfl (by kernel_rfl) (by kernel_rfl) _) <| gzb (lss_u rfl c 48 (decide_eq_false h1)) <| gz3 (.bool false) (.string s) (.int .i64 i) <|
      gzv (.int .u8 c) (hat _ _ _ _ rfl (by kernel_rfl) (by kernel_rfl) _) <| gzb (gtr_8 rfl c 57 (decide_eq_false h2)) <| gz1 (.bool false) <| wn ?_
     simp only [pu]
     have HI2 := Lib.hid (HST.out ⟨by omega, by omega⟩)
     go_upto_region 3 with fail
     refine wl <| gz1 (.int .i64 i) <| gzv (.int .i64 (i + 1 : Nat)) (add_one rfl i (by omega) (by kernel_rfl) _) <| gz1 (.int .i64 (i + 1 : Nat)) <| wn ?_
     simp only [pu]
     go_wp2_with fail
     go_roundg (n - (i + 1))
     case measure => have := HGK.out; omega
     case rel => exact ⟨i + 1, rfl, by omega, by omega, HI2, rfl⟩
  ·skip
   obtain rfl : i = n := by omega
   go_upto_region 2 with fail
   refine wl <| gz2 (.int .i64 i) (.string s) <| gzv (.int .i64 i) (by rw [← hn]; kernel_rfl) <| gzb (lss_n rfl (i) (i) dF) <| wn ?_
   simp only [pu]
   by_cases hs : s = (⟨#[]⟩ : ByteArray)
   ·skip
    obtain rfl := HE0.out (HEM.out.1 hs)
    clear HBD HE0 HLD HYE HSA HEM HI
    go_upto_region 6 with fail
    refine wl <| gz1 (.string s) <| gzb (neq_t rfl s (⟨#[]⟩ : ByteArray) (decide_eq_false (not_not_intro hs))) <| gz6 (.bool false) undef undef undef undef undef <| gz5 undef undef undef (.bool false) (.bool false) <| wn ?_
    simp only [pu]
    go_wp2_with fail
    go_ret
    exact ⟨rfl, rfl⟩
   ·skip
    have hn0 : 0 < i := Nat.pos_of_ne_zero fun q => hs (HEM.out.2 q)
    have hat0 := HSA.out 0 hn0
    by_cases h1 : i = 1
    ·skip
     obtain rfl := HYE.out HI.out hn0 (.inl h1)
     clear HBD HE0 HLD HYE HSA HEM HI
     go_upto_region 6 with fail
     refine wl <| gz1 (.string s) <| gzb (neq_t rfl s (⟨#[]⟩ : ByteArray) (decide_eq_true hs)) <| gz2 (.bool true) (.string s) <| gzv (.int .i64 i) (by rw [← hn]; kernel_rfl) <|
      gzb (eql_nn rfl i 1 (decide_eq_true h1)) <| gz6 (.bool true) undef undef undef (.bool true) (.bool true) <| gz1 (.bool true) <| wn ?_
     simp only [pu]
     go_wp2_with fail
     go_ret
     exact ⟨rfl, rfl⟩
    ·skip
     have HY2 : Hid (L.getD 0 0 ≠ 48 → true = z) := Lib.hid fun h => HYE.out HI.out hn0 (.inr h)
     have HN2 : Hid (L.getD 0 0 = 48 → false = z) := Lib.hid fun h => HLD.out (by omega) h
     clear HBD HE0 HLD HYE HSA HEM HI
     generalize L.getD 0 0 = c at *
     by_cases hc : c = 48
     ·skip
      obtain rfl := HN2.out hc
      clear HN2 HY2
      go_upto_region 6 with fail
      refine wl <| gz1 (.string s) <| gzb (neq_t rfl s (⟨#[]⟩ : ByteArray) (decide_eq_true hs)) <| gz2 (.bool true) (.string s) <| gzv (.int .i64 i) (by rw [← hn]; kernel_rfl) <|
       gzb (eql_nn rfl i 1 (decide_eq_false h1)) <| gz2 (.bool false) (.string s) <| gzv (.int .u8 c) (hat0 _ _ _ _ rfl (by kernel_rfl) (by kernel_rfl) _) <|
       gzb (neq_8 rfl c 48 (decide_eq_false (not_not_intro hc))) <| gz3 (.bool false) (.bool false) (.bool false) <| wn ?_
      simp only [pu]
      go_wp2_with fail
      go_ret
      exact ⟨rfl, rfl⟩
     ·skip
      obtain rfl := HY2.out hc
      clear HN2 HY2
      go_upto_region 6 with fail
      refine wl <| gz1 (.string s) <| gzb (neq_t rfl s (⟨#[]⟩ : ByteArray) (decide_eq_true hs)) <| gz2 (.bool true) (.string s) <| gzv (.int .i64 i) (by rw [← hn]; kernel_rfl) <|
       gzb (eql_nn rfl i 1 (decide_eq_false h1)) <| gz2 (.bool false) (.string s) <| gzv (.int .u8 c) (hat0 _ _ _ _ rfl (by kernel_rfl) (by kernel_rfl) _) <| gzb (neq_8 rfl c 48 (decide_eq_true hc)) <|
       gz3 (.bool true) (.bool true) (.bool true) <| wn ?_
      simp only [pu]
      go_wp2_with fail
      go_ret
      exact ⟨rfl, rfl⟩
end Go.Proofs.YtplfineaomneiaaDoor
