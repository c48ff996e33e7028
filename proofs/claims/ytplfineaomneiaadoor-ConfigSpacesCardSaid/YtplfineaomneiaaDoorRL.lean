/-
 Strings cut and appended to rows; the reference's Lines: contract.
-/
import Derived.Test.YtplfineaomneiaaDoorRF
namespace Go.Proofs.YtplfineaomneiaaDoor
attribute [local irreducible] wpList wpQuiet
open Go.RowKit
set_option maxRecDepth 100000
set_option linter.unusedSimpArgs false
set_option linter.unusedVariables false

theorem sub_s {ρ : Operand → Value} {o : Oper} {x y z : Operand} (ho : o.op = .slice 9 x (some y) (some z) none) (s : ByteArray) (i j : Nat) (hij : i ≤ j) (hj : j ≤ s.size) (hx : ρ x = .string s) (hy : ρ y = .int .i64 i) (hz : ρ z = .int .i64 j) (w : World) : (execOp ρ o).run Tryd.prog w = .ok (.value (.string (s.extract i j))) w := by
 unfold execOp
 simp only [ho, hx, hy, hz]
 go_simp
theorem nums_sub (s : ByteArray) (i j : Nat) : nums (s.extract i j) = ((nums s).drop i).take (j - i) := by
 unfold nums
 rw [ByteArray.data_extract, Array.toList_extract, List.extract_eq_take_drop, List.map_take, List.map_drop]
theorem one_str (x : ByteArray) (w : World) : (Instr.buildSlice 39 1 #[(0, .string x)]).run Tryd.prog w = .ok (.slice (some ⟨w.heap.size, 0, none⟩) 1 1) (w.alloc (.cells #[.string x] 9)) := by
 obtain ⟨i0, hi, hz0, hz1, hz2⟩ := info_parts infoSt
 refine run_buildSlice w 39 9 1 _ #[.string x] i0 _ Tryd.underlying39 hi hz0 (by rw [hz1]; omega) (by rw [hz1]; omega) ?_
 rw [hz1]
 kernel_rfl
theorem own_no (w : World) (B e s : Nat) : w.ownsRow B e s (.slice none 0 0) 0 [] := ⟨by simp, .inl ⟨rfl, rfl⟩⟩
/-- Texts in a row of its own. -/
def NsO (w : World) (M : List (List Int)) (e : Ending) (w' : World) : Prop := ∃ v S, e = .returned v ∧ RowS w' w.heap.size v S ∧ S.map nums = M ∧ Below w.heap.size w w'
/-- So far the lines are known. -/
def LnI (L : List Int) (i a : Nat) (M : List (List Int)) : Prop := (i ≤ L.length ∧ a ≤ i ∧ splitL [] L = M ++ splitL ((L.drop a).take (i - a)) (L.drop i)) ∨ (i = L.length + 1 ∧ splitL [] L = M)
theorem LnI.zero (L : List Int) : LnI L 0 0 [] := .inl ⟨Nat.zero_le _, Nat.le_refl _, rfl⟩
theorem LnI.at_le {L : List Int} {i a : Nat} {M : List (List Int)} (h : LnI L i a M) (hi : i ≤ L.length) : a ≤ i := by
 rcases h with h | h
 ·exact h.2.1
 ·omega
theorem LnI.fin {L : List Int} {i a : Nat} {M : List (List Int)} (h : LnI L i a M) (hi : i = L.length + 1) : M = splitL [] L := by
 rcases h with h | h
 ·omega
 ·exact h.2.symm
theorem drop_getD {L : List Int} {i : Nat} (hi : i < L.length) : L.drop i = L.getD i 0 :: L.drop (i + 1) := by
 rw [List.getD_eq_getElem?_getD, List.getElem?_eq_getElem hi]
 exact List.drop_eq_getElem_cons hi
theorem LnI.cut {L : List Int} {i a : Nat} {M : List (List Int)} (h : LnI L i a M) (hi : i ≤ L.length) (hx : i = L.length ∨ L.getD i 0 = 10) : LnI L (i + 1) (i + 1) (M ++ [(L.drop a).take (i - a)]) := by
 rcases h with ⟨h1, h2, h3⟩ | h
 ·by_cases he : i = L.length
  ·refine .inr ⟨by omega, ?_⟩
   rw [h3, List.drop_eq_nil_of_le (by omega : L.length ≤ i)]
   rfl
  ·have hc : L.getD i 0 = 10 := hx.resolve_left he
   refine .inl ⟨by omega, Nat.le_refl _, ?_⟩
   rw [h3, drop_getD (by omega : i < L.length), hc, splitL, if_pos rfl, Nat.sub_self, List.take_zero, List.append_assoc]
   rfl
 ·omega
theorem LnI.keep {L : List Int} {i a : Nat} {M : List (List Int)} (h : LnI L i a M) (hi : i < L.length) (hx : ¬ L.getD i 0 = 10) : LnI L (i + 1) a M := by
 rcases h with ⟨h1, h2, h3⟩ | h
 ·refine .inl ⟨by omega, by omega, ?_⟩
  have e : (L.drop a).take (i - a) ++ [L.getD i 0] = (L.drop a).take (i + 1 - a) := by
   rw [show i + 1 - a = (i - a) + 1 by omega, List.take_add_one, List.getElem?_drop, show a + (i - a) = i by omega, List.getElem?_eq_getElem hi, Option.toList_some, List.getD_eq_getElem?_getD, List.getElem?_eq_getElem hi]
   rfl
  rw [h3, drop_getD hi, splitL, if_neg hx, e]
 ·omega
set_option maxRecDepth 100000 in
set_option maxHeartbeats 8000000 in
theorem r_lines (s : ByteArray) (hl : s.size ≤ 90000) (w : World) : Calls Tryd.prog 22 #[.string s] w (NsO w (splitL [] (nums s))) := by
 have HSA : Hid (∀ i, i < s.size → StrAt s i ((nums s).getD i 0)) := Lib.hid fun i hi => str_at s i hi
 have HCUT : Hid (∀ i a M, i ≤ s.size → LnI (nums s) i a M → (i = s.size ∨ (nums s).getD i 0 = 10) → LnI (nums s) (i + 1) (i + 1) (M ++ [nums (s.extract a i)])) := Lib.hid fun i a M hi h hx => by
  rw [nums_sub]
  exact h.cut (by rw [nums_len]; exact hi) (by rw [nums_len]; exact hx)
 have HKEEP : Hid (∀ i a M, i < s.size → LnI (nums s) i a M → ¬ (nums s).getD i 0 = 10 → LnI (nums s) (i + 1) a M) := Lib.hid fun i a M hi h hx => h.keep (by rw [nums_len]; exact hi) hx
 have HAT : Hid (∀ i a M, i ≤ s.size → LnI (nums s) i a M → a ≤ i) := Lib.hid fun i a M hi h => h.at_le (by rw [nums_len]; exact hi)
 have HEND : Hid (∀ a V v S, Below w.heap.size w V → RowS V w.heap.size v S → LnI (nums s) (s.size + 1) a (S.map nums) → NsO w (splitL [] (nums s)) (.returned v) V) := Lib.hid fun a V v S hb hr h => ⟨v, S, rfl, hr, h.fin (by rw [nums_len]), hb⟩
 have HZ := Lib.hid (LnI.zero (nums s))
 obtain ⟨PO, hPO⟩ : ∃ PO, NsO w (splitL [] (nums s)) = PO := ⟨_, rfl⟩
 rw [hPO] at HEND ⊢
 clear hPO
 generalize nums s = L at *
 obtain ⟨n, hn⟩ : ∃ n, s.size = n := ⟨_, rfl⟩
 have hsn : n ≤ s.size := by omega
 rw [hn] at HSA HCUT HKEEP HAT HEND hl
 go_enter Tryd.func22, Tryd.ntmps22
 go_upto_region 1 with fail
 refine wl <| gz1 (.slice none 0 0) <| wn ?_
 simp only [pu]
 go_upto_region 2 with fail
 refine wl <| gz1 (.int .i64 0) <| wn ?_
 simp only [pu]
 go_upto_region 3 with fail
 refine wl <| gz1 (.int .i64 0) <| wn ?_
 simp only [pu]
 go_wp2_with fail
 go_loopg [3, 4, 5] (n + 1) (fun gg s3 s4 s5 wx => ∃ (i a : Nat) (v : Value) (S : List ByteArray), s5 = .int .i64 i ∧ s4 = .int .i64 a ∧ s3 = v ∧ i ≤ n + 1 ∧ gg + i = n + 1 ∧ Hid (S.length ≤ i) ∧ Hid (LnI L i a (S.map nums)) ∧ Hid (RowS wx w.heap.size v S) ∧ Hid (Below w.heap.size w wx))
 case atStart => exact ⟨0, 0, _, [], rfl, rfl, rfl, by omega, by omega, Lib.hid (Nat.le_refl _), HZ, Lib.hid (own_no _ _ _ _), Lib.hid (Below.refl _ _)⟩
 case round =>
  obtain ⟨i, a, v, S, hs5, hs4, hs3, hin, hg, HSL, HI, HP, HR⟩ := hrel
  obtain rfl := hs5
  obtain rfl := hs4
  obtain rfl := hs3.symm
  have HGK : Hid (gk + i = n + 1) := Lib.hid hg
  clear hg HZ hs3
  by_cases hlt : i ≤ n
  ·skip
   have hai := HAT.out i a _ hlt HI.out
   have HCT : Hid ((i = n ∨ L.getD i 0 = 10) → LnI L (i + 1) (i + 1) (S.map nums ++ [nums (s.extract a i)])) := Lib.hid fun h => HCUT.out i a _ hlt HI.out h
   have HKP : Hid (i < n → ¬ L.getD i 0 = 10 → LnI L (i + 1) a (S.map nums)) := Lib.hid fun h h2 => HKEEP.out i a _ h HI.out h2
   go_upto_region 4 with fail
   refine wl <| gz2 (.int .i64 i) (.string s) <| gzv (.int .i64 n) (by rw [← hn]; kernel_rfl) <| gzb (leq_n rfl (i) (n) dT) <| wn ?_
   simp only [pu]
   by_cases hen : i = n
   ·skip
    go_upto_region 6 with fail
    refine wl <| gz2 (.int .i64 i) (.string s) <| gzv (.int .i64 n) (by rw [← hn]; kernel_rfl) <| gzb (eql_nn rfl i n (decide_eq_true hen)) <| gz6 (.bool true) undef undef undef undef (.bool true) <| wn ?_
    simp only [pu]
    have HI2 := HCT.out (.inl hen)
    have hbA : Below wr.heap.size wr (wr.alloc (.cells #[.string (s.extract a i)] 9)) := (Below.refl _ wr).alloc (Nat.le_refl _) _
    have hXA : Bx (wr.alloc (.cells #[.string (s.extract a i)] 9)) wr.heap.size #[.string (s.extract a i)] 9 := heap_alloc_last wr _
    obtain ⟨v6, W6, hap6, hrow6, hb6, -, -⟩ := app_str (RowS.below HP.out hbA) (Nat.le_trans (HR.out.size) hbA.size) (some ⟨wr.heap.size, 0, none⟩) 1 1 [s.extract a i] (Cs.block (cs := strs [s.extract a i]) hXA) rfl (by have := HSL.out; omega) (by omega)
    have hbW6 : Below w.heap.size wr W6 := (hbA.mono (HR.out.size)).trans hb6
    go_upto_region 7 with fail
    refine wl <| gz4 (v) (.string s) (.int .i64 a) (.int .i64 i) <| gzw (.string (s.extract a i)) (sub_s rfl s a i hai (by omega) (by kernel_rfl)) ?_
    simp only [pu]
    refine gw_build (by kernel_rfl) (some 27) rfl 39 1 #[(0, .tmp 26)] rfl #[(0, .string (s.extract a i))] (by kernel_rfl) (.slice (some ⟨wr.heap.size, 0, none⟩) 1 1) _ (one_str (s.extract a i) wr) ?_
    simp only [pu]
    refine append_step rfl (some 28) rfl 39 rfl (.tmp 22) (.tmp 27) 39 rfl (v) (.slice (some ⟨wr.heap.size, 0, none⟩) 1 1) (v6) W6 (by kernel_rfl) (by kernel_rfl) hap6 ?_
    simp only [pu]
    refine gz1 (v6) <| wn ?_
    simp only [pu]
    have HR6 := Lib.hid (HR.out.trans hbW6)
    have HP6 := Lib.hid hrow6
    have HSL6 : Hid ((S ++ [s.extract a i]).length ≤ i + 1) := Lib.hid (by rw [List.length_append]; have := HSL.out; show _ + 1 ≤ _; omega)
    have HI6 : Hid (LnI L (i + 1) (i + 1) ((S ++ [s.extract a i]).map nums)) := Lib.hid (by rw [List.map_append]; exact HI2)
    clear hap6 hrow6 hb6 hbW6 hbA hXA HI2 HCT HKP HI HP HSL HR
    go_upto_region 8 with fail
    refine wl <| gz1 (.int .i64 i) <| gzv (.int .i64 (i + 1 : Nat)) (add_one rfl i (by omega) (by kernel_rfl) _) <| gz1 (.int .i64 (i + 1 : Nat)) <| wn ?_
    simp only [pu]
    go_upto_region 5 with fail
    refine wl <| gz1 (.int .i64 i) <| gzv (.int .i64 (i + 1 : Nat)) (add_one rfl i (by omega) (by kernel_rfl) _) <| gz1 (.int .i64 (i + 1 : Nat)) <| wn ?_
    simp only [pu]
    go_wp2_with fail
    go_roundg (n + 1 - (i + 1))
    case measure => have := HGK.out; omega
    case rel => exact ⟨i + 1, i + 1, v6, _, rfl, rfl, rfl, by omega, by omega, HSL6, HI6, HP6, HR6⟩
   ·skip
    have hat := HSA.out i (by omega)
    by_cases hc : L.getD i 0 = 10
    ·skip
     have HC := Lib.hid hc
     obtain ⟨c, hcc⟩ : ∃ c, L.getD i 0 = c := ⟨_, rfl⟩
     rw [hcc] at hat hc
     clear hcc
     go_upto_region 6 with fail
     refine wl <| gz2 (.int .i64 i) (.string s) <| gzv (.int .i64 n) (by rw [← hn]; kernel_rfl) <| gzb (eql_nn rfl i n (decide_eq_false hen)) <| gz3 (.bool false) (.string s) (.int .i64 i) <|
      gzv (.int .u8 c) (hat _ _ _ _ rfl (by kernel_rfl) (by kernel_rfl) _) <| gzb (eql_u rfl c 10 (decide_eq_true hc)) <| gz1 (.bool true) <| wn ?_
     simp only [pu]
     clear hat hc
     have HI2 := HCT.out (.inr HC.out)
     have hbA : Below wr.heap.size wr (wr.alloc (.cells #[.string (s.extract a i)] 9)) := (Below.refl _ wr).alloc (Nat.le_refl _) _
     have hXA : Bx (wr.alloc (.cells #[.string (s.extract a i)] 9)) wr.heap.size #[.string (s.extract a i)] 9 := heap_alloc_last wr _
     obtain ⟨v6, W6, hap6, hrow6, hb6, -, -⟩ := app_str (RowS.below HP.out hbA) (Nat.le_trans (HR.out.size) hbA.size) (some ⟨wr.heap.size, 0, none⟩) 1 1 [s.extract a i] (Cs.block (cs := strs [s.extract a i]) hXA) rfl (by have := HSL.out; omega) (by omega)
     have hbW6 : Below w.heap.size wr W6 := (hbA.mono (HR.out.size)).trans hb6
     go_upto_region 7 with fail
     refine wl <| gz4 (v) (.string s) (.int .i64 a) (.int .i64 i) <| gzw (.string (s.extract a i)) (sub_s rfl s a i hai (by omega) (by kernel_rfl)) ?_
     simp only [pu]
     refine gw_build (by kernel_rfl) (some 27) rfl 39 1 #[(0, .tmp 26)] rfl #[(0, .string (s.extract a i))] (by kernel_rfl) (.slice (some ⟨wr.heap.size, 0, none⟩) 1 1) _ (one_str (s.extract a i) wr) ?_
     simp only [pu]
     refine append_step rfl (some 28) rfl 39 rfl (.tmp 22) (.tmp 27) 39 rfl (v) (.slice (some ⟨wr.heap.size, 0, none⟩) 1 1) (v6) W6 (by kernel_rfl) (by kernel_rfl) hap6 ?_
     simp only [pu]
     refine gz1 (v6) <| wn ?_
     simp only [pu]
     have HR6 := Lib.hid (HR.out.trans hbW6)
     have HP6 := Lib.hid hrow6
     have HSL6 : Hid ((S ++ [s.extract a i]).length ≤ i + 1) := Lib.hid (by rw [List.length_append]; have := HSL.out; show _ + 1 ≤ _; omega)
     have HI6 : Hid (LnI L (i + 1) (i + 1) ((S ++ [s.extract a i]).map nums)) := Lib.hid (by rw [List.map_append]; exact HI2)
     clear hap6 hrow6 hb6 hbW6 hbA hXA HI2 HCT HKP HI HP HSL HR
     go_upto_region 8 with fail
     refine wl <| gz1 (.int .i64 i) <| gzv (.int .i64 (i + 1 : Nat)) (add_one rfl i (by omega) (by kernel_rfl) _) <| gz1 (.int .i64 (i + 1 : Nat)) <| wn ?_
     simp only [pu]
     go_upto_region 5 with fail
     refine wl <| gz1 (.int .i64 i) <| gzv (.int .i64 (i + 1 : Nat)) (add_one rfl i (by omega) (by kernel_rfl) _) <| gz1 (.int .i64 (i + 1 : Nat)) <| wn ?_
     simp only [pu]
     go_wp2_with fail
     go_roundg (n + 1 - (i + 1))
     case measure => have := HGK.out; omega
     case rel => exact ⟨i + 1, i + 1, v6, _, rfl, rfl, rfl, by omega, by omega, HSL6, HI6, HP6, HR6⟩
    ·skip
     have HC := Lib.hid hc
     obtain ⟨c, hcc⟩ : ∃ c, L.getD i 0 = c := ⟨_, rfl⟩
     rw [hcc] at hat hc
     clear hcc
     go_upto_region 6 with fail
     refine wl <| gz2 (.int .i64 i) (.string s) <| gzv (.int .i64 n) (by rw [← hn]; kernel_rfl) <| gzb (eql_nn rfl i n (decide_eq_false hen)) <| gz3 (.bool false) (.string s) (.int .i64 i) <|
      gzv (.int .u8 c) (hat _ _ _ _ rfl (by kernel_rfl) (by kernel_rfl) _) <| gzb (eql_u rfl c 10 (decide_eq_false hc)) <| gz1 (.bool false) <| wn ?_
     simp only [pu]
     clear hat hc
     have HI6 := Lib.hid (HKP.out (by omega) HC.out)
     have HSL6 : Hid (S.length ≤ i + 1) := Lib.hid (by have := HSL.out; omega)
     clear HCT HKP HI HSL HC
     go_upto_region 5 with fail
     refine wl <| gz1 (.int .i64 i) <| gzv (.int .i64 (i + 1 : Nat)) (add_one rfl i (by omega) (by kernel_rfl) _) <| gz1 (.int .i64 (i + 1 : Nat)) <| wn ?_
     simp only [pu]
     go_wp2_with fail
     go_roundg (n + 1 - (i + 1))
     case measure => have := HGK.out; omega
     case rel => exact ⟨i + 1, a, v, S, rfl, rfl, rfl, by omega, by omega, HSL6, HI6, HP, HR⟩
  ·skip
   obtain rfl : i = n + 1 := by omega
   have HE := Lib.hid (HEND.out a wr v S HR.out HP.out HI.out)
   clear HP HR HI HEND HCUT HKEEP HAT HSA
   go_upto_region 4 with fail
   refine wl <| gz2 (.int .i64 (n + 1 : Nat)) (.string s) <| gzv (.int .i64 n) (by rw [← hn]; kernel_rfl) <| gzb (leq_n rfl ((n + 1 : Nat)) (n) dF) <| wn ?_
   simp only [pu]
   go_upto_region 9 with fail
   refine wl <| gz2 (v) (v) <| wn ?_
   simp only [pu]
   go_wp2_with fail
   exact HE.out
end Go.Proofs.YtplfineaomneiaaDoor
