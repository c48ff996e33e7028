/-
 The reference's words: contract.
-/
import Derived.Test.YtplfineaomneiaaDoorRL
import Derived.Test.YtplfineaomneiaaDoorUS
namespace Go.Proofs.YtplfineaomneiaaDoor
attribute [local irreducible] wpList wpQuiet
open Go.RowKit
set_option maxRecDepth 100000
set_option linter.unusedSimpArgs false
set_option linter.unusedVariables false

theorem neq_t {ρ : Operand → Value} {o : Oper} {x y : Operand} (ho : o.op = .binOp .neq 9 x y 9) (a b : ByteArray) {t : Bool} (ht : decide (a ≠ b) = t) (hx : ρ x = .string a) (hy : ρ y = .string b) (w : World) : (execOp ρ o).run Tryd.prog w = .ok (.value (.bool t)) w := by
 have h := neq_s ho a b (beqB a b) hx hy w
 have e : (!decide (a = b)) = t := by rw [← ht]; by_cases h : a = b <;> simp [h]
 rw [e] at h
 exact h
theorem add_nn {ρ : Operand → Value} {o : Oper} {x y : Operand} (ho : o.op = .binOp .add 3 x y 3) (a b : Nat) (h : a + b ≤ 1000000000) (hx : ρ x = .int .i64 a) (hy : ρ y = .int .i64 b) (w : World) : (execOp ρ o).run Tryd.prog w = .ok (.value (.int .i64 (a + b : Nat))) w := by
 have q := add_i ho (a : Int) (b : Int) (by omega) hx hy w
 rw [q]
 congr 3
theorem nums_nil : nums ⟨#[]⟩ = [] := rfl
theorem nums_ne {s : ByteArray} (h : s ≠ ⟨#[]⟩) : nums s ≠ [] := fun e => h (nums_inj (e.trans nums_nil.symm))
/-- So far the words are known. -/
def WdI (L : List Int) (i : Nat) (wd : ByteArray) (S : List ByteArray) : Prop := i ≤ L.length ∧ S.length ≤ i ∧ wd.size ≤ i ∧ runs L i ≠ none ∧ wrd L 0 [] = S.map nums ++ wrd L i (nums wd)
def WdE (L : List Int) (wd : ByteArray) (S : List ByteArray) : Prop := S.length ≤ L.length ∧ wrd L 0 [] = S.map nums ++ (if nums wd = [] then [] else [nums wd])
theorem WdI.zero {L : List Int} (h : runs L 0 ≠ none) : WdI L 0 ⟨#[]⟩ [] := ⟨Nat.zero_le _, Nat.le_refl _, Nat.le_refl _, h, rfl⟩
section
variable {L : List Int} {i : Nat} {wd r : ByteArray} {S : List ByteArray}
theorem WdI.run (h : WdI L i wd S) (hi : i < L.length) : runK L i ≠ 0 ∧ runs L (i + runK L i) ≠ none := runs_none hi h.2.2.2.1
theorem WdI.fin (h : WdI L i wd S) (hi : ¬ i < L.length) : WdE L wd S := ⟨by have := h.1; have := h.2.1; omega, by rw [h.2.2.2.2, wrd_end hi]⟩
theorem WdI.hash (h : WdI L i wd S) (hi : i < L.length) (hr : nums r = (L.drop i).take (runK L i)) (e : r = ⟨#[35]⟩) : WdE L wd S := by
 refine ⟨by have := h.1; have := h.2.1; omega, ?_⟩
 rw [h.2.2.2.2, wrd_step hi (h.run hi).1, ← hr, e, if_pos (by rfl)]
theorem WdI.size (hi : i < L.length) (hr : nums r = (L.drop i).take (runK L i)) : r.size = runK L i := by
 have h1 := congrArg List.length hr
 have h2 := run_len hi
 rw [nums_len, List.length_take, List.length_drop] at h1
 omega
theorem WdI.word (h : WdI L i wd S) (hi : i < L.length) (hr : nums r = (L.drop i).take (runK L i)) (e : ¬ r = ⟨#[35]⟩) (hs : spL (nums r) = false) : WdI L (i + runK L i) (wd ++ r) S := by
 have h2 := run_len hi
 refine ⟨h2, by have := h.2.1; omega, by rw [ByteArray.size_append, WdI.size hi hr]; have := h.2.2.1; omega, (h.run hi).2, ?_⟩
 rw [h.2.2.2.2, wrd_step hi (h.run hi).1, ← hr, if_neg (show ¬ nums r = [35] from fun q => e (nums_inj q)), if_neg (by rw [hs]; exact Bool.false_ne_true), nums_app]
theorem WdI.sp0 (h : WdI L i wd S) (hi : i < L.length) (hr : nums r = (L.drop i).take (runK L i)) (e : ¬ r = ⟨#[35]⟩) (hs : spL (nums r) = true) (hw : wd = ⟨#[]⟩) : WdI L (i + runK L i) wd S := by
 have h2 := run_len hi
 refine ⟨h2, by have := h.2.1; omega, by have := h.2.2.1; omega, (h.run hi).2, ?_⟩
 rw [h.2.2.2.2, wrd_step hi (h.run hi).1, ← hr, if_neg (show ¬ nums r = [35] from fun q => e (nums_inj q)), if_pos hs, hw, nums_nil, if_pos rfl]
theorem WdI.sp1 (h : WdI L i wd S) (hi : i < L.length) (hr : nums r = (L.drop i).take (runK L i)) (e : ¬ r = ⟨#[35]⟩) (hs : spL (nums r) = true) (hw : ¬ wd = ⟨#[]⟩) : WdI L (i + runK L i) ⟨#[]⟩ (S ++ [wd]) := by
 have h2 := run_len hi
 have h3 := (h.run hi).1
 refine ⟨h2, by rw [List.length_append]; have := h.2.1; show _ + 1 ≤ _; omega, Nat.zero_le _, (h.run hi).2, ?_⟩
 rw [h.2.2.2.2, wrd_step hi (h.run hi).1, ← hr, if_neg (show ¬ nums r = [35] from fun q => e (nums_inj q)), if_pos hs, if_neg (nums_ne hw), List.map_append, List.append_assoc]
 rfl
theorem WdE.no (h : WdE L wd S) (hw : wd = ⟨#[]⟩) : S.map nums = wrd L 0 [] := by
 rw [h.2, hw, nums_nil, if_pos rfl, List.append_nil]
theorem WdE.yes (h : WdE L wd S) (hw : ¬ wd = ⟨#[]⟩) : (S ++ [wd]).map nums = wrd L 0 [] := by
 rw [h.2, if_neg (nums_ne hw), List.map_append]
 rfl
end
set_option maxRecDepth 100000 in
set_option maxHeartbeats 8000000 in
theorem r_words (s : ByteArray) (hl : s.size ≤ 90000) (hv : runs (nums s) 0 ≠ none) (w : World) : Calls Tryd.prog 54 #[.string s] w (NsO w (wrd (nums s) 0 [])) := by
 have HR := Lib.hid (fun (i : Nat) (V : World) (hi : i < s.size) => ref_rune s i V hi (by omega))
 have HLL := Lib.hid (nums_len s)
 have HSUB : Hid (∀ i k, nums (s.extract i (i + k)) = ((nums s).drop i).take k) := Lib.hid fun i k => by rw [nums_sub, Nat.add_sub_cancel_left]
 have HNO : Hid (∀ V v S wd, Below w.heap.size w V → RowS V w.heap.size v S → WdE (nums s) wd S → wd = ⟨#[]⟩ → NsO w (wrd (nums s) 0 []) (.returned v) V) := Lib.hid fun V v S wd hb hr h hw => ⟨v, S, rfl, hr, h.no hw, hb⟩
 have HYES : Hid (∀ V v S wd, Below w.heap.size w V → RowS V w.heap.size v (S ++ [wd]) → WdE (nums s) wd S → ¬ wd = ⟨#[]⟩ → NsO w (wrd (nums s) 0 []) (.returned v) V) := Lib.hid fun V v S wd hb hr h hw => ⟨v, _, rfl, hr, h.yes hw, hb⟩
 have HZ := Lib.hid (WdI.zero hv)
 obtain ⟨PO, hPO⟩ : ∃ PO, NsO w (wrd (nums s) 0 []) = PO := ⟨_, rfl⟩
 rw [hPO] at HNO HYES ⊢
 clear hPO hv
 generalize nums s = L at *
 obtain ⟨n, hn⟩ : ∃ n, s.size = n := ⟨_, rfl⟩
 have hsn : n ≤ s.size := by omega
 rw [hn] at HR HLL hl
 go_enter Tryd.func54, Tryd.ntmps54
 go_upto_region 1 with fail
 refine wl <| gz1 (.slice none 0 0) <| wn ?_
 simp only [pu]
 go_upto_region 2 with fail
 refine wl <| gz1 (.string ⟨#[]⟩) <| wn ?_
 simp only [pu]
 go_upto_region 3 with fail
 refine wl <| gz1 (.int .i64 0) <| wn ?_
 simp only [pu]
 go_wp2_with fail
 go_loopg [3, 4, 5] n (fun gg s3 s4 s5 wx => ∃ (i : Nat) (wd : ByteArray) (v : Value) (S : List ByteArray), s5 = .int .i64 i ∧ s4 = .string wd ∧ s3 = v ∧ i ≤ n ∧ n - i ≤ gg ∧ Hid (WdI L i wd S) ∧ Hid (RowS wx w.heap.size v S) ∧ Hid (Below w.heap.size w wx))
 case atStart => exact ⟨0, _, _, [], rfl, rfl, rfl, by omega, by omega, HZ, Lib.hid (own_no _ _ _ _), Lib.hid (Below.refl _ _)⟩
 case round =>
  obtain ⟨i, wd, v, S, hs5, hs4, hs3, hin, hg, HI, HP, HB⟩ := hrel
  obtain rfl := hs5
  obtain rfl := hs4
  obtain rfl := hs3.symm
  clear HZ hs3
  by_cases hlt : i < n
  ·skip
   have CR := HR.out i wr hlt
   have hiL : i < L.length := by rw [HLL.out]; exact hlt
   have hk0 := (HI.out.run hiL).1
   have hkl := run_len hiL
   rw [HLL.out] at hkl
   have hrn := HSUB.out i (runK L i)
   have hst := HI.out
   obtain ⟨r, hr⟩ : ∃ r, s.extract i (i + runK L i) = r := ⟨_, rfl⟩
   rw [hr] at hrn
   have HHA : Hid (r = ⟨#[35]⟩ → WdE L wd S) := Lib.hid fun e => hst.hash hiL hrn e
   have HWO : Hid (¬ r = ⟨#[35]⟩ → spL (nums r) = false → WdI L (i + runK L i) (wd ++ r) S) := Lib.hid fun e h => hst.word hiL hrn e h
   have HS0 : Hid (¬ r = ⟨#[35]⟩ → spL (nums r) = true → wd = ⟨#[]⟩ → WdI L (i + runK L i) wd S) := Lib.hid fun e h q => hst.sp0 hiL hrn e h q
   have HS1 : Hid (¬ r = ⟨#[35]⟩ → spL (nums r) = true → ¬ wd = ⟨#[]⟩ → WdI L (i + runK L i) ⟨#[]⟩ (S ++ [wd])) := Lib.hid fun e h q => hst.sp1 hiL hrn e h q
   have hsz : wd.size + r.size ≤ 9223372036854775807 := by have := WdI.size hiL hrn; have := hst.2.2.1; omega
   have HSL : Hid (S.length ≤ i) := Lib.hid hst.2.1
   have CS := r_space r wr
   clear hst hrn hiL
   generalize runK L i = k at *
   go_upto_region 4 with fail
   refine wl <| gz2 (.int .i64 i) (.string s) <| gzv (.int .i64 n) (by rw [← hn]; kernel_rfl) <| gzb (lss_n rfl (i) (n) dT) <| wn ?_
   simp only [pu]
   go_upto_region 5 with fail
   refine wl <| gz2 (.string s) (.int .i64 i) <| gzc (.int .i64 k) (fun w' => wr = w') (CR) (fun V9 hV9 => ?_)
   subst hV9
   simp only [pu]
   refine gz1 (.int .i64 k) <| wn ?_
   simp only [pu]
   have hik : i ≤ i + k := by omega
   have hikn : i + k ≤ s.size := by omega
   go_upto_region 6 with fail
   refine wl <| gz4 (.string s) (.int .i64 i) (.int .i64 i) (.int .i64 k) <| gzw (.int .i64 (i + k : Nat)) (add_nn rfl i k (by omega)) <|
    gzv (.string r) ((by rw [← hr]; exact sub_s rfl s i (i + k) hik hikn (by kernel_rfl) (by kernel_rfl) (by kernel_rfl) _)) <| gz1 (.string r) <| wn ?_
   simp only [pu]
   clear hr hikn hik
   go_upto_region 7 with fail
   refine wl <| gz2 (.int .i64 i) (.int .i64 k) <| gzw (.int .i64 (i + k : Nat)) (add_nn rfl i k (by omega)) <| gz1 (.int .i64 (i + k : Nat)) <| wn ?_
   simp only [pu]
   by_cases hha : r = (⟨#[35]⟩ : ByteArray)
   ·skip
    have HWE := Lib.hid (HHA.out hha)
    go_upto_region 8 with fail
    refine wl <| gz1 (.string r) <| gzw (.bool true) (eql_s rfl r ⟨#[35]⟩ (by rw [beqB]; exact decide_eq_true hha)) <| wn ?_
    simp only [pu]
    clear hha HHA HWO HS0 HS1 CS CR
    by_cases hwe : wd = (⟨#[]⟩ : ByteArray)
    ·skip
     have HE := Lib.hid (HNO.out wr v S wd HB.out HP.out HWE.out hwe)
     go_upto_region 14 with fail
     refine wl <| gz1 (.string wd) <| gzb (neq_t rfl wd (⟨#[]⟩ : ByteArray) (decide_eq_false (not_not_intro hwe))) <| wn ?_
     simp only [pu]
     clear hwe HNO HYES HI HP HB
     go_upto_region 16 with fail
     refine wl <| gz2 (v) (v) <| wn ?_
     simp only [pu]
     go_wp2_with fail
     exact HE.out
    ·skip
     go_upto_region 14 with fail
     refine wl <| gz1 (.string wd) <| gzb (neq_t rfl wd (⟨#[]⟩ : ByteArray) (decide_eq_true hwe)) <| wn ?_
     simp only [pu]
     have hbA : Below wr.heap.size wr (wr.alloc (.cells #[.string (wd)] 9)) := (Below.refl _ wr).alloc (Nat.le_refl _) _
     have hXA : Bx (wr.alloc (.cells #[.string (wd)] 9)) wr.heap.size #[.string (wd)] 9 := heap_alloc_last wr _
     obtain ⟨v6, W6, hap6, hrow6, hb6, -, -⟩ := app_str (RowS.below HP.out hbA) (Nat.le_trans (HB.out.size) hbA.size) (some ⟨wr.heap.size, 0, none⟩) 1 1 [wd] (Cs.block (cs := strs [wd]) hXA) rfl (by have := (HWE.out).1; have := HLL.out; omega) (by omega)
     have hbW6 : Below w.heap.size wr W6 := (hbA.mono (HB.out.size)).trans hb6
     go_upto_region 15 with fail
     refine wl <| gz2 (v) (.string wd) ?_
     simp only [pu]
     refine gw_build (by kernel_rfl) (some 42) rfl 39 1 #[(0, .tmp 41)] rfl #[(0, .string (wd))] (by kernel_rfl) (.slice (some ⟨wr.heap.size, 0, none⟩) 1 1) _ (one_str (wd) wr) ?_
     simp only [pu]
     refine append_step rfl (some 43) rfl 39 rfl (.tmp 40) (.tmp 42) 39 rfl (v) (.slice (some ⟨wr.heap.size, 0, none⟩) 1 1) (v6) W6 (by kernel_rfl) (by kernel_rfl) hap6 ?_
     simp only [pu]
     refine gz1 (v6) <| wn ?_
     simp only [pu]
     have HE := Lib.hid (HYES.out W6 v6 S wd (HB.out.trans hbW6) hrow6 HWE.out hwe)
     clear hap6 hrow6 hb6 hbW6 hbA hXA hwe HNO HYES HI HP HB
     go_upto_region 16 with fail
     refine wl <| gz2 (v6) (v6) <| wn ?_
     simp only [pu]
     go_wp2_with fail
     exact HE.out
   ·skip
    go_upto_region 8 with fail
    refine wl <| gz1 (.string r) <| gzw (.bool false) (eql_s rfl r ⟨#[35]⟩ (by rw [beqB]; exact decide_eq_false hha)) <| wn ?_
    simp only [pu]
    have HWO2 := Lib.hid (HWO.out hha)
    have HS02 := Lib.hid (HS0.out hha)
    have HS12 := Lib.hid (HS1.out hha)
    clear hha HHA HWO HS0 HS1 CR
    cases hsp : spL (nums r)
    ·skip
     rw [hsp] at CS
     have HI2 := Lib.hid (HWO2.out hsp)
     go_upto_region 9 with fail
     refine wl <| gz1 (.string r) <| gzc (.bool false) (fun w' => wr = w') (CS) (fun V9 hV9 => ?_)
     subst hV9
     simp only [pu]
     refine gz1 (.bool true) <| wn ?_
     simp only [pu]
     clear CS hsp HWO2 HS02 HS12 HI
     go_upto_region 10 with fail
     refine wl <| gz2 (.string wd) (.string r) <| gzw (.string (wd ++ r)) (add_s rfl wd r _ rfl hsz) <| gz1 (.string (wd ++ r)) <| wn ?_
     simp only [pu]
     go_wp2_with fail
     go_roundg (n - (i + k))
     case measure => omega
     case rel => exact ⟨i + k, wd ++ r, v, S, rfl, rfl, rfl, by omega, by omega, HI2, HP, HB⟩
    ·skip
     rw [hsp] at CS
     have HS03 := Lib.hid (HS02.out hsp)
     have HS13 := Lib.hid (HS12.out hsp)
     go_upto_region 9 with fail
     refine wl <| gz1 (.string r) <| gzc (.bool true) (fun w' => wr = w') (CS) (fun V9 hV9 => ?_)
     subst hV9
     simp only [pu]
     refine gz1 (.bool false) <| wn ?_
     simp only [pu]
     clear CS hsp HWO2 HS02 HS12 hsz HI
     by_cases hwe : wd = (⟨#[]⟩ : ByteArray)
     ·skip
      have HI2 := Lib.hid (HS03.out hwe)
      go_upto_region 11 with fail
      refine wl <| gz1 (.string wd) <| gzb (neq_t rfl wd (⟨#[]⟩ : ByteArray) (decide_eq_false (not_not_intro hwe))) <| wn ?_
      simp only [pu]
      subst hwe
      clear HS03 HS13
      go_wp2_with fail
      go_roundg (n - (i + k))
      case measure => omega
      case rel => exact ⟨i + k, _, v, S, rfl, rfl, rfl, by omega, by omega, HI2, HP, HB⟩
     ·skip
      have HI2 := Lib.hid (HS13.out hwe)
      go_upto_region 11 with fail
      refine wl <| gz1 (.string wd) <| gzb (neq_t rfl wd (⟨#[]⟩ : ByteArray) (decide_eq_true hwe)) <| wn ?_
      simp only [pu]
      have hbA : Below wr.heap.size wr (wr.alloc (.cells #[.string (wd)] 9)) := (Below.refl _ wr).alloc (Nat.le_refl _) _
      have hXA : Bx (wr.alloc (.cells #[.string (wd)] 9)) wr.heap.size #[.string (wd)] 9 := heap_alloc_last wr _
      obtain ⟨v6, W6, hap6, hrow6, hb6, -, -⟩ := app_str (RowS.below HP.out hbA) (Nat.le_trans (HB.out.size) hbA.size) (some ⟨wr.heap.size, 0, none⟩) 1 1 [wd] (Cs.block (cs := strs [wd]) hXA) rfl (by have := HSL.out; omega) (by omega)
      have hbW6 : Below w.heap.size wr W6 := (hbA.mono (HB.out.size)).trans hb6
      go_upto_region 12 with fail
      refine wl <| gz2 (v) (.string wd) ?_
      simp only [pu]
      refine gw_build (by kernel_rfl) (some 36) rfl 39 1 #[(0, .tmp 35)] rfl #[(0, .string (wd))] (by kernel_rfl) (.slice (some ⟨wr.heap.size, 0, none⟩) 1 1) _ (one_str (wd) wr) ?_
      simp only [pu]
      refine append_step rfl (some 37) rfl 39 rfl (.tmp 34) (.tmp 36) 39 rfl (v) (.slice (some ⟨wr.heap.size, 0, none⟩) 1 1) (v6) W6 (by kernel_rfl) (by kernel_rfl) hap6 ?_
      simp only [pu]
      refine gz1 (v6) <| wn ?_
      simp only [pu]
      have HR6 := Lib.hid (HB.out.trans hbW6)
      have HP6 := Lib.hid hrow6
      clear hap6 hrow6 hb6 hbW6 hbA hXA hwe HS03 HS13 HP HB
      go_upto_region 13 with fail
      refine wl <| gz1 (.string ⟨#[]⟩) <| wn ?_
      simp only [pu]
      go_wp2_with fail
      go_roundg (n - (i + k))
      case measure => omega
      case rel => exact ⟨i + k, _, v6, _, rfl, rfl, rfl, by omega, by omega, HI2, HP6, HR6⟩
  ·skip
   obtain rfl : i = n := by omega
   have HWE := Lib.hid (HI.out.fin (by rw [HLL.out]; exact hlt))
   go_upto_region 4 with fail
   refine wl <| gz2 (.int .i64 i) (.string s) <| gzv (.int .i64 i) (by rw [← hn]; kernel_rfl) <| gzb (lss_n rfl (i) (i) dF) <| wn ?_
   simp only [pu]
   by_cases hwe : wd = (⟨#[]⟩ : ByteArray)
   ·skip
    have HE := Lib.hid (HNO.out wr v S wd HB.out HP.out HWE.out hwe)
    go_upto_region 14 with fail
    refine wl <| gz1 (.string wd) <| gzb (neq_t rfl wd (⟨#[]⟩ : ByteArray) (decide_eq_false (not_not_intro hwe))) <| wn ?_
    simp only [pu]
    clear hwe HNO HYES HI HP HB
    go_upto_region 16 with fail
    refine wl <| gz2 (v) (v) <| wn ?_
    simp only [pu]
    go_wp2_with fail
    exact HE.out
   ·skip
    go_upto_region 14 with fail
    refine wl <| gz1 (.string wd) <| gzb (neq_t rfl wd (⟨#[]⟩ : ByteArray) (decide_eq_true hwe)) <| wn ?_
    simp only [pu]
    have hbA : Below wr.heap.size wr (wr.alloc (.cells #[.string (wd)] 9)) := (Below.refl _ wr).alloc (Nat.le_refl _) _
    have hXA : Bx (wr.alloc (.cells #[.string (wd)] 9)) wr.heap.size #[.string (wd)] 9 := heap_alloc_last wr _
    obtain ⟨v6, W6, hap6, hrow6, hb6, -, -⟩ := app_str (RowS.below HP.out hbA) (Nat.le_trans (HB.out.size) hbA.size) (some ⟨wr.heap.size, 0, none⟩) 1 1 [wd] (Cs.block (cs := strs [wd]) hXA) rfl (by have := (HWE.out).1; have := HLL.out; omega) (by omega)
    have hbW6 : Below w.heap.size wr W6 := (hbA.mono (HB.out.size)).trans hb6
    go_upto_region 15 with fail
    refine wl <| gz2 (v) (.string wd) ?_
    simp only [pu]
    refine gw_build (by kernel_rfl) (some 42) rfl 39 1 #[(0, .tmp 41)] rfl #[(0, .string (wd))] (by kernel_rfl) (.slice (some ⟨wr.heap.size, 0, none⟩) 1 1) _ (one_str (wd) wr) ?_
    simp only [pu]
    refine append_step rfl (some 43) rfl 39 rfl (.tmp 40) (.tmp 42) 39 rfl (v) (.slice (some ⟨wr.heap.size, 0, none⟩) 1 1) (v6) W6 (by kernel_rfl) (by kernel_rfl) hap6 ?_
    simp only [pu]
    refine gz1 (v6) <| wn ?_
    simp only [pu]
    have HE := Lib.hid (HYES.out W6 v6 S wd (HB.out.trans hbW6) hrow6 HWE.out hwe)
    clear hap6 hrow6 hb6 hbW6 hbA hXA hwe HNO HYES HI HP HB
    go_upto_region 16 with fail
    refine wl <| gz2 (v6) (v6) <| wn ?_
    simp only [pu]
    go_wp2_with fail
    exact HE.out
end Go.Proofs.YtplfineaomneiaaDoor
