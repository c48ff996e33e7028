/-
 The reference's FormatConfig: contract.
-/
import Derived.Test.YtplfineaomneiaaDoorRU
namespace Go.Proofs.YtplfineaomneiaaDoor
attribute [local irreducible] wpList wpQuiet
open Go.RowKit
set_option maxRecDepth 100000
set_option linter.unusedSimpArgs false
set_option linter.unusedVariables false

section
variable {ρ : Operand → Value} {o : Oper} {x y : Operand}
theorem neq_e (ho : o.op = .binOp .neq 29 x y 29) (a b : Int) {t : Bool} (ht : decide (a ≠ b) = t) (hx : ρ x = .int .i64 a) (hy : ρ y = .int .i64 b) (w : World) : (execOp ρ o).run Tryd.prog w = .ok (.value (.bool t)) w := by
 have e : (a != b) = t := by rw [← ht]; by_cases h : a = b <;> simp [h]
 unfold execOp
 simp only [ho, hx, hy]
 go_simp
end
def kS (i : Nat) : ByteArray := keysB.getD i (⟨#[]⟩ : ByteArray)
def dS (c : List Int) (i : Nat) : ByteArray := strOfNums (decI (c.getD i 0))
def jS (c : List Int) (i : Nat) : ByteArray := strOfNums (joinL ((List.range i).map (lineL c)))
theorem kS_nums {i : Nat} (hi : i < 12) : strOfNums (keysL.getD i []) = kS i := by
 have h := keys_nums
 rw [← h, getD_nums keysB (by exact hi), str_nums]
 rfl
theorem kS_size : ∀ i, i < 12 → (kS i).size ≤ 12 := by decide +kernel
theorem join_step (ls : List (List Int)) (l : List Int) : joinL (ls ++ [l]) = joinL ls ++ (l ++ [10]) := by
 unfold joinL
 rw [List.map_append, List.flatten_append]
 simp
theorem jS_step {c : List Int} {i : Nat} (hi : i < 12) : jS c i ++ (((kS i ++ ⟨#[32]⟩) ++ dS c i) ++ ⟨#[10]⟩) = jS c (i + 1) := by
 unfold jS
 rw [List.range_succ, List.map_append, List.map_cons, List.map_nil, join_step, str_app]
 congr 1
 unfold lineL dS
 rw [← kS_nums hi, show keysL.getD i [] ++ 32 :: decI (c.getD i 0) ++ [10] = ((keysL.getD i [] ++ [32]) ++ decI (c.getD i 0)) ++ [10] by simp, str_app, str_app, str_app]
 rfl
theorem jS_end (c : List Int) : jS c 12 = strOfNums (fmtL c) := rfl
theorem dS_size {c : List Int} (h : valL c = 0) (h9 : 0 ≤ c.getD 9 0 ∧ c.getD 9 0 ≤ 18446744073709551615) {i : Nat} (hi : i < 12) : (dS c i).size ≤ 20 := by
 unfold dS
 rw [strOfNums_size]
 have := inR_rng hi (valL_inR h h9 hi)
 exact decI_len this.1 this.2
theorem valL_01 (c : List Int) : valL c = 0 ∨ valL c = 1 := by
 unfold valL
 by_cases h : okL c = true
 ·rw [if_pos h]; exact .inl rfl
 ·rw [if_neg h]; exact .inr rfl
def fmtV (c : List Int) : Value := if valL c = 0 then .tuple #[.string (strOfNums (fmtL c)), .int .i64 0] else .tuple #[.string ⟨#[]⟩, .int .i64 1]
set_option maxRecDepth 100000 in
set_option maxHeartbeats 8000000 in
theorem r_format {c : List Int} (hc : CfOk c) (w : World) : Calls Tryd.prog 17 #[.agg (cfA c)] w fun e w' => e = .returned (fmtV c) ∧ Below w.heap.size w w' := by
 obtain ⟨hc1, h6, h9a, h9b, hI⟩ := hc
 have hb0 : Below w.heap.size w (w.alloc (.cells (cfA c) 24)) := (Below.refl _ w).alloc (Nat.le_refl _) _
 have hX0 : Bx (w.alloc (.cells (cfA c) 24)) w.heap.size (cfA c) 24 := heap_alloc_last w _
 obtain ⟨W, hW⟩ : ∃ W, w.alloc (.cells (cfA c) 24) = W := ⟨_, rfl⟩
 rw [hW] at hb0 hX0
 have HB0 := Lib.hid hb0
 have CV := r_valid h6 W
 have HV : Hid (∀ i : Nat, i < 12 → i ≠ 9 → ∀ V, Calls Tryd.prog 30 #[.agg (cfA c), .int .i64 i] V fun e w' => e = .returned (.int .i64 (c.getD i 0)) ∧ Below V.heap.size V w') := Lib.hid fun i hi h9 V => by
  rw [← vals_at i hi h9]
  exact r_value h6 i hi V
 have HV9 : Hid (∀ V, Calls Tryd.prog 30 #[.agg (cfA c), .int .i64 (9 : Nat)] V fun e w' => e = .returned (.int .i64 0) ∧ Below V.heap.size V w') := Lib.hid fun V => r_value h6 9 (by omega) V
 have HD : Hid (∀ i : Nat, i < 12 → i ≠ 9 → ∀ V, Calls Tryd.prog 36 #[.int .i64 (c.getD i 0)] V fun e w' => e = .returned (.string (dS c i)) ∧ Below V.heap.size V w') := Lib.hid fun i hi h9 V => r_dec _ (hI i hi h9).1 (hI i hi h9).2 V
 have HD0 : Hid (∀ V, Calls Tryd.prog 36 #[.int .i64 0] V fun e w' => e = .returned (.string (strOfNums (decI 0))) ∧ Below V.heap.size V w') := Lib.hid fun V => r_dec 0 (by omega) (by omega) V
 obtain ⟨p, hp⟩ : ∃ p : Nat, c.getD 9 0 = (p : Int) := ⟨(c.getD 9 0).toNat, by omega⟩
 have HU : Hid (∀ V, Calls Tryd.prog 25 #[.int .u64 p] V fun e w' => e = .returned (.string (dS c 9)) ∧ Below V.heap.size V w') := Lib.hid fun V => by
  have e : dS c 9 = strOfNums (decN p) := by
   unfold dS decI
   rw [hp, if_neg (by omega), Int.toNat_natCast]
  rw [e]
  exact r_uns p (by omega) V
 have HST : Hid (∀ i, i < 12 → jS c i ++ (((kS i ++ ⟨#[32]⟩) ++ dS c i) ++ ⟨#[10]⟩) = jS c (i + 1)) := Lib.hid fun i hi => jS_step hi
 have HSZ : Hid (valL c = 0 → ∀ i, i < 12 → (kS i).size ≤ 12 ∧ (dS c i).size ≤ 20) := Lib.hid fun h i hi => ⟨kS_size i hi, dS_size h ⟨h9a, by omega⟩ hi⟩
 have HPR : Hid (∀ V g, Bx V g (cfA c) 24 → (Instr.loadAt 22 (.pointer (some ⟨g, 9, none⟩))).run Tryd.prog V = .ok (.int .u64 p) V) := Lib.hid fun V g h => by
  rw [← hp]
  exact h.load (i := 9) rfl (by kernel_rfl)
 have HLD : Hid (∀ V g, Bx V g (cfA c) 24 → (Instr.loadAt 24 (.pointer (some ⟨g, 0, none⟩))).run Tryd.prog V = .ok (.agg (cfA c)) V) := Lib.hid fun V g h => load_C h
 have HEND : Hid (valL c = 0 → .tuple #[.string (jS c 12), .int .i64 0] = fmtV c) := Lib.hid fun h => by unfold fmtV; rw [if_pos h, jS_end]
 have HBAD : Hid (valL c = 1 → .tuple #[.string ⟨#[]⟩, .int .i64 1] = fmtV c) := Lib.hid fun h => by unfold fmtV; rw [if_neg (by omega)]
 have H01 := valL_01 c
 obtain ⟨z, hz⟩ : ∃ z, fmtV c = z := ⟨_, rfl⟩
 rw [hz] at HEND HBAD ⊢
 have HJ0 : Hid (jS c 0 = ⟨#[]⟩) := Lib.hid rfl
 obtain ⟨v, hv⟩ : ∃ v, valL c = v := ⟨_, rfl⟩
 rw [hv] at CV HEND HBAD HSZ H01
 clear hz hb0 h6 hI hp h9a h9b hc1 hv
 go_enter Tryd.func17, Tryd.ntmps17
 go_upto_region 1 with fail
 obtain ⟨g1, hg1⟩ : ∃ g1, w.heap.size = g1 := ⟨_, rfl⟩
 rw [hg1] at hX0
 simp only [hg1]
 have hld := HLD.out _ _ hX0
 generalize cfA c = CC at *
 clear hW hg1
 refine wl <| gzl rfl ⟨g1, 0, none⟩ (.agg CC) (hld) <| gzc (.int .i64 v) (fun w' => Below W.heap.size W w') (CV) (fun W1 hb1 => ?_)
 simp only [pu]
 refine gz1 (.int .i64 v) <| wn ?_
 simp only [pu]
 have hX1 := hX0.below hX0.lt hb1
 have HB1 := Lib.hid (HB0.out.trans (hb1.mono HB0.out.size))
 clear hX0 hb1 HB0 CV hld
 rcases H01 with h01 | h01
 ·skip
  obtain rfl := h01
  have hE := HEND.out rfl
  have hSZ := HSZ.out rfl
  have HE0 := Lib.hid hE
  have HSZ1 := Lib.hid hSZ
  clear hE hSZ HEND HBAD HSZ
  go_upto_region 2 with fail
  refine wl <| gz1 (.int .i64 0) <| gzb (neq_e rfl 0 0 dF) <| wn ?_
  simp only [pu]
  go_upto_region 4 with fail
  refine wl <| gz1 (.string ⟨#[]⟩) <| wn ?_
  simp only [pu]
  go_upto_region 5 with fail
  refine wl <| gze (KsV W1) (r_keys2 W1) (fun vv W2 hq => ?_)
  obtain ⟨gk1, rfl, hxk1, hbk1⟩ := hq
  simp only [pu]
  refine gz2 (.int .i64 12) (.int .i64 0) <| wn ?_
  simp only [pu]
  have HXA := Lib.hid (hX1.below hX1.lt hbk1)
  have HKB := Lib.hid hxk1
  have HB2 := Lib.hid (HB1.out.trans (hbk1.mono HB1.out.size))
  clear hX1 hxk1 hbk1 HB1
  go_wp2_with fail
  go_loopg [5, 16] 12 (fun gg s5 s16 wx => ∃ (i : Nat) (s : ByteArray), s16 = .int .i64 i ∧ s5 = .string s ∧ i ≤ 12 ∧ gg + i = 12 ∧ Hid (s = jS c i ∧ s.size ≤ 40 * i) ∧ Hid (Below W2.heap.size W2 wx))
  case atStart => exact ⟨0, _, rfl, rfl, by omega, by omega, Lib.hid ⟨HJ0.out.symm, Nat.le_refl _⟩, Lib.hid (Below.refl _ _)⟩
  case round =>
   obtain ⟨i, s, hs16, hs5, hin, hg, HP, HR⟩ := hrel
   obtain rfl := hs16
   obtain rfl := hs5
   have HGK : Hid (gk + i = 12) := Lib.hid hg
   have hX := HXA.out.below HXA.out.lt HR.out
   have hK := HKB.out.below HKB.out.lt HR.out
   clear hg
   by_cases hlt : i < 12
   ·skip
    have hkl : (Instr.loadAt 9 (.pointer (some ⟨gk1, 0 + i, none⟩))).run Tryd.prog wr = .ok (.string (kS i)) wr := load_str hK (k := i) hlt
    have hst := HST.out i hlt
    obtain ⟨hz1, hz2⟩ := HSZ1.out i hlt
    obtain ⟨hp1, hp2⟩ := HP.out
    rw [← hp1] at hst
    obtain ⟨s9, hs9⟩ : ∃ s9, jS c (i + 1) = s9 := ⟨_, rfl⟩
    rw [hs9] at hst
    have HS9 := Lib.hid hs9.symm
    clear hs9
    have hdv := HD.out i hlt
    have hpu : i = 9 → ∀ V, Calls Tryd.prog 25 #[.int .u64 p] V fun e w' => e = .returned (.string (dS c i)) ∧ Below V.heap.size V w' := fun h => by rw [h]; exact HU.out
    generalize dS c i = d at *
    generalize kS i = kb at *
    obtain ⟨a1, ha1⟩ : ∃ a1, kb ++ (⟨#[32]⟩ : ByteArray) = a1 := ⟨_, rfl⟩
    have hq1 : a1.size = kb.size + 1 := by rw [← ha1, ByteArray.size_append]; rfl
    have hl1 : kb.size + (⟨#[32]⟩ : ByteArray).size ≤ 9223372036854775807 := by show kb.size + 1 ≤ _; omega
    rw [ha1] at hst
    obtain ⟨a2, ha2⟩ : ∃ a2, a1 ++ d = a2 := ⟨_, rfl⟩
    have hq2 : a2.size = a1.size + d.size := by rw [← ha2, ByteArray.size_append]
    have hl2 : a1.size + d.size ≤ 9223372036854775807 := by omega
    rw [ha2] at hst
    obtain ⟨a3, ha3⟩ : ∃ a3, a2 ++ (⟨#[10]⟩ : ByteArray) = a3 := ⟨_, rfl⟩
    have hq3 : a3.size = a2.size + 1 := by rw [← ha3, ByteArray.size_append]; rfl
    have hl3 : a2.size + (⟨#[10]⟩ : ByteArray).size ≤ 9223372036854775807 := by show a2.size + 1 ≤ _; omega
    rw [ha3] at hst
    have hl4 : s.size + a3.size ≤ 9223372036854775807 := by omega
    have hq4 : s9.size = s.size + a3.size := by rw [← hst, ByteArray.size_append]
    have HP2 : Hid (s9 = jS c (i + 1) ∧ s9.size ≤ 40 * (i + 1)) := Lib.hid ⟨HS9.out, by omega⟩
    clear hp1 hp2 hq1 hq2 hq3 hq4 hz1 hz2 HS9 HP hK
    go_upto_region 6 with fail
    refine wl <| gzb (lss_n rfl (i) (12) dT) <| wn ?_
    simp only [pu]
    go_upto_region 7 with fail
    refine wl <| gz1 (.int .i64 i) <| gzv (.pointer (some ⟨gk1, 0 + i, none⟩)) (idx_str gk1 0 12 12 i hlt _ _ _ rfl (by kernel_rfl) (by kernel_rfl)) <| gzl rfl ⟨gk1, 0 + i, none⟩ (.string kb) (hkl) <| gz2 (.int .i64 i) (.string kb) <| wn ?_
    simp only [pu]
    clear hkl
    by_cases h9 : i = 9
    ·skip
     have CU := hpu h9
     have CV := HV9.out wr
     rw [← h9] at CV
     go_upto_region 8 with fail
     refine wl <| gzl rfl ⟨g1, 0, none⟩ (.agg CC) (HLD.out _ _ hX) <| gz1 (.int .i64 i) <| gzc (.int .i64 0) (fun w' => Below wr.heap.size wr w') (CV) (fun V2 hb2 => ?_)
     simp only [pu]
     refine gzc (.string (strOfNums (decI 0))) (fun w' => Below V2.heap.size V2 w') (HD0.out V2) (fun V3 hb3 => ?_)
     simp only [pu]
     refine gz1 (.string (strOfNums (decI 0))) <| wn ?_
     simp only [pu]
     have hb23 := hb2.trans (hb3.mono hb2.size)
     have hX3 := hX.below hX.lt hb23
     have CU3 := CU V3
     go_upto_region 9 with fail
     refine wl <| gz1 (.int .i64 i) <| gzb (eql_nn rfl i 9 (decide_eq_true h9)) <| wn ?_
     simp only [pu]
     go_upto_region 10 with fail
     refine wl <| gz1 (.pointer (some ⟨g1, 9, none⟩)) <| gzl rfl ⟨g1, 9, none⟩ (.int .u64 p) (HPR.out _ _ hX3) <| gzc (.string d) (fun w' => Below V3.heap.size V3 w') (CU3) (fun V4 hb4 => ?_)
     simp only [pu]
     refine gz1 (.string d) <| wn ?_
     simp only [pu]
     have HR9 := Lib.hid (HR.out.trans ((hb23.trans (hb4.mono hb23.size)).mono HR.out.size))
     clear CU CU3 CV hb2 hb3 hb23 hb4 hX hX3 hpu hdv h9 HR
     go_upto_region 11 with fail
     refine wl <| gz2 (.string s) (.string kb) <| gzw (.string a1) (add_s rfl _ _ _ ha1 hl1) <| gz1 (.string d) <| gzw (.string a2) (add_s rfl _ _ _ ha2 hl2) <|
      gzw (.string a3) (add_s rfl _ _ _ ha3 hl3) <| gzw (.string s9) (add_s rfl _ _ _ hst hl4) <| gz1 (.string s9) <| wn ?_
     simp only [pu]
     clear ha1 ha2 ha3 hst hl1 hl2 hl3 hl4
     go_upto_region 12 with fail
     refine wl <| gzv (.int .i64 (i + 1 : Nat)) (add_one rfl i (by omega) (by kernel_rfl) _) <| gz1 (.int .i64 (i + 1 : Nat)) <| wn ?_
     simp only [pu]
     go_wp2_with fail
     go_roundg (12 - (i + 1))
     case measure => have := HGK.out; omega
     case rel => exact ⟨i + 1, s9, rfl, rfl, by omega, by omega, HP2, HR9⟩
    ·skip
     have CV := HV.out i hlt h9 wr
     have CD := hdv h9
     generalize c.getD i 0 = cv at *
     go_upto_region 8 with fail
     refine wl <| gzl rfl ⟨g1, 0, none⟩ (.agg CC) (HLD.out _ _ hX) <| gz1 (.int .i64 i) <| gzc (.int .i64 cv) (fun w' => Below wr.heap.size wr w') (CV) (fun V2 hb2 => ?_)
     simp only [pu]
     refine gzc (.string d) (fun w' => Below V2.heap.size V2 w') (CD V2) (fun V3 hb3 => ?_)
     simp only [pu]
     refine gz1 (.string d) <| wn ?_
     simp only [pu]
     have HR9 := Lib.hid (HR.out.trans ((hb2.trans (hb3.mono hb2.size)).mono HR.out.size))
     go_upto_region 9 with fail
     refine wl <| gz1 (.int .i64 i) <| gzb (eql_nn rfl i 9 (decide_eq_false h9)) <| wn ?_
     simp only [pu]
     clear CV CD hb2 hb3 hX hpu hdv h9 HR
     go_upto_region 11 with fail
     refine wl <| gz2 (.string s) (.string kb) <| gzw (.string a1) (add_s rfl _ _ _ ha1 hl1) <| gz1 (.string d) <| gzw (.string a2) (add_s rfl _ _ _ ha2 hl2) <|
      gzw (.string a3) (add_s rfl _ _ _ ha3 hl3) <| gzw (.string s9) (add_s rfl _ _ _ hst hl4) <| gz1 (.string s9) <| wn ?_
     simp only [pu]
     clear ha1 ha2 ha3 hst hl1 hl2 hl3 hl4
     go_upto_region 12 with fail
     refine wl <| gzv (.int .i64 (i + 1 : Nat)) (add_one rfl i (by omega) (by kernel_rfl) _) <| gz1 (.int .i64 (i + 1 : Nat)) <| wn ?_
     simp only [pu]
     go_wp2_with fail
     go_roundg (12 - (i + 1))
     case measure => have := HGK.out; omega
     case rel => exact ⟨i + 1, s9, rfl, rfl, by omega, by omega, HP2, HR9⟩
   ·skip
    obtain rfl : i = 12 := by omega
    obtain ⟨hp1, -⟩ := HP.out
    have h0 := HE0.out
    rw [← hp1] at h0
    obtain rfl := h0
    have HE := Lib.hid (HB2.out.trans (HR.out.mono HB2.out.size))
    clear hp1 HP HE0
    go_upto_region 6 with fail
    refine wl <| gzb (lss_n rfl ((12 : Nat)) (12) dF) <| wn ?_
    simp only [pu]
    go_upto_region 13 with fail
    refine wl <| gz3 (.string s) (.string s) (.int .i64 0) <| wn ?_
    simp only [pu]
    go_wp2_with fail
    go_ret2
    exact ⟨rfl, HE.out⟩
 ·skip
  obtain rfl := h01
  obtain rfl := HBAD.out rfl
  clear HEND HSZ HBAD HLD HPR HV HV9 HD HD0 HU HST
  go_upto_region 2 with fail
  refine wl <| gz1 (.int .i64 1) <| gzb (neq_e rfl 1 0 dT) <| wn ?_
  simp only [pu]
  go_upto_region 3 with fail
  refine wl <| gz3 (.int .i64 1) (.string ⟨#[]⟩) (.int .i64 1) <| wn ?_
  simp only [pu]
  go_wp2_with fail
  go_ret2
  exact ⟨rfl, HB1.out⟩
end Go.Proofs.YtplfineaomneiaaDoor
