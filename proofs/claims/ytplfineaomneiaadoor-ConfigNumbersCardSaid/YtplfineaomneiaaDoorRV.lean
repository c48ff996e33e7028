/-
 The reference's ValidateConfig: contract.
-/
import Derived.Test.YtplfineaomneiaaDoorRT
namespace Go.Proofs.YtplfineaomneiaaDoor
attribute [local irreducible] wpList wpQuiet
open Go.RowKit
set_option maxRecDepth 100000
set_option linter.unusedSimpArgs false
set_option linter.unusedVariables false

def KsV (w : World) (v : Value) (w' : World) : Prop := ∃ g, v = .slice (some ⟨g, 0, none⟩) 12 12 ∧ Bx w' g (strs keysB).toArray 9 ∧ Below w.heap.size w w'
theorem r_keys2 (w : World) : Calls Tryd.prog 29 #[] w fun e w' => ∃ v, e = .returned v ∧ KsV w v w' := (r_keys w).mono fun e w' z => by
 obtain ⟨g, h1, h2, h3⟩ := z
 exact ⟨_, h1, g, rfl, h2, h3⟩
/-- A field is in its range. -/
def okP (c : List Int) (j : Nat) : Prop := j = 9 ∨ (leastL.getD j 0 ≤ c.getD j 0 ∧ c.getD j 0 ≤ greatL.getD j 0)
theorem val_bad {c : List Int} {i : Nat} (hi : i < 12) (h : ¬ okP c i) : valL c = 1 := by
 unfold valL okL
 rw [if_neg]
 intro hh
 rw [Bool.and_eq_true, List.all_eq_true] at hh
 have h1 := hh.1 i (List.mem_range.2 hi)
 rw [Bool.or_eq_true, Bool.and_eq_true, decide_eq_true_eq, decide_eq_true_eq, decide_eq_true_eq] at h1
 exact h h1
theorem val_fin {c : List Int} (h : ∀ i, i < 12 → okP c i) : valL c = if c.getD 10 0 < c.getD 11 0 then 0 else 1 := by
 have h1 : ((List.range 12).all fun i => decide (i = 9) || (decide (leastL.getD i 0 ≤ c.getD i 0) && decide (c.getD i 0 ≤ greatL.getD i 0))) = true := by
  rw [List.all_eq_true]
  intro i hi
  rw [Bool.or_eq_true, Bool.and_eq_true, decide_eq_true_eq, decide_eq_true_eq, decide_eq_true_eq]
  exact h i (List.mem_range.1 hi)
 unfold valL okL
 rw [h1, Bool.true_and]
 by_cases h2 : c.getD 10 0 < c.getD 11 0
 ·rw [if_pos (decide_eq_true h2), if_pos h2]
 ·rw [if_neg (by rw [decide_eq_true_eq]; exact h2), if_neg h2]
set_option maxRecDepth 100000 in
set_option maxHeartbeats 8000000 in
theorem r_valid {c : List Int} (h6 : c.getD 6 0 = 0 ∨ c.getD 6 0 = 1) (w : World) : Calls Tryd.prog 13 #[.agg (cfA c)] w fun e w' => e = .returned (.int .i64 (valL c)) ∧ Below w.heap.size w w' := by
 have hb0 : Below w.heap.size w (w.alloc (.cells (cfA c) 24)) := (Below.refl _ w).alloc (Nat.le_refl _) _
 have hX0 : Bx (w.alloc (.cells (cfA c) 24)) w.heap.size (cfA c) 24 := heap_alloc_last w _
 obtain ⟨W, hW⟩ : ∃ W, w.alloc (.cells (cfA c) 24) = W := ⟨_, rfl⟩
 rw [hW] at hb0 hX0
 have HB0 := Lib.hid hb0
 have HBAD : Hid (∀ i, i < 12 → ¬ okP c i → (1 : Int) = valL c) := Lib.hid fun i hi h => (val_bad hi h).symm
 have HFIN : Hid ((∀ i, i < 12 → okP c i) → (if c.getD 10 0 < c.getD 11 0 then (0 : Int) else 1) = valL c) := Lib.hid fun h => (val_fin h).symm
 have HV : Hid (∀ i : Nat, i < 12 → i ≠ 9 → ∀ V, Calls Tryd.prog 30 #[.agg (cfA c), .int .i64 i] V fun e w' => e = .returned (.int .i64 (c.getD i 0)) ∧ Below V.heap.size V w') := Lib.hid fun i hi h9 V => by
  rw [← vals_at i hi h9]
  exact r_value h6 i hi V
 have HLD : Hid (∀ V g, Bx V g (cfA c) 24 → (Instr.loadAt 24 (.pointer (some ⟨g, 0, none⟩))).run Tryd.prog V = .ok (.agg (cfA c)) V) := Lib.hid fun V g h => load_C h
 have H10 : Hid (∀ V g, Bx V g (cfA c) 24 → (Instr.loadAt 3 (.pointer (some ⟨g, 10, none⟩))).run Tryd.prog V = .ok (.int .i64 (c.getD 10 0)) V ∧ (Instr.loadAt 3 (.pointer (some ⟨g, 11, none⟩))).run Tryd.prog V = .ok (.int .i64 (c.getD 11 0)) V) := Lib.hid fun V g h => ⟨h.load (i := 10) rfl (by kernel_rfl), h.load (i := 11) rfl (by kernel_rfl)⟩
 obtain ⟨z, hz⟩ : ∃ z, valL c = z := ⟨_, rfl⟩
 rw [hz] at HBAD HFIN ⊢
 clear hz hb0 h6
 go_enter Tryd.func13, Tryd.ntmps13
 go_upto_region 1 with fail
 obtain ⟨g1, hg1⟩ : ∃ g1, w.heap.size = g1 := ⟨_, rfl⟩
 rw [hg1] at hX0
 simp only [hg1]
 generalize cfA c = CC at *
 clear hW hg1
 refine wl <| gze (KsV W) (r_keys2 W) (fun vv W1 hq => ?_)
 obtain ⟨gk1, rfl, hxk1, hbk1⟩ := hq
 simp only [pu]
 refine gz2 (.int .i64 12) (.int .i64 0) <| wn ?_
 simp only [pu]
 have HX1 := Lib.hid (hX0.below hX0.lt hbk1)
 have HB1 := Lib.hid (HB0.out.trans (hbk1.mono HB0.out.size))
 clear hX0 hxk1 hbk1 HB0
 go_wp2_with fail
 go_loopg [6] 12 (fun gg s6 wx => ∃ (i : Nat), s6 = .int .i64 i ∧ i ≤ 12 ∧ gg + i = 12 ∧ Hid (∀ j, j < i → okP c j) ∧ Hid (Below W1.heap.size W1 wx))
 case atStart => exact ⟨0, rfl, by omega, by omega, Lib.hid (fun j hj => absurd hj (Nat.not_lt_zero j)), Lib.hid (Below.refl _ _)⟩
 case round =>
  obtain ⟨i, rfl, hin, hg, HP, HR⟩ := hrel
  have HGK : Hid (gk + i = 12) := Lib.hid hg
  have hX := HX1.out.below HX1.out.lt HR.out
  clear hg
  by_cases hlt : i < 12
  ·skip
   go_upto_region 2 with fail
   refine wl <| gzb (lss_n rfl (i) (12) dT) <| wn ?_
   simp only [pu]
   go_upto_region 3 with fail
   refine wl <| gz2 (.int .i64 i) (.int .i64 i) <| wn ?_
   simp only [pu]
   by_cases h9 : i = 9
   ·skip
    have HP2 : Hid (∀ j, j < i + 1 → okP c j) := Lib.hid fun j hj => if hh : j < i then HP.out j hh else .inl (by omega)
    go_upto_region 4 with fail
    refine wl <| gz1 (.int .i64 i) <| gzb (neq_n rfl i 9 dF) <| gz6 (.bool false) undef undef undef undef undef <| gz6 undef undef undef undef undef undef <| gz4 undef undef undef (.bool false) <| wn ?_
    simp only [pu]
    clear h9 HP hX
    go_upto_region 6 with fail
    refine wl <| gzv (.int .i64 (i + 1 : Nat)) (add_one rfl i (by omega) (by kernel_rfl) _) <| gz1 (.int .i64 (i + 1 : Nat)) <| wn ?_
    simp only [pu]
    go_wp2_with fail
    go_roundg (12 - (i + 1))
    case measure => have := HGK.out; omega
    case rel => exact ⟨i + 1, rfl, by omega, by omega, HP2, HR⟩
   ·skip
    have CV := HV.out i hlt h9
    have HST : Hid (leastL.getD i 0 ≤ c.getD i 0 → c.getD i 0 ≤ greatL.getD i 0 → ∀ j, j < i + 1 → okP c j) := Lib.hid fun h1 h2 j hj => if hh : j < i then HP.out j hh else by rw [show j = i by omega]; exact .inr ⟨h1, h2⟩
    have HB2 : Hid (¬ (leastL.getD i 0 ≤ c.getD i 0 ∧ c.getD i 0 ≤ greatL.getD i 0) → (1 : Int) = z) := Lib.hid fun h => HBAD.out i hlt fun hh => hh.elim h9 h
    have CL := r_least i hlt
    have CG := r_great i hlt
    generalize c.getD i 0 = cv at *
    generalize leastL.getD i 0 = lo at *
    generalize greatL.getD i 0 = up at *
    by_cases h1 : cv < lo
    ·skip
     go_upto_region 4 with fail
     refine wl <| gz1 (.int .i64 i) <| gzb (neq_n rfl i 9 dT) <| gz1 (.bool true) <| gzl rfl ⟨g1, 0, none⟩ (.agg CC) (HLD.out _ _ (by first | exact hX | exact hXb)) <| gz1 (.int .i64 i) <|
      gzc (.int .i64 cv) (fun w' => Below wr.heap.size wr w') (CV wr) (fun V2 hb2 => ?_)
     simp only [pu]
     refine gz1 (.int .i64 i) <| gzc (.int .i64 lo) (fun w' => Below V2.heap.size V2 w') (CL V2) (fun V3 hb3 => ?_)
     have hb23 := hb2.trans (hb3.mono hb2.size)
     have hXb := hX.below hX.lt hb23
     simp only [pu]
     refine gzb (lss_n rfl cv lo (decide_eq_true h1)) <| gz6 (.bool true) undef undef undef undef undef <| gz3 undef (.bool true) (.bool true) <| wn ?_
     simp only [pu]
     obtain rfl := HB2.out fun h => by omega
     have HE := Lib.hid (HB1.out.trans ((HR.out.trans (hb23.mono HR.out.size)).mono HB1.out.size))
     clear CV CL CG HV HBAD HFIN HLD H10 hX hXb hb2 hb3 hb23 HST HB2 HP
     go_upto_region 5 with fail
     refine wl <| gz1 (.int .i64 1) <| wn ?_
     simp only [pu]
     go_wp2_with fail
     go_ret
     exact ⟨rfl, HE.out⟩
    ·skip
     by_cases h2 : up < cv
     ·skip
      go_upto_region 4 with fail
      refine wl <| gz1 (.int .i64 i) <| gzb (neq_n rfl i 9 dT) <| gz1 (.bool true) <| gzl rfl ⟨g1, 0, none⟩ (.agg CC) (HLD.out _ _ (by first | exact hX | exact hXb)) <| gz1 (.int .i64 i) <|
       gzc (.int .i64 cv) (fun w' => Below wr.heap.size wr w') (CV wr) (fun V2 hb2 => ?_)
      simp only [pu]
      refine gz1 (.int .i64 i) <| gzc (.int .i64 lo) (fun w' => Below V2.heap.size V2 w') (CL V2) (fun V3 hb3 => ?_)
      have hb23 := hb2.trans (hb3.mono hb2.size)
      have hXb := hX.below hX.lt hb23
      simp only [pu]
      refine gzb (lss_n rfl cv lo (decide_eq_false h1)) <| gz1 (.bool false) <| gzl rfl ⟨g1, 0, none⟩ (.agg CC) (HLD.out _ _ (by first | exact hX | exact hXb)) <| gz1 (.int .i64 i) <|
       gzc (.int .i64 cv) (fun w' => Below V3.heap.size V3 w') (CV V3) (fun V4 hb4 => ?_)
      simp only [pu]
      refine gz1 (.int .i64 i) <| gzc (.int .i64 up) (fun w' => Below V4.heap.size V4 w') (CG V4) (fun V5 hb5 => ?_)
      simp only [pu]
      refine gzb (gtr_n rfl cv up (decide_eq_true h2)) <| gz2 (.bool true) (.bool true) <| wn ?_
      simp only [pu]
      have HR5 := Lib.hid (HR.out.trans ((hb23.trans ((hb4.trans (hb5.mono hb4.size)).mono hb23.size)).mono HR.out.size))
      obtain rfl := HB2.out fun h => by omega
      have HE := Lib.hid (HB1.out.trans (HR5.out.mono HB1.out.size))
      clear CV CL CG HV HBAD HFIN HLD H10 hX hXb hb2 hb3 hb23 hb4 hb5 HST HB2 HP
      go_upto_region 5 with fail
      refine wl <| gz1 (.int .i64 1) <| wn ?_
      simp only [pu]
      go_wp2_with fail
      go_ret
      exact ⟨rfl, HE.out⟩
     ·skip
      go_upto_region 4 with fail
      refine wl <| gz1 (.int .i64 i) <| gzb (neq_n rfl i 9 dT) <| gz1 (.bool true) <| gzl rfl ⟨g1, 0, none⟩ (.agg CC) (HLD.out _ _ (by first | exact hX | exact hXb)) <| gz1 (.int .i64 i) <|
       gzc (.int .i64 cv) (fun w' => Below wr.heap.size wr w') (CV wr) (fun V2 hb2 => ?_)
      simp only [pu]
      refine gz1 (.int .i64 i) <| gzc (.int .i64 lo) (fun w' => Below V2.heap.size V2 w') (CL V2) (fun V3 hb3 => ?_)
      have hb23 := hb2.trans (hb3.mono hb2.size)
      have hXb := hX.below hX.lt hb23
      simp only [pu]
      refine gzb (lss_n rfl cv lo (decide_eq_false h1)) <| gz1 (.bool false) <| gzl rfl ⟨g1, 0, none⟩ (.agg CC) (HLD.out _ _ (by first | exact hX | exact hXb)) <| gz1 (.int .i64 i) <|
       gzc (.int .i64 cv) (fun w' => Below V3.heap.size V3 w') (CV V3) (fun V4 hb4 => ?_)
      simp only [pu]
      refine gz1 (.int .i64 i) <| gzc (.int .i64 up) (fun w' => Below V4.heap.size V4 w') (CG V4) (fun V5 hb5 => ?_)
      simp only [pu]
      refine gzb (gtr_n rfl cv up (decide_eq_false h2)) <| gz2 (.bool false) (.bool false) <| wn ?_
      simp only [pu]
      have HR5 := Lib.hid (HR.out.trans ((hb23.trans ((hb4.trans (hb5.mono hb4.size)).mono hb23.size)).mono HR.out.size))
      have HP2 := Lib.hid (HST.out (by omega) (by omega))
      clear CV CL CG hX hXb hb2 hb3 hb23 hb4 hb5 HST HB2 HP h1 h2
      go_upto_region 6 with fail
      refine wl <| gzv (.int .i64 (i + 1 : Nat)) (add_one rfl i (by omega) (by kernel_rfl) _) <| gz1 (.int .i64 (i + 1 : Nat)) <| wn ?_
      simp only [pu]
      go_wp2_with fail
      go_roundg (12 - (i + 1))
      case measure => have := HGK.out; omega
      case rel => exact ⟨i + 1, rfl, by omega, by omega, HP2, HR5⟩
  ·skip
   obtain rfl : i = 12 := by omega
   have hf := HFIN.out HP.out
   obtain ⟨hl1, hl2⟩ := H10.out _ _ hX
   have HE := Lib.hid (HB1.out.trans (HR.out.mono HB1.out.size))
   generalize c.getD 10 0 = a at *
   generalize c.getD 11 0 = b at *
   clear HP HBAD HFIN HLD H10 HV hX
   go_upto_region 2 with fail
   refine wl <| gzb (lss_n rfl ((12 : Nat)) (12) dF) <| wn ?_
   simp only [pu]
   by_cases hab : a < b
   ·skip
    rw [if_pos hab] at hf
    obtain rfl := hf
    go_upto_region 7 with fail
    refine wl <| gz1 (.pointer (some ⟨g1, 10, none⟩)) <| gzl rfl ⟨g1, 10, none⟩ (.int .i64 a) (hl1) <| gz1 (.pointer (some ⟨g1, 11, none⟩)) <| gzl rfl ⟨g1, 11, none⟩ (.int .i64 b) (hl2) <| gzb (geq_n rfl a b dF) <|
     wpList_nil ?_
    simp only [pu]
    clear hl1 hl2
    go_upto_region 9 with fail
    refine wl <| gz1 (.int .i64 0) <| wn ?_
    simp only [pu]
    go_wp2_with fail
    go_ret
    exact ⟨rfl, HE.out⟩
   ·skip
    rw [if_neg hab] at hf
    obtain rfl := hf
    go_upto_region 7 with fail
    refine wl <| gz1 (.pointer (some ⟨g1, 10, none⟩)) <| gzl rfl ⟨g1, 10, none⟩ (.int .i64 a) (hl1) <| gz1 (.pointer (some ⟨g1, 11, none⟩)) <| gzl rfl ⟨g1, 11, none⟩ (.int .i64 b) (hl2) <| gzb (geq_n rfl a b dT) <|
     wpList_nil ?_
    simp only [pu]
    clear hl1 hl2
    go_upto_region 8 with fail
    refine wl <| gz1 (.int .i64 1) <| wn ?_
    simp only [pu]
    go_wp2_with fail
    go_ret
    exact ⟨rfl, HE.out⟩
end Go.Proofs.YtplfineaomneiaaDoor
