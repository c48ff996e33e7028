/-
 The program's Default, Validate: contracts.
-/
import Derived.Test.YtplfineaomneiaaGreatDoorXF
namespace Go.Proofs.YtplfineaomneiaaGreatDoor
attribute [local irreducible] wpList wpQuiet
open Go.RowKit
set_option maxRecDepth 100000
set_option linter.unusedSimpArgs false
set_option linter.unusedVariables false

set_option maxRecDepth 100000 in
set_option maxHeartbeats 8000000 in
theorem p_default (w : World) : Calls Tryz.prog 14 #[] w fun e w' => e = .returned (.agg (cfA dfltL)) ∧ Below w.heap.size w w' := by
 obtain ⟨V2, hst, hb, hY⟩ := new_bx (c := #[.int .i64 0, .int .i64 0, .int .i64 0, .int .i64 0, .int .i64 0, .int .i64 0, .bool false, .int .i64 0, .int .i64 0, .int .u64 0, .int .i64 0, .int .i64 0]) (c' := #[.int .i64 100, .int .i64 65536, .int .i64 1024, .int .i64 200, .int .i64 0, .int .i64 0, .bool false, .int .i64 32768, .int .i64 (-1), .int .u64 1, .int .i64 0, .int .i64 1]) (ty := 30) w rfl (by kernel_rfl) (by kernel_rfl)
 have HLD := Lib.hid (load_Cr hY)
 have HE := Lib.hid hb
 clear hb hY
 go_enter Tryz.func14, Tryz.ntmps14
 go_upto_region 1 with fail
 change Code.wp _ _ _ _ (w.alloc (.cells #[.int .i64 0, .int .i64 0, .int .i64 0, .int .i64 0, .int .i64 0, .int .i64 0, .bool false, .int .i64 0, .int .i64 0, .int .u64 0, .int .i64 0, .int .i64 0] 30))
 generalize w.alloc (.cells #[.int .i64 0, .int .i64 0, .int .i64 0, .int .i64 0, .int .i64 0, .int .i64 0, .bool false, .int .i64 0, .int .i64 0, .int .u64 0, .int .i64 0, .int .i64 0] 30) = W at *
 obtain ⟨g0, hg0⟩ : ∃ g, w.heap.size = g := ⟨_, rfl⟩
 simp only [hg0] at hst HLD ⊢
 refine wl <| gz1 (.agg #[.int .i64 100, .int .i64 65536, .int .i64 1024, .int .i64 200, .int .i64 0, .int .i64 0, .bool false, .int .i64 32768, .int .i64 (-1), .int .u64 1, .int .i64 0, .int .i64 1]) <| gzs rfl (hst) <| wn ?_
 simp only [pu]
 go_wp2_with fail
 exact bodyPost_ret (results_1c rfl (by kernel_rfl) HLD.out) rfl ⟨rfl, HE.out⟩
def StV (g : Nat) (w : World) (v : Value) (w' : World) : Prop := ∃ gs, v = .slice (some ⟨gs, 0, none⟩) 12 12 ∧ Bx w' gs (stC g).toArray 62 ∧ w.heap.size ≤ gs ∧ Below w.heap.size w w'
theorem p_settings2 (g : Nat) (w : World) : Calls Tryz.prog 23 #[.pointer (some ⟨g, 0, none⟩)] w fun e w' => ∃ v, e = .returned v ∧ StV g w v w' := p_settings g w
theorem idx_st (b off n c k : Nat) (hk : k < n) (V : World) (ρ : Operand → Value) (o : Oper) {x y : Operand} (ho : o.op = .indexAddr 52 x y) (hx : ρ x = .slice (some ⟨b, off, none⟩) n c) (hy : ρ y = .int .i64 k) : (execOp ρ o).run Tryz.prog V = .ok (.value (.pointer (some ⟨b, off + k * 4, none⟩))) V := by
 have hs : (sizeOf (Tryz.prog.elem 52)).run Tryz.prog V = .ok 4 V := by kernel_rfl
 have hlm : (k : Int) < (n : Int) := by omega
 unfold execOp
 simp only [ho, hx, hy]
 go_simp
theorem load_st {w : World} {gs g k : Nat} (h : Bx w gs (stC g).toArray k) {i : Nat} (hi : i < 12) : (Instr.loadAt 62 (.pointer (some ⟨gs, 0 + i * 4, none⟩))).run Tryz.prog w = .ok (.agg (sgA g i)) w := by
 obtain ⟨b, off, e, -, hr⟩ := fl_range (f := sgL g) (s := 4) (fun _ => rfl) (by omega) 0 (L := List.range 12) (Cs.block h) (i := i) (by rw [List.length_range]; exact hi)
 cases e
 rw [show (List.range 12).getD i 0 = i by simp [List.getD_eq_getElem?_getD, hi]] at hr
 exact run_loadAt_mid w _ _ 62 (sgL g i) _ hr Tryz.underlying62 rfl (by kernel_rfl)
theorem okP_iff {c : List Int} (hc : CfOk c) {i : Nat} (hi : i < 12) : (decide (leastL.getD i 0 ≤ c.getD i 0) && decide (c.getD i 0 ≤ grP.getD i 0)) = true ↔ okP c i := by
 rw [Bool.and_eq_true, decide_eq_true_eq, decide_eq_true_eq]
 unfold okP
 obtain ⟨-, h6, h90, h91, hn⟩ := hc
 match i, hi with
 | 0, _ => exact ⟨fun h => .inr h, fun h => h.elim (fun e => absurd e (by decide)) id⟩
 | 1, _ => exact ⟨fun h => .inr h, fun h => h.elim (fun e => absurd e (by decide)) id⟩
 | 2, _ => exact ⟨fun h => .inr h, fun h => h.elim (fun e => absurd e (by decide)) id⟩
 | 3, _ => exact ⟨fun h => .inr h, fun h => h.elim (fun e => absurd e (by decide)) id⟩
 | 4, _ => exact ⟨fun h => .inr h, fun h => h.elim (fun e => absurd e (by decide)) id⟩
 | 5, _ => exact ⟨fun h => .inr h, fun h => h.elim (fun e => absurd e (by decide)) id⟩
 | 6, _ => exact ⟨fun h => .inr h, fun h => h.elim (fun e => absurd e (by decide)) id⟩
 | 7, _ => exact ⟨fun h => .inr h, fun h => h.elim (fun e => absurd e (by decide)) id⟩
 | 8, _ => exact ⟨fun h => .inr h, fun h => h.elim (fun e => absurd e (by decide)) id⟩
 | 9, _ => exact ⟨fun _ => .inl rfl, fun _ => ⟨h90, by show c.getD 9 0 ≤ 18446744073709551615; omega⟩⟩
 | 10, _ => exact ⟨fun h => .inr h, fun h => h.elim (fun e => absurd e (by decide)) id⟩
 | 11, _ => exact ⟨fun h => .inr h, fun h => h.elim (fun e => absurd e (by decide)) id⟩
theorem sg_one (g j : Nat) : (sgA g j).all (·.oneCell') = true := by simp [sgA, Value.oneCell']
theorem lsP_rng {i : Nat} (hi : i < 12) : -9223372036854775808 ≤ leastL.getD i 0 ∧ leastL.getD i 0 < 9223372036854775808 := by
 have h : ∀ i, i < 12 → -9223372036854775808 ≤ leastL.getD i 0 ∧ leastL.getD i 0 < 9223372036854775808 := by decide +kernel
 exact h i hi
theorem grP_rng {i : Nat} (hi : i < 12) : 0 ≤ grP.getD i 0 := by
 have h : ∀ i, i < 12 → 0 ≤ grP.getD i 0 := by decide +kernel
 exact h i hi
/-- A setting allows a number just where it is in its range. -/
theorem p_allowsS {g : Nat} {i : Nat} (hi : i < 12) (v : Int) (w : World) : Calls Tryz.prog 45 #[.agg (sgA g i), .agg (nuA (decide (v < 0)) (absI v))] w fun e w' => e = .returned (.bool (decide (leastL.getD i 0 ≤ v) && decide (v ≤ grP.getD i 0))) ∧ Below w.heap.size w w' := by
 rw [← alw_num (grP_rng hi)]
 exact p_allows _ _ rfl rfl (lsP_rng hi) _ _ w
set_option maxRecDepth 100000 in
set_option maxHeartbeats 8000000 in
theorem p_valid {c : List Int} (hc : CfOk c) (w : World) : Calls Tryz.prog 26 #[.agg (cfA c)] w fun e w' => e = .returned (.int .i64 (valL c)) ∧ Below w.heap.size w w' := by
 have hb0 : Below w.heap.size w (w.alloc (.cells (cfA c) 30)) := (Below.refl _ w).alloc (Nat.le_refl _) _
 have hX0 : Bx (w.alloc (.cells (cfA c) 30)) w.heap.size (cfA c) 30 := heap_alloc_last w _
 obtain ⟨W, hW⟩ : ∃ W, w.alloc (.cells (cfA c) 30) = W := ⟨_, rfl⟩
 rw [hW] at hb0 hX0
 have HB0 := Lib.hid hb0
 have HBAD : Hid (∀ i, i < 12 → ¬ okP c i → (1 : Int) = valL c) := Lib.hid fun i hi h => (val_bad hi h).symm
 have HFIN : Hid ((∀ i, i < 12 → okP c i) → (if c.getD 10 0 < c.getD 11 0 then (0 : Int) else 1) = valL c) := Lib.hid fun h => (val_fin h).symm
 have HOK : Hid (∀ i, i < 12 → ((decide (leastL.getD i 0 ≤ c.getD i 0) && decide (c.getD i 0 ≤ grP.getD i 0)) = true ↔ okP c i)) := Lib.hid fun i hi => okP_iff hc hi
 have HV : Hid (∀ i : Nat, i < 12 → ∀ V g, Bx V g (cfA c) 30 → Calls Tryz.prog 28 #[.agg (sgA g i)] V fun e w' => e = .returned (.agg (nuA (decide (c.getD i 0 < 0)) (absI (c.getD i 0)))) ∧ Below V.heap.size V w') := Lib.hid fun i hi V g h => p_value hc i hi V h
 have H10 : Hid (∀ V g, Bx V g (cfA c) 30 → (Instr.loadAt 3 (.pointer (some ⟨g, 10, none⟩))).run Tryz.prog V = .ok (.int .i64 (c.getD 10 0)) V ∧ (Instr.loadAt 3 (.pointer (some ⟨g, 11, none⟩))).run Tryz.prog V = .ok (.int .i64 (c.getD 11 0)) V) := Lib.hid fun V g h => ⟨h.load (i := 10) rfl (by kernel_rfl), h.load (i := 11) rfl (by kernel_rfl)⟩
 obtain ⟨z, hz⟩ : ∃ z, valL c = z := ⟨_, rfl⟩
 rw [hz] at HBAD HFIN ⊢
 clear hz hb0 hc
 go_enter Tryz.func26, Tryz.ntmps26
 go_upto_region 1 with fail
 obtain ⟨g1, hg1⟩ : ∃ g1, w.heap.size = g1 := ⟨_, rfl⟩
 rw [hg1] at hX0
 simp only [hg1]
 generalize cfA c = CC at *
 clear hW hg1
 refine wl <| gze (StV g1 W) (p_settings2 g1 W) (fun vv W1 hq => ?_)
 obtain ⟨gs1, rfl, hxs1, hge1, hbs1⟩ := hq
 simp only [pu]
 refine gz2 (.int .i64 12) (.int .i64 0) <| wn ?_
 simp only [pu]
 have HX1 := Lib.hid (hX0.below hX0.lt hbs1)
 have HS1 := Lib.hid hxs1
 have HB1 := Lib.hid (HB0.out.trans (hbs1.mono HB0.out.size))
 clear hX0 hxs1 hbs1 HB0 hge1
 go_wp2_with fail
 go_loopg [7] 12 (fun gg s7 wx => ∃ (i : Nat), s7 = .int .i64 i ∧ i ≤ 12 ∧ gg + i = 12 ∧ Hid (∀ j, j < i → okP c j) ∧ Hid (Below W1.heap.size W1 wx))
 case atStart => exact ⟨0, rfl, by omega, by omega, Lib.hid (fun j hj => absurd hj (Nat.not_lt_zero j)), Lib.hid (Below.refl _ _)⟩
 case round =>
  obtain ⟨i, rfl, hin, hg, HP, HR⟩ := hrel
  have HGK : Hid (gk + i = 12) := Lib.hid hg
  have hX := HX1.out.below HX1.out.lt HR.out
  have hS := HS1.out.below HS1.out.lt HR.out
  clear hg
  by_cases hlt : i < 12
  ·skip
   have hls := load_st hS hlt
   obtain ⟨V2, hst2, hbn2, hY2⟩ := new_bx (c := #[.string ByteArray.empty, .nilIface, .int .i64 0, .int .u64 0]) (c' := sgA g1 i) (ty := 62) wr rfl (sg_one g1 i) (by kernel_rfl)
   have hX2 := hX.below hX.lt hbn2
   have CV := fun V hV => HV.out i hlt V g1 hV
   have CL := fun V => p_allowsS (g := g1) hlt (c.getD i 0) V
   have HL4 : Hid (∀ V k, Bx V k (sgA g1 i) 62 → (Instr.loadAt 62 (.pointer (some ⟨k, 0, none⟩))).run Tryz.prog V = .ok (.agg (sgA g1 i)) V) := Lib.hid fun V k h => run_loadAt_mid V k 0 62 (sgA g1 i).toList _ (bx_range (cs := (sgA g1 i).toList) h) Tryz.underlying62 rfl (by kernel_rfl)
   have HOI := Lib.hid (HOK.out i hlt)
   have HST : Hid (okP c i → ∀ j, j < i + 1 → okP c j) := Lib.hid fun h j hj => if hh : j < i then HP.out j hh else by rw [show j = i by omega]; exact h
   have HB2 : Hid (¬ okP c i → (1 : Int) = z) := Lib.hid fun h => HBAD.out i hlt h
   generalize (decide (leastL.getD i 0 ≤ c.getD i 0) && decide (c.getD i 0 ≤ grP.getD i 0)) = q at *
   generalize decide (c.getD i 0 < 0) = b at *
   generalize absI (c.getD i 0) = s at *
   generalize sgA g1 i = SG at *
   go_upto_region 2 with fail
   refine wl <| gzb (lss_n rfl (i) (12) dT) <| wn ?_
   simp only [pu]
   go_upto_region 3 with fail
   refine wl <| gzv (.pointer (some ⟨gs1, 0 + i * 4, none⟩)) (idx_st gs1 0 12 12 i hlt _ _ _ rfl (by kernel_rfl) (by kernel_rfl)) <| gzl rfl ⟨gs1, 0 + i * 4, none⟩ (.agg SG) (hls) ?_
   simp only [pu]
   refine run_to rfl (some 4) rfl (.pointer (some ⟨wr.heap.size, 0, none⟩)) (wr.alloc (.cells #[.string ByteArray.empty, .nilIface, .int .i64 0, .int .u64 0] 62)) (by kernel_rfl) ?_
   simp only [pu]
   refine gzs rfl (hst2) <| wn ?_
   obtain ⟨g4, hg4⟩ : ∃ g, wr.heap.size = g := ⟨_, rfl⟩
   rw [hg4] at hY2
   simp only [hg4]
   have HR2 := Lib.hid (HR.out.trans (hbn2.mono HR.out.size))
   clear hls hst2 hS hg4 hbn2 hX
   cases q
   ·skip
    go_upto_region 4 with fail
    refine wp_region_class (C := fun U => Below V2.heap.size V2 U) (by kernel_rfl) (by kernel_rfl) ((Below.refl _ V2).drew) ?_
    refine gyl rfl ⟨g4, 0, none⟩ (.agg SG) (fun U hU => HL4.out U _ (hY2.below hY2.lt hU)) <| gyl rfl ⟨g4, 0, none⟩ (.agg SG) (fun U hU => HL4.out U _ (hY2.below hY2.lt hU)) ?_
    simp only [pu]
    refine gq_call (by kernel_rfl) (some 13) rfl 28 #[.agg SG] (.agg #[.bool b, .int .u64 s]) (fun U hU => by kernel_rfl) (fun U hU => (CV U (hX2.below hX2.lt hU)).mono fun e w2 z => ⟨z.1, hU.trans (z.2.mono hU.size)⟩) ?_
    simp only [pu]
    refine gq_call (by kernel_rfl) (some 14) rfl 45 #[.agg SG, .agg #[.bool b, .int .u64 s]] (.bool false) (fun U hU => by kernel_rfl) (fun U hU => (CL U).mono fun e w2 z => ⟨z.1, hU.trans (z.2.mono hU.size)⟩) ?_
    simp only [pu]
    refine gy (.bool true) ?_
    simp only [pu]
    apply wpQuiet_nil
    intro V hV
    have HR3 := Lib.hid (HR2.out.trans (hV.mono HR2.out.size))
    clear CV CL hX2 hY2 hV
    have hno : ¬ okP c i := fun h => Bool.noConfusion (HOI.out.2 h)
    obtain rfl := HB2.out hno
    clear hno
    have HE := Lib.hid (HB1.out.trans (HR3.out.mono HB1.out.size))
    clear HV HBAD HFIN H10 HOK HOI HST HB2 HP
    go_upto_region 5 with fail
    refine wl <| gz1 (.int .i64 1) <| wn ?_
    simp only [pu]
    go_wp2_with fail
    go_ret
    exact ⟨rfl, HE.out⟩
   ·skip
    go_upto_region 4 with fail
    refine wp_region_class (C := fun U => Below V2.heap.size V2 U) (by kernel_rfl) (by kernel_rfl) ((Below.refl _ V2).drew) ?_
    refine gyl rfl ⟨g4, 0, none⟩ (.agg SG) (fun U hU => HL4.out U _ (hY2.below hY2.lt hU)) <| gyl rfl ⟨g4, 0, none⟩ (.agg SG) (fun U hU => HL4.out U _ (hY2.below hY2.lt hU)) ?_
    simp only [pu]
    refine gq_call (by kernel_rfl) (some 13) rfl 28 #[.agg SG] (.agg #[.bool b, .int .u64 s]) (fun U hU => by kernel_rfl) (fun U hU => (CV U (hX2.below hX2.lt hU)).mono fun e w2 z => ⟨z.1, hU.trans (z.2.mono hU.size)⟩) ?_
    simp only [pu]
    refine gq_call (by kernel_rfl) (some 14) rfl 45 #[.agg SG, .agg #[.bool b, .int .u64 s]] (.bool true) (fun U hU => by kernel_rfl) (fun U hU => (CL U).mono fun e w2 z => ⟨z.1, hU.trans (z.2.mono hU.size)⟩) ?_
    simp only [pu]
    refine gy (.bool false) ?_
    simp only [pu]
    apply wpQuiet_nil
    intro V hV
    have HR3 := Lib.hid (HR2.out.trans (hV.mono HR2.out.size))
    clear CV CL hX2 hY2 hV
    have HP2 := Lib.hid (HST.out (HOI.out.1 rfl))
    clear HST HB2 HP HOI
    go_upto_region 6 with fail
    refine wl <| gzv (.int .i64 (i + 1 : Nat)) (add_one rfl i (by omega) (by kernel_rfl) _) <| gz1 (.int .i64 (i + 1 : Nat)) <| wn ?_
    simp only [pu]
    go_wp2_with fail
    go_roundg (12 - (i + 1))
    case measure => have := HGK.out; omega
    case rel => exact ⟨i + 1, rfl, by omega, by omega, HP2, HR3⟩
  ·skip
   obtain rfl : i = 12 := by omega
   have hf := HFIN.out HP.out
   obtain ⟨hl1, hl2⟩ := H10.out _ _ hX
   have HE := Lib.hid (HB1.out.trans (HR.out.mono HB1.out.size))
   generalize c.getD 10 0 = a at *
   generalize c.getD 11 0 = b at *
   clear HP HBAD HFIN H10 HV hX HOK hS
   go_upto_region 2 with fail
   refine wl <| gzb (lss_n rfl ((12 : Nat)) (12) dF) <| wn ?_
   simp only [pu]
   by_cases hab : a < b
   ·skip
    rw [if_pos hab] at hf
    obtain rfl := hf
    go_upto_region 7 with fail
    refine wl <| gz1 (.pointer (some ⟨g1, 10, none⟩)) <| gzl rfl ⟨g1, 10, none⟩ (.int .i64 a) (hl1) <| gz1 (.pointer (some ⟨g1, 11, none⟩)) <| gzl rfl ⟨g1, 11, none⟩ (.int .i64 b) (hl2) <| gzb (geq_n rfl a b dF) <|
     wpList_nil ?_
    simp only [pu]
    clear hl1 hl2
    go_upto_region 9 with fail
    refine wl <| gz1 (.int .i64 0) <| wn ?_
    simp only [pu]
    go_wp2_with fail
    go_ret
    exact ⟨rfl, HE.out⟩
   ·skip
    rw [if_neg hab] at hf
    obtain rfl := hf
    go_upto_region 7 with fail
    refine wl <| gz1 (.pointer (some ⟨g1, 10, none⟩)) <| gzl rfl ⟨g1, 10, none⟩ (.int .i64 a) (hl1) <| gz1 (.pointer (some ⟨g1, 11, none⟩)) <| gzl rfl ⟨g1, 11, none⟩ (.int .i64 b) (hl2) <| gzb (geq_n rfl a b dT) <|
     wpList_nil ?_
    simp only [pu]
    clear hl1 hl2
    go_upto_region 8 with fail
    refine wl <| gz1 (.int .i64 1) <| wn ?_
    simp only [pu]
    go_wp2_with fail
    go_ret
    exact ⟨rfl, HE.out⟩
end Go.Proofs.YtplfineaomneiaaGreatDoor
