/-
 The program's Format: contract.
-/
import Derived.Test.YtplfineaomneiaaDoorXL
import Derived.Test.YtplfineaomneiaaDoorRF
import Derived.Lib.OthersKept
namespace Go.Proofs.YtplfineaomneiaaDoor
attribute [local irreducible] wpList wpQuiet
open Go.RowKit
set_option maxRecDepth 100000
set_option linter.unusedSimpArgs false
set_option linter.unusedVariables false

theorem isb_below {B b : Nat} {bs : List Value} {w w' : World} (h : Lib.IsBuilderF 69 5 B b bs w) (hb : Below w.heap.size w w') : Lib.IsBuilderF 69 5 B b bs w' := by
 have key : ∀ p, Lib.BuilderAtF 69 5 B b p bs w → Lib.BuilderAtF 69 5 B b p bs w' := fun p hp => by
  have hlt := hp.lt
  obtain ⟨hB, v, h1, h2, h3⟩ := hp
  refine ⟨hB, v, (hb.block b hlt).trans h1, h2.kept (row := none) ⟨hb.os, hb.tape, hb.output, hb.size, fun k hk _ => hb.block k hk⟩ ?_, h3⟩
  by_cases e : v.ownBlock = none
  ·exact .inl e
  ·exact .inr e
 exact h.elim (fun x => .inl (key _ x)) (fun x => .inr (key _ x))
theorem oth_bx {b k t : Nat} {cs : Array Value} {w w' : World} (h : Lib.OthersKept 5 (some b) w w') (hX : Bx w k cs t) (hn : k ≠ b) (ht : t ≠ 5) : Bx w' k cs t :=
 h k _ hX (fun e => hn (Option.some.inj e)) (fun c fz e => ht (by injection e))
theorem bc_app (a b : ByteArray) : Lib.byteCells a.data.toList ++ Lib.strCells b = Lib.byteCells (a ++ b).data.toList := by
 rw [Lib.strCells_eq, ← Lib.byteCells_append]
 rw [ByteArray.data_append, Array.toList_append]
theorem ba_back (s : ByteArray) : (⟨s.data.toList.toArray⟩ : ByteArray) = s := by cases s; simp
theorem bc_len (s : ByteArray) : (Lib.byteCells s.data.toList).length = s.size := by rw [Lib.byteCells_length]; rfl
set_option maxRecDepth 100000 in
set_option maxHeartbeats 8000000 in
theorem p_format {c : List Int} (hc : CfOk c) (w : World) (hG : Glob w) : Calls Tryd.prog 16 #[.agg (cfA c)] w fun e w' => e = .returned (fmtV c) ∧ Below w.heap.size w w' := by
 have hc0 := hc
 obtain ⟨hc1, h6, h9a, h9b, hI⟩ := hc
 have hb0 : Below w.heap.size w (w.alloc (.cells (cfA c) 24)) := (Below.refl _ w).alloc (Nat.le_refl _) _
 have hX0 : Bx (w.alloc (.cells (cfA c) 24)) w.heap.size (cfA c) 24 := heap_alloc_last w _
 obtain ⟨W, hW⟩ : ∃ W, w.alloc (.cells (cfA c) 24) = W := ⟨_, rfl⟩
 rw [hW] at hb0 hX0
 have HB0 := Lib.hid hb0
 have CV := p_valid hc0 W
 have HV : Hid (∀ i : Nat, i < 12 → ∀ V g, Bx V g (cfA c) 24 → Calls Tryd.prog 28 #[.agg (sgA g i)] V fun e w' => e = .returned (.agg (nuA (decide (c.getD i 0 < 0)) (absI (c.getD i 0)))) ∧ Below V.heap.size V w') := Lib.hid fun i hi V g h => p_value hc0 i hi V h
 have HD : Hid (∀ i : Nat, i < 12 → ∀ V, Glob V → Calls Tryd.prog 34 #[.agg (nuA (decide (c.getD i 0 < 0)) (absI (c.getD i 0)))] V fun e w' => e = .returned (.string (dS c i)) ∧ Below V.heap.size V w') := Lib.hid fun i hi V hV => by
  by_cases h9 : i = 9
  ·subst h9; exact p_text (by omega) h9b V hV
  ·exact p_text (hI i hi h9).1 (by have := (hI i hi h9).2; omega) V hV
 have HG : Hid (∀ U, Below w.heap.size w U → Glob U) := Lib.hid fun U h => hG.below h
 have HST : Hid (∀ i, i < 12 → jS c i ++ (((kS i ++ ⟨#[32]⟩) ++ dS c i) ++ ⟨#[10]⟩) = jS c (i + 1)) := Lib.hid fun i hi => jS_step hi
 have HSZ : Hid (valL c = 0 → ∀ i, i < 12 → (kS i).size ≤ 12 ∧ (dS c i).size ≤ 20) := Lib.hid fun h i hi => ⟨kS_size i hi, dS_size h ⟨h9a, by omega⟩ hi⟩
 have HLD : Hid (∀ V g, Bx V g (cfA c) 24 → (Instr.loadAt 24 (.pointer (some ⟨g, 0, none⟩))).run Tryd.prog V = .ok (.agg (cfA c)) V) := Lib.hid fun V g h => load_C h
 have HEND : Hid (valL c = 0 → .tuple #[.string (jS c 12), .int .i64 0] = fmtV c) := Lib.hid fun h => by unfold fmtV; rw [if_pos h, jS_end]
 have HBAD : Hid (valL c = 1 → .tuple #[.string ⟨#[]⟩, .int .i64 1] = fmtV c) := Lib.hid fun h => by unfold fmtV; rw [if_neg (by omega)]
 have H01 := valL_01 c
 obtain ⟨z, hz⟩ : ∃ z, fmtV c = z := ⟨_, rfl⟩
 rw [hz] at HEND HBAD ⊢
 have HJ0 : Hid (jS c 0 = ⟨#[]⟩) := Lib.hid rfl
 obtain ⟨v, hv⟩ : ∃ v, valL c = v := ⟨_, rfl⟩
 rw [hv] at CV HEND HBAD HSZ H01
 clear hz hb0 h6 hI h9a h9b hc1 hv hc0 hG
 go_enter Tryd.func16, Tryd.ntmps16
 go_upto_region 1 with fail
 obtain ⟨g1, hg1⟩ : ∃ g1, w.heap.size = g1 := ⟨_, rfl⟩
 have HG1 := Lib.hid hg1
 rw [hg1] at hX0
 simp only [hg1]
 have hld := HLD.out _ _ hX0
 generalize cfA c = CC at *
 clear hW hg1
 refine wl <| gzl rfl ⟨g1, 0, none⟩ (.agg CC) (hld) <| gzc (.int .i64 v) (fun w' => Below W.heap.size W w') (CV) (fun W1 hb1 => ?_)
 simp only [pu]
 refine gz1 (.int .i64 v) <| wn ?_
 simp only [pu]
 have hX1 := hX0.below hX0.lt hb1
 have HB1 := Lib.hid (HB0.out.trans (hb1.mono HB0.out.size))
 clear hX0 hb1 HB0 CV hld HLD
 rcases H01 with h01 | h01
 ·skip
  obtain rfl := h01
  have HE0 := Lib.hid (HEND.out rfl)
  have HSZ1 := Lib.hid (HSZ.out rfl)
  clear HEND HBAD HSZ
  go_upto_region 2 with fail
  refine wl <| gz1 (.int .i64 0) <| gzb (neq_e rfl 0 0 dF) <| wn ?_
  simp only [pu]
  go_upto_region 4 with fail
  have hib := Lib.IsBuilderF.of (Lib.fresh_isBuilder 69 5 W1)
  have hbb : Below W1.heap.size W1 (W1.alloc (.cells #[.pointer none, .slice none 0 0] 69)) := (Below.refl _ W1).alloc (Nat.le_refl _) _
  have hbz : (W1.alloc (.cells #[.pointer none, .slice none 0 0] 69)).heap.size = W1.heap.size + 1 := by simp
  apply wp_region_lit
  refine run_to rfl (some 5) rfl (.pointer (some ⟨W1.heap.size, 0, none⟩)) (W1.alloc (.cells #[.pointer none, .slice none 0 0] 69)) (by kernel_rfl) ?_
  simp only [pu]
  apply wpList_nil
  generalize W1.alloc (.cells #[.pointer none, .slice none 0 0] 69) = W2 at *
  obtain ⟨b, hbq⟩ : ∃ b, W1.heap.size = b := ⟨_, rfl⟩
  have hgb : g1 < b := by rw [← hbq]; exact hX1.lt
  have hX2 := hX1.below hX1.lt hbb
  have HB2 := Lib.hid (HB1.out.trans (hbb.mono HB1.out.size))
  have HWB : Hid (w.heap.size ≤ b) := Lib.hid (by rw [← hbq]; exact HB1.out.size)
  rw [hbq] at hib hbz
  simp only [hbq]
  clear hbb hX1 HB1 hbq
  go_upto_region 5 with fail
  refine wl <| gze (StV g1 W2) (p_settings2 g1 W2) (fun vv W3 hq => ?_)
  obtain ⟨gs1, rfl, hxs1, hge1, hbs1⟩ := hq
  simp only [pu]
  refine gz2 (.int .i64 12) (.int .i64 0) <| wn ?_
  simp only [pu]
  have HXA := Lib.hid (hX2.below hX2.lt hbs1)
  have HSA := Lib.hid hxs1
  have HIB := Lib.hid (isb_below hib hbs1)
  have HB3 := Lib.hid (HB2.out.trans (hbs1.mono HB2.out.size))
  have HNE : Hid (gs1 ≠ b ∧ g1 < b ∧ b ≤ W3.heap.size) := Lib.hid ⟨by omega, hgb, by have := hbs1.size; omega⟩
  clear hX2 hxs1 hbs1 hib HB2 hge1 hbz hgb
  go_wp2_with fail
  go_loopg [15] 12 (fun gg s15 wx => ∃ (i : Nat), s15 = .int .i64 i ∧ i ≤ 12 ∧ gg + i = 12 ∧ Hid ((jS c i).size ≤ 40 * i ∧ Lib.IsBuilderF 69 5 b b (Lib.byteCells (jS c i).data.toList) wx) ∧ Hid (Below b W3 wx ∧ Bx wx gs1 (stC g1).toArray 59))
  case atStart => exact ⟨0, rfl, by omega, by omega, Lib.hid ⟨by rw [HJ0.out]; exact Nat.le_refl _, by rw [HJ0.out]; exact HIB.out⟩, Lib.hid ⟨Below.refl _ _, HSA.out⟩⟩
  case round =>
   obtain ⟨i, hs15, hin, hg, HP, HR⟩ := hrel
   obtain rfl := hs15
   have HGK : Hid (gk + i = 12) := Lib.hid hg
   clear HIB HSA hg
   by_cases hlt : i < 12
   ·skip
    obtain ⟨hr1, hr2⟩ := HR.out
    have hXg := HXA.out.below HNE.out.2.1 hr1
    have hls := load_st hr2 hlt
    obtain ⟨V2, hst2, hbn2, hY2⟩ := new_bx (c := #[.string ByteArray.empty, .nilIface, .int .i64 0, .int .u64 0]) (c' := sgA g1 i) (ty := 59) wr rfl (sg_one g1 i) (by kernel_rfl)
    have hX2 := hXg.below hXg.lt hbn2
    have hib2 := isb_below HP.out.2 hbn2
    have hS2 := hr2.below hr2.lt hbn2
    have hbw : b ≤ wr.heap.size := Nat.le_trans HNE.out.2.2 hr1.size
    have hB2 : Below b W3 V2 := hr1.trans (hbn2.mono hbw)
    have hWW : Below w.heap.size w V2 := HB3.out.trans (hB2.mono HWB.out)
    have hGG : ∀ U, Below V2.heap.size V2 U → Glob U := fun U h => HG.out U (hWW.trans (h.mono hWW.size))
    have CV := fun V hV => HV.out i hlt V g1 hV
    have CD := fun V hV => HD.out i hlt V hV
    have hst := HST.out i hlt
    obtain ⟨hz1, hz2⟩ := HSZ1.out i hlt
    have hp1 := HP.out.1
    have hsg : ∃ x y z, sgA g1 i = #[.string (kS i), x, y, z] := ⟨_, _, _, rfl⟩
    obtain ⟨sx, sy, sz, hsg⟩ := hsg
    rw [hsg] at hls hst2 hY2 CV
    generalize decide (c.getD i 0 < 0) = q at *
    generalize absI (c.getD i 0) = s at *
    generalize dS c i = d at *
    generalize kS i = kb at *
    generalize hjs : jS c i = js at *
    obtain ⟨s9, hs9⟩ : ∃ s9, jS c (i + 1) = s9 := ⟨_, rfl⟩
    rw [hs9] at hst
    have HS9 := Lib.hid hs9
    clear hs9 hsg hjs
    obtain ⟨a1, ha1⟩ : ∃ a1, kb ++ (⟨#[32]⟩ : ByteArray) = a1 := ⟨_, rfl⟩
    have hq1 : a1.size = kb.size + 1 := by rw [← ha1, ByteArray.size_append]; rfl
    have hl1 : kb.size + (⟨#[32]⟩ : ByteArray).size ≤ 9223372036854775807 := by show kb.size + 1 ≤ _; omega
    rw [ha1] at hst
    obtain ⟨a2, ha2⟩ : ∃ a2, a1 ++ d = a2 := ⟨_, rfl⟩
    have hq2 : a2.size = a1.size + d.size := by rw [← ha2, ByteArray.size_append]
    have hl2 : a1.size + d.size ≤ 9223372036854775807 := by omega
    rw [ha2] at hst
    obtain ⟨a3, ha3⟩ : ∃ a3, a2 ++ (⟨#[10]⟩ : ByteArray) = a3 := ⟨_, rfl⟩
    have hq3 : a3.size = a2.size + 1 := by rw [← ha3, ByteArray.size_append]; rfl
    have hl3 : a2.size + (⟨#[10]⟩ : ByteArray).size ≤ 9223372036854775807 := by show a2.size + 1 ≤ _; omega
    rw [ha3] at hst
    have hq4 : s9.size = js.size + a3.size := by rw [← hst, ByteArray.size_append]
    have hl4 : (Lib.byteCells js.data.toList).length + a3.size ≤ 140737488355328 := by rw [bc_len]; omega
    have HP2 : Hid ((jS c (i + 1)).size ≤ 40 * (i + 1)) := Lib.hid (by rw [HS9.out]; omega)
    have hbc : Lib.byteCells js.data.toList ++ Lib.strCells a3 = Lib.byteCells (jS c (i + 1)).data.toList := by rw [bc_app, hst, HS9.out]
    obtain ⟨n3, hn3⟩ : ∃ n3, a3.size = n3 := ⟨_, rfl⟩
    have HN3 := Lib.hid hn3
    clear hp1 hq1 hq2 hq3 hq4 hz1 hz2 HS9 HP HR hr1 hr2 hst hXg hbn2 hn3
    go_upto_region 6 with fail
    refine wl <| gzb (lss_n rfl (i) (12) dT) <| wn ?_
    simp only [pu]
    go_upto_region 7 with fail
    refine wl <| gzv (.pointer (some ⟨gs1, 0 + i * 4, none⟩)) (idx_st gs1 0 12 12 i hlt _ _ _ rfl (by kernel_rfl) (by kernel_rfl)) <| gzl rfl ⟨gs1, 0 + i * 4, none⟩ (.agg #[.string kb, sx, sy, sz]) (hls) ?_
    simp only [pu]
    refine run_to rfl (some 7) rfl (.pointer (some ⟨wr.heap.size, 0, none⟩)) (wr.alloc (.cells #[.string ByteArray.empty, .nilIface, .int .i64 0, .int .u64 0] 59)) (by kernel_rfl) ?_
    simp only [pu]
    refine gzs rfl (hst2) <| wn ?_
    obtain ⟨g7, hg7⟩ : ∃ g, wr.heap.size = g := ⟨_, rfl⟩
    rw [hg7] at hY2
    simp only [hg7]
    have HL4 : Hid (∀ V, Bx V g7 #[.string kb, sx, sy, sz] 59 → (Instr.loadAt 59 (.pointer (some ⟨g7, 0, none⟩))).run Tryd.prog V = .ok (.agg #[.string kb, sx, sy, sz]) V) := Lib.hid fun V h => run_loadAt_mid V g7 0 59 [.string kb, sx, sy, sz] _ (bx_range (cs := [.string kb, sx, sy, sz]) h) Tryd.underlying59 rfl (by kernel_rfl)
    clear hls hst2 hg7 hbw
    go_upto_region 8 with fail
    refine wp_region_class_tail (C := fun U => Below V2.heap.size V2 U) 8 (by kernel_rfl) (by kernel_rfl) ((Below.refl _ V2).drew) ?_
    simp only [List.take_succ_cons, List.take_zero, List.drop_succ_cons, List.drop_zero]
    refine gy (.pointer (some ⟨g7, 0, none⟩)) <| gyl rfl ⟨g7, 0, none⟩ (.string kb) (fun U hU => (hY2.below hY2.lt hU).load (i := 0) rfl (by kernel_rfl)) <| gyv (.string a1) (fun U hU => add_s rfl _ _ _ ha1 hl1 (by kernel_rfl) (by kernel_rfl) U) <|
      gyl rfl ⟨g7, 0, none⟩ (.agg #[.string kb, sx, sy, sz]) (fun U hU => HL4.out U (hY2.below hY2.lt hU)) ?_
    simp only [pu]
    refine gq_call (by kernel_rfl) (some 23) rfl 28 #[.agg #[.string kb, sx, sy, sz]] (.agg #[.bool q, .int .u64 s]) (fun U hU => by kernel_rfl) (fun U hU => (CV U (hX2.below hX2.lt hU)).mono fun e w2 z => ⟨z.1, hU.trans (z.2.mono hU.size)⟩) ?_
    simp only [pu]
    refine gq_call (by kernel_rfl) (some 24) rfl 34 #[.agg #[.bool q, .int .u64 s]] (.string d) (fun U hU => by kernel_rfl) (fun U hU => (CD U (hGG U hU)).mono fun e w2 z => ⟨z.1, hU.trans (z.2.mono hU.size)⟩) ?_
    simp only [pu]
    refine gyv (.string a2) (fun U hU => add_s rfl _ _ _ ha2 hl2 (by kernel_rfl) (by kernel_rfl) U) <| gyv (.string a3) (fun U hU => add_s rfl _ _ _ ha3 hl3 (by kernel_rfl) (by kernel_rfl) U) ?_
    simp only [pu]
    apply wpQuiet_nil
    intro V hV
    have hib3 := isb_below hib2 hV
    have hS3 := hS2.below hS2.lt hV
    have hbV : b ≤ V.heap.size := by have := hV.size; have := hB2.size; have := HNE.out.2.2; omega
    have hBV : Below b W3 V := hB2.trans (hV.mono (by have := hB2.size; have := HNE.out.2.2; omega))
    have CW := Builder_WriteString_k b b _ a3 V hib3 hl4 hbV
    rw [HN3.out, hbc] at CW
    clear hib2 hS2 hB2 hV hY2 hX2 hWW hGG CV CD HL4 ha1 ha2 ha3 hl1 hl2 hl3 hl4 hib3 hbc
    refine gzc (.tuple #[.int .i64 n3, .nilIface]) _ CW (fun V5 hV5 => ?_)
    simp only [pu]
    apply wpList_nil
    obtain ⟨hw1, hw2, hw3⟩ := hV5
    have HP3 : Hid ((jS c (i + 1)).size ≤ 40 * (i + 1) ∧ Lib.IsBuilderF 69 5 b b (Lib.byteCells (jS c (i + 1)).data.toList) V5) := Lib.hid ⟨HP2.out, Or.inr hw1⟩
    have HR5 : Hid (Below b W3 V5 ∧ Bx V5 gs1 (stC g1).toArray 59) := Lib.hid ⟨hBV.trans hw2, oth_bx hw3 hS3 HNE.out.1 (by decide)⟩
    clear hw1 hw2 hw3 hS3 hBV HP2 CW hbV
    go_upto_region 9 with fail
    refine wl <| gzv (.int .i64 (i + 1 : Nat)) (add_one rfl i (by omega) (by kernel_rfl) _) <| gz1 (.int .i64 (i + 1 : Nat)) <| wn ?_
    simp only [pu]
    go_wp2_with fail
    go_roundg (12 - (i + 1))
    case measure => have := HGK.out; omega
    case rel => exact ⟨i + 1, rfl, by omega, by omega, HP3, HR5⟩
   ·skip
    obtain rfl : i = 12 := by omega
    obtain ⟨hr1, hr2⟩ := HR.out
    have CS := Builder_String_any_k b b _ wr HP.out.2 (Nat.le_trans HNE.out.2.2 hr1.size)
    have HE := Lib.hid (HB3.out.trans (hr1.mono HWB.out))
    have h0 := HE0.out
    rw [ba_back] at CS
    generalize jS c 12 = js at *
    obtain rfl := h0
    clear hr1 hr2 HP HR HE0
    go_upto_region 6 with fail
    refine wl <| gzb (lss_n rfl ((12 : Nat)) (12) dF) <| wn ?_
    simp only [pu]
    go_upto_region 10 with fail
    refine wl <| gzc (.string js) _ CS (fun V5 hV5 => ?_)
    simp only [pu]
    refine gz2 (.string js) (.int .i64 0) <| wn ?_
    simp only [pu]
    have HE2 := Lib.hid (HE.out.trans (hV5.2.1.mono HWB.out))
    clear hV5 CS HE
    go_wp2_with fail
    go_ret2
    exact ⟨rfl, HE2.out⟩
 ·skip
  obtain rfl := h01
  obtain rfl := HBAD.out rfl
  clear HEND HSZ HBAD HV HD HST
  go_upto_region 2 with fail
  refine wl <| gz1 (.int .i64 1) <| gzb (neq_e rfl 1 0 dT) <| wn ?_
  simp only [pu]
  go_upto_region 3 with fail
  refine wl <| gz3 (.int .i64 1) (.string ⟨#[]⟩) (.int .i64 1) <| wn ?_
  simp only [pu]
  go_wp2_with fail
  go_ret2
  exact ⟨rfl, HB1.out⟩
end Go.Proofs.YtplfineaomneiaaDoor
