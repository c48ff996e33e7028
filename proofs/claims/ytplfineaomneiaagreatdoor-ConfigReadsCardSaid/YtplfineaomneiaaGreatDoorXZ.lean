/-
 The program's Parse: contract.
-/
import Derived.Test.YtplfineaomneiaaGreatDoorXY
import Derived.Test.YtplfineaomneiaaGreatDoorXL
namespace Go.Proofs.YtplfineaomneiaaGreatDoor
attribute [local irreducible] wpList wpQuiet
open Go.RowKit
set_option maxRecDepth 100000
set_option linter.unusedSimpArgs false
set_option linter.unusedVariables false

theorem r_valids (s : ByteArray) (hl : s.size ≤ 90000) (w : World) (hG : Glob w) : Calls Tryz.prog 22 #[.string s] w fun e w' => e = .returned (.bool (Lib.validD s.data.toList)) ∧ Below w.heap.size w w' := Any.utf8_ValidString laysValid s w (by omega) hG.tabs
/-- So far the lines are read. -/
def PJ (L : List Int) (i : Nat) (c : List Int) (S : List (List Int)) (Ls : List ByteArray) : Prop := CfOk c ∧ RgC c ∧ parX L = parL ((Ls.map nums).drop i) i c S
/-- What the walk over the lines keeps of the world. -/
structure PzW (w : World) (g2 gs B bl : Nat) (Ls : List ByteArray) (c : List Int) (S : List (List Int)) (V : World) : Prop where
 cf : Bx V g2 (cfA c) 30
 mp : Mf V B (memF S)
 st : Bx V gs (stC g2).toArray 62
 ls : Bx V bl (strs Ls).toArray 9
 bel : Below w.heap.size w V
theorem PzW.step {w V V2 : World} {g2 gs B bl : Nat} {Ls : List ByteArray} {c c2 : List Int} {S S2 : List (List Int)} (h : PzW w g2 gs B bl Ls c S V) (hne : gs ≠ g2 ∧ bl ≠ g2 ∧ w.heap.size ≤ g2 ∧ w.heap.size ≤ B) (hb : ButS (min g2 B) (RdD g2 B) V V2) (hX : Bx V2 g2 (cfA c2) 30) (hM : Mf V2 B (memF S2)) : PzW w g2 gs B bl Ls c2 S2 V2 where
 cf := hX
 mp := hM
 st := h.st.buts hb (fun e => e.elim hne.1 (mf_ne h.mp h.st))
 ls := h.ls.buts hb (fun e => e.elim hne.2.1 (mf_ne h.mp h.ls))
 bel := h.bel.trans (hb.1.mono (Nat.le_min.2 ⟨hne.2.2.1, hne.2.2.2⟩))
theorem zero_cf : cfA zeroL = #[.int .i64 0, .int .i64 0, .int .i64 0, .int .i64 0, .int .i64 0, .int .i64 0, .bool false, .int .i64 0, .int .i64 0, .int .u64 0, .int .i64 0, .int .i64 0] := rfl
set_option maxRecDepth 100000 in
set_option maxHeartbeats 8000000 in
theorem p_parseC (s : ByteArray) (w : World) (hG : Glob w) (hl0 : s.size ≤ 1000000) : Calls Tryz.prog 12 #[.string s] w fun e w' => e = .returned (parV (nums s)) ∧ Below w.heap.size w w' := by
 have HLL := Lib.hid (nums_len s)
 have HG : Hid (∀ V, Below w.heap.size w V → Glob V) := Lib.hid fun V h => hG.below h
 have HLIM : Hid (4096 < s.size → .tuple #[.agg #[.int .i64 0, .int .i64 0, .int .i64 0, .int .i64 0, .int .i64 0, .int .i64 0, .bool false, .int .i64 0, .int .i64 0, .int .u64 0, .int .i64 0, .int .i64 0], .int .i64 0, .int .i64 3] = parV (nums s)) := Lib.hid fun h => parV_of (parX_lim (by rw [nums_len]; exact h))
 have HENC : Hid (¬ 4096 < s.size → runs (nums s) 0 = none → .tuple #[.agg #[.int .i64 0, .int .i64 0, .int .i64 0, .int .i64 0, .int .i64 0, .int .i64 0, .bool false, .int .i64 0, .int .i64 0, .int .u64 0, .int .i64 0, .int .i64 0], .int .i64 0, .int .i64 4] = parV (nums s)) := Lib.hid fun h h2 => parV_of (parX_enc (by rw [nums_len]; exact h) h2)
 obtain ⟨ZV, hZV⟩ : ∃ ZV, parV (nums s) = ZV := ⟨_, rfl⟩
 rw [hZV] at HLIM HENC ⊢
 have HZV := Lib.hid hZV
 clear hZV hG
 obtain ⟨V0, hV0⟩ : ∃ V0, w.alloc (.cells #[.int .i64 0, .int .i64 0, .int .i64 0, .int .i64 0, .int .i64 0, .int .i64 0, .bool false, .int .i64 0, .int .i64 0, .int .u64 0, .int .i64 0, .int .i64 0] 30) = V0 := ⟨_, rfl⟩
 have hb0 : Below w.heap.size w V0 := by rw [← hV0]; exact (Below.refl _ w).alloc (Nat.le_refl _) _
 have hX2 : Bx V0 w.heap.size #[.int .i64 0, .int .i64 0, .int .i64 0, .int .i64 0, .int .i64 0, .int .i64 0, .bool false, .int .i64 0, .int .i64 0, .int .u64 0, .int .i64 0, .int .i64 0] 30 := by rw [← hV0]; exact heap_alloc_last w _
 obtain ⟨n, hn⟩ : ∃ n, s.size = n := ⟨_, rfl⟩
 rw [hn] at HLIM HENC hl0
 have HSN := Lib.hid hn
 have A0 := Lib.hid sta0
 go_enter Tryz.func12, Tryz.ntmps12
 go_upto_region 1 with fail
 obtain ⟨g2, hg2⟩ : ∃ g2, w.heap.size = g2 := ⟨_, rfl⟩
 have HB0 := Lib.hid hb0
 rw [hg2] at hX2
 simp only [hg2]
 have HW2 : Hid (w.heap.size = g2) := Lib.hid hg2
 clear hV0 hb0 hg2
 by_cases hlim : 4096 < n
 ·skip
  obtain rfl := HLIM.out hlim
  go_upto_region 1 with fail
  refine wl <| gz1 (.string s) <| gzv (.int .i64 n) (by rw [← hn]; kernel_rfl) <| gzb (gtr_n rfl (n) (4096) dT) <| wn ?_
  simp only [pu]
  obtain ⟨V9, hst9, hld9, -, hbt9⟩ := A0.out V0 g2 _ rfl hX2
  have HE := Lib.hid (HB0.out.trans (hbt9.1.mono (by have := HW2.out; omega)))
  go_upto_region 2 with fail
  refine wl <| gz1 (.agg #[.int .i64 0, .int .i64 0, .int .i64 0, .int .i64 0, .int .i64 0, .int .i64 0, .bool false, .int .i64 0, .int .i64 0, .int .u64 0, .int .i64 0, .int .i64 0]) <| gzs rfl (hst9) <| gz2 (.int .i64 0) (.int .i64 3) <| wn ?_
  simp only [pu]
  clear hst9 hbt9
  go_wp2_with fail
  exact bodyPost_ret (results_ctt (p := 2) rfl (by kernel_rfl) hld9 (by kernel_rfl) (by kernel_rfl)) rfl ⟨rfl, HE.out⟩
 ·skip
  go_upto_region 1 with fail
  refine wl <| gz1 (.string s) <| gzv (.int .i64 n) (by rw [← hn]; kernel_rfl) <| gzb (gtr_n rfl (n) (4096) dF) <| wn ?_
  simp only [pu]
  have CVS := r_valids s (by rw [HSN.out]; omega) V0 (HG.out V0 HB0.out)
  have hvi := valid_is s
  cases hvd : Lib.validD s.data.toList
  ·skip
   rw [hvd] at CVS
   have hru : runs (nums s) 0 = none := by
    cases hq : runs (nums s) 0 with
    | none => rfl
    | some k => exact absurd (hvi.2 (by rw [hq]; intro e; cases e)) (by rw [hvd]; decide)
   obtain rfl := HENC.out hlim hru
   clear hvi hvd hru HENC HLIM
   go_upto_region 3 with fail
   refine wl <| gz1 (.string s) <| gzc (.bool false) (fun w' => Below V0.heap.size V0 w') (CVS) (fun V1 hb1 => ?_)
   simp only [pu]
   refine gz1 (.bool true) <| wn ?_
   simp only [pu]
   have hX21 := hX2.below hX2.lt hb1
   have HB1 := Lib.hid (HB0.out.trans (hb1.mono HB0.out.size))
   clear CVS hb1 hX2
   obtain ⟨V9, hst9, hld9, -, hbt9⟩ := A0.out V1 g2 _ rfl hX21
   have HE := Lib.hid (HB1.out.trans (hbt9.1.mono (by have := HW2.out; omega)))
   go_upto_region 4 with fail
   refine wl <| gz1 (.agg #[.int .i64 0, .int .i64 0, .int .i64 0, .int .i64 0, .int .i64 0, .int .i64 0, .bool false, .int .i64 0, .int .i64 0, .int .u64 0, .int .i64 0, .int .i64 0]) <| gzs rfl (hst9) <| gz2 (.int .i64 0) (.int .i64 4) <| wn ?_
   simp only [pu]
   clear hst9 hbt9
   go_wp2_with fail
   exact bodyPost_ret (results_ctt (p := 2) rfl (by kernel_rfl) hld9 (by kernel_rfl) (by kernel_rfl)) rfl ⟨rfl, HE.out⟩
  ·skip
   rw [hvd] at CVS
   have HRU := Lib.hid (hvi.1 hvd)
   clear hvi hvd HENC HLIM
   go_upto_region 3 with fail
   refine wl <| gz1 (.string s) <| gzc (.bool true) (fun w' => Below V0.heap.size V0 w') (CVS) (fun V1 hb1 => ?_)
   simp only [pu]
   refine gz1 (.bool false) <| wn ?_
   simp only [pu]
   have hX21 := hX2.below hX2.lt hb1
   have HB1 := Lib.hid (HB0.out.trans (hb1.mono HB0.out.size))
   clear CVS hb1 hX2
   have CD := p_default V1
   obtain ⟨DF, hDF⟩ : ∃ D, cfA dfltL = D := ⟨_, rfl⟩
   have HDF := Lib.hid hDF
   have ADF := Lib.hid (sta dfltL)
   rw [hDF] at CD ADF
   clear hDF
   go_upto_region 5 with fail
   refine wl <| gzc (.agg DF) (fun w' => Below V1.heap.size V1 w') (CD) (fun V2 hb2 => ?_)
   have hX22 := hX21.below hX21.lt hb2
   obtain ⟨V3, hst3, -, hX23, hbt3⟩ := ADF.out V2 g2 _ rfl hX22
   simp only [pu]
   refine gzs rfl (hst3) <| wn ?_
   have HB3 := Lib.hid ((HB1.out.trans (hb2.mono HB1.out.size)).trans (hbt3.1.mono (by have := HW2.out; omega)))
   rw [← HDF.out] at hX23
   clear CD ADF hst3 hb2 hbt3 hX21 hX22 HB1 HDF
   go_upto_region 6 with fail
   refine wl <| gze (StV g2 V3) (p_settings2 g2 V3) (fun vv V4 hq => ?_)
   obtain ⟨gs1, rfl, hxs1, hge1, hbs1⟩ := hq
   simp only [pu]
   refine gw_new (by kernel_rfl) (some 21) rfl (.map (some V4.heap.size)) (V4.alloc (.map #[] 0)) (ex_new 55 rfl) ?_
   simp only [pu]
   refine gz2 (.slice (some ⟨gs1, 0, none⟩) 12 12) (.map (some V4.heap.size)) <| wn ?_
   simp only [pu]
   have hbm : Below V4.heap.size V4 (V4.alloc (.map #[] 0)) := (Below.refl _ V4).alloc (Nat.le_refl _) _
   have hmp : Mf (V4.alloc (.map #[] 0)) V4.heap.size (memF []) := Mf.new V4
   have hX24 := (hX23.below hX23.lt hbs1).below (hX23.below hX23.lt hbs1).lt hbm
   have hS4 := hxs1.below hxs1.lt hbm
   have HB4 := Lib.hid ((HB3.out.trans (hbs1.mono HB3.out.size)).trans (hbm.mono (HB3.out.trans (hbs1.mono HB3.out.size)).size))
   have hgq : g2 < V3.heap.size := hX23.lt
   have hBq : V3.heap.size ≤ V4.heap.size := hbs1.size
   generalize V4.alloc (.map #[] 0) = V5 at *
   obtain ⟨B, hBe⟩ : ∃ B, V4.heap.size = B := ⟨_, rfl⟩
   rw [hBe] at hmp hBq
   simp only [hBe]
   obtain ⟨mm, hmm⟩ := (HG.out V5 HB4.out).most
   have CSP := strings_Split s ⟨#[10]⟩ mm V5 (by rw [HSN.out]; omega) hmm (by decide)
   have hcn := split_cnt s
   have HLM := Lib.hid (split_nums s)
   obtain ⟨Ls, hLs⟩ : ∃ Ls, Lib.splitB ⟨#[10]⟩ 0 (Lib.countB s ⟨#[10]⟩) s = Ls := ⟨_, rfl⟩
   rw [hLs] at hcn HLM CSP
   obtain ⟨m, hm⟩ : ∃ m, Lib.countB s ⟨#[10]⟩ + 1 = m := ⟨_, rfl⟩
   rw [hm] at hcn CSP
   have hbl : Below V5.heap.size V5 (V5.alloc (.cells (strs Ls).toArray 9)) := (Below.refl _ V5).alloc (Nat.le_refl _) _
   have hXl : Bx (V5.alloc (.cells (strs Ls).toArray 9)) V5.heap.size (strs Ls).toArray 9 := heap_alloc_last V5 _
   have hX25 := hX24.below hX24.lt hbl
   have hS5 := hS4.below hS4.lt hbl
   have hmp5 := hmp.below hbl
   have HB5 := Lib.hid (HB4.out.trans (hbl.mono HB4.out.size))
   have hlq : g2 < V5.heap.size := hX24.lt
   have CSP2 : Calls Tryz.prog 24 #[.string s, .string ⟨#[10]⟩] V5 fun e w' => e = .returned (.slice (some ⟨V5.heap.size, 0, none⟩) m m) ∧ w' = V5.alloc (.cells (strs Ls).toArray 9) := CSP
   generalize V5.alloc (.cells (strs Ls).toArray 9) = V6 at *
   obtain ⟨bl, hblq⟩ : ∃ b, V5.heap.size = b := ⟨_, rfl⟩
   rw [hblq] at CSP2 hXl hlq
   have HNE : Hid (gs1 ≠ g2 ∧ bl ≠ g2 ∧ w.heap.size ≤ g2 ∧ w.heap.size ≤ B) := Lib.hid ⟨by omega, by omega, by have := HW2.out; omega, by have := HB3.out.size; omega⟩
   have HLN : Hid (m = Ls.length ∧ m ≤ 5000) := Lib.hid ⟨hcn.symm, by
    have h1 := split_num (nums s) []
    rw [← HLM.out, List.length_map, nums_len, HSN.out] at h1
    omega⟩
   have HLV : Hid (∀ i, i < m → runs (nums (Ls.getD i (⟨#[]⟩ : ByteArray))) 0 ≠ none ∧ (Ls.getD i (⟨#[]⟩ : ByteArray)).size ≤ 9000) := Lib.hid fun i hi => by
    have hmem : nums (Ls.getD i (⟨#[]⟩ : ByteArray)) ∈ splitL [] (nums s) := by
     rw [← HLM.out]
     exact getD_memS (by omega)
    refine ⟨split_valid _ (nums s) (Nat.le_refl _) HRU.out _ hmem, ?_⟩
    have h1 := split_len (nums s) [] _ hmem
    rw [nums_len, nums_len, HSN.out] at h1
    simp only [List.length_nil] at h1
    omega
   obtain ⟨L, hL⟩ : ∃ L, nums s = L := ⟨_, rfl⟩
   rw [hL] at HLM HRU HZV HLL
   have HPJ : Hid (PJ L 0 dfltL [] Ls) := Lib.hid ⟨dflt_ok, rg_dflt, by
    unfold parX
    rw [if_neg (by rw [HLL.out, HSN.out]; exact hlim), if_neg HRU.out, ← HLM.out]
    rfl⟩
   have HPW : Hid (PzW w g2 gs1 B bl Ls dfltL [] V6) := Lib.hid ⟨hX25, hmp5, hS5, hXl, HB5.out⟩
   have HER : Hid (∀ i c S, i < m → PJ L i c S Ls → (lnX c S (nums (Ls.getD i (⟨#[]⟩ : ByteArray)))).2.2 ≠ 0 → .tuple #[.agg #[.int .i64 0, .int .i64 0, .int .i64 0, .int .i64 0, .int .i64 0, .int .i64 0, .bool false, .int .i64 0, .int .i64 0, .int .u64 0, .int .i64 0, .int .i64 0], .int .i64 (i + 1 : Nat), .int .i64 (lnX c S (nums (Ls.getD i (⟨#[]⟩ : ByteArray)))).2.2] = ZV) := Lib.hid fun i c S hi h he => by
    rw [← HZV.out]
    refine parV_of (c := zeroL) (n := i + 1) ?_
    rw [h.2.2, map_drop (by have := HLN.out.1; omega), parL_bad he]
   have HST : Hid (∀ i c S, i < m → PJ L i c S Ls → (lnX c S (nums (Ls.getD i (⟨#[]⟩ : ByteArray)))).2.2 = 0 → PJ L (i + 1) (lnX c S (nums (Ls.getD i (⟨#[]⟩ : ByteArray)))).1 (lnX c S (nums (Ls.getD i (⟨#[]⟩ : ByteArray)))).2.1 Ls) := Lib.hid fun i c S hi h he => ⟨(ln_ok h.1 h.2.1).1, (ln_ok h.1 h.2.1).2, by rw [h.2.2, map_drop (by have := HLN.out.1; omega), parL_ok he]⟩
   have HFI : Hid (∀ c S, PJ L m c S Ls → parX L = if c.getD 11 0 ≤ c.getD 10 0 then (zeroL, 0, 1) else (c, 0, 0)) := Lib.hid fun c S h => by
    rw [h.2.2, List.drop_eq_nil_of_le (by rw [List.length_map]; have := HLN.out.1; omega), parL]
   clear hX23 hxs1 hbs1 hge1 hbm hmp hX24 hS4 hgq hBq hBe hmm CSP hcn hLs hm hbl hX25 hS5 hmp5 hlq hXl HB3 HB4 HB5 HLM hL hlim
   go_upto_region 7 with fail
   refine wl <| gz1 (.string s) <| gzc (.slice (some ⟨bl, 0, none⟩) m m) (fun w' => w' = V6) CSP2 (fun V7 hV7 => ?_)
   obtain rfl := hV7
   simp only [pu]
   refine gz2 (.int .i64 m) (.int .i64 0) <| wn ?_
   simp only [pu]
   clear CSP2 hblq
   go_wp2_with fail
   go_loopg [25] m (fun gg s25 wx => ∃ (i : Nat) (c : List Int) (S : List (List Int)), s25 = .int .i64 i ∧ i ≤ m ∧ gg + i = m ∧ Hid (PJ L i c S Ls) ∧ Hid (PzW w g2 gs1 B bl Ls c S wx))
   case atStart => exact ⟨0, _, _, rfl, by omega, by omega, HPJ, HPW⟩
   case round =>
    obtain ⟨i, c, S, hs25, hin, hg, HI, HP⟩ := hrel
    obtain rfl := hs25
    have HGK : Hid (gk + i = m) := Lib.hid hg
    clear HPJ HPW hg
    by_cases hlt : i < m
    ·skip
     have hll : (Instr.loadAt 9 (.pointer (some ⟨bl, 0 + i, none⟩))).run Tryz.prog wr = .ok (.string (Ls.getD i (⟨#[]⟩ : ByteArray))) wr := load_str HP.out.ls (k := i) (by have := HLN.out.1; omega)
     obtain ⟨hv1, hv2⟩ := HLV.out i hlt
     have CRD := p_read HI.out.1 (S := S) (Ls.getD i (⟨#[]⟩ : ByteArray)) hv2 hv1 wr (HG.out wr HP.out.bel) HP.out.st HP.out.cf HP.out.mp HNE.out.1
     have HE1 := Lib.hid (HER.out i c S hlt HI.out)
     have HS1 := Lib.hid (HST.out i c S hlt HI.out)
     obtain ⟨R, hR⟩ : ∃ R, lnX c S (nums (Ls.getD i (⟨#[]⟩ : ByteArray))) = R := ⟨_, rfl⟩
     rw [hR] at CRD HE1 HS1
     generalize Ls.getD i (⟨#[]⟩ : ByteArray) = ln at *
     obtain ⟨c2, S2, er⟩ := R
     have CRD2 : Calls Tryz.prog 25 #[.slice (some ⟨gs1, 0, none⟩) 12 12, .map (some B), .string ln] wr fun e w' => e = .returned (.int .i64 er) ∧ Bx w' g2 (cfA c2) 30 ∧ Mf w' B (memF S2) ∧ ButS (min g2 B) (RdD g2 B) wr w' := CRD.mono fun e w' z => ⟨z.e, z.cf, z.mp, z.but⟩
     clear CRD hR hv1 hv2 HER HST
     go_upto_region 8 with fail
     refine wl <| gzb (lss_n rfl (i) (m) dT) <| wn ?_
     simp only [pu]
     go_upto_region 9 with fail
     refine wl <| gz1 (.int .i64 i) <| gzv (.pointer (some ⟨bl, 0 + i, none⟩)) (idx_str bl 0 m m i hlt _ _ _ rfl (by kernel_rfl) (by kernel_rfl)) <| gzl rfl ⟨bl, 0 + i, none⟩ (.string ln) (hll) <| gz2 (.int .i64 i) (.string ln) <| wn ?_
     simp only [pu]
     clear hll
     go_upto_region 10 with fail
     refine wl <| gz3 (.slice (some ⟨gs1, 0, none⟩) 12 12) (.map (some B)) (.string ln) <| gzc (.int .i64 er) _ CRD2 (fun V7 hV7 => ?_)
     simp only [pu]
     refine gz1 (.int .i64 er) <| wn ?_
     simp only [pu]
     obtain ⟨hx7, hm7, hb7⟩ := hV7
     have HP7 := Lib.hid (HP.out.step HNE.out hb7 hx7 hm7)
     clear hx7 hm7 hb7 CRD2 HP HI
     by_cases her : er = 0
     ·skip
      subst her
      have HI2 := Lib.hid (HS1.out rfl)
      clear HE1 HS1
      go_upto_region 11 with fail
      refine wl <| gz1 (.int .i64 0) <| gzb (neq_e rfl 0 0 dF) <| wn ?_
      simp only [pu]
      go_upto_region 13 with fail
      refine wl <| gzv (.int .i64 (i + 1 : Nat)) (add_one rfl i (by have := HLN.out.2; omega) (by kernel_rfl) _) <| gz1 (.int .i64 (i + 1 : Nat)) <| wn ?_
      simp only [pu]
      go_wp2_with fail
      go_roundg (m - (i + 1))
      case measure => have := HGK.out; omega
      case rel => exact ⟨i + 1, _, _, rfl, by omega, by omega, HI2, HP7⟩
     ·skip
      obtain rfl := HE1.out her
      clear HE1 HS1
      go_upto_region 11 with fail
      refine wl <| gz1 (.int .i64 er) <| gzb (neq_e rfl er 0 (decide_eq_true her)) <| wn ?_
      simp only [pu]
      have hx7 := HP7.out.cf
      have hb7 := HP7.out.bel
      obtain ⟨V9, hst9, hld9, -, hbt9⟩ := A0.out V7 g2 _ rfl hx7
      have HE := Lib.hid (hb7.trans (hbt9.1.mono (by have := HW2.out; omega)))
      go_upto_region 12 with fail
      refine wl <| gz2 (.agg #[.int .i64 0, .int .i64 0, .int .i64 0, .int .i64 0, .int .i64 0, .int .i64 0, .bool false, .int .i64 0, .int .i64 0, .int .u64 0, .int .i64 0, .int .i64 0]) (.int .i64 i) <|
       gzv (.int .i64 (i + 1 : Nat)) (add_one rfl i (by have := HLN.out.2; omega) (by kernel_rfl) _) <| gz1 (.int .i64 er) <| gzs rfl (hst9) <| gz2 (.int .i64 (i + 1 : Nat)) (.int .i64 er) <| wn ?_
      simp only [pu]
      clear hst9 hbt9 hx7 hb7
      go_wp2_with fail
      exact bodyPost_ret (results_ctt (p := 2) rfl (by kernel_rfl) hld9 (by kernel_rfl) (by kernel_rfl)) rfl ⟨rfl, HE.out⟩
    ·skip
     obtain rfl : i = m := by omega
     have hfi := HFI.out c S HI.out
     have CV := p_valid HI.out.1 wr
     rw [val_rg HI.out.2.1] at CV
     have LDC := Lib.hid (lda c)
     have ADC := Lib.hid (sta c)
     have hx := HP.out.cf
     have hbw := HP.out.bel
     have HZ1 : Hid (c.getD 11 0 ≤ c.getD 10 0 → .tuple #[.agg #[.int .i64 0, .int .i64 0, .int .i64 0, .int .i64 0, .int .i64 0, .int .i64 0, .bool false, .int .i64 0, .int .i64 0, .int .u64 0, .int .i64 0, .int .i64 0], .int .i64 0, .int .i64 1] = ZV) := Lib.hid fun h => by
      rw [← HZV.out]
      exact parV_of (by rw [hfi, if_pos h])
     have HZ0 : Hid (¬ c.getD 11 0 ≤ c.getD 10 0 → .tuple #[.agg (cfA c), .int .i64 0, .int .i64 0] = ZV) := Lib.hid fun h => by
      rw [← HZV.out]
      exact parV_of (by rw [hfi, if_neg h])
     obtain ⟨CC, hCC⟩ : ∃ D, cfA c = D := ⟨_, rfl⟩
     have HCZ : Hid (CC.size = 12) := Lib.hid (by rw [← hCC]; rfl)
     rw [hCC] at CV LDC ADC hx HZ0
     have hld := LDC.out wr g2 hx
     clear hfi HFI HER HST HI HP hCC HLV HLN
     go_upto_region 8 with fail
     refine wl <| gzb (lss_n rfl (i) (i) dF) <| wn ?_
     simp only [pu]
     by_cases hle : c.getD 11 0 ≤ c.getD 10 0
     ·skip
      rw [if_pos hle] at CV
      obtain rfl := HZ1.out hle
      clear HZ1 HZ0
      go_upto_region 14 with fail
      refine wl <| gzl rfl ⟨g2, 0, none⟩ (.agg CC) (hld) <| gzc (.int .i64 1) (fun w' => Below wr.heap.size wr w') (CV) (fun V8 hb8 => ?_)
      simp only [pu]
      refine gz1 (.int .i64 1) <| wn ?_
      simp only [pu]
      have hx8 := hx.below hx.lt hb8
      have HB8 := Lib.hid (hbw.trans (hb8.mono hbw.size))
      have hld8 := LDC.out V8 g2 hx8
      clear hld CV hb8 hx hbw
      go_upto_region 15 with fail
      refine wl <| gz1 (.int .i64 1) <| gzb (neq_e rfl 1 0 dT) <| wn ?_
      simp only [pu]
      clear hld8 LDC ADC
      obtain ⟨V9, hst9, hld9, -, hbt9⟩ := A0.out V8 g2 _ HCZ.out hx8
      have HE := Lib.hid (HB8.out.trans (hbt9.1.mono (by have := HW2.out; omega)))
      go_upto_region 16 with fail
      refine wl <| gz2 (.agg #[.int .i64 0, .int .i64 0, .int .i64 0, .int .i64 0, .int .i64 0, .int .i64 0, .bool false, .int .i64 0, .int .i64 0, .int .u64 0, .int .i64 0, .int .i64 0]) (.int .i64 1) <| gzs rfl (hst9) <| gz2 (.int .i64 0) (.int .i64 1) <| wn ?_
      simp only [pu]
      clear hst9 hbt9 hx8
      go_wp2_with fail
      exact bodyPost_ret (results_ctt (p := 2) rfl (by kernel_rfl) hld9 (by kernel_rfl) (by kernel_rfl)) rfl ⟨rfl, HE.out⟩
     ·skip
      rw [if_neg hle] at CV
      obtain rfl := HZ0.out hle
      clear HZ1 HZ0
      go_upto_region 14 with fail
      refine wl <| gzl rfl ⟨g2, 0, none⟩ (.agg CC) (hld) <| gzc (.int .i64 0) (fun w' => Below wr.heap.size wr w') (CV) (fun V8 hb8 => ?_)
      simp only [pu]
      refine gz1 (.int .i64 0) <| wn ?_
      simp only [pu]
      have hx8 := hx.below hx.lt hb8
      have HB8 := Lib.hid (hbw.trans (hb8.mono hbw.size))
      have hld8 := LDC.out V8 g2 hx8
      clear hld CV hb8 hx hbw
      go_upto_region 15 with fail
      refine wl <| gz1 (.int .i64 0) <| gzb (neq_e rfl 0 0 dF) <| wn ?_
      simp only [pu]
      obtain ⟨V9, hst9, hld9, -, hbt9⟩ := ADC.out V8 g2 _ HCZ.out hx8
      have HE := Lib.hid (HB8.out.trans (hbt9.1.mono (by have := HW2.out; omega)))
      go_upto_region 17 with fail
      refine wl <| gzl rfl ⟨g2, 0, none⟩ (.agg CC) (hld8) <| gzs rfl (hst9) <| gz2 (.int .i64 0) (.int .i64 0) <| wn ?_
      simp only [pu]
      clear hst9 hbt9 hx8 hld8
      go_wp2_with fail
      exact bodyPost_ret (results_ctt (p := 2) rfl (by kernel_rfl) hld9 (by kernel_rfl) (by kernel_rfl)) rfl ⟨rfl, HE.out⟩
end Go.Proofs.YtplfineaomneiaaGreatDoor
