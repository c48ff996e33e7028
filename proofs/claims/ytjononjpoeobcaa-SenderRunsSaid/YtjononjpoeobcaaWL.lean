/-
 The walk of SenderLists.
-/
import Derived.Test.YtjononjpoeobcaaPL
namespace Go.Proofs.Ytjononjpoeobcaa
attribute [local irreducible] wpList wpQuiet
open Go.RowKit
set_option maxRecDepth 100000
set_option linter.unusedSimpArgs false
set_option linter.unusedVariables false

/-- What the loops over names keep. -/
structure KL (w : World) (g0 : Nat) (S : Nat → Prop) (m : List Rw) (al : Option Addr) (ap : Option Addr) (N2 : List ByteArray) (V : World) : Prop where
 rep : RepI V g0 S m
 rw : Cs V al (rwcs m)
 nm : Cs V ap (strs N2)
 bel : Below w.heap.size w V
theorem KL.below {w : World} {g0 : Nat} {S : Nat → Prop} {m : List Rw} {al ap : Option Addr} {N2 : List ByteArray} {V V2 : World} (h : KL w g0 S m al ap N2 V) (hb : Below V.heap.size V V2) : KL w g0 S m al ap N2 V2 := ⟨h.rep.below hb, h.rw.below hb, h.nm.below hb, h.bel.trans (hb.mono h.bel.size)⟩
theorem NsO.own {w : World} {L : List ByteArray} {e : Ending} {w' : World} (h : NsO w L e w') : ∃ v, e = .returned v ∧ RowS w' w.heap.size v L ∧ Below w.heap.size w w' := h
theorem two_str (x y : ByteArray) (w : World) : (Instr.buildSlice 32 2 #[(0, .string x), (1, .string y)]).run Try.prog w = .ok (.slice (some ⟨w.heap.size, 0, none⟩) 2 2) (w.alloc (.cells (strs [x, y]).toArray 9)) := by
 obtain ⟨i0, hi, hz0, hz1, hz2⟩ := info_parts infoSt
 refine run_buildSlice w 32 9 2 _ (strs [x, y]).toArray i0 _ Try.underlying32 hi hz0 (by rw [hz1]; omega) (by rw [hz1]; omega) ?_
 rw [hz1]
 kernel_rfl
theorem getD_mem {L : List ByteArray} {i : Nat} (hi : i < L.length) : L.getD i ⟨#[]⟩ ∈ L := by rw [getD_lt L i _ hi]; exact List.getElem_mem hi
set_option maxRecDepth 100000 in
set_option maxHeartbeats 8000000 in
theorem lists_core (a : Option Addr) (c : Nat) (L : List Int) (s1 : ByteArray) (w : World) (hl : L.length ≤ 9223372036854775807) (hr : Cs w a (icells L)) : Calls Try.prog 4 #[.slice a L.length c, .string s1] w fun e w' => e = .returned (.bool true) ∧ Below w.heap.size w w' := by
 have HR := Lib.hid hr
 clear hr
 go_enter Try.func4, Try.ntmps4
 go_upto_region 1 with fail
 have hbd := one_row a L.length c w
 have hXl : Bx (w.alloc (.cells #[.slice a L.length c] 22)) w.heap.size #[.slice a L.length c] 22 := heap_alloc_last w _
 have hbl : Below w.heap.size w (w.alloc (.cells #[.slice a L.length c] 22)) := (Below.refl _ w).alloc (Nat.le_refl _) _
 have CL := long_one w.heap.size a L.length c _ hXl hl
 generalize w.alloc (.cells #[.slice a L.length c] 22) = W1 at *
 have HB1 := Lib.hid hbl
 clear hXl hbl
 by_cases hlong : 160 < L.length
 ·skip
  rw [decide_eq_true (by omega)] at CL
  refine wl <| gz1 (.slice a L.length c) ?_
  simp only [pu]
  refine gw_build (by kernel_rfl) (some 11) rfl 48 1 #[(0, .tmp 10)] rfl #[(0, .slice a L.length c)] (by kernel_rfl) (.slice (some ⟨w.heap.size, 0, none⟩) 1 1) _ hbd ?_
  simp only [pu]
  refine gzc (.bool true) (fun w' => W1 = w') (CL) (fun V9 hV9 => ?_)
  subst hV9
  simp only [pu]
  refine gz5 (.bool true) undef undef undef (.bool true) <| wn ?_
  simp only [pu]
  clear CL hbd
  have CK := known_true W1
  go_upto_region 2 with fail
  refine wl <| gzc (.bool true) (fun w' => Below W1.heap.size W1 w') (CK) (fun V8 hV8 => ?_)
  simp only [pu]
  refine gz1 (.bool true) <| wn ?_
  simp only [pu]
  have HE := HB1.out.trans (hV8.mono HB1.out.size)
  go_wp2_with fail
  go_ret
  exact ⟨rfl, HE⟩
 ·skip
  rw [decide_eq_false (by omega)] at CL
  have hlong : L.length ≤ 160 := by omega
  by_cases hsz : 60 < s1.size
  ·skip
   refine wl <| gz1 (.slice a L.length c) ?_
   simp only [pu]
   refine gw_build (by kernel_rfl) (some 11) rfl 48 1 #[(0, .tmp 10)] rfl #[(0, .slice a L.length c)] (by kernel_rfl) (.slice (some ⟨w.heap.size, 0, none⟩) 1 1) _ hbd ?_
   simp only [pu]
   refine gzc (.bool false) (fun w' => W1 = w') (CL) (fun V9 hV9 => ?_)
   subst hV9
   simp only [pu]
   refine gz3 (.bool false) (.string s1) (.int .i64 s1.size) <| gzb (gtr_n rfl s1.size 60 dT) <| gz1 (.bool true) <| wn ?_
   simp only [pu]
   clear CL hbd
   have CK := known_true W1
   go_upto_region 2 with fail
   refine wl <| gzc (.bool true) (fun w' => Below W1.heap.size W1 w') (CK) (fun V8 hV8 => ?_)
   simp only [pu]
   refine gz1 (.bool true) <| wn ?_
   simp only [pu]
   have HE := HB1.out.trans (hV8.mono HB1.out.size)
   go_wp2_with fail
   go_ret
   exact ⟨rfl, HE⟩
  ·skip
   refine wl <| gz1 (.slice a L.length c) ?_
   simp only [pu]
   refine gw_build (by kernel_rfl) (some 11) rfl 48 1 #[(0, .tmp 10)] rfl #[(0, .slice a L.length c)] (by kernel_rfl) (.slice (some ⟨w.heap.size, 0, none⟩) 1 1) _ hbd ?_
   simp only [pu]
   refine gzc (.bool false) (fun w' => W1 = w') (CL) (fun V9 hV9 => ?_)
   subst hV9
   simp only [pu]
   refine gz3 (.bool false) (.string s1) (.int .i64 s1.size) <| gzb (gtr_n rfl s1.size 60 dF) <| gz1 (.bool false) <| wn ?_
   simp only [pu]
   clear CL hbd
   have HS1 : Hid (s1.size ≤ 1000000) := Lib.hid (by omega)
   have CP := play_ok (c := c) (HR.out.below HB1.out) hlong s1 (by omega)
   go_upto_region 3 with fail
   refine wl <| gz2 (.slice a L.length c) (.string s1) <|
    gze (fun v w' => ∃ (g0 : Nat) (S : Nat → Prop) (m : List Rw) (al : Option Addr) (cm : Nat), v = .tuple #[.pointer (some ⟨g0, 0, none⟩), .slice al m.length cm, .bool true] ∧ RepI w' g0 S m ∧ (∀ k, S k → W1.heap.size ≤ k) ∧ Cs w' al (rwcs m) ∧ m.length ≤ cm ∧ (∀ k, rb al (rwcs m) k → ¬ S k) ∧ PlQ m 200 ∧ Below W1.heap.size W1 w') (CP.mono fun e w' z => by obtain ⟨g0, S, m, al, cm, z1, z2⟩ := z; exact ⟨_, z1, g0, S, m, al, cm, rfl, z2⟩) (fun vv V1 hq => ?_)
   obtain ⟨g0, S, m, al, cm, rfl, hrep, hso, hrw, hrl, hro, hqm, hbp⟩ := hq
   have HREP := Lib.hid hrep
   have HRW := Lib.hid hrw
   have HQM := Lib.hid hqm
   have HRO := Lib.hid hro
   have HRL := Lib.hid hrl
   have HB2 := Lib.hid (HB1.out.trans (hbp.mono HB1.out.size))
   have HSO : Hid (∀ k, S k → w.heap.size ≤ k) := Lib.hid fun k hk => Nat.le_trans HB1.out.size (hso k hk)
   have HLM : Hid (m.length ≤ 200) := Lib.hid hqm.ln
   obtain ⟨ml, hml⟩ : ∃ j, m.length = j := ⟨_, rfl⟩
   have HML := Lib.hid hml
   rw [hml]
   clear hrep hso hrw hrl hro hqm hbp CP hml HR HB1
   simp only [pu]
   refine gz6 (.tuple #[.pointer (some ⟨g0, 0, none⟩), .slice al ml cm, .bool true]) (.pointer (some ⟨g0, 0, none⟩)) (.slice al ml cm) (.bool true) (.pointer (some ⟨g0, 0, none⟩)) (.slice al ml cm) <| gz1 (.bool true) <| wn ?_
   simp only [pu]
   have CN := q_names HREP.out HQM.out.srt (by have := HLM.out; omega) HQM.out.nb
   obtain ⟨k1, hk1⟩ : ∃ j, (nmsA none m).length = j := ⟨_, rfl⟩
   have hk1b : k1 ≤ 200 := by rw [← hk1]; exact Nat.le_trans (nms_len none m) HLM.out
   go_upto_region 4 with fail
   refine wl <| gz4 (.bool true) (.bool false) (.bool false) (.pointer (some ⟨g0, 0, none⟩)) <| gze (fun v w' => ∃ a c, v = .slice a (List.length (nmsA none m)) c ∧ Cs w' a (strs (nmsA none m)) ∧ List.length (nmsA none m) ≤ c ∧ Below V1.heap.size V1 w') (CN.mono fun e w' z => z.cs) (fun vv X1 hq => ?_)
   obtain ⟨a1, c1, rfl, hc1, hl1, hbX1⟩ := hq
   rw [hk1] at hl1 ⊢
   have HRW0 := Lib.hid (HRW.out.below hbX1)
   have CRN := r_names (c := cm) HRW0.out (by have := HLM.out; omega)
   rw [HML.out] at CRN
   simp only [pu]
   refine gz1 (.slice al ml cm) <| gze (fun v w' => ∃ a c, v = .slice a (List.length (nmsA none m)) c ∧ Cs w' a (strs (nmsA none m)) ∧ List.length (nmsA none m) ≤ c ∧ Below X1.heap.size X1 w') (CRN.mono fun e w' z => z.cs) (fun vv X2 hq => ?_)
   obtain ⟨a2, c2, rfl, hc2, hl2, hbX2⟩ := hq
   rw [hk1] at hl2 ⊢
   have CST := same_texts (c := c1) (c2 := c2) (hc1.below hbX2) hc2 (by omega)
   rw [hk1] at CST
   simp only [pu]
   refine gzc (.bool true) (fun w' => Below X2.heap.size X2 w') (CST) (fun V3 hbZ => ?_)
   have hbb := (hbX1.trans (hbX2.mono hbX1.size)).trans (hbZ.mono (hbX1.trans (hbX2.mono hbX1.size)).size)
   have HREP1 := Lib.hid (HREP.out.below hbb)
   have HRW1 := Lib.hid (HRW.out.below hbb)
   have HBV := Lib.hid (HB2.out.trans (hbb.mono HB2.out.size))
   clear hbb hbX1 hbX2 hbZ hc1 hc2 hl1 hl2 HRW0 HRW HREP CRN CN CST HB2 hk1 hk1b
   simp only [pu]
   refine gz2 (.bool false) (.bool false) <| wn ?_
   simp only [pu]
   have CRN := r_names (c := cm) HRW1.out (by have := HLM.out; omega)
   rw [HML.out] at CRN
   go_upto_region 6 with fail
   refine wl <| gz1 (.slice al ml cm) <| gze (fun v w' => RowS w' V3.heap.size v (nmsA none m) ∧ Below V3.heap.size V3 w') (CRN.mono fun e w' z => z.own) (fun v9 X9 hq => ?_)
   obtain ⟨hr9, hb9⟩ := hq
   obtain ⟨Y9, hY9⟩ : ∃ W, X9.alloc (.cells (strs [s1, ⟨#[110, 111, 110, 101]⟩]).toArray 9) = W := ⟨_, rfl⟩
   have hbY : Below X9.heap.size X9 Y9 := by rw [← hY9]; exact (Below.refl _ X9).alloc (Nat.le_refl _) _
   have hcY : Cs Y9 (some ⟨X9.heap.size, 0, none⟩) (strs [s1, ⟨#[110, 111, 110, 101]⟩]) := Cs.block (cs := strs [s1, ⟨#[110, 111, 110, 101]⟩]) (by rw [← hY9]; exact heap_alloc_last X9 _)
   have hbd := two_str s1 ⟨#[110, 111, 110, 101]⟩ X9
   rw [hY9] at hbd
   have hnl : (nmsA none m).length ≤ 200 := Nat.le_trans (nms_len none m) HLM.out
   obtain ⟨v8, W8, hap, hr8, hb8, -, -⟩ := app_str (hr9.below hbY) (Nat.le_trans hb9.size hbY.size) (some ⟨X9.heap.size, 0, none⟩) 2 2 [s1, ⟨#[110, 111, 110, 101]⟩] hcY rfl (by omega) (by omega)
   obtain ⟨a8, c8, rfl, hc8, hl8⟩ := hr8.cs
   have hb18 : Below V3.heap.size V3 W8 := (hb9.trans (hbY.mono hb9.size)).trans (hb8.mono (Nat.le_refl _))
   have HK0 : Hid (KL w g0 S m al a8 (nmsA none m ++ [s1, ⟨#[110, 111, 110, 101]⟩]) W8) := Lib.hid ⟨HREP1.out.below hb18, HRW1.out.below hb18, hc8, HBV.out.trans (hb18.mono HBV.out.size)⟩
   have HNB : Hid (∀ x ∈ nmsA none m ++ [s1, ⟨#[110, 111, 110, 101]⟩], x.size ≤ 1000000) := Lib.hid fun x hx => by
    rcases List.mem_append.1 hx with h | h
    ·obtain ⟨y, hy, rfl⟩ := nms_mem h
     exact HQM.out.nb y hy
    ·simp only [List.mem_cons, List.not_mem_nil, or_false] at h
     rcases h with rfl | rfl
     ·exact HS1.out
     ·show 4 ≤ 1000000; omega
   have hn2 : (nmsA none m ++ [s1, ⟨#[110, 111, 110, 101]⟩]).length ≤ 300 := by rw [List.length_append]; show _ + 2 ≤ 300; omega
   obtain ⟨N2, hN2⟩ : ∃ N2, nmsA none m ++ [s1, ⟨#[110, 111, 110, 101]⟩] = N2 := ⟨_, rfl⟩
   rw [hN2] at HK0 HNB hn2 hap
   obtain ⟨n2, hnn⟩ : ∃ n2, N2.length = n2 := ⟨_, rfl⟩
   have HNN := Lib.hid hnn
   rw [hnn] at hap hn2
   have HN3 : Hid (n2 ≤ 300) := Lib.hid hn2
   clear hr9 hb9 hbY hcY hY9 hnl hr8 hb8 hc8 hl8 hb18 hN2 hnn hn2 CRN
   simp only [pu]
   refine gz1 (.string s1) ?_
   simp only [pu]
   refine gw_build (by kernel_rfl) (some 39) rfl 32 2 #[(0, .tmp 38), (1, .const (.string ⟨#[110, 111, 110, 101]⟩))] rfl #[(0, .string s1), (1, .string ⟨#[110, 111, 110, 101]⟩)] (by kernel_rfl) (.slice (some ⟨X9.heap.size, 0, none⟩) 2 2) _ hbd ?_
   simp only [pu]
   refine append_step rfl (some 40) rfl 32 rfl (.tmp 37) (.tmp 39) 32 rfl (v9) (.slice (some ⟨X9.heap.size, 0, none⟩) 2 2) (.slice a8 n2 c8) W8 (by kernel_rfl) (by kernel_rfl) hap ?_
   clear hap hbd
   simp only [pu]
   refine gz2 (.int .i64 n2) (.int .i64 0) <| wn ?_
   simp only [pu]
   go_wp2_with fail
   go_loopg [42] n2 (fun gg s9 wx => ∃ (i : Nat), s9 = .int .i64 i ∧ i ≤ n2 ∧ gg + i = n2 ∧ Hid (KL w g0 S m al a8 N2 wx))
   case atStart => exact ⟨0, rfl, by omega, by omega, HK0⟩
   case round =>
    obtain ⟨i, rfl, hin, hg, HK⟩ := hrel
    have HGK : Hid (gk + i = n2) := Lib.hid hg
    clear hg HK0
    by_cases hlt : i < n2
    ·skip
     obtain ⟨b, off, hbb, -, hcell⟩ := str_at HK.out.nm (k := i) (by rw [HNN.out]; exact hlt)
     obtain rfl := hbb
     have hmb := getD_mem (L := N2) (i := i) (by rw [HNN.out]; exact hlt)
     obtain ⟨nn, hnn⟩ : ∃ x, N2.getD i ⟨#[]⟩ = x := ⟨_, rfl⟩
     rw [hnn] at hcell hmb
     have HNS : Hid (nn.size ≤ 1000000) := Lib.hid (HNB.out nn hmb)
     clear hnn hmb
     go_upto_region 7 with fail
     refine wl <| gzb (lss_n rfl (i) (n2) dT) <| wn ?_
     simp only [pu]
     go_upto_region 8 with fail
     refine wl <| gzv (.pointer (some ⟨b, off + i, none⟩)) (idx_str b off n2 c8 i hlt _ _ _ rfl (by kernel_rfl) (by kernel_rfl)) <| gzl rfl ⟨b, off + i, none⟩ (.string nn) (load_cell hcell (by kernel_rfl)) <| gz1 (.string nn) <| wn ?_
     simp only [pu]
     clear hcell
     have CL := q_list HK.out.rep (by have := HLM.out; omega) nn
     obtain ⟨k1, hk1⟩ : ∃ j, (idsE (lstE m nn)).length = j := ⟨_, rfl⟩
     have hk1b : k1 ≤ 200 := by rw [← hk1]; unfold idsE; rw [List.length_map]; exact Nat.le_trans (lst_len m nn) HLM.out
     go_upto_region 9 with fail
     refine wl <| gz2 (.pointer (some ⟨g0, 0, none⟩)) (.string nn) <| gze (fun v w' => ∃ a c, v = .slice a (List.length (idsE (lstE m nn))) c ∧ Cs w' a (icells (idsE (lstE m nn))) ∧ List.length (idsE (lstE m nn)) ≤ c ∧ Below wr.heap.size wr w') (CL.mono fun e w' z => z.cs) (fun vv X1 hq => ?_)
     obtain ⟨a1, c1, rfl, hc1, hl1, hbX1⟩ := hq
     rw [hk1] at hl1 ⊢
     have CRL := r_list (c := cm) (HK.out.rw.below hbX1) (by have := HLM.out; omega) nn
     rw [HML.out] at CRL
     simp only [pu]
     refine gz2 (.slice al ml cm) (.string nn) <| gze (fun v w' => ∃ a c, v = .slice a (List.length (idsE (lstE m nn))) c ∧ Cs w' a (icells (idsE (lstE m nn))) ∧ List.length (idsE (lstE m nn)) ≤ c ∧ Below X1.heap.size X1 w') (CRL.mono fun e w' z => z.cs) (fun vv X2 hq => ?_)
     obtain ⟨a2, c2, rfl, hc2, hl2, hbX2⟩ := hq
     rw [hk1] at hl2 ⊢
     have CSI := same_ints (c := c1) (c2 := c2) (hc1.below hbX2) hc2 (by omega)
     rw [hk1] at CSI
     simp only [pu]
     refine gzc (.bool true) (fun w' => Below X2.heap.size X2 w') (CSI) (fun V5 hbZ => ?_)
     have hbb := (hbX1.trans (hbX2.mono hbX1.size)).trans (hbZ.mono (hbX1.trans (hbX2.mono hbX1.size)).size)
     have HK2 := Lib.hid (HK.out.below hbb)
     clear hbb hbX1 hbX2 hbZ hc1 hc2 hl1 hl2 CRL CL CSI HK hk1 hk1b
     simp only [pu]
     refine gz1 (.bool false) <| wn ?_
     simp only [pu]
     go_upto_region 11 with fail
     refine wl <| gzv (.int .i64 (i + 1 : Nat)) (add_one rfl i (by have := HN3.out; omega) (by kernel_rfl) _) <| gz1 (.int .i64 (i + 1 : Nat)) <| wn ?_
     simp only [pu]
     go_wp2_with fail
     go_roundg (n2 - (i + 1))
     case measure => have := HGK.out; omega
     case rel => exact ⟨i + 1, rfl, by omega, by omega, HK2⟩
    ·skip
     obtain rfl : i = n2 := by omega
     go_upto_region 7 with fail
     refine wl <| gzb (lss_n rfl (i) (i) dF) <| wn ?_
     simp only [pu]
     have HBK := Lib.hid HK.out.bel
     clear HK
     have CK := known_true wr
     go_upto_region 12 with fail
     refine wl <| gzc (.bool true) (fun w' => Below wr.heap.size wr w') (CK) (fun V8 hV8 => ?_)
     simp only [pu]
     refine gz1 (.bool true) <| wn ?_
     simp only [pu]
     have HE := HBK.out.trans (hV8.mono HBK.out.size)
     go_wp2_with fail
     go_ret
     exact ⟨rfl, HE⟩
end Go.Proofs.Ytjononjpoeobcaa
