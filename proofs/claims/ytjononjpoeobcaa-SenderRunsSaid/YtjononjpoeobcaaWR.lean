/-
 The walk of SenderRuns.
-/
import Derived.Test.YtjononjpoeobcaaWL
namespace Go.Proofs.Ytjononjpoeobcaa
attribute [local irreducible] wpList wpQuiet
open Go.RowKit
set_option maxRecDepth 100000
set_option linter.unusedSimpArgs false
set_option linter.unusedVariables false

def q8 (x : Int) : List Int := [x, 0, 1, 2, 3, 18446744073709551615, 18446744073709551614, 18446744073709551613]
def u64s (L : List Int) : List Value := L.map (Value.int .u64)
theorem u64s_at {S : List Int} {k : Nat} (h : k < S.length) : (u64s S)[k]? = some (.int .u64 (S.getD k 0)) := by
 unfold u64s
 rw [List.getElem?_map, List.getElem?_eq_getElem h, List.getD_eq_getElem?_getD, List.getElem?_eq_getElem h]
 rfl
theorem q8_w {x : Int} (hx : W64 x) : ∀ k, k < 8 → W64 ((q8 x).getD k 0) := by
 intro k hk
 rcases (show k = 0 ∨ k = 1 ∨ k = 2 ∨ k = 3 ∨ k = 4 ∨ k = 5 ∨ k = 6 ∨ k = 7 by omega) with rfl | rfl | rfl | rfl | rfl | rfl | rfl | rfl
 ·exact hx
 all_goals (simp only [q8, List.getD_cons_succ, List.getD_cons_zero]; exact ⟨by decide, by decide⟩)
theorem build_q8 (x : Int) (w : World) : (Instr.buildSlice 39 8 #[(0, .int .u64 x), (1, .int .u64 0), (2, .int .u64 1), (3, .int .u64 2), (4, .int .u64 3), (5, .int .u64 18446744073709551615), (6, .int .u64 18446744073709551614), (7, .int .u64 18446744073709551613)]).run Try.prog w = .ok (.slice (some ⟨w.heap.size, 0, none⟩) 8 8) (w.alloc (.cells (u64s (q8 x)).toArray 38)) := by
 obtain ⟨i0, hi, hz0, hz1, hz2⟩ := info_parts infoU
 refine run_buildSlice w 39 38 8 _ (u64s (q8 x)).toArray i0 _ Try.underlying39 hi hz0 (by rw [hz1]; omega) (by rw [hz1]; omega) ?_
 rw [hz1]
 kernel_rfl
/-- Two answers in rows of their own, at some times. -/
def HSI (V : World) (x : Value) (L : List Int) : Prop := ∃ a c, x = .slice a L.length c ∧ Cs V a (icells L) ∧ L.length ≤ c
theorem HSI.below {V V2 : World} {x : Value} {L : List Int} (h : HSI V x L) (hb : Below V.heap.size V V2) : HSI V2 x L := let ⟨a, c, h1, h2, h3⟩ := h; ⟨a, c, h1, h2.below hb, h3⟩
theorem IsO.hs {w : World} {L : List Int} {e : Ending} {w' : World} (h : IsO w L e w') : ∃ v, e = .returned v ∧ HSI w' v L ∧ Below w.heap.size w w' := by
 obtain ⟨v, rfl, a, c, h1, h2, h3, h4⟩ := h.cs
 exact ⟨v, rfl, ⟨a, c, h1, h2, h3⟩, h4⟩
structure K2R (b1 b3 b4 b5 : Bool) (x1 x3 : Value) (L1 L2 : List Int) (W V : World) : Prop where
 bel : Below W.heap.size W V
 c1 : b1 = true → HSI V x1 L1
 c3 : b3 = true → HSI V x3 L2
 o4 : b4 = true → b1 = true
 o5 : b5 = true → b3 = true
theorem K2R.below {b1 b3 b4 b5 : Bool} {x1 x3 : Value} {L1 L2 : List Int} {W V V2 : World} (h : K2R b1 b3 b4 b5 x1 x3 L1 L2 W V) (hb : Below V.heap.size V V2) : K2R b1 b3 b4 b5 x1 x3 L1 L2 W V2 := ⟨h.bel.trans (hb.mono h.bel.size), fun e => (h.c1 e).below hb, fun e => (h.c3 e).below hb, h.o4, h.o5⟩
/-- The first row of a name: its entries begin with it. -/
theorem lst_first {m : List Rw} (h : Srt m) {i : Nat} (hi : i < m.length) (hp : i = 0 ∨ (m.getD (i - 1) zrw).1 ≠ (m.getD i zrw).1) : ∃ r, lstE m (m.getD i zrw).1 = (m.getD i zrw).2 :: r := by
 have e : m = m.take i ++ m.getD i zrw :: m.drop (i + 1) := by
  rw [getD_lt m i zrw hi, ← List.drop_eq_getElem_cons hi, List.take_append_drop]
 have h0 : lstE (m.take i) (m.getD i zrw).1 = [] := by
  rw [List.eq_nil_iff_forall_not_mem]
  intro x hx
  obtain ⟨j, hj, hj2⟩ := List.mem_take_iff_getElem.1 (lst_mem.1 hx)
  have hji : j < i := by omega
  rcases hp with rfl | hp
  ·omega
  ·have hpi : i - 1 < m.length := by omega
   have h1 : (m.getD j zrw).1 = (m.getD i zrw).1 := by rw [getD_lt m j zrw (by omega), hj2]
   have h2 : kl (kx (m.getD (i - 1) zrw)) (kx (m.getD i zrw)) = true := by
    rw [getD_lt m (i - 1) zrw hpi, getD_lt m i zrw hi]
    exact List.pairwise_iff_getElem.1 h (i - 1) i hpi hi (by omega)
   have h3 : j = i - 1 ∨ kl (kx (m.getD j zrw)) (kx (m.getD (i - 1) zrw)) = true := by
    by_cases hq : j = i - 1
    ·exact .inl hq
    ·right
     rw [getD_lt m (i - 1) zrw hpi, getD_lt m j zrw (by omega)]
     exact List.pairwise_iff_getElem.1 h j (i - 1) (by omega) hpi (by omega)
   rcases h3 with rfl | h3
   ·exact hp h1
   ·have h4 : ltS (m.getD (i - 1) zrw).1 (m.getD i zrw).1 = true := (kl_iff.1 h2).resolve_right fun h5 => hp h5.1
    rcases kl_iff.1 h3 with h5 | h5
    ·have h6 := ltS_tr h5 h4
     rw [show ltS (kx (m.getD j zrw)).1 (m.getD i zrw).1 = ltS (m.getD j zrw).1 (m.getD i zrw).1 from rfl, h1, ltS_irr] at h6
     cases h6
    ·exact hp ((show (m.getD j zrw).1 = (m.getD (i - 1) zrw).1 from h5.1).symm.trans h1)
 refine ⟨lstE (m.drop (i + 1)) (m.getD i zrw).1, ?_⟩
 conv => lhs; arg 1; rw [e]
 rw [lst_app, h0, lst_cons, if_pos rfl, List.nil_append]
/-- A run from the least sequence is a beginning of the list. -/
theorem run_first {E r : List Eo} {x : Eo} (h : E = x :: r) (hs : SrtE E) : 1 ≤ (runX E x.1).length ∧ (runX E x.1).length ≤ (idsE E).length ∧ (idsE E).take (runX E x.1).length = runX E x.1 := by
 have h0 : cntE E x.1 = 0 := by
  subst h
  unfold cntE
  refine List.countP_eq_zero.2 fun y hy => ?_
  rcases List.mem_cons.1 hy with rfl | hy
  ·simp
  ·have := (List.pairwise_cons.1 hs).1 y hy
   simp; omega
 have h1 := runL_le E x.1
 have h2 : 1 ≤ runL E x.1 := by rw [h, runL, if_pos rfl]; omega
 have h3 : (runX E x.1).length = runL E x.1 := by
  unfold runX
  rw [h0, List.drop_zero, List.length_map, List.length_take, Nat.min_eq_left h1]
 refine ⟨by omega, by rw [h3]; unfold idsE; rw [List.length_map]; exact h1, ?_⟩
 rw [h3]
 unfold runX idsE
 rw [h0, List.drop_zero, List.map_take]
set_option maxRecDepth 100000 in
set_option maxHeartbeats 8000000 in
theorem runs_core (a : Option Addr) (c : Nat) (L : List Int) (q : Int) (hq : W64 q) (w : World) (hl : L.length ≤ 9223372036854775807) (hr : Cs w a (icells L)) : Calls Try.prog 5 #[.slice a L.length c, .int .u64 q] w fun e w' => e = .returned (.bool true) ∧ Below w.heap.size w w' := by
 have HR := Lib.hid hr
 have HQW : Hid (∀ k, k < 8 → W64 ((q8 q).getD k 0)) := Lib.hid (q8_w hq)
 clear hr hq
 go_enter Try.func5, Try.ntmps5
 go_upto_region 1 with fail
 have hbd := one_row a L.length c w
 have hXl : Bx (w.alloc (.cells #[.slice a L.length c] 22)) w.heap.size #[.slice a L.length c] 22 := heap_alloc_last w _
 have hbl : Below w.heap.size w (w.alloc (.cells #[.slice a L.length c] 22)) := (Below.refl _ w).alloc (Nat.le_refl _) _
 have CL := long_one w.heap.size a L.length c _ hXl hl
 generalize w.alloc (.cells #[.slice a L.length c] 22) = W1 at *
 have HB1 := Lib.hid hbl
 clear hXl hbl
 by_cases hlong : 160 < L.length
 ·skip
  rw [decide_eq_true (by omega)] at CL
  refine wl <| gz1 (.slice a L.length c) ?_
  simp only [pu]
  refine gw_build (by kernel_rfl) (some 17) rfl 48 1 #[(0, .tmp 16)] rfl #[(0, .slice a L.length c)] (by kernel_rfl) (.slice (some ⟨w.heap.size, 0, none⟩) 1 1) _ hbd ?_
  simp only [pu]
  refine gzc (.bool true) (fun w' => W1 = w') (CL) (fun V9 hV9 => ?_)
  subst hV9
  simp only [pu]
  apply wpList_nil
  clear CL hbd
  have CK := known_true W1
  go_upto_region 2 with fail
  refine wl <| gzc (.bool true) (fun w' => Below W1.heap.size W1 w') (CK) (fun V8 hV8 => ?_)
  simp only [pu]
  refine gz1 (.bool true) <| wn ?_
  simp only [pu]
  have HE := HB1.out.trans (hV8.mono HB1.out.size)
  go_wp2_with fail
  go_ret
  exact ⟨rfl, HE⟩
 ·skip
  rw [decide_eq_false (by omega)] at CL
  have hlong : L.length ≤ 160 := by omega
  refine wl <| gz1 (.slice a L.length c) ?_
  simp only [pu]
  refine gw_build (by kernel_rfl) (some 17) rfl 48 1 #[(0, .tmp 16)] rfl #[(0, .slice a L.length c)] (by kernel_rfl) (.slice (some ⟨w.heap.size, 0, none⟩) 1 1) _ hbd ?_
  simp only [pu]
  refine gzc (.bool false) (fun w' => W1 = w') (CL) (fun V9 hV9 => ?_)
  subst hV9
  simp only [pu]
  apply wpList_nil
  clear CL hbd
  have CP := play_ok (c := c) (HR.out.below HB1.out) hlong ⟨#[122]⟩ (by decide)
  go_upto_region 3 with fail
  refine wl <| gz1 (.slice a L.length c) <|
   gze (fun v w' => ∃ (g0 : Nat) (S : Nat → Prop) (m : List Rw) (al : Option Addr) (cm : Nat), v = .tuple #[.pointer (some ⟨g0, 0, none⟩), .slice al m.length cm, .bool true] ∧ RepI w' g0 S m ∧ (∀ k, S k → W1.heap.size ≤ k) ∧ Cs w' al (rwcs m) ∧ m.length ≤ cm ∧ (∀ k, rb al (rwcs m) k → ¬ S k) ∧ PlQ m 200 ∧ Below W1.heap.size W1 w') (CP.mono fun e w' z => by obtain ⟨g0, S, m, al, cm, z1, z2⟩ := z; exact ⟨_, z1, g0, S, m, al, cm, rfl, z2⟩) (fun vv V1 hq => ?_)
  obtain ⟨g0, S, m, al, cm, rfl, hrep, hso, hrw, hrl, hro, hqm, hbp⟩ := hq
  have HREP := Lib.hid hrep
  have HRW := Lib.hid hrw
  have HQM := Lib.hid hqm
  have HRO := Lib.hid hro
  have HRL := Lib.hid hrl
  have HB2 := Lib.hid (HB1.out.trans (hbp.mono HB1.out.size))
  have HSO : Hid (∀ k, S k → w.heap.size ≤ k) := Lib.hid fun k hk => Nat.le_trans HB1.out.size (hso k hk)
  have HLM : Hid (m.length ≤ 200) := Lib.hid hqm.ln
  obtain ⟨ml, hml⟩ : ∃ j, m.length = j := ⟨_, rfl⟩
  have HML := Lib.hid hml
  rw [hml]
  clear hrep hso hrw hrl hro hqm hbp CP hml HR HB1
  simp only [pu]
  refine gz6 (.tuple #[.pointer (some ⟨g0, 0, none⟩), .slice al ml cm, .bool true]) (.pointer (some ⟨g0, 0, none⟩)) (.slice al ml cm) (.bool true) (.pointer (some ⟨g0, 0, none⟩)) (.slice al ml cm) <| gz1 (.bool true) <| wn ?_
  simp only [pu]
  go_upto_region 4 with fail
  refine wl <| gz2 (.bool true) (.bool false) <| wn ?_
  simp only [pu]
  have HREP1 := HREP
  have HRW1 := HRW
  have HBV := HB2
  clear HREP HRW HB2
  have CRN := r_names (c := cm) HRW1.out (by have := HLM.out; omega)
  rw [HML.out] at CRN
  go_upto_region 6 with fail
  refine wl <| gz1 (.slice al ml cm) <| gze (fun v w' => RowS w' V1.heap.size v (nmsA none m) ∧ Below V1.heap.size V1 w') (CRN.mono fun e w' z => z.own) (fun v9 X9 hq => ?_)
  obtain ⟨hr9, hb9⟩ := hq
  obtain ⟨Y9, hY9⟩ : ∃ W, X9.alloc (.cells #[.string ⟨#[110, 111, 110, 101]⟩] 9) = W := ⟨_, rfl⟩
  have hbY : Below X9.heap.size X9 Y9 := by rw [← hY9]; exact (Below.refl _ X9).alloc (Nat.le_refl _) _
  have hcY : Cs Y9 (some ⟨X9.heap.size, 0, none⟩) (strs [⟨#[110, 111, 110, 101]⟩]) := Cs.block (cs := strs [⟨#[110, 111, 110, 101]⟩]) (by rw [← hY9]; exact heap_alloc_last X9 _)
  have hbd := one_str ⟨#[110, 111, 110, 101]⟩ X9
  rw [hY9] at hbd
  have hnl : (nmsA none m).length ≤ 200 := Nat.le_trans (nms_len none m) HLM.out
  obtain ⟨v8, W8, hap, hr8, hb8, -, -⟩ := app_str (hr9.below hbY) (Nat.le_trans hb9.size hbY.size) (some ⟨X9.heap.size, 0, none⟩) 1 1 [⟨#[110, 111, 110, 101]⟩] hcY rfl (by omega) (by omega)
  obtain ⟨a8, c8, rfl, hc8, hl8⟩ := hr8.cs
  have hb18 : Below V1.heap.size V1 W8 := (hb9.trans (hbY.mono hb9.size)).trans (hb8.mono (Nat.le_refl _))
  have HK0 : Hid (KL w g0 S m al a8 (nmsA none m ++ [⟨#[110, 111, 110, 101]⟩]) W8) := Lib.hid ⟨HREP1.out.below hb18, HRW1.out.below hb18, hc8, HBV.out.trans (hb18.mono HBV.out.size)⟩
  have HNB : Hid (∀ x ∈ nmsA none m ++ [⟨#[110, 111, 110, 101]⟩], x.size ≤ 1000000) := Lib.hid fun x hx => by
   rcases List.mem_append.1 hx with h | h
   ·obtain ⟨y, hy, rfl⟩ := nms_mem h
    exact HQM.out.nb y hy
   ·simp only [List.mem_cons, List.not_mem_nil, or_false] at h
    subst h
    show 4 ≤ 1000000; omega
  have hn2 : (nmsA none m ++ ([⟨#[110, 111, 110, 101]⟩] : List ByteArray)).length ≤ 300 := by rw [List.length_append]; show _ + 1 ≤ 300; omega
  obtain ⟨N2, hN2⟩ : ∃ N2, nmsA none m ++ [⟨#[110, 111, 110, 101]⟩] = N2 := ⟨_, rfl⟩
  rw [hN2] at HK0 HNB hn2 hap
  obtain ⟨n2, hnn⟩ : ∃ n2, N2.length = n2 := ⟨_, rfl⟩
  have HNN := Lib.hid hnn
  rw [hnn] at hap hn2
  have HN3 : Hid (n2 ≤ 300) := Lib.hid hn2
  clear hr9 hb9 hbY hcY hY9 hnl hr8 hb8 hc8 hl8 hb18 hN2 hnn hn2 CRN
  simp only [pu]
  refine gw_build (by kernel_rfl) (some 30) rfl 32 1 #[(0, .const (.string ⟨#[110, 111, 110, 101]⟩))] rfl #[(0, .string ⟨#[110, 111, 110, 101]⟩)] (by kernel_rfl) (.slice (some ⟨X9.heap.size, 0, none⟩) 1 1) _ hbd ?_
  simp only [pu]
  refine append_step rfl (some 31) rfl 32 rfl (.tmp 29) (.tmp 30) 32 rfl (v9) (.slice (some ⟨X9.heap.size, 0, none⟩) 1 1) (.slice a8 n2 c8) W8 (by kernel_rfl) (by kernel_rfl) hap ?_
  clear hap hbd
  simp only [pu]
  refine gz2 (.int .i64 n2) (.int .i64 0) <| wn ?_
  simp only [pu]
  go_wp2_with fail
  go_loopg [33] n2 (fun gg s9 wx => ∃ (i : Nat), s9 = .int .i64 i ∧ i ≤ n2 ∧ gg + i = n2 ∧ Hid (KL w g0 S m al a8 N2 wx))
  case atStart => exact ⟨0, rfl, by omega, by omega, HK0⟩
  case round =>
   obtain ⟨i, rfl, hin, hg, HK⟩ := hrel
   have HGK : Hid (gk + i = n2) := Lib.hid hg
   clear hg HK0
   by_cases hlt : i < n2
   ·skip
    obtain ⟨b, off, hbb, -, hcell⟩ := str_at HK.out.nm (k := i) (by rw [HNN.out]; exact hlt)
    obtain rfl := hbb
    have hmb := getD_mem (L := N2) (i := i) (by rw [HNN.out]; exact hlt)
    obtain ⟨nn, hnn⟩ : ∃ x, N2.getD i ⟨#[]⟩ = x := ⟨_, rfl⟩
    rw [hnn] at hcell hmb
    have HNS : Hid (nn.size ≤ 1000000) := Lib.hid (HNB.out nn hmb)
    clear hnn hmb
    go_upto_region 7 with fail
    refine wl <| gzb (lss_n rfl (i) (n2) dT) <| wn ?_
    simp only [pu]
    go_upto_region 8 with fail
    refine wl <| gzv (.pointer (some ⟨b, off + i, none⟩)) (idx_str b off n2 c8 i hlt _ _ _ rfl (by kernel_rfl) (by kernel_rfl)) <| gzl rfl ⟨b, off + i, none⟩ (.string nn) (load_cell hcell (by kernel_rfl)) <| gz1 (.string nn) <| wn ?_
    simp only [pu]
    clear hcell
    have hbq := build_q8 q wr
    have hbb : Below wr.heap.size wr (wr.alloc (.cells (u64s (q8 q)).toArray 38)) := (Below.refl _ wr).alloc (Nat.le_refl _) _
    have hcq : Cs (wr.alloc (.cells (u64s (q8 q)).toArray 38)) (some ⟨wr.heap.size, 0, none⟩) (u64s (q8 q)) := Cs.block (heap_alloc_last wr _)
    have HKQ0 : Hid (KL w g0 S m al (some ⟨b, off, none⟩) N2 (wr.alloc (.cells (u64s (q8 q)).toArray 38)) ∧ Cs (wr.alloc (.cells (u64s (q8 q)).toArray 38)) (some ⟨wr.heap.size, 0, none⟩) (u64s (q8 q))) := Lib.hid ⟨HK.out.below hbb, hcq⟩
    generalize wr.alloc (.cells (u64s (q8 q)).toArray 38) = W5 at *
    obtain ⟨gq, hgq⟩ : ∃ j, wr.heap.size = j := ⟨_, rfl⟩
    rw [hgq] at hbq HKQ0
    clear hbb hcq hgq HK
    go_upto_region 9 with fail
    refine wl <| gz1 (.int .u64 q) ?_
    simp only [pu]
    refine gw_build (by kernel_rfl) (some 38) rfl 39 8 #[(0, .tmp 37), (1, .const (.int .u64 0)), (2, .const (.int .u64 1)), (3, .const (.int .u64 2)), (4, .const (.int .u64 3)), (5, .const (.int .u64 18446744073709551615)), (6, .const (.int .u64 18446744073709551614)), (7, .const (.int .u64 18446744073709551613))] rfl #[(0, .int .u64 q), (1, .int .u64 0), (2, .int .u64 1), (3, .int .u64 2), (4, .int .u64 3), (5, .int .u64 18446744073709551615), (6, .int .u64 18446744073709551614), (7, .int .u64 18446744073709551613)] (by kernel_rfl) (.slice (some ⟨gq, 0, none⟩) 8 8) _ hbq ?_
    simp only [pu]
    refine gz2 (.int .i64 8) (.int .i64 0) <| wn ?_
    simp only [pu]
    clear hbq
    go_wp2_with fail
    go_loopg [40] 8 (fun gg s9 wx => ∃ (j : Nat), s9 = .int .i64 j ∧ j ≤ 8 ∧ gg + j = 8 ∧ Hid (KL w g0 S m al (some ⟨b, off, none⟩) N2 wx ∧ Cs wx (some ⟨gq, 0, none⟩) (u64s (q8 q))))
    case atStart => exact ⟨0, rfl, by omega, by omega, HKQ0⟩
    case round =>
     obtain ⟨j, rfl, hjn, hg, HKQ⟩ := hrel
     have HGJ : Hid (gk + j = 8) := Lib.hid hg
     clear hg HKQ0
     by_cases hlj : j < 8
     ·skip
      obtain ⟨bq, oq, hbq, -, hcq⟩ := HKQ.out.2 j _ (u64s_at (S := q8 q) (show j < 8 from hlj))
      cases hbq
      have HW := Lib.hid (HQW.out j hlj)
      obtain ⟨y, hy⟩ : ∃ y, (q8 q).getD j 0 = y := ⟨_, rfl⟩
      rw [hy] at hcq HW
      have CR := q_run HKQ.out.1.rep HQM.out.srt HQM.out.ww (by have := HLM.out; omega) nn HW.out
      obtain ⟨k1, hk1⟩ : ∃ t, (runX (lstE m nn) y).length = t := ⟨_, rfl⟩
      have hrf := runF_is (n := nn) HQM.out.srt HQM.out.ww HW.out
      have hk1b : k1 ≤ 200 := by
       rw [← hk1]
       unfold runX
       rw [List.length_map, List.length_take, List.length_drop]
       have := lst_len m nn
       have := HLM.out
       omega
      clear hy
      go_upto_region 10 with fail
      refine wl <| gzb (lss_n rfl (j) (8) dT) <| wn ?_
      simp only [pu]
      go_upto_region 11 with fail
      refine wl <| gzv (.pointer (some ⟨gq, 0 + j, none⟩)) (idx_u64 gq 0 8 8 j hlj _ _ _ rfl (by kernel_rfl) (by kernel_rfl)) <| gzl rfl ⟨gq, 0 + j, none⟩ (.int .u64 y) (load_cell hcq (by kernel_rfl)) <| gz1 (.int .u64 y) <| wn ?_
      simp only [pu]
      clear hcq
      go_upto_region 12 with fail
      refine wl <| gz3 (.pointer (some ⟨g0, 0, none⟩)) (.string nn) (.int .u64 y) <|
       gze (fun v w' => ∃ a c, v = .slice a (List.length (runX (lstE m nn) y)) c ∧ Cs w' a (icells (runX (lstE m nn) y)) ∧ List.length (runX (lstE m nn) y) ≤ c ∧ Below wr.heap.size wr w') (CR.mono fun e w' z => z.cs) (fun vv X1 hq => ?_)
      obtain ⟨a1, c1, rfl, hc1, hl1, hbX1⟩ := hq
      rw [hk1] at hl1 ⊢
      have CRL := r_run (c := cm) (HKQ.out.1.rw.below hbX1) (by have := HLM.out; omega) nn y
      rw [HML.out, hrf] at CRL
      simp only [pu]
      refine gz3 (.slice al ml cm) (.string nn) (.int .u64 y) <| gze (fun v w' => ∃ a c, v = .slice a (List.length (runX (lstE m nn) y)) c ∧ Cs w' a (icells (runX (lstE m nn) y)) ∧ List.length (runX (lstE m nn) y) ≤ c ∧ Below X1.heap.size X1 w') (CRL.mono fun e w' z => z.cs) (fun vv X2 hq => ?_)
      obtain ⟨a2, c2, rfl, hc2, hl2, hbX2⟩ := hq
      rw [hk1] at hl2 ⊢
      have CSI := same_ints (c := c1) (c2 := c2) (hc1.below hbX2) hc2 (by omega)
      rw [hk1] at CSI
      simp only [pu]
      refine gzc (.bool true) (fun w' => Below X2.heap.size X2 w') (CSI) (fun V5 hbZ => ?_)
      have hbb := (hbX1.trans (hbX2.mono hbX1.size)).trans (hbZ.mono (hbX1.trans (hbX2.mono hbX1.size)).size)
      have HKQ2 : Hid (KL w g0 S m al (some ⟨b, off, none⟩) N2 V5 ∧ Cs V5 (some ⟨gq, 0, none⟩) (u64s (q8 q))) := Lib.hid ⟨HKQ.out.1.below hbb, HKQ.out.2.below hbb⟩
      clear hbb hbX1 hbX2 hbZ hc1 hc2 hl1 hl2 CRL CR CSI HKQ hk1 hk1b hrf HW
      simp only [pu]
      refine gz1 (.bool false) <| wn ?_
      simp only [pu]
      go_upto_region 14 with fail
      refine wl <| gzv (.int .i64 (j + 1 : Nat)) (add_one rfl j (by omega) (by kernel_rfl) _) <| gz1 (.int .i64 (j + 1 : Nat)) <| wn ?_
      simp only [pu]
      go_wp2_with fail
      go_roundg (8 - (j + 1))
      case measure => have := HGJ.out; omega
      case rel => exact ⟨j + 1, rfl, by omega, by omega, HKQ2⟩
     ·skip
      obtain rfl : j = 8 := by omega
      have HK2 := Lib.hid HKQ.out.1
      clear HKQ
      go_upto_region 10 with fail
      refine wl <| gzb (lss_n rfl (8 : Nat) 8 dF) <| wn ?_
      simp only [pu]
      go_upto_region 15 with fail
      refine wl <| gzv (.int .i64 (i + 1 : Nat)) (add_one rfl i (by have := HN3.out; omega) (by kernel_rfl) _) <| gz1 (.int .i64 (i + 1 : Nat)) <| wn ?_
      simp only [pu]
      go_wp2_with fail
      go_roundg (n2 - (i + 1))
      case measure => have := HGK.out; omega
      case rel => exact ⟨i + 1, rfl, by omega, by omega, HK2⟩
   ·skip
    obtain rfl : i = n2 := by omega
    go_upto_region 7 with fail
    refine wl <| gzb (lss_n rfl (i) (i) dF) <| wn ?_
    simp only [pu]
    go_upto_region 16 with fail
    refine wl <| gz3 (.slice al ml cm) (.int .i64 ml) (.int .i64 0) <| wn ?_
    simp only [pu]
    have HKL0 := HK
    clear HK
    go_wp2_with fail
    go_loopg [58] ml (fun gg s9 wx => ∃ (j : Nat), s9 = .int .i64 j ∧ j ≤ ml ∧ gg + j = ml ∧ Hid (KL w g0 S m al a8 N2 wx))
    case atStart => exact ⟨0, rfl, by omega, by omega, HKL0⟩
    case round =>
     obtain ⟨j, rfl, hjn, hg, HK⟩ := hrel
     have HGJ : Hid (gk + j = ml) := Lib.hid hg
     clear hg HKL0
     by_cases hlj : j < ml
     ·skip
      have hi : j < m.length := by rw [HML.out]; exact hlj
      obtain ⟨b, off, hbb, -, hrg⟩ := rw_rg HK.out.rw hi
      obtain rfl := hbb
      have HFI : Hid (j = 0 ∨ (m.getD (j - 1) zrw).1 ≠ (m.getD j zrw).1 → ∃ r, lstE m (m.getD j zrw).1 = (m.getD j zrw).2 :: r) := Lib.hid fun h => lst_first HQM.out.srt hi h
      have HWX : Hid (W64 (m.getD j zrw).2.1) := Lib.hid (HQM.out.ww _ (by rw [getD_lt m j zrw hi]; exact List.getElem_mem hi))
      obtain ⟨x, hx⟩ : ∃ x, m.getD j zrw = x := ⟨_, rfl⟩
      rw [hx] at hrg HFI HWX
      obtain ⟨V2, hst2, hb2, hX2⟩ := new_bx (c := rwA zrw) (c' := rwA x) (ty := 43) wr rfl (rwA_one x) (by kernel_rfl)
      have HK2 := Lib.hid (HK.out.below hb2)
      clear hi hx HK
      go_upto_region 17 with fail
      refine wl <| gzb (lss_n rfl (j) (ml) dT) <| wn ?_
      simp only [pu]
      go_upto_region 18 with fail
      refine wl <| gz1 (.int .i64 j) <| gzv (.pointer (some ⟨b, off + j * 3, none⟩)) (idx_rw b off ml cm j hlj _ _ _ rfl (by kernel_rfl) (by kernel_rfl)) <| gzl rfl ⟨b, off + j * 3, none⟩ (.agg (rwA x)) (load_rw hrg) ?_
      simp only [pu]
      refine run_to rfl (some 13) rfl (.pointer (some ⟨wr.heap.size, 0, none⟩)) (wr.alloc (.cells (rwA zrw) 43)) (by kernel_rfl) ?_
      simp only [pu]
      refine gz1 (.int .i64 j) <| gzs rfl (hst2) <| wn ?_
      simp only [pu]
      obtain ⟨g5, hg5⟩ : ∃ g, wr.heap.size = g := ⟨_, rfl⟩
      rw [hg5] at hX2 ⊢
      clear hst2 hb2 hg5 hrg
      by_cases h0j : j = 0
      ·skip
       go_upto_region 19 with fail
       refine wp_region_class (C := fun U => Below V2.heap.size V2 U) (by kernel_rfl) (by kernel_rfl) ((Below.refl _ V2).drew) ?_
       refine gy (.int .i64 j) <| gyv (.bool false) (fun U hU => gtr_n rfl j 0 dF (by kernel_rfl) (by kernel_rfl) _) <| gy (.bool false) <| gyn <| gyn <| gyn <| gyn <| gyn <| gyn <| gyn <| gyn <| gyn <| gy (.bool false) ?_
       simp only [pu]
       apply wpQuiet_nil
       intro V3 hV3
       have hX3 := hX2.below hX2.lt hV3
       have HK3 := Lib.hid (HK2.out.below hV3)
       clear hV3 hX2 HK2
       have H0J := Lib.hid h0j
       clear h0j
       obtain ⟨r9, hr9⟩ := HFI.out (.inl H0J.out)
       have hrf := run_first hr9 (lst_srt HQM.out.srt x.1)
       obtain ⟨L1, hL1⟩ : ∃ t, runX (lstE m x.1) x.2.1 = t := ⟨_, rfl⟩
       obtain ⟨L2, hL2⟩ : ∃ t, idsE (lstE m x.1) = t := ⟨_, rfl⟩
       have hk2b : L2.length ≤ 200 := by rw [← hL2]; unfold idsE; rw [List.length_map]; exact Nat.le_trans (lst_len m x.1) HLM.out
       rw [hL1, hL2] at hrf
       have HRF := Lib.hid hrf
       have HK2B := Lib.hid hk2b
       have HC1 : Hid (∀ U, Below V3.heap.size V3 U → Calls Try.prog 17 #[.pointer (some ⟨g0, 0, none⟩), .string x.1, .int .u64 x.2.1] U (IsO U L1)) := Lib.hid fun U hU => by rw [← hL1]; exact q_run (HK3.out.rep.below hU) HQM.out.srt HQM.out.ww (by have := HLM.out; omega) x.1 HWX.out
       have HC2 : Hid (∀ U, Below V3.heap.size V3 U → Calls Try.prog 15 #[.pointer (some ⟨g0, 0, none⟩), .string x.1] U (IsO U L2)) := Lib.hid fun U hU => by rw [← hL2]; exact q_list (HK3.out.rep.below hU) (by have := HLM.out; omega) x.1
       have HX3 := Lib.hid hX3
       clear hr9 hrf hL1 hL2 hk2b hX3 HFI HWX
       have h0 : K2R false false false false u81 u85 L1 L2 V3 { V3 with drawn := V3.drawn + 1 } := ⟨(Below.refl _ V3).drew, (fun e => nomatch e), (fun e => nomatch e), (fun e => nomatch e), (fun e => nomatch e)⟩
       go_upto_region 20 with fail
       refine wp_region_inv (fun listed act9 V => ∃ b0 b1 b2 b3 b4 b5 b6 b7 b8 b9 b10 b11 : Bool, ∃ x81 x85 : Value, listed = #[b0, b1, b2, b3, b4, b5, b6, b7, b8, b9, b10, b11] ∧ act9 = { tmps := #[.slice a L.length c, .int .u64 q, undef, undef, u4, .pointer (some ⟨g0, 0, none⟩), .slice (some ⟨b, off, none⟩) ml cm, .bool true, undef, u9, undef, u11, .int .i64 j, .pointer (some ⟨g5, 0, none⟩), (cond b10 (x81) (u14)), (cond b11 (x85) (u15)), .slice a L.length c, .slice (some ⟨w.heap.size, 0, none⟩) 1 1, .bool false, undef, .tuple #[.pointer (some ⟨g0, 0, none⟩), .slice (some ⟨b, off, none⟩) ml cm, .bool true], .slice a L.length c, .tuple #[.pointer (some ⟨g0, 0, none⟩), .slice (some ⟨b, off, none⟩) ml cm, .bool true], .pointer (some ⟨g0, 0, none⟩), .slice (some ⟨b, off, none⟩) ml cm, .bool true, .bool true, .bool false, .slice (some ⟨b, off, none⟩) ml cm, v9, .slice (some ⟨X9.heap.size, 0, none⟩) 1 1, .slice a8 i c8, .int .i64 i, .int .i64 i, .bool false, u35, u36, u37, u38, u39, u40, u41, u42, u43, u44, u45, u46, u47, u48, u49, u50, u51, u52, u53, u54, u55, .slice (some ⟨b, off, none⟩) ml cm, .int .i64 ml, .int .i64 j, .bool true, .int .i64 j, .pointer (some ⟨b, off + j * 3, none⟩), .agg (rwA x), .int .i64 j, .bool false, .bool false, undef, undef, undef, undef, undef, undef, undef, undef, undef, .bool false, (cond b0 (.pointer (some ⟨g0, 0, none⟩)) (u76)), (cond b1 (.pointer (some ⟨g5, 0, none⟩)) (u77)), (cond b2 (.string x.1) (u78)), (cond b3 (.pointer (some ⟨g5, 1, none⟩)) (u79)), (cond b4 (.int .u64 x.2.1) (u80)), x81, (cond b6 (.pointer (some ⟨g0, 0, none⟩)) (u82)), (cond b7 (.pointer (some ⟨g5, 0, none⟩)) (u83)), (cond b8 (.string x.1) (u84)), x85, u86, u87, u88, u89, u90, u91, u92, u93, u94, u95, u96, u97, u98, u99, u100, u101, u102, u103, u104, u105, undef], defers := [] } ∧ K2R b5 b9 b10 b11 x81 x85 L1 L2 V3 V) (by kernel_rfl) (by kernel_rfl) ?_ ?_ ?_
       ·exact ⟨false, false, false, false, false, false, false, false, false, false, false, false, u81, u85, rfl, rfl, h0⟩
       ·intro i9 listed act9 V hi9 hr hJ
        obtain ⟨b0, b1, b2, b3, b4, b5, b6, b7, b8, b9, b10, b11, x81, x85, rfl, rfl, hF⟩ := hJ
        have hi2 : i9 < 12 := hi9
        have hi3 : i9 = 0 ∨ i9 = 1 ∨ i9 = 2 ∨ i9 = 3 ∨ i9 = 4 ∨ i9 = 5 ∨ i9 = 6 ∨ i9 = 7 ∨ i9 = 8 ∨ i9 = 9 ∨ i9 = 10 ∨ i9 = 11 := by omega
        rcases hi3 with rfl | rfl | rfl | rfl | rfl | rfl | rfl | rfl | rfl | rfl | rfl | rfl
        ·obtain rfl : b0 = false := ready_self hr
         refine st_val rfl (by kernel_rfl) (some 76) rfl (.pointer (some ⟨g0, 0, none⟩)) V (by kernel_rfl) ?_
         exact ⟨true, b1, b2, b3, b4, b5, b6, b7, b8, b9, b10, b11, x81, x85, rfl, rfl, hF⟩
        ·obtain rfl : b1 = false := ready_self hr
         refine st_val rfl (by kernel_rfl) (some 77) rfl (.pointer (some ⟨g5, 0, none⟩)) V (by kernel_rfl) ?_
         exact ⟨b0, true, b2, b3, b4, b5, b6, b7, b8, b9, b10, b11, x81, x85, rfl, rfl, hF⟩
        ·obtain rfl : b2 = false := ready_self hr
         obtain rfl : b1 = true := ready_dep hr 1 (by kernel_rfl)
         refine st_load rfl (by kernel_rfl) (some 78) rfl 9 (.tmp 77) rfl ⟨g5, 0, none⟩ (.string x.1) (by kernel_rfl) ((HX3.out.below HX3.out.lt hF.bel).load (i := 0) rfl (by kernel_rfl)) ?_
         exact ⟨b0, true, true, b3, b4, b5, b6, b7, b8, b9, b10, b11, _, _, rfl, rfl, hF⟩
        ·obtain rfl : b3 = false := ready_self hr
         refine st_val rfl (by kernel_rfl) (some 79) rfl (.pointer (some ⟨g5, 1, none⟩)) V (by kernel_rfl) ?_
         exact ⟨b0, b1, b2, true, b4, b5, b6, b7, b8, b9, b10, b11, x81, x85, rfl, rfl, hF⟩
        ·obtain rfl : b4 = false := ready_self hr
         obtain rfl : b3 = true := ready_dep hr 3 (by kernel_rfl)
         refine st_load rfl (by kernel_rfl) (some 80) rfl 38 (.tmp 79) rfl ⟨g5, 1, none⟩ (.int .u64 x.2.1) (by kernel_rfl) ((HX3.out.below HX3.out.lt hF.bel).load (i := 1) rfl (by kernel_rfl)) ?_
         exact ⟨b0, b1, b2, true, true, b5, b6, b7, b8, b9, b10, b11, _, _, rfl, rfl, hF⟩
        ·obtain rfl : b5 = false := ready_self hr
         obtain rfl : b0 = true := ready_dep hr 0 (by kernel_rfl)
         obtain rfl : b2 = true := ready_dep hr 2 (by kernel_rfl)
         obtain rfl : b4 = true := ready_dep hr 4 (by kernel_rfl)
         obtain rfl := ffw hF.o4 rfl
         refine st_call rfl (by kernel_rfl) (some 81) rfl 17 #[.pointer (some ⟨g0, 0, none⟩), .string x.1, .int .u64 x.2.1] (by kernel_rfl) ((HC1.out V hF.bel).mono ?_)
         intro e V9 hq9
         obtain ⟨v9, rfl, hs9, hb9⟩ := hq9.hs
         exact ⟨_, rfl, true, b1, true, b3, true, true, b6, b7, b8, b9, false, b11, _, _, rfl, rfl, ⟨(hF.below hb9).bel, fun _ => hs9, (hF.below hb9).c3, (fun e => nomatch e), hF.o5⟩⟩
        ·obtain rfl : b6 = false := ready_self hr
         refine st_val rfl (by kernel_rfl) (some 82) rfl (.pointer (some ⟨g0, 0, none⟩)) V (by kernel_rfl) ?_
         exact ⟨b0, b1, b2, b3, b4, b5, true, b7, b8, b9, b10, b11, x81, x85, rfl, rfl, hF⟩
        ·obtain rfl : b7 = false := ready_self hr
         refine st_val rfl (by kernel_rfl) (some 83) rfl (.pointer (some ⟨g5, 0, none⟩)) V (by kernel_rfl) ?_
         exact ⟨b0, b1, b2, b3, b4, b5, b6, true, b8, b9, b10, b11, x81, x85, rfl, rfl, hF⟩
        ·obtain rfl : b8 = false := ready_self hr
         obtain rfl : b7 = true := ready_dep hr 7 (by kernel_rfl)
         refine st_load rfl (by kernel_rfl) (some 84) rfl 9 (.tmp 83) rfl ⟨g5, 0, none⟩ (.string x.1) (by kernel_rfl) ((HX3.out.below HX3.out.lt hF.bel).load (i := 0) rfl (by kernel_rfl)) ?_
         exact ⟨b0, b1, b2, b3, b4, b5, b6, true, true, b9, b10, b11, _, _, rfl, rfl, hF⟩
        ·obtain rfl : b9 = false := ready_self hr
         obtain rfl : b6 = true := ready_dep hr 6 (by kernel_rfl)
         obtain rfl : b8 = true := ready_dep hr 8 (by kernel_rfl)
         obtain rfl := ffw hF.o5 rfl
         refine st_call rfl (by kernel_rfl) (some 85) rfl 15 #[.pointer (some ⟨g0, 0, none⟩), .string x.1] (by kernel_rfl) ((HC2.out V hF.bel).mono ?_)
         intro e V9 hq9
         obtain ⟨v9, rfl, hs9, hb9⟩ := hq9.hs
         exact ⟨_, rfl, b0, b1, b2, b3, b4, b5, true, b7, true, true, b10, false, _, _, rfl, rfl, ⟨(hF.below hb9).bel, (hF.below hb9).c1, fun _ => hs9, hF.o4, (fun e => nomatch e)⟩⟩
        ·obtain rfl : b10 = false := ready_self hr
         obtain rfl : b5 = true := ready_dep hr 5 (by kernel_rfl)
         refine st_val rfl (by kernel_rfl) (some 14) rfl x81 V (by kernel_rfl) ?_
         exact ⟨b0, b1, b2, b3, b4, true, b6, b7, b8, b9, true, b11, _, _, rfl, rfl, { hF with o4 := fun _ => rfl }⟩
        ·obtain rfl : b11 = false := ready_self hr
         obtain rfl : b9 = true := ready_dep hr 9 (by kernel_rfl)
         refine st_val rfl (by kernel_rfl) (some 15) rfl x85 V (by kernel_rfl) ?_
         exact ⟨b0, b1, b2, b3, b4, b5, b6, b7, b8, true, b10, true, _, _, rfl, rfl, { hF with o5 := fun _ => rfl }⟩
       ·intro act9 V hJ
        obtain ⟨b0, b1, b2, b3, b4, b5, b6, b7, b8, b9, b10, b11, x81, x85, he, rfl, hF⟩ := hJ
        have he : (#[true, true, true, true, true, true, true, true, true, true, true, true] : Array Bool) = #[b0, b1, b2, b3, b4, b5, b6, b7, b8, b9, b10, b11] := he
        simp only [Array.mk.injEq, List.cons.injEq, and_true] at he
        obtain ⟨rfl, rfl, rfl, rfl, rfl, rfl, rfl, rfl, rfl, rfl, rfl, rfl⟩ := he
        simp only [cond_true]
        obtain ⟨a8b, c8b, rfl, hc8, hl8⟩ := hF.c1 rfl
        obtain ⟨a9, c9, rfl, hc9, hl9⟩ := hF.c3 rfl
        have HK4 := Lib.hid (HK3.out.below hF.bel)
        obtain ⟨f1, f2, f3⟩ := HRF.out
        have hc9t := hc9.take (L1.length * 1)
        rw [icells_take, f3] at hc9t
        have CSI := same_ints (c := c8b) (c2 := c9) hc8 hc9t (by have := HK2B.out; omega)
        obtain ⟨k1, hk1⟩ : ∃ t, L1.length = t := ⟨_, rfl⟩
        obtain ⟨k2, hk2⟩ : ∃ t, L2.length = t := ⟨_, rfl⟩
        rw [hk1] at CSI f1 f2 ⊢
        rw [hk2] at f2 hl9 ⊢
        clear hF h0 hc8 hc9 hc9t f3 HC1 HC2 HX3 HRF HK3 HK2B hl8
        go_upto_region 21 with fail
        refine wl <| gz2 (.slice a8b k1 c8b) (.int .i64 k1) <| gzb (lss_n rfl k1 1 dF) <| gz5 (.bool false) (.slice a8b k1 c8b) (.int .i64 k1) (.slice a9 k2 c9) (.int .i64 k2) <|
         gzb (gtr_n rfl k1 k2 dF) <| gz6 (.bool false) (.bool false) (.slice a8b k1 c8b) (.slice a9 k2 c9) (.slice a8b k1 c8b) (.int .i64 k1) ?_
        simp only [pu]
        refine gw_slice_to (by kernel_rfl) (some 101) rfl 22 (.tmp 98) (.tmp 100) rfl (.slice a9 k2 c9) (.int .i64 k1) (.slice a9 k1 c9) (by kernel_rfl) (by kernel_rfl) (cut_int_to a9 k2 c9 k1 _ (by omega)) ?_
        simp only [pu]
        refine gzc (.bool true) (fun w' => Below V.heap.size V w') (CSI) (fun V6 hb6 => ?_)
        have HK5 := Lib.hid (HK4.out.below hb6)
        clear hb6 CSI HK4 f1 f2 hl9
        simp only [pu]
        refine gz2 (.bool false) (.bool false) <| wn ?_
        simp only [pu]
        go_upto_region 23 with fail
        refine wl <| gzv (.int .i64 (j + 1 : Nat)) (add_one rfl j (by have := HLM.out; have := HML.out; omega) (by kernel_rfl) _) <| gz1 (.int .i64 (j + 1 : Nat)) <| wn ?_
        simp only [pu]
        go_wp2_with fail
        go_roundg (ml - (j + 1))
        case measure => have := HGJ.out; omega
        case rel => exact ⟨j + 1, rfl, by omega, by omega, HK5⟩
      ·skip
       obtain ⟨b2, off2, hbb2, -, hrg2⟩ := rw_rg HK2.out.rw (i := j - 1) (by rw [HML.out]; omega)
       simp only [Option.some.injEq, Addr.mk.injEq, and_true] at hbb2
       obtain ⟨hq1, hq2⟩ := hbb2
       subst hq1
       subst hq2
       obtain ⟨y, hy⟩ : ∃ y, m.getD (j - 1) zrw = y := ⟨_, rfl⟩
       rw [hy] at hrg2 HFI
       clear hy
       by_cases he9 : y.1 = x.1
       ·skip
        go_upto_region 19 with fail
        refine wp_region_class (C := fun U => Below V2.heap.size V2 U) (by kernel_rfl) (by kernel_rfl) ((Below.refl _ V2).drew) ?_
        refine gy (.int .i64 j) <| gyv (.bool true) (fun U hU => gtr_n rfl j 0 dT (by kernel_rfl) (by kernel_rfl) _) <| gy (.bool true) <| gy (.slice (some ⟨b, off, none⟩) ml cm) <| gy (.int .i64 j) <|
          gyv (.int .i64 ((j - 1 : Nat) : Int)) (fun U hU => sub_nat rfl j (by omega) (by have := HLM.out; have := HML.out; omega) (by kernel_rfl) (by kernel_rfl) _) <|
          gyv (.pointer (some ⟨b, off + (j - 1) * 3, none⟩)) (fun U hU => idx_rw b off ml cm (j - 1) (by omega) _ _ _ rfl (by kernel_rfl) (by kernel_rfl)) <| gy (.pointer (some ⟨b, off + (j - 1) * 3, none⟩)) <|
          gyl rfl ⟨b, off + (j - 1) * 3, none⟩ (.string y.1) (fun U hU => rg_cell (rg_below hrg2 hU) (j := 0) rfl (by kernel_rfl)) <| gy (.pointer (some ⟨g5, 0, none⟩)) <| gyl rfl ⟨g5, 0, none⟩ (.string x.1) (fun U hU => (hX2.below hX2.lt hU).load (i := 0) rfl (by kernel_rfl)) <|
          gyv (.bool true) (fun U hU => eql_s rfl y.1 x.1 (by rw [beqB]; exact decide_eq_true he9) (by kernel_rfl) (by kernel_rfl) _) <| gy (.bool true) ?_
        simp only [pu]
        apply wpQuiet_nil
        intro V3 hV3
        have hX3 := hX2.below hX2.lt hV3
        have HK3 := Lib.hid (HK2.out.below hV3)
        clear hV3 hX2 HK2
        clear hX3 hrg2 HFI HWX
        go_upto_region 23 with fail
        refine wl <| gzv (.int .i64 (j + 1 : Nat)) (add_one rfl j (by have := HLM.out; have := HML.out; omega) (by kernel_rfl) _) <| gz1 (.int .i64 (j + 1 : Nat)) <| wn ?_
        simp only [pu]
        go_wp2_with fail
        go_roundg (ml - (j + 1))
        case measure => have := HGJ.out; omega
        case rel => exact ⟨j + 1, rfl, by omega, by omega, HK3⟩
       ·skip
        go_upto_region 19 with fail
        refine wp_region_class (C := fun U => Below V2.heap.size V2 U) (by kernel_rfl) (by kernel_rfl) ((Below.refl _ V2).drew) ?_
        refine gy (.int .i64 j) <| gyv (.bool true) (fun U hU => gtr_n rfl j 0 dT (by kernel_rfl) (by kernel_rfl) _) <| gy (.bool true) <| gy (.slice (some ⟨b, off, none⟩) ml cm) <| gy (.int .i64 j) <|
          gyv (.int .i64 ((j - 1 : Nat) : Int)) (fun U hU => sub_nat rfl j (by omega) (by have := HLM.out; have := HML.out; omega) (by kernel_rfl) (by kernel_rfl) _) <|
          gyv (.pointer (some ⟨b, off + (j - 1) * 3, none⟩)) (fun U hU => idx_rw b off ml cm (j - 1) (by omega) _ _ _ rfl (by kernel_rfl) (by kernel_rfl)) <| gy (.pointer (some ⟨b, off + (j - 1) * 3, none⟩)) <|
          gyl rfl ⟨b, off + (j - 1) * 3, none⟩ (.string y.1) (fun U hU => rg_cell (rg_below hrg2 hU) (j := 0) rfl (by kernel_rfl)) <| gy (.pointer (some ⟨g5, 0, none⟩)) <| gyl rfl ⟨g5, 0, none⟩ (.string x.1) (fun U hU => (hX2.below hX2.lt hU).load (i := 0) rfl (by kernel_rfl)) <|
          gyv (.bool false) (fun U hU => eql_s rfl y.1 x.1 (by rw [beqB]; exact decide_eq_false he9) (by kernel_rfl) (by kernel_rfl) _) <| gy (.bool false) ?_
        simp only [pu]
        apply wpQuiet_nil
        intro V3 hV3
        have hX3 := hX2.below hX2.lt hV3
        have HK3 := Lib.hid (HK2.out.below hV3)
        clear hV3 hX2 HK2
        clear hrg2
        obtain ⟨r9, hr9⟩ := HFI.out (.inr he9)
        have hrf := run_first hr9 (lst_srt HQM.out.srt x.1)
        obtain ⟨L1, hL1⟩ : ∃ t, runX (lstE m x.1) x.2.1 = t := ⟨_, rfl⟩
        obtain ⟨L2, hL2⟩ : ∃ t, idsE (lstE m x.1) = t := ⟨_, rfl⟩
        have hk2b : L2.length ≤ 200 := by rw [← hL2]; unfold idsE; rw [List.length_map]; exact Nat.le_trans (lst_len m x.1) HLM.out
        rw [hL1, hL2] at hrf
        have HRF := Lib.hid hrf
        have HK2B := Lib.hid hk2b
        have HC1 : Hid (∀ U, Below V3.heap.size V3 U → Calls Try.prog 17 #[.pointer (some ⟨g0, 0, none⟩), .string x.1, .int .u64 x.2.1] U (IsO U L1)) := Lib.hid fun U hU => by rw [← hL1]; exact q_run (HK3.out.rep.below hU) HQM.out.srt HQM.out.ww (by have := HLM.out; omega) x.1 HWX.out
        have HC2 : Hid (∀ U, Below V3.heap.size V3 U → Calls Try.prog 15 #[.pointer (some ⟨g0, 0, none⟩), .string x.1] U (IsO U L2)) := Lib.hid fun U hU => by rw [← hL2]; exact q_list (HK3.out.rep.below hU) (by have := HLM.out; omega) x.1
        have HX3 := Lib.hid hX3
        clear hr9 hrf hL1 hL2 hk2b hX3 HFI HWX
        have h0 : K2R false false false false u81 u85 L1 L2 V3 { V3 with drawn := V3.drawn + 1 } := ⟨(Below.refl _ V3).drew, (fun e => nomatch e), (fun e => nomatch e), (fun e => nomatch e), (fun e => nomatch e)⟩
        go_upto_region 20 with fail
        refine wp_region_inv (fun listed act9 V => ∃ b0 b1 b2 b3 b4 b5 b6 b7 b8 b9 b10 b11 : Bool, ∃ x81 x85 : Value, listed = #[b0, b1, b2, b3, b4, b5, b6, b7, b8, b9, b10, b11] ∧ act9 = { tmps := #[.slice a L.length c, .int .u64 q, undef, undef, u4, .pointer (some ⟨g0, 0, none⟩), .slice (some ⟨b, off, none⟩) ml cm, .bool true, undef, u9, undef, u11, .int .i64 j, .pointer (some ⟨g5, 0, none⟩), (cond b10 (x81) (u14)), (cond b11 (x85) (u15)), .slice a L.length c, .slice (some ⟨w.heap.size, 0, none⟩) 1 1, .bool false, undef, .tuple #[.pointer (some ⟨g0, 0, none⟩), .slice (some ⟨b, off, none⟩) ml cm, .bool true], .slice a L.length c, .tuple #[.pointer (some ⟨g0, 0, none⟩), .slice (some ⟨b, off, none⟩) ml cm, .bool true], .pointer (some ⟨g0, 0, none⟩), .slice (some ⟨b, off, none⟩) ml cm, .bool true, .bool true, .bool false, .slice (some ⟨b, off, none⟩) ml cm, v9, .slice (some ⟨X9.heap.size, 0, none⟩) 1 1, .slice a8 i c8, .int .i64 i, .int .i64 i, .bool false, u35, u36, u37, u38, u39, u40, u41, u42, u43, u44, u45, u46, u47, u48, u49, u50, u51, u52, u53, u54, u55, .slice (some ⟨b, off, none⟩) ml cm, .int .i64 ml, .int .i64 j, .bool true, .int .i64 j, .pointer (some ⟨b, off + j * 3, none⟩), .agg (rwA x), .int .i64 j, .bool true, .bool true, .slice (some ⟨b, off, none⟩) ml cm, .int .i64 j, .int .i64 ((j - 1 : Nat) : Int), .pointer (some ⟨b, off + (j - 1) * 3, none⟩), .pointer (some ⟨b, off + (j - 1) * 3, none⟩), .string y.1, .pointer (some ⟨g5, 0, none⟩), .string x.1, .bool false, .bool false, (cond b0 (.pointer (some ⟨g0, 0, none⟩)) (u76)), (cond b1 (.pointer (some ⟨g5, 0, none⟩)) (u77)), (cond b2 (.string x.1) (u78)), (cond b3 (.pointer (some ⟨g5, 1, none⟩)) (u79)), (cond b4 (.int .u64 x.2.1) (u80)), x81, (cond b6 (.pointer (some ⟨g0, 0, none⟩)) (u82)), (cond b7 (.pointer (some ⟨g5, 0, none⟩)) (u83)), (cond b8 (.string x.1) (u84)), x85, u86, u87, u88, u89, u90, u91, u92, u93, u94, u95, u96, u97, u98, u99, u100, u101, u102, u103, u104, u105, undef], defers := [] } ∧ K2R b5 b9 b10 b11 x81 x85 L1 L2 V3 V) (by kernel_rfl) (by kernel_rfl) ?_ ?_ ?_
        ·exact ⟨false, false, false, false, false, false, false, false, false, false, false, false, u81, u85, rfl, rfl, h0⟩
        ·intro i9 listed act9 V hi9 hr hJ
         obtain ⟨b0, b1, b2, b3, b4, b5, b6, b7, b8, b9, b10, b11, x81, x85, rfl, rfl, hF⟩ := hJ
         have hi2 : i9 < 12 := hi9
         have hi3 : i9 = 0 ∨ i9 = 1 ∨ i9 = 2 ∨ i9 = 3 ∨ i9 = 4 ∨ i9 = 5 ∨ i9 = 6 ∨ i9 = 7 ∨ i9 = 8 ∨ i9 = 9 ∨ i9 = 10 ∨ i9 = 11 := by omega
         rcases hi3 with rfl | rfl | rfl | rfl | rfl | rfl | rfl | rfl | rfl | rfl | rfl | rfl
         ·obtain rfl : b0 = false := ready_self hr
          refine st_val rfl (by kernel_rfl) (some 76) rfl (.pointer (some ⟨g0, 0, none⟩)) V (by kernel_rfl) ?_
          exact ⟨true, b1, b2, b3, b4, b5, b6, b7, b8, b9, b10, b11, x81, x85, rfl, rfl, hF⟩
         ·obtain rfl : b1 = false := ready_self hr
          refine st_val rfl (by kernel_rfl) (some 77) rfl (.pointer (some ⟨g5, 0, none⟩)) V (by kernel_rfl) ?_
          exact ⟨b0, true, b2, b3, b4, b5, b6, b7, b8, b9, b10, b11, x81, x85, rfl, rfl, hF⟩
         ·obtain rfl : b2 = false := ready_self hr
          obtain rfl : b1 = true := ready_dep hr 1 (by kernel_rfl)
          refine st_load rfl (by kernel_rfl) (some 78) rfl 9 (.tmp 77) rfl ⟨g5, 0, none⟩ (.string x.1) (by kernel_rfl) ((HX3.out.below HX3.out.lt hF.bel).load (i := 0) rfl (by kernel_rfl)) ?_
          exact ⟨b0, true, true, b3, b4, b5, b6, b7, b8, b9, b10, b11, _, _, rfl, rfl, hF⟩
         ·obtain rfl : b3 = false := ready_self hr
          refine st_val rfl (by kernel_rfl) (some 79) rfl (.pointer (some ⟨g5, 1, none⟩)) V (by kernel_rfl) ?_
          exact ⟨b0, b1, b2, true, b4, b5, b6, b7, b8, b9, b10, b11, x81, x85, rfl, rfl, hF⟩
         ·obtain rfl : b4 = false := ready_self hr
          obtain rfl : b3 = true := ready_dep hr 3 (by kernel_rfl)
          refine st_load rfl (by kernel_rfl) (some 80) rfl 38 (.tmp 79) rfl ⟨g5, 1, none⟩ (.int .u64 x.2.1) (by kernel_rfl) ((HX3.out.below HX3.out.lt hF.bel).load (i := 1) rfl (by kernel_rfl)) ?_
          exact ⟨b0, b1, b2, true, true, b5, b6, b7, b8, b9, b10, b11, _, _, rfl, rfl, hF⟩
         ·obtain rfl : b5 = false := ready_self hr
          obtain rfl : b0 = true := ready_dep hr 0 (by kernel_rfl)
          obtain rfl : b2 = true := ready_dep hr 2 (by kernel_rfl)
          obtain rfl : b4 = true := ready_dep hr 4 (by kernel_rfl)
          obtain rfl := ffw hF.o4 rfl
          refine st_call rfl (by kernel_rfl) (some 81) rfl 17 #[.pointer (some ⟨g0, 0, none⟩), .string x.1, .int .u64 x.2.1] (by kernel_rfl) ((HC1.out V hF.bel).mono ?_)
          intro e V9 hq9
          obtain ⟨v9, rfl, hs9, hb9⟩ := hq9.hs
          exact ⟨_, rfl, true, b1, true, b3, true, true, b6, b7, b8, b9, false, b11, _, _, rfl, rfl, ⟨(hF.below hb9).bel, fun _ => hs9, (hF.below hb9).c3, (fun e => nomatch e), hF.o5⟩⟩
         ·obtain rfl : b6 = false := ready_self hr
          refine st_val rfl (by kernel_rfl) (some 82) rfl (.pointer (some ⟨g0, 0, none⟩)) V (by kernel_rfl) ?_
          exact ⟨b0, b1, b2, b3, b4, b5, true, b7, b8, b9, b10, b11, x81, x85, rfl, rfl, hF⟩
         ·obtain rfl : b7 = false := ready_self hr
          refine st_val rfl (by kernel_rfl) (some 83) rfl (.pointer (some ⟨g5, 0, none⟩)) V (by kernel_rfl) ?_
          exact ⟨b0, b1, b2, b3, b4, b5, b6, true, b8, b9, b10, b11, x81, x85, rfl, rfl, hF⟩
         ·obtain rfl : b8 = false := ready_self hr
          obtain rfl : b7 = true := ready_dep hr 7 (by kernel_rfl)
          refine st_load rfl (by kernel_rfl) (some 84) rfl 9 (.tmp 83) rfl ⟨g5, 0, none⟩ (.string x.1) (by kernel_rfl) ((HX3.out.below HX3.out.lt hF.bel).load (i := 0) rfl (by kernel_rfl)) ?_
          exact ⟨b0, b1, b2, b3, b4, b5, b6, true, true, b9, b10, b11, _, _, rfl, rfl, hF⟩
         ·obtain rfl : b9 = false := ready_self hr
          obtain rfl : b6 = true := ready_dep hr 6 (by kernel_rfl)
          obtain rfl : b8 = true := ready_dep hr 8 (by kernel_rfl)
          obtain rfl := ffw hF.o5 rfl
          refine st_call rfl (by kernel_rfl) (some 85) rfl 15 #[.pointer (some ⟨g0, 0, none⟩), .string x.1] (by kernel_rfl) ((HC2.out V hF.bel).mono ?_)
          intro e V9 hq9
          obtain ⟨v9, rfl, hs9, hb9⟩ := hq9.hs
          exact ⟨_, rfl, b0, b1, b2, b3, b4, b5, true, b7, true, true, b10, false, _, _, rfl, rfl, ⟨(hF.below hb9).bel, (hF.below hb9).c1, fun _ => hs9, hF.o4, (fun e => nomatch e)⟩⟩
         ·obtain rfl : b10 = false := ready_self hr
          obtain rfl : b5 = true := ready_dep hr 5 (by kernel_rfl)
          refine st_val rfl (by kernel_rfl) (some 14) rfl x81 V (by kernel_rfl) ?_
          exact ⟨b0, b1, b2, b3, b4, true, b6, b7, b8, b9, true, b11, _, _, rfl, rfl, { hF with o4 := fun _ => rfl }⟩
         ·obtain rfl : b11 = false := ready_self hr
          obtain rfl : b9 = true := ready_dep hr 9 (by kernel_rfl)
          refine st_val rfl (by kernel_rfl) (some 15) rfl x85 V (by kernel_rfl) ?_
          exact ⟨b0, b1, b2, b3, b4, b5, b6, b7, b8, true, b10, true, _, _, rfl, rfl, { hF with o5 := fun _ => rfl }⟩
        ·intro act9 V hJ
         obtain ⟨b0, b1, b2, b3, b4, b5, b6, b7, b8, b9, b10, b11, x81, x85, he, rfl, hF⟩ := hJ
         have he : (#[true, true, true, true, true, true, true, true, true, true, true, true] : Array Bool) = #[b0, b1, b2, b3, b4, b5, b6, b7, b8, b9, b10, b11] := he
         simp only [Array.mk.injEq, List.cons.injEq, and_true] at he
         obtain ⟨rfl, rfl, rfl, rfl, rfl, rfl, rfl, rfl, rfl, rfl, rfl, rfl⟩ := he
         simp only [cond_true]
         obtain ⟨a8b, c8b, rfl, hc8, hl8⟩ := hF.c1 rfl
         obtain ⟨a9, c9, rfl, hc9, hl9⟩ := hF.c3 rfl
         have HK4 := Lib.hid (HK3.out.below hF.bel)
         obtain ⟨f1, f2, f3⟩ := HRF.out
         have hc9t := hc9.take (L1.length * 1)
         rw [icells_take, f3] at hc9t
         have CSI := same_ints (c := c8b) (c2 := c9) hc8 hc9t (by have := HK2B.out; omega)
         obtain ⟨k1, hk1⟩ : ∃ t, L1.length = t := ⟨_, rfl⟩
         obtain ⟨k2, hk2⟩ : ∃ t, L2.length = t := ⟨_, rfl⟩
         rw [hk1] at CSI f1 f2 ⊢
         rw [hk2] at f2 hl9 ⊢
         clear hF h0 hc8 hc9 hc9t f3 HC1 HC2 HX3 HRF HK3 HK2B hl8
         go_upto_region 21 with fail
         refine wl <| gz2 (.slice a8b k1 c8b) (.int .i64 k1) <| gzb (lss_n rfl k1 1 dF) <| gz5 (.bool false) (.slice a8b k1 c8b) (.int .i64 k1) (.slice a9 k2 c9) (.int .i64 k2) <|
          gzb (gtr_n rfl k1 k2 dF) <| gz6 (.bool false) (.bool false) (.slice a8b k1 c8b) (.slice a9 k2 c9) (.slice a8b k1 c8b) (.int .i64 k1) ?_
         simp only [pu]
         refine gw_slice_to (by kernel_rfl) (some 101) rfl 22 (.tmp 98) (.tmp 100) rfl (.slice a9 k2 c9) (.int .i64 k1) (.slice a9 k1 c9) (by kernel_rfl) (by kernel_rfl) (cut_int_to a9 k2 c9 k1 _ (by omega)) ?_
         simp only [pu]
         refine gzc (.bool true) (fun w' => Below V.heap.size V w') (CSI) (fun V6 hb6 => ?_)
         have HK5 := Lib.hid (HK4.out.below hb6)
         clear hb6 CSI HK4 f1 f2 hl9
         simp only [pu]
         refine gz2 (.bool false) (.bool false) <| wn ?_
         simp only [pu]
         go_upto_region 23 with fail
         refine wl <| gzv (.int .i64 (j + 1 : Nat)) (add_one rfl j (by have := HLM.out; have := HML.out; omega) (by kernel_rfl) _) <| gz1 (.int .i64 (j + 1 : Nat)) <| wn ?_
         simp only [pu]
         go_wp2_with fail
         go_roundg (ml - (j + 1))
         case measure => have := HGJ.out; omega
         case rel => exact ⟨j + 1, rfl, by omega, by omega, HK5⟩
     ·skip
      obtain rfl : j = ml := by omega
      go_upto_region 17 with fail
      refine wl <| gzb (lss_n rfl (j) (j) dF) <| wn ?_
      simp only [pu]
      have HBK := Lib.hid HK.out.bel
      clear HK
      have CK := known_true wr
      go_upto_region 24 with fail
      refine wl <| gzc (.bool true) (fun w' => Below wr.heap.size wr w') (CK) (fun V8 hV8 => ?_)
      simp only [pu]
      refine gz1 (.bool true) <| wn ?_
      simp only [pu]
      have HE := HBK.out.trans (hV8.mono HBK.out.size)
      go_wp2_with fail
      go_ret
      exact ⟨rfl, HE⟩
end Go.Proofs.Ytjononjpoeobcaa
