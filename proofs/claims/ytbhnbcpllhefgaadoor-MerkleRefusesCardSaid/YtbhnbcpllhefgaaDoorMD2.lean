/-
  The walk of the statement on paths, over what the program's functions are held to.
-/
import Derived.Test.YtbhnbcpllhefgaaDoorMD1
namespace Go.Proofs.YtbhnbcpllhefgaaDoor
open Go.RowKit
set_option linter.unusedSimpArgs false

theorem refproof_pro (ls : List (List Int)) (al : Option Addr) (c : Nat) (i : Int) (w : World) (hn : ls.length ≤ 1000) (hc : ls.length ≤ c) (hR : RB w al ls) : Calls Tryd.prog 17 #[.slice al ls.length c, .int .i64 i] w (PrO w (prL ls i)) := by
  by_cases h : 0 ≤ i ∧ i < (ls.length : Int)
  · obtain ⟨k, rfl⟩ := Int.eq_ofNat_of_zero_le h.1
    rw [prL_in ls k (by omega)]
    refine (refproof_any ls al c k w hn hc hR (by omega)).mono ?_
    rintro e w' ⟨v, rfl, ⟨s, rfl, hO⟩, hb⟩
    obtain ⟨a, c, rfl, hK, hl⟩ := hO.rk
    exact ⟨a, c, rfl, hK, hl, hb⟩
  · rw [prL_out ls i (by omega)]
    refine (refproof_none ls.length c al i w (by omega)).mono ?_
    rintro e w' ⟨rfl, rfl⟩
    exact ⟨none, 0, rfl, (fun i hi => by simp at hi), Nat.le_refl _, Below.refl _ _⟩
theorem prL_len (ls : List (List Int)) (i : Int) (h : ls.length ≤ 1000) : (prL ls i).1.length ≤ 1000 := by
  unfold prL
  split
  · exact path_len 1000 ls _ h
  · simp
/-- What the statement knows of its world: two rows of leaves in a row. -/
def D2C (w : World) (g : Nat) (V : World) : Prop :=
  Glob V ∧ g < V.heap.size ∧ (∀ j, j < 2 → ∃ ax cx xs, V.cell? ⟨g, j, none⟩ = some (.slice ax (List.length xs) cx) ∧ xs.length ≤ 40 ∧ xs.length ≤ cx ∧ RB V ax xs) ∧ Below w.heap.size w V
theorem D2C.below {w V V' : World} {g : Nat} (h : D2C w g V) (hb : Below V.heap.size V V') : D2C w g V' := by
  obtain ⟨h1, h2, h3, h4⟩ := h
  refine ⟨h1.below h1.size hb, Nat.lt_of_lt_of_le h2 hb.size, fun j hj => ?_, h4.trans (hb.mono h4.size)⟩
  obtain ⟨ax, cx, xs, hc, k1, k2, k3⟩ := h3 j hj
  exact ⟨ax, cx, xs, (hb.cell (p := ⟨g, j, none⟩) h2).trans hc, k1, k2, k3.below hb⟩
/-- And within: the row that is looked at, and the numbers that are asked for. -/
def D2I (w : World) (g gi : Nat) (ax : Option Addr) (xs : List (List Int)) (V : World) : Prop :=
  D2C w g V ∧ RB V ax xs ∧ gi < V.heap.size ∧ ∀ j, j < 5 → ∃ q : Int, V.cell? ⟨gi, j, none⟩ = some (.int .i64 q) ∧ -9223372036854775808 ≤ q ∧ q ≤ 9223372036854775807
theorem D2I.below {w V V' : World} {g gi : Nat} {ax : Option Addr} {xs : List (List Int)} (h : D2I w g gi ax xs V) (hb : Below V.heap.size V V') : D2I w g gi ax xs V' := by
  obtain ⟨h1, h2, h3, h4⟩ := h
  refine ⟨h1.below hb, h2.below hb, Nat.lt_of_lt_of_le h3 hb.size, fun j hj => ?_⟩
  obtain ⟨q, hc, k⟩ := h4 j hj
  exact ⟨q, (hb.cell (p := ⟨gi, j, none⟩) h3).trans hc, k⟩

theorem infoR : (Tryd.prog.info? 22).map (fun i => (i.zero, i.size, i.bytes)) = some (some (.slice none 0 0), 1, 24) := by kernel_rfl
theorem infoI : (Tryd.prog.info? 3).map (fun i => (i.zero, i.size, i.bytes)) = some (some (.int .i64 0), 1, 8) := by kernel_rfl
theorem build_two_rows (a b : Option Addr) (n m c d : Nat) (w : World) : (Instr.buildSlice 33 2 #[(0, .slice a n c), (1, .slice b m d)]).run Tryd.prog w = .ok (.slice (some ⟨w.heap.size, 0, none⟩) 2 2) (w.alloc (.cells #[.slice a n c, .slice b m d] 22)) := by
  obtain ⟨i0, hi, hz0, hz1, hz2⟩ := info_parts infoR
  refine run_buildSlice w 33 22 2 _ #[.slice a n c, .slice b m d] i0 _ (by kernel_rfl) hi hz0 (by rw [hz1]; omega) (by rw [hz1]; omega) ?_
  rw [hz1]
  kernel_rfl
theorem build_five (a b c d e : Int) (w : World) : (Instr.buildSlice 34 5 #[(0, .int .i64 a), (1, .int .i64 b), (2, .int .i64 c), (3, .int .i64 d), (4, .int .i64 e)]).run Tryd.prog w = .ok (.slice (some ⟨w.heap.size, 0, none⟩) 5 5) (w.alloc (.cells #[.int .i64 a, .int .i64 b, .int .i64 c, .int .i64 d, .int .i64 e] 3)) := by
  obtain ⟨i0, hi, hz0, hz1, hz2⟩ := info_parts infoI
  refine run_buildSlice w 34 3 5 _ #[.int .i64 a, .int .i64 b, .int .i64 c, .int .i64 d, .int .i64 e] i0 _ (by kernel_rfl) hi hz0 (by rw [hz1]; omega) (by rw [hz1]; omega) ?_
  rw [hz1]
  kernel_rfl

set_option maxRecDepth 100000 in
set_option maxHeartbeats 4000000 in
theorem proofs_core (hk : Kept) (a0 : Option Addr) (c0 : Nat) (ls : List (List Int)) (i1 : Int) (a2 : Option Addr) (c2 : Nat) (L : List Int) (n at4 : Int) (w : World)
    (hc0 : ls.length ≤ c0) (hr0 : RA w a0 ls) (hn0 : ls.length ≤ 140737488351232) (hi1 : -9223372036854775808 ≤ i1 ∧ i1 ≤ 9223372036854775807) (hc3 : L.length ≤ c2) (hs3 : Sl w a2 c2 L) (hb3 : ∀ x, x ∈ L → W8 x) (hn : W8 n) (h4 : W8 at4) (hG : Glob w) :
    Calls Tryd.prog 4 #[.slice a0 ls.length c0, .int .i64 i1, .slice a2 L.length c2, .int .u8 n, .int .u8 at4] w fun e w' => e = .returned (.bool true) ∧ Below w.heap.size w w' := by
  have hKN := hk.known
  obtain ⟨-, -, -, cP, -⟩ := hk
  have CM1 := many_any ls a0 c0 w hr0 hn0
  obtain ⟨k, hk1, hk2⟩ := mod20 n hn
  have KN := hKN w hG
  generalize hLs : ls.length = ln at *
  generalize hLL : L.length = m at *
  have HLS := Lib.hid hLs
  have HLL := Lib.hid hLL
  have HRA := Lib.hid hr0
  have HS := Lib.hid hs3
  have HGW := Lib.hid hG
  clear hLs hLL hr0 hs3 hG
  go_enter Tryd.func4, Tryd.ntmps4
  go_upto_region 1 with fail
  apply wp_region_lit
  refine gw_val (by kernel_rfl) (some 20) rfl (.slice a0 ln c0) (by kernel_rfl) ?_
  simp only [Act.put, List.setIfInBounds_toArray, List.set_cons_succ, List.set_cons_zero]
  refine gw_callE (by kernel_rfl) (some 21) rfl 7 #[.slice a0 ln c0] (fun v w' => ∃ b : Bool, v = .bool b ∧ (b = false → ls.length ≤ 40 ∧ ∀ i, i < ls.length → (ls.getD i []).length ≤ 300) ∧ w = w') (by kernel_rfl) (CM1.mono fun e w' h => by obtain ⟨b, he, h⟩ := h; exact ⟨_, he, b, rfl, h⟩) (fun v V1 hq => ?_)
  obtain ⟨b, rfl, hbn, rfl⟩ := hq
  clear CM1
  simp only [Act.put, List.setIfInBounds_toArray, List.set_cons_succ, List.set_cons_zero]
  cases b
  · obtain ⟨h40, h300⟩ := hbn rfl
    have HRB := Lib.hid (HRA.out.rb h300)
    rw [HLS.out] at h40
    by_cases hm : 100 < m
    · have hd : decide (100 < (m : Int)) = true := decide_eq_true (by omega)
      refine gw_val (by kernel_rfl) (some 22) rfl (.bool false) (by kernel_rfl) ?_
      simp only [Act.put, List.setIfInBounds_toArray, List.set_cons_succ, List.set_cons_zero]
      refine gw_val (by kernel_rfl) (some 23) rfl (.slice a2 m c2) (by kernel_rfl) ?_
      simp only [Act.put, List.setIfInBounds_toArray, List.set_cons_succ, List.set_cons_zero]
      refine gw_val (by kernel_rfl) (some 24) rfl (.int .i64 m) (by kernel_rfl) ?_
      simp only [Act.put, List.setIfInBounds_toArray, List.set_cons_succ, List.set_cons_zero]
      refine gw_val (by kernel_rfl) (some 25) rfl (.bool (decide (100 < (m : Int)))) (by kernel_rfl) ?_
      simp only [Act.put, List.setIfInBounds_toArray, List.set_cons_succ, List.set_cons_zero]
      rw [hd]
      refine gw_val (by kernel_rfl) (some 26) rfl (.bool true) (by kernel_rfl) ?_
      simp only [Act.put, List.setIfInBounds_toArray, List.set_cons_succ, List.set_cons_zero]
      apply wpList_nil
      clear hbn h40 h300
      go_wp2_with (go_at_call 8; refine KN.mono ?_; rintro e w9 ⟨rfl, hb9⟩)
      have HB := Lib.hid hb9
      clear hb9
      go_ret
      exact ⟨rfl, HB.out⟩
    · have hd : decide (100 < (m : Int)) = false := decide_eq_false (by omega)
      refine gw_val (by kernel_rfl) (some 22) rfl (.bool false) (by kernel_rfl) ?_
      simp only [Act.put, List.setIfInBounds_toArray, List.set_cons_succ, List.set_cons_zero]
      refine gw_val (by kernel_rfl) (some 23) rfl (.slice a2 m c2) (by kernel_rfl) ?_
      simp only [Act.put, List.setIfInBounds_toArray, List.set_cons_succ, List.set_cons_zero]
      refine gw_val (by kernel_rfl) (some 24) rfl (.int .i64 m) (by kernel_rfl) ?_
      simp only [Act.put, List.setIfInBounds_toArray, List.set_cons_succ, List.set_cons_zero]
      refine gw_val (by kernel_rfl) (some 25) rfl (.bool (decide (100 < (m : Int)))) (by kernel_rfl) ?_
      simp only [Act.put, List.setIfInBounds_toArray, List.set_cons_succ, List.set_cons_zero]
      rw [hd]
      refine gw_val (by kernel_rfl) (some 26) rfl (.bool false) (by kernel_rfl) ?_
      simp only [Act.put, List.setIfInBounds_toArray, List.set_cons_succ, List.set_cons_zero]
      apply wpList_nil
      have CLV := leaves_any L a2 c2 n k w HS.out (by rw [HLL.out]; exact hc3) hb3 (by rw [HLL.out]; omega) hn.1 hk1 hk2
      rw [HLL.out] at CLV
      clear hbn KN h300
      go_upto_region 4 with (go_at_call 9; refine CLV.mono ?_; rintro e w1 ⟨_, rfl, ⟨a5, c5, rfl, hR5, h5⟩, hb5⟩)
      clear CLV
      apply wp_region_lit
      refine gw_val (by kernel_rfl) (some 31) rfl (.slice a0 ln c0) (by kernel_rfl) ?_
      simp only [Act.put, List.setIfInBounds_toArray, List.set_cons_succ, List.set_cons_zero]
      refine gw_val (by kernel_rfl) (some 32) rfl (.slice a5 k c5) (by kernel_rfl) ?_
      simp only [Act.put, List.setIfInBounds_toArray, List.set_cons_succ, List.set_cons_zero]
      refine gw_build (by kernel_rfl) (some 33) rfl 33 2 #[(0, .tmp 31), (1, .tmp 32)] rfl #[(0, .slice a0 ln c0), (1, .slice a5 k c5)] (by kernel_rfl) _ _ (build_two_rows a0 a5 ln k c0 c5 w1) ?_
      simp only [Act.put, List.setIfInBounds_toArray, List.set_cons_succ, List.set_cons_zero]
      refine gw_val (by kernel_rfl) (some 34) rfl (.int .i64 2) (by kernel_rfl) ?_
      simp only [Act.put, List.setIfInBounds_toArray, List.set_cons_succ, List.set_cons_zero]
      refine gw_val (by kernel_rfl) (some 35) rfl (.int .i64 0) (by kernel_rfl) ?_
      simp only [Act.put, List.setIfInBounds_toArray, List.set_cons_succ, List.set_cons_zero]
      apply wpList_nil
      have hb6 := (Below.refl _ w1).alloc (Nat.le_refl _) (.cells #[.slice a0 ln c0, .slice a5 k c5] 22)
      have hC0 : D2C w w1.heap.size (w1.alloc (.cells #[.slice a0 ln c0, .slice a5 k c5] 22)) := by
        refine ⟨(HGW.out.below HGW.out.size hb5).below (HGW.out.below HGW.out.size hb5).size hb6, by simp, fun j hj => ?_, hb5.trans (hb6.mono hb5.size)⟩
        have hcell : ∀ j, (w1.alloc (.cells #[.slice a0 ln c0, .slice a5 k c5] 22)).cell? ⟨w1.heap.size, j, none⟩ = #[Value.slice a0 ln c0, .slice a5 k c5][j]? := fun j => cell_of_row _ _ j _ 22 (0, 0) (heap_alloc_last _ _)
        have hj2 : j = 0 ∨ j = 1 := by omega
        rcases hj2 with rfl | rfl
        · exact ⟨a0, c0, ls, by rw [hcell, HLS.out]; rfl, by rw [HLS.out]; exact h40, by rw [HLS.out]; exact hc0, (HRB.out.below hb5).below hb6⟩
        · exact ⟨a5, c5, lvL L k, by rw [hcell, lvL_len]; rfl, by rw [lvL_len]; omega, by rw [lvL_len]; exact h5, hR5.below hb6⟩
      generalize w1.alloc (.cells #[.slice a0 ln c0, .slice a5 k c5] 22) = V0 at *
      generalize w1.heap.size = g at *
      have HC0 := Lib.hid hC0
      clear hC0 hb6 hb5 hR5 HRB w1
      have hw4 : IntKind.i64.wrap at4 = at4 := by rw [IntKind.wrap_i64]; have := h4.1; have := h4.2; omega
      go_wp2_with fail
      go_loopg [35] 2 (fun G s35 wx => ∃ j : Nat, j ≤ 2 ∧ s35 = .int .i64 j ∧ D2C w g wx ∧ 2 - j = G)
      case atStart => exact ⟨0, by omega, rfl, HC0.out, rfl⟩
      case round =>
        clear HC0
        obtain ⟨j, hj, rfl, hC, hgk⟩ := hrel
        by_cases hlt : j < 2
        · obtain ⟨ax, cx, xs, xc, hx40, hxc, hxR⟩ := hC.2.2.1 j hlt
          have HC := Lib.hid hC
          have HXR := Lib.hid hxR
          generalize hX : xs.length = nx at *
          have HX := Lib.hid hX
          clear hC hxR hX
          generalize wr = wR at *
          obtain ⟨r, hr⟩ : ∃ r : Int, at4.tmod ((nx : Int) + 2) = r := ⟨_, rfl⟩
          have hr0 : 0 ≤ r := by rw [← hr]; exact Int.tmod_nonneg _ h4.1
          have hr1 : r < (nx : Int) + 2 := by rw [← hr]; exact Int.tmod_lt_of_pos _ (by omega)
          have hnz : ¬ ((nx : Int) + 2 = 0) := by omega
          have hwr : IntKind.i64.wrap r = r := by rw [IntKind.wrap_i64]; omega
          go_upto_region 7 with fail
          go_wp2_with fail
          have hb7 := (Below.refl _ wR).alloc (Nat.le_refl _) (.cells #[.int .i64 i1, .int .i64 r, .int .i64 (-1), .int .i64 0, .int .i64 ((nx : Int) - 1)] 3)
          have hC1 : D2I w g wR.heap.size ax xs (wR.alloc (.cells #[.int .i64 i1, .int .i64 r, .int .i64 (-1), .int .i64 0, .int .i64 ((nx : Int) - 1)] 3)) := by
            refine ⟨HC.out.below hb7, HXR.out.below hb7, by simp, fun z hz => ?_⟩
            have hcell : ∀ z, (wR.alloc (.cells #[.int .i64 i1, .int .i64 r, .int .i64 (-1), .int .i64 0, .int .i64 ((nx : Int) - 1)] 3)).cell? ⟨wR.heap.size, z, none⟩ = #[Value.int .i64 i1, .int .i64 r, .int .i64 (-1), .int .i64 0, .int .i64 ((nx : Int) - 1)][z]? := fun z => cell_of_row _ _ z _ 3 (0, 0) (heap_alloc_last _ _)
            have hz5 : z = 0 ∨ z = 1 ∨ z = 2 ∨ z = 3 ∨ z = 4 := by omega
            rcases hz5 with rfl | rfl | rfl | rfl | rfl
            · exact ⟨_, hcell 0, hi1.1, hi1.2⟩
            · exact ⟨_, hcell 1, by omega, by omega⟩
            · exact ⟨_, hcell 2, by omega, by omega⟩
            · exact ⟨_, hcell 3, by omega, by omega⟩
            · exact ⟨_, hcell 4, by omega, by omega⟩
          have HC1 := Lib.hid hC1
          clear hC1 hb7 HC HXR xc hwr hr hr0 hr1 hnz
          generalize wR.alloc (.cells #[.int .i64 i1, .int .i64 r, .int .i64 (-1), .int .i64 0, .int .i64 ((nx : Int) - 1)] 3) = V1 at *
          generalize wR.heap.size = gi at *
          clear wR
          go_loopg [51] 5 (fun G s51 wx => ∃ z : Nat, z ≤ 5 ∧ s51 = .int .i64 z ∧ D2I w g gi ax xs wx ∧ 5 - z = G)
          case atStart => exact ⟨0, by omega, rfl, HC1.out, rfl⟩
          case round =>
            clear HC1
            obtain ⟨z, hz, rfl, hI, hgz⟩ := hrel
            by_cases hlz : z < 5
            · obtain ⟨q, xq, hq1, hq2⟩ := hI.2.2.2 z hlz
              have CP1 := fun V (h : D2I w g gi ax xs V) => cP xs ax cx q V h.1.1 (by rw [HX.out]; omega) (by rw [HX.out]; exact hxc) h.2.1 hq1 hq2
              have CP2 := fun V (h : D2I w g gi ax xs V) => refproof_pro xs ax cx q V (by rw [HX.out]; omega) (by rw [HX.out]; exact hxc) h.2.1
              have HPL := Lib.hid (prL_len xs q (by rw [HX.out]; omega))
              unfold PrO at CP1 CP2
              rw [HX.out] at CP1 CP2
              generalize (prL xs q).1 = P at *
              generalize (prL xs q).2 = B at *
              have HI := Lib.hid hI
              clear hI
              go_upto_region 10 with fail
              apply wp_region_lit
              refine gw_val (by kernel_rfl) (some 56) rfl (.slice ax nx cx) (by kernel_rfl) ?_
              simp only [Act.put, List.setIfInBounds_toArray, List.set_cons_succ, List.set_cons_zero]
              refine gw_val (by kernel_rfl) (some 57) rfl (.int .i64 q) (by kernel_rfl) ?_
              simp only [Act.put, List.setIfInBounds_toArray, List.set_cons_succ, List.set_cons_zero]
              refine gw_callE (by kernel_rfl) (some 58) rfl 16 #[.slice ax nx cx, .int .i64 q] (fun v w' => ∃ a c, v = .tuple #[.slice a P.length c, .bool B] ∧ Rk w' a P ∧ P.length ≤ c ∧ Below wr.heap.size wr w') (by kernel_rfl) ((CP1 wr HI.out).mono fun e w' h => by obtain ⟨a, c, he, h⟩ := h; exact ⟨_, he, a, c, rfl, h⟩) (fun v V2 hq => ?_)
              obtain ⟨a6, c6, rfl, hK6, h6, hb6⟩ := hq
              simp only [Act.put, List.setIfInBounds_toArray, List.set_cons_succ, List.set_cons_zero]
              have HI2 := Lib.hid (HI.out.below hb6)
              refine gw_val (by kernel_rfl) (some 55) rfl (.tuple #[.slice a6 P.length c6, .bool B]) (by kernel_rfl) ?_
              simp only [Act.put, List.setIfInBounds_toArray, List.set_cons_succ, List.set_cons_zero]
              refine gw_val (by kernel_rfl) (some 59) rfl (.slice a6 P.length c6) (by kernel_rfl) ?_
              simp only [Act.put, List.setIfInBounds_toArray, List.set_cons_succ, List.set_cons_zero]
              refine gw_val (by kernel_rfl) (some 60) rfl (.bool B) (by kernel_rfl) ?_
              simp only [Act.put, List.setIfInBounds_toArray, List.set_cons_succ, List.set_cons_zero]
              refine gw_val (by kernel_rfl) (some 16) rfl (.slice a6 P.length c6) (by kernel_rfl) ?_
              simp only [Act.put, List.setIfInBounds_toArray, List.set_cons_succ, List.set_cons_zero]
              refine gw_val (by kernel_rfl) (some 17) rfl (.bool B) (by kernel_rfl) ?_
              simp only [Act.put, List.setIfInBounds_toArray, List.set_cons_succ, List.set_cons_zero]
              apply wpList_nil
              go_upto_region 11 with fail
              apply wp_region_lit
              refine gw_val (by kernel_rfl) (some 62) rfl (.slice ax nx cx) (by kernel_rfl) ?_
              simp only [Act.put, List.setIfInBounds_toArray, List.set_cons_succ, List.set_cons_zero]
              refine gw_val (by kernel_rfl) (some 63) rfl (.int .i64 q) (by kernel_rfl) ?_
              simp only [Act.put, List.setIfInBounds_toArray, List.set_cons_succ, List.set_cons_zero]
              refine gw_callE (by kernel_rfl) (some 64) rfl 17 #[.slice ax nx cx, .int .i64 q] (fun v w' => ∃ a c, v = .tuple #[.slice a P.length c, .bool B] ∧ Rk w' a P ∧ P.length ≤ c ∧ Below V2.heap.size V2 w') (by kernel_rfl) ((CP2 V2 HI2.out).mono fun e w' h => by obtain ⟨a, c, he, h⟩ := h; exact ⟨_, he, a, c, rfl, h⟩) (fun v V3 hq => ?_)
              obtain ⟨a8, c8, rfl, hK8, h8, hb8⟩ := hq
              simp only [Act.put, List.setIfInBounds_toArray, List.set_cons_succ, List.set_cons_zero]
              have HI3 := Lib.hid (HI2.out.below hb8)
              refine gw_val (by kernel_rfl) (some 61) rfl (.tuple #[.slice a8 P.length c8, .bool B]) (by kernel_rfl) ?_
              simp only [Act.put, List.setIfInBounds_toArray, List.set_cons_succ, List.set_cons_zero]
              refine gw_val (by kernel_rfl) (some 65) rfl (.slice a8 P.length c8) (by kernel_rfl) ?_
              simp only [Act.put, List.setIfInBounds_toArray, List.set_cons_succ, List.set_cons_zero]
              refine gw_val (by kernel_rfl) (some 66) rfl (.bool B) (by kernel_rfl) ?_
              simp only [Act.put, List.setIfInBounds_toArray, List.set_cons_succ, List.set_cons_zero]
              refine gw_val (by kernel_rfl) (some 18) rfl (.slice a8 P.length c8) (by kernel_rfl) ?_
              simp only [Act.put, List.setIfInBounds_toArray, List.set_cons_succ, List.set_cons_zero]
              refine gw_val (by kernel_rfl) (some 19) rfl (.bool B) (by kernel_rfl) ?_
              simp only [Act.put, List.setIfInBounds_toArray, List.set_cons_succ, List.set_cons_zero]
              apply wpList_nil
              have CS := refsame_any a6 a8 c6 c8 P P V3 (hK6.below hb8) hK8 HPL.out
              rw [beq_self_eq_true] at CS
              clear HI HI2 hb6 hb8 hK6 hK8 CP1 CP2
              go_upto_region 12 with fail
              apply wp_region_lit
              refine gw_val (by kernel_rfl) (some 67) rfl (.bool B) (by kernel_rfl) ?_
              simp only [Act.put, List.setIfInBounds_toArray, List.set_cons_succ, List.set_cons_zero]
              refine gw_val (by kernel_rfl) (some 68) rfl (.bool B) (by kernel_rfl) ?_
              simp only [Act.put, List.setIfInBounds_toArray, List.set_cons_succ, List.set_cons_zero]
              refine gw_val (by kernel_rfl) (some 69) rfl (.bool false) (by cases B <;> kernel_rfl) ?_
              simp only [Act.put, List.setIfInBounds_toArray, List.set_cons_succ, List.set_cons_zero]
              refine gw_val (by kernel_rfl) (some 70) rfl (.bool false) (by kernel_rfl) ?_
              simp only [Act.put, List.setIfInBounds_toArray, List.set_cons_succ, List.set_cons_zero]
              refine gw_val (by kernel_rfl) (some 71) rfl (.slice a6 P.length c6) (by kernel_rfl) ?_
              simp only [Act.put, List.setIfInBounds_toArray, List.set_cons_succ, List.set_cons_zero]
              refine gw_val (by kernel_rfl) (some 72) rfl (.slice a8 P.length c8) (by kernel_rfl) ?_
              simp only [Act.put, List.setIfInBounds_toArray, List.set_cons_succ, List.set_cons_zero]
              refine gw_call (by kernel_rfl) (some 73) rfl 18 #[.slice a6 P.length c6, .slice a8 P.length c8] (.bool true) (Below V3.heap.size V3) (by kernel_rfl) (CS.mono fun e w' h => ⟨h.1, by obtain ⟨nn, hnn⟩ := h.2; rw [hnn]; exact Below.drewN' (Below.refl _ V3) nn⟩) (fun V4 hb9 => ?_)
              have HI4 := Lib.hid (HI3.out.below hb9)
              simp only [Act.put, List.setIfInBounds_toArray, List.set_cons_succ, List.set_cons_zero]
              refine gw_val (by kernel_rfl) (some 74) rfl (.bool false) (by kernel_rfl) ?_
              simp only [Act.put, List.setIfInBounds_toArray, List.set_cons_succ, List.set_cons_zero]
              refine gw_val (by kernel_rfl) (some 75) rfl (.bool false) (by kernel_rfl) ?_
              simp only [Act.put, List.setIfInBounds_toArray, List.set_cons_succ, List.set_cons_zero]
              apply wpList_nil
              clear HI3 hb9 CS
              go_wp2_with fail
              go_roundg (5 - (z + 1))
              case measure => omega
              case rel => exact ⟨z + 1, by omega, by go_num, HI4.out, rfl⟩
            · obtain rfl : z = 5 := by omega
              have HI := Lib.hid hI.1
              clear hI
              go_wp2_with fail
              go_roundg (2 - (j + 1))
              case measure => omega
              case rel => exact ⟨j + 1, by omega, by go_num, HI.out, rfl⟩
        · obtain rfl : j = 2 := by omega
          have KN := hKN wr hC.1
          have HB0 := Lib.hid hC.2.2.2
          clear hC
          go_wp2_with (go_at_call 8; refine KN.mono ?_; rintro e w9 ⟨rfl, hb9⟩)
          have HB := Lib.hid (HB0.out.trans (hb9.mono HB0.out.size))
          clear hb9
          go_ret
          exact ⟨rfl, HB.out⟩
  · refine gw_val (by kernel_rfl) (some 22) rfl (.bool true) (by kernel_rfl) ?_
    simp only [Act.put, List.setIfInBounds_toArray, List.set_cons_succ, List.set_cons_zero]
    refine gw_not (by kernel_rfl) (some 23) rfl ?_
    simp only [Act.put, List.setIfInBounds_toArray, List.set_cons_succ, List.set_cons_zero]
    refine gw_not (by kernel_rfl) (some 24) rfl ?_
    simp only [Act.put, List.setIfInBounds_toArray, List.set_cons_succ, List.set_cons_zero]
    refine gw_not (by kernel_rfl) (some 25) rfl ?_
    simp only [Act.put, List.setIfInBounds_toArray, List.set_cons_succ, List.set_cons_zero]
    refine gw_val (by kernel_rfl) (some 26) rfl (.bool true) (by kernel_rfl) ?_
    simp only [Act.put, List.setIfInBounds_toArray, List.set_cons_succ, List.set_cons_zero]
    apply wpList_nil
    clear hbn
    go_wp2_with (go_at_call 8; refine KN.mono ?_; rintro e w9 ⟨rfl, hb9⟩)
    have HB := Lib.hid hb9
    clear hb9
    go_ret
    exact ⟨rfl, HB.out⟩
end Go.Proofs.YtbhnbcpllhefgaaDoor
