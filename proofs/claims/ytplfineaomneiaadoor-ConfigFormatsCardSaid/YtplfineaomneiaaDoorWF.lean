/-
 The walk of ConfigFormats.
-/
import Derived.Test.YtplfineaomneiaaDoorPZ
namespace Go.Proofs.YtplfineaomneiaaDoor
attribute [local irreducible] wpList wpQuiet
open Go.RowKit
set_option maxRecDepth 100000
set_option linter.unusedSimpArgs false
set_option linter.unusedVariables false

theorem flat_len {k : Nat} : ∀ ls : List (List Int), (∀ l ∈ ls, l.length ≤ k) → (joinL ls).length ≤ (k + 1) * ls.length
 | [], _ => Nat.zero_le _
 | l :: r, h => by
  have h1 := h l (by simp)
  have h2 := flat_len (k := k) r (fun x hx => h x (by simp [hx]))
  have e : joinL (l :: r) = l ++ 10 :: joinL r := by unfold joinL; simp
  rw [e, List.length_append, List.length_cons, List.length_cons, Nat.mul_succ]
  omega
section
variable {c : List Int}
theorem line_facts (h : valL c = 0) (h9 : 0 ≤ c.getD 9 0 ∧ c.getD 9 0 ≤ 18446744073709551615) {i : Nat} (hi : i < 12) : (lineL c i).length ≤ 33 ∧ ∀ x ∈ lineL c i, W8 x := by
 have hr := inR_rng hi (valL_inR h h9 hi)
 have hk := keys_tok _ (keys_mem i hi)
 have hkl : (keysL.getD i []).length ≤ 12 := by
  have q : ∀ j, j < 12 → (keysL.getD j []).length ≤ 12 := by decide
  exact q i hi
 have hd := plain_dec (c.getD i 0) hr.1
 have hdl := decI_len hr.1 hr.2
 unfold lineL
 refine ⟨by rw [List.length_append, List.length_cons]; omega, fun x hx => ?_⟩
 rcases List.mem_append.1 hx with hx | hx
 ·have := hk.2 x hx; exact ⟨by omega, by omega⟩
 ·rcases List.mem_cons.1 hx with rfl | hx
  ·exact ⟨by omega, by omega⟩
  ·have := hd.1 x hx; exact ⟨by omega, by omega⟩
theorem fmt_w8 (h : valL c = 0) (h9 : 0 ≤ c.getD 9 0 ∧ c.getD 9 0 ≤ 18446744073709551615) : ∀ x, x ∈ fmtL c → W8 x := fun x hx => by
 unfold fmtL joinL at hx
 rw [List.mem_flatten] at hx
 obtain ⟨l, hl, hx⟩ := hx
 rw [List.mem_map] at hl
 obtain ⟨l2, hl2, rfl⟩ := hl
 rw [List.mem_map] at hl2
 obtain ⟨i, hi, rfl⟩ := hl2
 rcases List.mem_append.1 hx with hx | hx
 ·exact (line_facts h h9 (List.mem_range.1 hi)).2 x hx
 ·rw [List.mem_singleton] at hx
  subst hx
  exact ⟨by omega, by omega⟩
theorem fmt_len (h : valL c = 0) (h9 : 0 ≤ c.getD 9 0 ∧ c.getD 9 0 ≤ 18446744073709551615) : (fmtL c).length ≤ 408 := by
 unfold fmtL
 refine Nat.le_trans (flat_len (k := 33) _ fun l hl => ?_) (by rw [List.length_map, List.length_range]; exact Nat.le_refl _)
 rw [List.mem_map] at hl
 obtain ⟨i, hi, rfl⟩ := hl
 exact (line_facts h h9 (List.mem_range.1 hi)).1
theorem par_back (hc : CfOk c) (h : valL c = 0) : parV (nums (strOfNums (fmtL c))) = .tuple #[.agg (cfA c), .int .i64 0, .int .i64 0] := by
 obtain ⟨h1, -, h9a, h9b, -⟩ := hc
 have h9 : 0 ≤ c.getD 9 0 ∧ c.getD 9 0 ≤ 18446744073709551615 := ⟨h9a, by omega⟩
 rw [nums_str _ (fmt_w8 h h9)]
 unfold parV
 rw [par_fmt h1 h h9]
 rfl
end
/-- Configurations in a row. -/
def cfl (c : List Int) : List Value := (cfA c).toList
def cfcs (L : List (List Int)) : List Value := L.flatMap cfl
theorem cfl_len (c : List Int) : (cfl c).length = 12 := rfl
theorem build_C3 (x y z : List Int) (V : World) : (Instr.buildSlice 33 3 #[(0, .agg (cfA x)), (1, .agg (cfA y)), (2, .agg (cfA z))]).run Tryd.prog V = .ok (.slice (some ⟨V.heap.size, 0, none⟩) 3 3) (V.alloc (.cells (cfcs [x, y, z]).toArray 24)) := by
 obtain ⟨i0, hi, hz0, hz1, hz2⟩ := info_parts infoC
 refine run_buildSlice V 33 24 3 _ (cfcs [x, y, z]).toArray i0 _ Tryd.underlying33 hi hz0 (by rw [hz1]; omega) (by rw [hz1]; omega) ?_
 rw [hz1]
 kernel_rfl
theorem idx_C (b off n c k : Nat) (hk : k < n) (V : World) (ρ : Operand → Value) (o : Oper) {x y : Operand} (ho : o.op = .indexAddr 33 x y) (hx : ρ x = .slice (some ⟨b, off, none⟩) n c) (hy : ρ y = .int .i64 k) : (execOp ρ o).run Tryd.prog V = .ok (.value (.pointer (some ⟨b, off + k * 12, none⟩))) V := by
 have hs : (sizeOf (Tryd.prog.elem 33)).run Tryd.prog V = .ok 12 V := by kernel_rfl
 have hlm : (k : Int) < (n : Int) := by omega
 unfold execOp
 simp only [ho, hx, hy]
 go_simp
theorem load_Ci {w : World} {g k : Nat} {L : List (List Int)} (h : Bx w g (cfcs L).toArray k) {i : Nat} (hi : i < L.length) : (Instr.loadAt 24 (.pointer (some ⟨g, 0 + i * 12, none⟩))).run Tryd.prog w = .ok (.agg (cfA (L.getD i []))) w := by
 obtain ⟨b, off, e, -, hr⟩ := fl_range cfl cfl_len (by omega) [] (Cs.block (cs := cfcs L) h) hi
 injection e with e
 injection e with e1 e2
 subst e1
 subst e2
 exact run_loadAt_mid w g (0 + i * 12) 24 (cfl (L.getD i [])) _ hr Tryd.underlying24 rfl (by kernel_rfl)
/-- What the region of the three configurations keeps. -/
structure KF (W : World) (c0 c1 : List Int) (b4 b5 : Bool) (x31 x32 : Value) (V : World) : Prop where
 bel : Below W.heap.size W V
 o5 : b5 = true → b4 = true
 mad : b4 = true → ∃ cf, x31 = .agg (cfA cf) ∧ CfOk cf ∧ (b5 = true → ∃ g, x32 = .slice (some ⟨g, 0, none⟩) 3 3 ∧ Bx V g (cfcs [c0, c1, cf]).toArray 24)
section
variable {W V V2 : World} {c0 c1 : List Int} {b4 b5 : Bool} {x31 x32 : Value}
theorem KF.start (hb : Below W.heap.size W V) (c0 c1 : List Int) (x31 x32 : Value) : KF W c0 c1 false false x31 x32 V.drew := ⟨hb.drew, fun h => by (cases h), fun h => by (cases h)⟩
theorem KF.n4 (h : KF W c0 c1 false b5 x31 x32 V) : b5 = false := by cases b5; rfl; exact absurd (h.o5 rfl) (by decide)
theorem KF.s4 {cf : List Int} (h : KF W c0 c1 false false x31 x32 V) (hc : CfOk cf) (hb : Below V.heap.size V V2) : KF W c0 c1 true false (.agg (cfA cf)) x32 V2 := ⟨h.bel.trans (hb.mono h.bel.size), fun _ => rfl, fun _ => ⟨cf, rfl, hc, fun q => by (cases q)⟩⟩
theorem KF.s5 {cf : List Int} (h : KF W c0 c1 true false (.agg (cfA cf)) x32 V) (hc : CfOk cf) : KF W c0 c1 true true (.agg (cfA cf)) (.slice (some ⟨V.heap.size, 0, none⟩) 3 3) (V.alloc (.cells (cfcs [c0, c1, cf]).toArray 24)) := ⟨h.bel.alloc h.bel.size _, fun _ => rfl, fun _ => ⟨cf, rfl, hc, fun _ => ⟨_, rfl, heap_alloc_last V _⟩⟩⟩
end
set_option maxRecDepth 100000 in
set_option maxHeartbeats 8000000 in
theorem formats_core {w : World} (HQ : Prg w) {c0 : List Int} (hc0 : CfOk c0) {a : Option Addr} {c : Nat} {L : List Int} (h : Cs w a (icells L)) (hl : L.length ≤ 9223372036854775807) (fd n : Int) (hn : -9223372036854775808 ≤ n ∧ n < 9223372036854775808) : Calls Tryd.prog 4 #[.agg (cfA c0), .slice a L.length c, .int .i64 fd, .int .i64 n] w fun e w' => e = .returned (.bool true) ∧ Below w.heap.size w w' := by
 have hb0 : Below w.heap.size w (w.alloc (.cells (cfA c0) 24)) := (Below.refl _ w).alloc (Nat.le_refl _) _
 have hX0 : Bx (w.alloc (.cells (cfA c0) 24)) w.heap.size (cfA c0) 24 := heap_alloc_last w _
 obtain ⟨W, hW⟩ : ∃ W, w.alloc (.cells (cfA c0) 24) = W := ⟨_, rfl⟩
 rw [hW] at hb0 hX0
 have HBW := Lib.hid hb0
 have HR := Lib.hid fun V (hb : Below w.heap.size w V) => h.below hb
 have HC0 := Lib.hid hc0
 have HN := Lib.hid hn
 have HQH := Lib.hid HQ
 clear hb0 h hc0 hn
 go_enter Tryd.func4, Tryd.ntmps4
 go_upto_region 1 with fail
 obtain ⟨g4, hg4⟩ : ∃ g4, w.heap.size = g4 := ⟨_, rfl⟩
 rw [hg4] at hX0
 simp only [hg4]
 obtain ⟨C0, hC0⟩ : ∃ X, cfA c0 = X := ⟨_, rfl⟩
 have HCC0 := Lib.hid hC0
 have L0 := lda c0
 rw [hC0] at hX0 L0
 simp only [hC0]
 have LL0 := Lib.hid L0
 clear hW hg4 hC0 L0
 have hbd := one_row a L.length c W
 have hXl : Bx (W.alloc (.cells #[.slice a L.length c] 25)) W.heap.size #[.slice a L.length c] 25 := heap_alloc_last W _
 have hbl : Below W.heap.size W (W.alloc (.cells #[.slice a L.length c] 25)) := (Below.refl _ W).alloc (Nat.le_refl _) _
 have CL := long_one W.heap.size a L.length c _ hXl hl
 generalize W.alloc (.cells #[.slice a L.length c] 25) = W1 at *
 have HB1 := Lib.hid (HBW.out.trans (hbl.mono HBW.out.size))
 have HBL := Lib.hid hbl
 clear hXl hbl
 by_cases hlong : 160 < L.length
 ·skip
  rw [decide_eq_true (by omega)] at CL
  refine wl <| gz1 (.slice a L.length c) ?_
  simp only [pu]
  refine gw_build (by kernel_rfl) (some 20) rfl 54 1 #[(0, .tmp 19)] rfl #[(0, .slice a L.length c)] (by kernel_rfl) (.slice (some ⟨W.heap.size, 0, none⟩) 1 1) _ hbd ?_
  simp only [pu]
  refine gzc (.bool true) (fun w' => W1 = w') (CL) (fun V9 hV9 => ?_)
  subst hV9
  simp only [pu]
  apply wpList_nil
  clear CL hbd
  go_upto_region 2 with fail
  refine wl <| gzc (.bool true) (fun w' => Below W1.heap.size W1 w') (known_true HQ W1 (HB1.out)) (fun V2 hV2 => ?_)
  simp only [pu]
  refine gz1 (.bool true) <| wn ?_
  simp only [pu]
  have HE := HB1.out.trans (hV2.mono HB1.out.size)
  go_wp2_with fail
  go_ret
  exact ⟨rfl, HE⟩
 ·skip
  rw [decide_eq_false (by omega)] at CL
  refine wl <| gz1 (.slice a L.length c) ?_
  simp only [pu]
  refine gw_build (by kernel_rfl) (some 20) rfl 54 1 #[(0, .tmp 19)] rfl #[(0, .slice a L.length c)] (by kernel_rfl) (.slice (some ⟨W.heap.size, 0, none⟩) 1 1) _ hbd ?_
  simp only [pu]
  refine gzc (.bool false) (fun w' => W1 = w') (CL) (fun V9 hV9 => ?_)
  subst hV9
  simp only [pu]
  apply wpList_nil
  clear CL hbd
  have hlong : L.length ≤ 160 := by omega
  have hX4 := hX0.below hX0.lt HBL.out
  have CC := mk_changed (c := c) (HR.out W1 HB1.out) (by omega) fd n HN.out
  go_upto_region 3 with fail
  refine wl <| gz3 (.slice a L.length c) (.int .i64 fd) (.int .i64 n) <| gze (CfO W1) (CC) (fun vv V2 hq => ?_)
  obtain ⟨c1, rfl, hc1, hb2⟩ := hq
  obtain ⟨V3, hst3, hb3, hX9⟩ := new_bx (c := #[.int .i64 0, .int .i64 0, .int .i64 0, .int .i64 0, .int .i64 0, .int .i64 0, .bool false, .int .i64 0, .int .i64 0, .int .u64 0, .int .i64 0, .int .i64 0]) (c' := cfA c1) (ty := 24) V2 rfl (by kernel_rfl) (by kernel_rfl)
  simp only [pu]
  refine run_to rfl (some 9) rfl (.pointer (some ⟨V2.heap.size, 0, none⟩)) (V2.alloc (.cells #[.int .i64 0, .int .i64 0, .int .i64 0, .int .i64 0, .int .i64 0, .int .i64 0, .bool false, .int .i64 0, .int .i64 0, .int .u64 0, .int .i64 0, .int .i64 0] 24)) (by kernel_rfl) ?_
  simp only [pu]
  refine gzs rfl (hst3) <| wn ?_
  have hb23 := hb2.trans (hb3.mono hb2.size)
  have HX4 := Lib.hid (hX4.below hX4.lt hb23)
  have HB3 := Lib.hid (HB1.out.trans (hb23.mono HB1.out.size))
  obtain ⟨g9, hg9⟩ : ∃ g, V2.heap.size = g := ⟨_, rfl⟩
  rw [hg9] at hX9
  simp only [hg9]
  obtain ⟨C1, hC1⟩ : ∃ X, cfA c1 = X := ⟨_, rfl⟩
  have HCC1 := Lib.hid hC1
  have L1 := lda c1
  rw [hC1] at hX9 L1
  simp only [hC1]
  have LL1 := Lib.hid L1
  have HX9 := Lib.hid hX9
  have HC1 := Lib.hid hc1
  have HCH := Lib.hid fun V (hb : Below V3.heap.size V3 V) => mk_changed (c := c) (HR.out V (HB3.out.trans (hb.mono HB3.out.size))) (by omega) 10 n HN.out
  have h0 := KF.start (Below.refl _ V3) c0 c1 undef undef
  clear hst3 hb2 hb3 hb23 hg9 hC1 L1 hX9 hc1 hX4 hX0 CC HBL HB1
  go_upto_region 4 with fail
  refine wp_region_inv (fun listed act9 V => ∃ b0 b1 b2 b3 b4 b5 b6 b7 : Bool, ∃ x31 x32 : Value, listed = #[b0, b1, b2, b3, b4, b5, b6, b7] ∧ act9 = { tmps := #[.agg C0, .slice a L.length c, .int .i64 fd, .int .i64 n, .pointer (some ⟨g4, 0, none⟩), undef, undef, undef, .bool false, .pointer (some ⟨g9, 0, none⟩), undef, undef, undef, undef, undef, undef, undef, undef, undef, .slice a L.length c, .slice (some ⟨W.heap.size, 0, none⟩) 1 1, .bool false, undef, .slice a L.length c, .int .i64 fd, .int .i64 n, .agg C1, (cond b0 (.agg C0) undef), (cond b1 (.agg C1) undef), (cond b2 (.slice a L.length c) undef), (cond b3 (.int .i64 n) undef), x31, x32, (cond b6 (.int .i64 3) undef), (cond b7 (.int .i64 0) undef), undef, undef, undef, undef, undef, undef, undef, undef, undef, undef, undef, undef, undef, undef, undef, undef, undef, undef, undef, undef, undef, undef, undef, undef, undef, undef, undef, undef, undef, undef, undef, undef, undef, undef, undef, undef, undef, undef, undef, undef, undef, undef], defers := [] } ∧ KF V3 c0 c1 b4 b5 x31 x32 V) (by kernel_rfl) (by kernel_rfl) ?_ ?_ ?_
  ·exact ⟨false, false, false, false, false, false, false, false, undef, undef, rfl, rfl, h0⟩
  ·intro i9 listed act9 V hi9 hr hJ
   obtain ⟨b0, b1, b2, b3, b4, b5, b6, b7, x31, x32, rfl, rfl, hF⟩ := hJ
   have hi2 : i9 < 8 := hi9
   have hi3 : i9 = 0 ∨ i9 = 1 ∨ i9 = 2 ∨ i9 = 3 ∨ i9 = 4 ∨ i9 = 5 ∨ i9 = 6 ∨ i9 = 7 := by omega
   rcases hi3 with rfl | rfl | rfl | rfl | rfl | rfl | rfl | rfl
   ·obtain rfl : b0 = false := ready_self hr
    refine st_load rfl (by kernel_rfl) (some 27) rfl 24 (.tmp 4) rfl ⟨g4, 0, none⟩ (.agg C0) (by kernel_rfl) (LL0.out _ _ (HX4.out.below HX4.out.lt hF.bel)) ?_
    exact ⟨true, b1, b2, b3, b4, b5, b6, b7, _, _, rfl, rfl, hF⟩
   ·obtain rfl : b1 = false := ready_self hr
    refine st_load rfl (by kernel_rfl) (some 28) rfl 24 (.tmp 9) rfl ⟨g9, 0, none⟩ (.agg C1) (by kernel_rfl) (LL1.out _ _ (HX9.out.below HX9.out.lt hF.bel)) ?_
    exact ⟨b0, true, b2, b3, b4, b5, b6, b7, _, _, rfl, rfl, hF⟩
   ·obtain rfl : b2 = false := ready_self hr
    refine st_val rfl (by kernel_rfl) (some 29) rfl (.slice a L.length c) V (by kernel_rfl) ?_
    exact ⟨b0, b1, true, b3, b4, b5, b6, b7, x31, x32, rfl, rfl, hF⟩
   ·obtain rfl : b3 = false := ready_self hr
    refine st_val rfl (by kernel_rfl) (some 30) rfl (.int .i64 n) V (by kernel_rfl) ?_
    exact ⟨b0, b1, b2, true, b4, b5, b6, b7, x31, x32, rfl, rfl, hF⟩
   ·obtain rfl : b4 = false := ready_self hr
    obtain rfl : b2 = true := ready_dep hr 2 (by kernel_rfl)
    obtain rfl : b3 = true := ready_dep hr 3 (by kernel_rfl)
    obtain rfl : b5 = false := hF.n4
    refine st_call rfl (by kernel_rfl) (some 31) rfl 11 #[.slice a L.length c, .int .i64 10, .int .i64 n] (by kernel_rfl) ((HCH.out V hF.bel).mono fun e9 V9 hq9 => ?_)
    obtain ⟨v9, rfl, cf9, rfl, hc9, hb9⟩ := hq9
    refine ⟨_, rfl, ?_⟩
    exact ⟨b0, b1, true, true, true, false, b6, b7, _, _, rfl, rfl, hF.s4 hc9 hb9⟩
   ·obtain rfl : b5 = false := ready_self hr
    obtain rfl : b0 = true := ready_dep hr 0 (by kernel_rfl)
    obtain rfl : b1 = true := ready_dep hr 1 (by kernel_rfl)
    obtain rfl : b4 = true := ready_dep hr 4 (by kernel_rfl)
    obtain ⟨cf9, rfl, hc9, -⟩ := hF.mad rfl
    refine st_build rfl (by kernel_rfl) (some 32) rfl 33 3 #[(0, .tmp 27), (1, .tmp 28), (2, .tmp 31)] rfl #[(0, .agg C0), (1, .agg C1), (2, .agg (cfA cf9))] (by kernel_rfl) (.slice (some ⟨V.heap.size, 0, none⟩) 3 3) _ (by rw [← HCC0.out, ← HCC1.out]; exact build_C3 c0 c1 cf9 V) ?_
    exact ⟨true, true, b2, b3, true, true, b6, b7, _, _, rfl, rfl, hF.s5 hc9⟩
   ·obtain rfl : b6 = false := ready_self hr
    obtain rfl : b5 = true := ready_dep hr 5 (by kernel_rfl)
    obtain rfl : b4 = true := hF.o5 rfl
    obtain ⟨cf9, -, -, hs9⟩ := hF.mad rfl
    obtain ⟨g99, rfl, -⟩ := hs9 rfl
    refine st_val rfl (by kernel_rfl) (some 33) rfl (.int .i64 3) V (by kernel_rfl) ?_
    exact ⟨b0, b1, b2, b3, true, true, true, b7, _, _, rfl, rfl, hF⟩
   ·obtain rfl : b7 = false := ready_self hr
    refine st_val rfl (by kernel_rfl) (some 34) rfl (.int .i64 0) V (by kernel_rfl) ?_
    exact ⟨b0, b1, b2, b3, b4, b5, b6, true, x31, x32, rfl, rfl, hF⟩
  ·intro act9 V hJ
   obtain ⟨b0, b1, b2, b3, b4, b5, b6, b7, x31, x32, he, rfl, hF⟩ := hJ
   have he : (#[true, true, true, true, true, true, true, true] : Array Bool) = #[b0, b1, b2, b3, b4, b5, b6, b7] := he
   simp only [Array.mk.injEq, List.cons.injEq, and_true] at he
   obtain ⟨rfl, rfl, rfl, rfl, rfl, rfl, rfl, rfl⟩ := he
   simp only [cond_true]
   have hb4 := hF.bel
   obtain ⟨c2, rfl, hc2, hs9⟩ := hF.mad rfl
   obtain ⟨gs, rfl, hXs⟩ := hs9 rfl
   have HXS := Lib.hid hXs
   have HB4 := Lib.hid (HB3.out.trans (hb4.mono HB3.out.size))
   have HCS : Hid (∀ i, i < 3 → CfOk ([c0, c1, c2].getD i [])) := Lib.hid fun i hi => by
    match i, hi with
    | 0, _ => exact HC0.out
    | 1, _ => exact HC1.out
    | 2, _ => exact hc2
   have H3 : Hid ([c0, c1, c2].length = 3) := Lib.hid rfl
   obtain ⟨W4, hW4⟩ : ∃ W4, W4 = V := ⟨V, rfl⟩
   subst hW4
   generalize [c0, c1, c2] = CL at *
   clear hF h0 hb4 hc2 hs9 hXs HC0 HC1 HCH HX4 HX9 LL0 LL1 HCC0 HCC1 HB3
   go_wp2_with fail
   go_loopg [34] 3 (fun gg s34 wx => ∃ (i : Nat), s34 = .int .i64 i ∧ i ≤ 3 ∧ gg + i = 3 ∧ Hid (Below W4.heap.size W4 wx))
   case atStart => exact ⟨0, rfl, by omega, by omega, Lib.hid (Below.refl _ _)⟩
   case round =>
    obtain ⟨i, hs34, hin, hg, HRW⟩ := hrel
    obtain rfl := hs34
    have HGK : Hid (gk + i = 3) := Lib.hid hg
    clear hg
    by_cases hlt : i < 3
    ·skip
     have hXs := HXS.out.below HXS.out.lt HRW.out
     have hl37 := load_Ci hXs (i := i) (by rw [H3.out]; exact hlt)
     have hcx := HCS.out i hlt
     generalize CL.getD i [] = x at *
     have CF1 := HQH.out.f x hcx
     have CR1 := fun V => r_format hcx V
     have hback : valL x = 0 → parV (nums (strOfNums (fmtL x))) = .tuple #[.agg (cfA x), .int .i64 0, .int .i64 0] ∧ (strOfNums (fmtL x)).size ≤ 1000000 := fun h => ⟨par_back hcx h, by rw [strOfNums_size]; have := fmt_len h ⟨hcx.2.2.1, by have := hcx.2.2.2.1; omega⟩; omega⟩
     have LX := lda x
     have NE := fun (ρ : Operand → Value) (o : Oper) (y z : Operand) (ho : o.op = .binOp .neq 24 y z 24) (hx : ρ y = .agg (cfA x)) (hy : ρ z = .agg (cfA x)) (w : World) => neq_C ho x hx hy w
     have NB := fun V => new_bx (c := #[.int .i64 0, .int .i64 0, .int .i64 0, .int .i64 0, .int .i64 0, .int .i64 0, .bool false, .int .i64 0, .int .i64 0, .int .u64 0, .int .i64 0, .int .i64 0]) (c' := cfA x) (ty := 24) V rfl (by kernel_rfl) (by kernel_rfl)
     obtain ⟨V5, hst5, hb5, hX11⟩ := NB wr
     have hfv : fmtV x = if valL x = 0 then .tuple #[.string (strOfNums (fmtL x)), .int .i64 0] else .tuple #[.string ⟨#[]⟩, .int .i64 1] := rfl
     rw [hfv] at CF1 CR1
     have h01 := valL_01 x
     generalize cfA x = CX at *
     generalize strOfNums (fmtL x) = sx at *
     generalize valL x = vx at *
     clear hfv hcx hXs
     go_upto_region 5 with fail
     refine wl <| gzb (lss_n rfl (i) (3) dT) <| wn ?_
     simp only [pu]
     go_upto_region 6 with fail
     refine wl <| gzv (.pointer (some ⟨gs, 0 + i * 12, none⟩)) (idx_C gs 0 3 3 i hlt _ _ _ rfl (by kernel_rfl) (by kernel_rfl)) <| gzl rfl ⟨gs, 0 + i * 12, none⟩ (.agg CX) (hl37) ?_
     simp only [pu]
     refine run_to rfl (some 11) rfl (.pointer (some ⟨wr.heap.size, 0, none⟩)) (wr.alloc (.cells #[.int .i64 0, .int .i64 0, .int .i64 0, .int .i64 0, .int .i64 0, .int .i64 0, .bool false, .int .i64 0, .int .i64 0, .int .u64 0, .int .i64 0, .int .i64 0] 24)) (by kernel_rfl) ?_
     simp only [pu]
     refine gzs rfl (hst5) <| wn ?_
     have HR5 := Lib.hid (HRW.out.trans (hb5.mono HRW.out.size))
     obtain ⟨g11, hg11⟩ : ∃ g, wr.heap.size = g := ⟨_, rfl⟩
     rw [hg11] at hX11
     simp only [hg11]
     have hl11 := LX _ _ hX11
     clear hst5 hb5 hg11 hl37
     rcases h01 with h01 | h01
     ·skip
      rw [if_pos h01] at CF1 CR1
      obtain ⟨hpv, hsz⟩ := hback h01
      have CP := HQH.out.p sx hsz
      rw [hpv] at CP
      clear hback hpv hsz h01
      go_upto_region 7 with fail
      refine wl <| gzl rfl ⟨g11, 0, none⟩ (.agg CX) (hl11) <| gzc (.tuple #[.string sx, .int .i64 0]) (fun w' => Below V5.heap.size V5 w') (CF1 V5 (HB4.out.trans (HR5.out.mono HB4.out.size))) (fun V6 hb6 => ?_)
      simp only [pu]
      refine gz5 (.tuple #[.string sx, .int .i64 0]) (.string sx) (.int .i64 0) (.string sx) (.int .i64 0) <| wn ?_
      simp only [pu]
      have hX116 := hX11.below hX11.lt hb6
      have hl116 := LX _ _ hX116
      go_upto_region 8 with fail
      refine wl <| gzl rfl ⟨g11, 0, none⟩ (.agg CX) (hl116) <| gzc (.tuple #[.string sx, .int .i64 0]) (fun w' => Below V6.heap.size V6 w') (CR1 V6) (fun V7 hb7 => ?_)
      simp only [pu]
      refine gz5 (.tuple #[.string sx, .int .i64 0]) (.string sx) (.int .i64 0) (.string sx) (.int .i64 0) <| wn ?_
      simp only [pu]
      have hX117 := hX116.below hX116.lt hb7
      have h67 := hb6.trans (hb7.mono hb6.size)
      have HR7 := Lib.hid (HR5.out.trans (h67.mono HR5.out.size))
      clear hb6 hb7 h67 hX116 hl116 hl11 hX11 CF1 CR1
      go_upto_region 9 with fail
      refine wl <| gz2 (.string sx) (.string sx) <| gzb (neq_t rfl sx sx (decide_eq_false (fun h => h rfl))) <| gz3 (.bool false) (.int .i64 0) (.int .i64 0) <|
       gzb (neq_e rfl 0 0 (decide_eq_false (fun h => h rfl))) <| gz1 (.bool false) <| wn ?_
      simp only [pu]
      go_upto_region 11 with fail
      refine wl <| gz1 (.int .i64 0) <| gzb (eql_e rfl 0 0 (decide_eq_true rfl)) <| wn ?_
      simp only [pu]
      go_upto_region 12 with fail
      refine wl <| gz1 (.string sx) <| gzc (.tuple #[.agg CX, .int .i64 0, .int .i64 0]) (fun w' => Below V7.heap.size V7 w') (CP V7 (HB4.out.trans (HR7.out.mono HB4.out.size))) (fun V8 hb8 => ?_)
      obtain ⟨V9, hst9, hb9, hX16⟩ := NB V8
      simp only [pu]
      refine gz4 (.tuple #[.agg CX, .int .i64 0, .int .i64 0]) (.agg CX) (.int .i64 0) (.int .i64 0) ?_
      simp only [pu]
      refine run_to rfl (some 16) rfl (.pointer (some ⟨V8.heap.size, 0, none⟩)) (V8.alloc (.cells #[.int .i64 0, .int .i64 0, .int .i64 0, .int .i64 0, .int .i64 0, .int .i64 0, .bool false, .int .i64 0, .int .i64 0, .int .u64 0, .int .i64 0, .int .i64 0] 24)) (by kernel_rfl) ?_
      simp only [pu]
      refine gzs rfl (hst9) <| gz2 (.int .i64 0) (.int .i64 0) <| wn ?_
      simp only [pu]
      have hX118 := (hX117.below hX117.lt hb8).below (hX117.below hX117.lt hb8).lt hb9
      have h89 := hb8.trans (hb9.mono hb8.size)
      have HR9 := Lib.hid (HR7.out.trans (h89.mono HR7.out.size))
      obtain ⟨g16, hg16⟩ : ∃ g, V8.heap.size = g := ⟨_, rfl⟩
      rw [hg16] at hX16
      simp only [hg16]
      have hl16 := LX _ _ hX16
      have hl118 := LX _ _ hX118
      clear hst9 hb8 hb9 h89 hg16 hX117 CP
      go_upto_region 13 with fail
      refine wl <| gz1 (.int .i64 0) <| gzb (neq_e rfl 0 0 (decide_eq_false (fun h => h rfl))) <| gz2 (.bool false) (.int .i64 0) <| gzb (neq_n rfl 0 0 (decide_eq_false (fun h => h rfl))) <|
       gz2 (.bool false) (.bool false) <| gzl rfl ⟨g16, 0, none⟩ (.agg CX) (hl16) <| gzl rfl ⟨g11, 0, none⟩ (.agg CX) (hl118) <| gzv (.bool false) (NE _ _ _ _ rfl (by kernel_rfl) (by kernel_rfl) _) <| gz1 (.bool false) <| wn ?_
      simp only [pu]
      clear hl16 hl118 NE LX NB hX16 hX118
      go_upto_region 15 with fail
      refine wl <| gzv (.int .i64 (i + 1 : Nat)) (add_one rfl i (by omega) (by kernel_rfl) _) <| gz1 (.int .i64 (i + 1 : Nat)) <| wn ?_
      simp only [pu]
      go_wp2_with fail
      go_roundg (3 - (i + 1))
      case measure => have := HGK.out; omega
      case rel => exact ⟨i + 1, rfl, by omega, by omega, HR9⟩
     ·skip
      rw [if_neg (by omega)] at CF1 CR1
      clear hback
      go_upto_region 7 with fail
      refine wl <| gzl rfl ⟨g11, 0, none⟩ (.agg CX) (hl11) <| gzc (.tuple #[.string ⟨#[]⟩, .int .i64 1]) (fun w' => Below V5.heap.size V5 w') (CF1 V5 (HB4.out.trans (HR5.out.mono HB4.out.size))) (fun V6 hb6 => ?_)
      simp only [pu]
      refine gz5 (.tuple #[.string ⟨#[]⟩, .int .i64 1]) (.string ⟨#[]⟩) (.int .i64 1) (.string ⟨#[]⟩) (.int .i64 1) <| wn ?_
      simp only [pu]
      have hX116 := hX11.below hX11.lt hb6
      have hl116 := LX _ _ hX116
      go_upto_region 8 with fail
      refine wl <| gzl rfl ⟨g11, 0, none⟩ (.agg CX) (hl116) <| gzc (.tuple #[.string ⟨#[]⟩, .int .i64 1]) (fun w' => Below V6.heap.size V6 w') (CR1 V6) (fun V7 hb7 => ?_)
      simp only [pu]
      refine gz5 (.tuple #[.string ⟨#[]⟩, .int .i64 1]) (.string ⟨#[]⟩) (.int .i64 1) (.string ⟨#[]⟩) (.int .i64 1) <| wn ?_
      simp only [pu]
      have hX117 := hX116.below hX116.lt hb7
      have h67 := hb6.trans (hb7.mono hb6.size)
      have HR7 := Lib.hid (HR5.out.trans (h67.mono HR5.out.size))
      clear hb6 hb7 h67 hX116 hl116 hl11 hX11 CF1 CR1
      go_upto_region 9 with fail
      refine wl <| gz2 (.string ⟨#[]⟩) (.string ⟨#[]⟩) <| gzb (neq_t rfl ⟨#[]⟩ ⟨#[]⟩ (decide_eq_false (fun h => h rfl))) <| gz3 (.bool false) (.int .i64 1) (.int .i64 1) <|
       gzb (neq_e rfl 1 1 (decide_eq_false (fun h => h rfl))) <| gz1 (.bool false) <| wn ?_
      simp only [pu]
      go_upto_region 11 with fail
      refine wl <| gz1 (.int .i64 1) <| gzb (eql_e rfl 1 0 dF) <| wn ?_
      simp only [pu]
      clear NE LX NB hX117
      go_upto_region 15 with fail
      refine wl <| gzv (.int .i64 (i + 1 : Nat)) (add_one rfl i (by omega) (by kernel_rfl) _) <| gz1 (.int .i64 (i + 1 : Nat)) <| wn ?_
      simp only [pu]
      go_wp2_with fail
      go_roundg (3 - (i + 1))
      case measure => have := HGK.out; omega
      case rel => exact ⟨i + 1, rfl, by omega, by omega, HR7⟩
    ·skip
     obtain rfl : i = 3 := by omega
     go_upto_region 5 with fail
     refine wl <| gzb (lss_n rfl ((3 : Nat)) (3) dF) <| wn ?_
     simp only [pu]
     go_upto_region 16 with fail
     refine wl <| gzc (.bool true) (fun w' => Below wr.heap.size wr w') (known_true HQH.out wr (HB4.out.trans (HRW.out.mono HB4.out.size))) (fun V6 hb6 => ?_)
     simp only [pu]
     refine gz1 (.bool true) <| wn ?_
     simp only [pu]
     have HE := Lib.hid (HB4.out.trans ((HRW.out.trans (hb6.mono HRW.out.size)).mono HB4.out.size))
     go_wp2_with fail
     go_ret
     exact ⟨rfl, HE.out⟩
end Go.Proofs.YtplfineaomneiaaDoor
