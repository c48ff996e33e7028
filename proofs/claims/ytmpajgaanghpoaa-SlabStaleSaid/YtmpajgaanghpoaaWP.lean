/-
 The walk of SlabPlays.
-/
import Derived.Test.YtmpajgaanghpoaaLY
namespace Go.Proofs.Ytmpajgaanghpoaa
attribute [local irreducible] wpList wpQuiet
open Go.RowKit
set_option maxRecDepth 100000
set_option linter.unusedSimpArgs false
set_option linter.unusedVariables false

set_option maxRecDepth 100000 in
set_option maxHeartbeats 8000000 in
theorem plays_core (a : Option Addr) (c : Nat) (L : List Int) (w : World) (hl : L.length ≤ 9223372036854775807) (hr : Cs w a (icells L)) : Calls Try.prog 3 #[.slice a L.length c] w fun e w' => e = .returned (.bool true) ∧ Below w.heap.size w w' := by
 have HR := Lib.hid hr
 have HBW : Hid (Below w.heap.size w w) := Lib.hid (Below.refl _ w)
 clear hr
 go_enter Try.func3, Try.ntmps3
 go_upto_region 1 with fail
 have hbd := one_row a L.length c w
 have hXl : Bx (w.alloc (.cells #[.slice a L.length c] 22)) w.heap.size #[.slice a L.length c] 22 := heap_alloc_last w _
 have hbl : Below w.heap.size w (w.alloc (.cells #[.slice a L.length c] 22)) := (Below.refl _ w).alloc (Nat.le_refl _) _
 have CL := long_one w.heap.size a L.length c _ hXl hl
 generalize w.alloc (.cells #[.slice a L.length c] 22) = W1 at *
 have HB1 := Lib.hid (HBW.out.trans (hbl.mono HBW.out.size))
 have HBL := Lib.hid hbl
 clear hXl hbl
 by_cases hlong : 160 < L.length
 ·skip
  rw [decide_eq_true (by omega)] at CL
  refine wl <| gz1 (.slice a L.length c) ?_
  simp only [pu]
  refine gw_build (by kernel_rfl) (some 7) rfl 63 1 #[(0, .tmp 6)] rfl #[(0, .slice a L.length c)] (by kernel_rfl) (.slice (some ⟨w.heap.size, 0, none⟩) 1 1) _ hbd ?_
  simp only [pu]
  refine gzc (.bool true) (fun w' => W1 = w') (CL) (fun V9 hV9 => ?_)
  subst hV9
  simp only [pu]
  apply wpList_nil
  clear CL hbd
  have CK := known_true W1
  go_upto_region 2 with fail
  refine wl <| gzc (.bool true) (fun w' => Below W1.heap.size W1 w') (CK) (fun V2 hV2 => ?_)
  simp only [pu]
  refine gz1 (.bool true) <| wn ?_
  simp only [pu]
  have HE := HB1.out.trans (hV2.mono HB1.out.size)
  go_wp2_with fail
  go_ret
  exact ⟨rfl, HE⟩
 ·skip
  rw [decide_eq_false (by omega)] at CL
  refine wl <| gz1 (.slice a L.length c) ?_
  simp only [pu]
  refine gw_build (by kernel_rfl) (some 7) rfl 63 1 #[(0, .tmp 6)] rfl #[(0, .slice a L.length c)] (by kernel_rfl) (.slice (some ⟨w.heap.size, 0, none⟩) 1 1) _ hbd ?_
  simp only [pu]
  refine gzc (.bool false) (fun w' => W1 = w') (CL) (fun V9 hV9 => ?_)
  subst hV9
  simp only [pu]
  apply wpList_nil
  clear CL hbd
  have hlong : L.length ≤ 160 := by omega
  have CP := play_ok (c := c) (HR.out.below HBL.out) hlong
  go_upto_region 3 with fail
  refine wl <| gz1 (.slice a L.length c) <|
   gze (fun v w' => ∃ (g0 : Nat) (S : Nat → Prop) (m : Sm) (Lr : List (Pn × Ad)) (ap : Option Addr) (cp : Nat) (af : Option Addr) (cf : Nat), v = .tuple #[.pointer (some ⟨g0, 0, none⟩), .agg (rsA m.mo ap Lr.length cp af m.F.length cf), .bool true] ∧ RepS w' g0 S m ∧ Rm w' m Lr ap cp af cf ∧ Wm m 300 ∧ Below W1.heap.size W1 w') (CP.mono fun e w' z => by obtain ⟨g0, S, m, Lr, ap, cp, af, cf, z1, z2⟩ := z; exact ⟨_, z1, g0, S, m, Lr, ap, cp, af, cf, rfl, z2⟩) (fun vv V1 hq => ?_)
  obtain ⟨g0, S, m, Lr, ap, cp, af, cf, rfl, hrep, hrm, hwm, hbp⟩ := hq
  obtain ⟨V2, hst2, hb2, hX2⟩ := new_bx (c := (rsA 0 none 0 0 none 0 0)) (c' := rsA m.mo ap Lr.length cp af m.F.length cf) (ty := 28) V1 rfl (rs_one _ _ _ _ _ _ _) (by kernel_rfl)
  simp only [pu]
  refine gz4 (.tuple #[.pointer (some ⟨g0, 0, none⟩), .agg (rsA m.mo ap Lr.length cp af m.F.length cf), .bool true]) (.pointer (some ⟨g0, 0, none⟩)) (.agg (rsA m.mo ap Lr.length cp af m.F.length cf)) (.bool true) ?_
  simp only [pu]
  refine run_to rfl (some 4) rfl (.pointer (some ⟨V1.heap.size, 0, none⟩)) (V1.alloc (.cells (rsA 0 none 0 0 none 0 0) 28)) (by kernel_rfl) ?_
  simp only [pu]
  refine gz1 (.pointer (some ⟨g0, 0, none⟩)) <| gzs rfl (hst2) <| gz1 (.bool true) <| wn ?_
  simp only [pu]
  have HB2 := Lib.hid (HB1.out.trans ((hbp.trans (hb2.mono hbp.size)).mono HB1.out.size))
  obtain ⟨g4, hg4⟩ : ∃ g, V1.heap.size = g := ⟨_, rfl⟩
  rw [hg4]
  clear hst2 hb2 hX2 hbp hrep hrm hwm CP hg4
  have CK := known_true V2
  go_upto_region 4 with fail
  refine wl <| gz2 (.bool true) (.bool true) <| gzc (.bool true) (fun w' => Below V2.heap.size V2 w') (CK) (fun V3 hV3 => ?_)
  simp only [pu]
  refine gz2 (.bool true) (.bool true) <| wn ?_
  simp only [pu]
  have HE := HB2.out.trans (hV3.mono HB2.out.size)
  go_wp2_with fail
  go_ret
  exact ⟨rfl, HE⟩
end Go.Proofs.Ytmpajgaanghpoaa
