/-
 The walk of SenderPlays.
-/
import Derived.Test.YtjononjpoeobcaaPL
namespace Go.Proofs.Ytjononjpoeobcaa
attribute [local irreducible] wpList wpQuiet
open Go.RowKit
set_option maxRecDepth 100000
set_option linter.unusedSimpArgs false
set_option linter.unusedVariables false

set_option maxRecDepth 100000 in
set_option maxHeartbeats 8000000 in
theorem plays_core (a : Option Addr) (c : Nat) (L : List Int) (s1 : ByteArray) (w : World) (hl : L.length ≤ 9223372036854775807) (hr : Cs w a (icells L)) : Calls Try.prog 3 #[.slice a L.length c, .string s1] w fun e w' => e = .returned (.bool true) ∧ Below w.heap.size w w' := by
 have HR := Lib.hid hr
 clear hr
 go_enter Try.func3, Try.ntmps3
 go_upto_region 1 with fail
 have hbd := one_row a L.length c w
 have hXl : Bx (w.alloc (.cells #[.slice a L.length c] 22)) w.heap.size #[.slice a L.length c] 22 := heap_alloc_last w _
 have hbl : Below w.heap.size w (w.alloc (.cells #[.slice a L.length c] 22)) := (Below.refl _ w).alloc (Nat.le_refl _) _
 have CL := long_one w.heap.size a L.length c _ hXl hl
 generalize w.alloc (.cells #[.slice a L.length c] 22) = W1 at *
 have HB1 := Lib.hid hbl
 clear hXl hbl
 by_cases hlong : 160 < L.length
 ·skip
  rw [decide_eq_true (by omega)] at CL
  refine wl <| gz1 (.slice a L.length c) ?_
  simp only [pu]
  refine gw_build (by kernel_rfl) (some 9) rfl 48 1 #[(0, .tmp 8)] rfl #[(0, .slice a L.length c)] (by kernel_rfl) (.slice (some ⟨w.heap.size, 0, none⟩) 1 1) _ hbd ?_
  simp only [pu]
  refine gzc (.bool true) (fun w' => W1 = w') (CL) (fun V9 hV9 => ?_)
  subst hV9
  simp only [pu]
  refine gz5 (.bool true) undef undef undef (.bool true) <| wn ?_
  simp only [pu]
  clear CL hbd
  have CK := known_true W1
  go_upto_region 2 with fail
  refine wl <| gzc (.bool true) (fun w' => Below W1.heap.size W1 w') (CK) (fun V8 hV8 => ?_)
  simp only [pu]
  refine gz1 (.bool true) <| wn ?_
  simp only [pu]
  have HE := HB1.out.trans (hV8.mono HB1.out.size)
  go_wp2_with fail
  go_ret
  exact ⟨rfl, HE⟩
 ·skip
  rw [decide_eq_false (by omega)] at CL
  have hlong : L.length ≤ 160 := by omega
  by_cases hsz : 60 < s1.size
  ·skip
   refine wl <| gz1 (.slice a L.length c) ?_
   simp only [pu]
   refine gw_build (by kernel_rfl) (some 9) rfl 48 1 #[(0, .tmp 8)] rfl #[(0, .slice a L.length c)] (by kernel_rfl) (.slice (some ⟨w.heap.size, 0, none⟩) 1 1) _ hbd ?_
   simp only [pu]
   refine gzc (.bool false) (fun w' => W1 = w') (CL) (fun V9 hV9 => ?_)
   subst hV9
   simp only [pu]
   refine gz3 (.bool false) (.string s1) (.int .i64 s1.size) <| gzb (gtr_n rfl s1.size 60 dT) <| gz1 (.bool true) <| wn ?_
   simp only [pu]
   clear CL hbd
   have CK := known_true W1
   go_upto_region 2 with fail
   refine wl <| gzc (.bool true) (fun w' => Below W1.heap.size W1 w') (CK) (fun V8 hV8 => ?_)
   simp only [pu]
   refine gz1 (.bool true) <| wn ?_
   simp only [pu]
   have HE := HB1.out.trans (hV8.mono HB1.out.size)
   go_wp2_with fail
   go_ret
   exact ⟨rfl, HE⟩
  ·skip
   refine wl <| gz1 (.slice a L.length c) ?_
   simp only [pu]
   refine gw_build (by kernel_rfl) (some 9) rfl 48 1 #[(0, .tmp 8)] rfl #[(0, .slice a L.length c)] (by kernel_rfl) (.slice (some ⟨w.heap.size, 0, none⟩) 1 1) _ hbd ?_
   simp only [pu]
   refine gzc (.bool false) (fun w' => W1 = w') (CL) (fun V9 hV9 => ?_)
   subst hV9
   simp only [pu]
   refine gz3 (.bool false) (.string s1) (.int .i64 s1.size) <| gzb (gtr_n rfl s1.size 60 dF) <| gz1 (.bool false) <| wn ?_
   simp only [pu]
   clear CL hbd
   have CP := play_ok (c := c) (HR.out.below HB1.out) hlong s1 (by omega)
   go_upto_region 3 with fail
   refine wl <| gz2 (.slice a L.length c) (.string s1) <|
    gze (fun v w' => ∃ (g0 : Nat) (S : Nat → Prop) (m : List Rw) (al : Option Addr) (cm : Nat), v = .tuple #[.pointer (some ⟨g0, 0, none⟩), .slice al m.length cm, .bool true] ∧ RepI w' g0 S m ∧ (∀ k, S k → W1.heap.size ≤ k) ∧ Cs w' al (rwcs m) ∧ m.length ≤ cm ∧ (∀ k, rb al (rwcs m) k → ¬ S k) ∧ PlQ m 200 ∧ Below W1.heap.size W1 w') (CP.mono fun e w' z => by obtain ⟨g0, S, m, al, cm, z1, z2⟩ := z; exact ⟨_, z1, g0, S, m, al, cm, rfl, z2⟩) (fun vv V1 hq => ?_)
   obtain ⟨g0, S, m, al, cm, rfl, hrep, hso, hrw, hrl, hro, hqm, hbp⟩ := hq
   have HREP := Lib.hid hrep
   have HRW := Lib.hid hrw
   have HQM := Lib.hid hqm
   have HRO := Lib.hid hro
   have HRL := Lib.hid hrl
   have HB2 := Lib.hid (HB1.out.trans (hbp.mono HB1.out.size))
   have HSO : Hid (∀ k, S k → w.heap.size ≤ k) := Lib.hid fun k hk => Nat.le_trans HB1.out.size (hso k hk)
   have HLM : Hid (m.length ≤ 200) := Lib.hid hqm.ln
   obtain ⟨ml, hml⟩ : ∃ j, m.length = j := ⟨_, rfl⟩
   have HML := Lib.hid hml
   rw [hml]
   clear hrep hso hrw hrl hro hqm hbp CP hml HR HB1
   simp only [pu]
   refine gz6 (.tuple #[.pointer (some ⟨g0, 0, none⟩), .slice al ml cm, .bool true]) (.pointer (some ⟨g0, 0, none⟩)) (.slice al ml cm) (.bool true) (.pointer (some ⟨g0, 0, none⟩)) (.slice al ml cm) <| gz1 (.bool true) <| wn ?_
   simp only [pu]
   have CLN := q_len HREP.out
   rw [HML.out] at CLN
   have CK := known_true V1
   go_upto_region 4 with fail
   refine wl <| gz3 (.bool true) (.bool true) (.pointer (some ⟨g0, 0, none⟩)) <| gzc (.int .i64 ml) (fun w' => V1 = w') (CLN) (fun V9 hV9 => ?_)
   subst hV9
   simp only [pu]
   refine gz2 (.slice al ml cm) (.int .i64 ml) <| gzb (eql_nn rfl ml ml (decide_eq_true rfl)) <| gz2 (.bool true) (.bool true) <| gzc (.bool true) (fun w' => Below V1.heap.size V1 w') (CK) (fun V3 hV3 => ?_)
   simp only [pu]
   refine gz2 (.bool true) (.bool true) <| wn ?_
   simp only [pu]
   have HE := HB2.out.trans (hV3.mono HB2.out.size)
   go_wp2_with fail
   go_ret
   exact ⟨rfl, HE⟩
end Go.Proofs.Ytjononjpoeobcaa
