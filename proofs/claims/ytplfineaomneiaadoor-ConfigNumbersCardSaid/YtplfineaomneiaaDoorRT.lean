/-
 The reference's Default, with, space, index: contracts.
-/
import Derived.Test.YtplfineaomneiaaDoorRS
namespace Go.Proofs.YtplfineaomneiaaDoor
open Go.RowKit
set_option maxRecDepth 100000
set_option linter.unusedSimpArgs false
set_option linter.unusedVariables false

theorem load_Cr {w : World} {g k : Nat} {x0 x1 x2 x3 x4 x5 x7 x8 x9 x10 x11 : Int} {q : Bool} (h : Bx w g #[.int .i64 x0, .int .i64 x1, .int .i64 x2, .int .i64 x3, .int .i64 x4, .int .i64 x5, .bool q, .int .i64 x7, .int .i64 x8, .int .u64 x9, .int .i64 x10, .int .i64 x11] k) : (Instr.loadAt 24 (.pointer (some ⟨g, 0, none⟩))).run Tryd.prog w = .ok (.agg #[.int .i64 x0, .int .i64 x1, .int .i64 x2, .int .i64 x3, .int .i64 x4, .int .i64 x5, .bool q, .int .i64 x7, .int .i64 x8, .int .u64 x9, .int .i64 x10, .int .i64 x11]) w := run_loadAt_mid w g 0 24 (#[.int .i64 x0, .int .i64 x1, .int .i64 x2, .int .i64 x3, .int .i64 x4, .int .i64 x5, .bool q, .int .i64 x7, .int .i64 x8, .int .u64 x9, .int .i64 x10, .int .i64 x11] : Array Value).toList _ (bx_range (cs := (#[.int .i64 x0, .int .i64 x1, .int .i64 x2, .int .i64 x3, .int .i64 x4, .int .i64 x5, .bool q, .int .i64 x7, .int .i64 x8, .int .u64 x9, .int .i64 x10, .int .i64 x11] : Array Value).toList) h) Tryd.underlying24 rfl (by kernel_rfl)
set_option maxRecDepth 100000 in
set_option maxHeartbeats 8000000 in
theorem r_default (w : World) : Calls Tryd.prog 15 #[] w fun e w' => e = .returned (.agg (cfA dfltL)) ∧ Below w.heap.size w w' := by
 obtain ⟨V2, hst, hb, hY⟩ := new_bx (c := #[.int .i64 0, .int .i64 0, .int .i64 0, .int .i64 0, .int .i64 0, .int .i64 0, .bool false, .int .i64 0, .int .i64 0, .int .u64 0, .int .i64 0, .int .i64 0]) (c' := #[.int .i64 100, .int .i64 65536, .int .i64 1024, .int .i64 200, .int .i64 0, .int .i64 0, .bool false, .int .i64 32768, .int .i64 (-1), .int .u64 1, .int .i64 0, .int .i64 1]) (ty := 24) w rfl (by kernel_rfl) (by kernel_rfl)
 have HLD := Lib.hid (load_Cr hY)
 have HE := Lib.hid hb
 clear hb hY
 go_enter Tryd.func15, Tryd.ntmps15
 go_upto_region 1 with fail
 change Code.wp _ _ _ _ (w.alloc (.cells #[.int .i64 0, .int .i64 0, .int .i64 0, .int .i64 0, .int .i64 0, .int .i64 0, .bool false, .int .i64 0, .int .i64 0, .int .u64 0, .int .i64 0, .int .i64 0] 24))
 generalize w.alloc (.cells #[.int .i64 0, .int .i64 0, .int .i64 0, .int .i64 0, .int .i64 0, .int .i64 0, .bool false, .int .i64 0, .int .i64 0, .int .u64 0, .int .i64 0, .int .i64 0] 24) = W at *
 obtain ⟨g0, hg0⟩ : ∃ g, w.heap.size = g := ⟨_, rfl⟩
 simp only [hg0] at hst HLD ⊢
 refine wl <| gz1 (.agg #[.int .i64 100, .int .i64 65536, .int .i64 1024, .int .i64 200, .int .i64 0, .int .i64 0, .bool false, .int .i64 32768, .int .i64 (-1), .int .u64 1, .int .i64 0, .int .i64 1]) <| gzs rfl (hst) <| wn ?_
 simp only [pu]
 go_wp2_with fail
 exact bodyPost_ret (results_1c rfl (by kernel_rfl) HLD.out) rfl ⟨rfl, HE.out⟩
set_option maxRecDepth 100000 in
set_option maxHeartbeats 8000000 in
theorem r_with_raw (x0 x1 x2 x3 x4 x5 x7 x8 x9 x10 x11 : Int) (q : Bool) (i : Nat) (hi : i < 12) (h9 : i ≠ 9) (n : Int) (w : World) : Calls Tryd.prog 70 #[.agg #[.int .i64 x0, .int .i64 x1, .int .i64 x2, .int .i64 x3, .int .i64 x4, .int .i64 x5, .bool q, .int .i64 x7, .int .i64 x8, .int .u64 x9, .int .i64 x10, .int .i64 x11], .int .i64 i, .int .i64 n] w fun e w' => e = .returned (.agg ((#[.int .i64 x0, .int .i64 x1, .int .i64 x2, .int .i64 x3, .int .i64 x4, .int .i64 x5, .bool q, .int .i64 x7, .int .i64 x8, .int .u64 x9, .int .i64 x10, .int .i64 x11] : Array Value).setIfInBounds i (if i = 6 then .bool (decide (n = 1)) else .int .i64 n))) ∧ Below w.heap.size w w' := by
 go_enter Tryd.func70, Tryd.ntmps70
 go_upto_region 1 with fail
 change Code.wp _ _ _ _ ((w.alloc (.cells #[.int .i64 x0, .int .i64 x1, .int .i64 x2, .int .i64 x3, .int .i64 x4, .int .i64 x5, .bool q, .int .i64 x7, .int .i64 x8, .int .u64 x9, .int .i64 x10, .int .i64 x11] 24)).alloc (.cells #[.int .i64 0, .int .i64 0, .int .i64 0, .int .i64 0, .int .i64 0, .int .i64 0, .bool false, .int .i64 0, .int .i64 0, .int .u64 0, .int .i64 0, .int .i64 0] 24))
 have hb_0 : Below w.heap.size w (w.alloc (.cells #[.int .i64 x0, .int .i64 x1, .int .i64 x2, .int .i64 x3, .int .i64 x4, .int .i64 x5, .bool q, .int .i64 x7, .int .i64 x8, .int .u64 x9, .int .i64 x10, .int .i64 x11] 24)) := (Below.refl _ w).alloc (Nat.le_refl _) _
 have hX3 : Bx (w.alloc (.cells #[.int .i64 x0, .int .i64 x1, .int .i64 x2, .int .i64 x3, .int .i64 x4, .int .i64 x5, .bool q, .int .i64 x7, .int .i64 x8, .int .u64 x9, .int .i64 x10, .int .i64 x11] 24)) w.heap.size #[.int .i64 x0, .int .i64 x1, .int .i64 x2, .int .i64 x3, .int .i64 x4, .int .i64 x5, .bool q, .int .i64 x7, .int .i64 x8, .int .u64 x9, .int .i64 x10, .int .i64 x11] 24 := heap_alloc_last w _
 have hs_0 : (w.alloc (.cells #[.int .i64 x0, .int .i64 x1, .int .i64 x2, .int .i64 x3, .int .i64 x4, .int .i64 x5, .bool q, .int .i64 x7, .int .i64 x8, .int .u64 x9, .int .i64 x10, .int .i64 x11] 24)).heap.size = w.heap.size + 1 := by simp
 generalize w.alloc (.cells #[.int .i64 x0, .int .i64 x1, .int .i64 x2, .int .i64 x3, .int .i64 x4, .int .i64 x5, .bool q, .int .i64 x7, .int .i64 x8, .int .u64 x9, .int .i64 x10, .int .i64 x11] 24) = W0_ at *
 have hb_1 : Below w.heap.size w (W0_.alloc (.cells #[.int .i64 0, .int .i64 0, .int .i64 0, .int .i64 0, .int .i64 0, .int .i64 0, .bool false, .int .i64 0, .int .i64 0, .int .u64 0, .int .i64 0, .int .i64 0] 24)) := hb_0.alloc hb_0.size _
 have hX3 := hX3.below hX3.lt ((Below.refl _ W0_).alloc (Nat.le_refl _) (.cells #[.int .i64 0, .int .i64 0, .int .i64 0, .int .i64 0, .int .i64 0, .int .i64 0, .bool false, .int .i64 0, .int .i64 0, .int .u64 0, .int .i64 0, .int .i64 0] 24))
 have hX6 : Bx (W0_.alloc (.cells #[.int .i64 0, .int .i64 0, .int .i64 0, .int .i64 0, .int .i64 0, .int .i64 0, .bool false, .int .i64 0, .int .i64 0, .int .u64 0, .int .i64 0, .int .i64 0] 24)) W0_.heap.size #[.int .i64 0, .int .i64 0, .int .i64 0, .int .i64 0, .int .i64 0, .int .i64 0, .bool false, .int .i64 0, .int .i64 0, .int .u64 0, .int .i64 0, .int .i64 0] 24 := heap_alloc_last W0_ _
 have hs_1 : (W0_.alloc (.cells #[.int .i64 0, .int .i64 0, .int .i64 0, .int .i64 0, .int .i64 0, .int .i64 0, .bool false, .int .i64 0, .int .i64 0, .int .u64 0, .int .i64 0, .int .i64 0] 24)).heap.size = W0_.heap.size + 1 := by simp
 generalize W0_.alloc (.cells #[.int .i64 0, .int .i64 0, .int .i64 0, .int .i64 0, .int .i64 0, .int .i64 0, .bool false, .int .i64 0, .int .i64 0, .int .u64 0, .int .i64 0, .int .i64 0] 24) = W at *
 obtain ⟨g3, hg3⟩ : ∃ g, w.heap.size = g := ⟨_, rfl⟩
 rw [hg3] at hX3
 obtain ⟨g6, hg6⟩ : ∃ g, W0_.heap.size = g := ⟨_, rfl⟩
 rw [hg6] at hX6
 have hq1 : w.heap.size + 1 = g6 := by omega
 have HGE : Hid (g3 = w.heap.size + 0 ∧ g6 = w.heap.size + 1 ∧ W.heap.size = w.heap.size + 2) := Lib.hid ⟨by omega, by omega, by omega⟩
 have HB := Lib.hid hb_1
 simp only [hg3]
 try simp only [show g3 + 1 = g6 by omega]
 clear hb_0 hs_0 hg3 hb_1 hs_1 hg6 hq1
 refine wl <| gz1 (.int .i64 i) <| wn ?_
 simp only [pu]
 by_cases hk0 : i = 0
 ·skip
  go_upto_region 2 with fail
  refine wl <| gzb (eql_nn rfl i 0 (decide_eq_true hk0)) <| gz1 (.bool true) <| wn ?_
  simp only [pu]
  obtain ⟨V1, hst1, hY3, hbt1⟩ := st_fld (i := 0) (v := .int .i64 n) (ty := 3) #[.int .i64 n, .int .i64 x1, .int .i64 x2, .int .i64 x3, .int .i64 x4, .int .i64 x5, .bool q, .int .i64 x7, .int .i64 x8, .int .u64 x9, .int .i64 x10, .int .i64 x11] hX3 (by simp) rfl rfl (by kernel_rfl)
  have hX6b := hX6.but hbt1 (by have := HGE.out; omega)
  obtain ⟨V2, hst2, hY6, hbt2⟩ := st_all (cs' := #[.int .i64 n, .int .i64 x1, .int .i64 x2, .int .i64 x3, .int .i64 x4, .int .i64 x5, .bool q, .int .i64 x7, .int .i64 x8, .int .u64 x9, .int .i64 x10, .int .i64 x11]) (ty := 24) hX6b rfl (by kernel_rfl) (by kernel_rfl)
  have HLD := Lib.hid (load_Cr hY6)
  have hl3 := load_Cr hY3
  have HE : Hid (Below w.heap.size w V2) := Lib.hid ((HB.out.trans (hbt1.1.mono (by have := HGE.out; omega))).trans (hbt2.1.mono (by have := HGE.out; omega)))
  clear hX3 hX6 hX6b hY3 hY6 hbt1 hbt2
  go_upto_region 3 with fail
  refine wl <| gz2 (.int .i64 n) (.pointer (some ⟨g3, 0, none⟩)) <| gzs rfl (hst1) <| wn ?_
  simp only [pu]
  go_upto_region 24 with fail
  refine wl <| gzl rfl ⟨g3, 0, none⟩ (.agg #[.int .i64 n, .int .i64 x1, .int .i64 x2, .int .i64 x3, .int .i64 x4, .int .i64 x5, .bool q, .int .i64 x7, .int .i64 x8, .int .u64 x9, .int .i64 x10, .int .i64 x11]) (hl3) <| gzs rfl (hst2) <| wn ?_
  simp only [pu]
  go_wp2_with fail
  exact bodyPost_ret (results_1c (p := 6) rfl (by kernel_rfl) HLD.out) rfl ⟨rfl, HE.out⟩
 ·skip
  go_upto_region 2 with fail
  refine wl <| gzb (eql_nn rfl i 0 (decide_eq_false hk0)) <| gz1 (.bool false) <| wn ?_
  simp only [pu]
  by_cases hk1 : i = 1
  ·skip
   go_upto_region 4 with fail
   refine wl <| gzb (eql_nn rfl i 1 (decide_eq_true hk1)) <| gz1 (.bool true) <| wn ?_
   simp only [pu]
   obtain ⟨V1, hst1, hY3, hbt1⟩ := st_fld (i := 1) (v := .int .i64 n) (ty := 3) #[.int .i64 x0, .int .i64 n, .int .i64 x2, .int .i64 x3, .int .i64 x4, .int .i64 x5, .bool q, .int .i64 x7, .int .i64 x8, .int .u64 x9, .int .i64 x10, .int .i64 x11] hX3 (by simp) rfl rfl (by kernel_rfl)
   have hX6b := hX6.but hbt1 (by have := HGE.out; omega)
   obtain ⟨V2, hst2, hY6, hbt2⟩ := st_all (cs' := #[.int .i64 x0, .int .i64 n, .int .i64 x2, .int .i64 x3, .int .i64 x4, .int .i64 x5, .bool q, .int .i64 x7, .int .i64 x8, .int .u64 x9, .int .i64 x10, .int .i64 x11]) (ty := 24) hX6b rfl (by kernel_rfl) (by kernel_rfl)
   have HLD := Lib.hid (load_Cr hY6)
   have hl3 := load_Cr hY3
   have HE : Hid (Below w.heap.size w V2) := Lib.hid ((HB.out.trans (hbt1.1.mono (by have := HGE.out; omega))).trans (hbt2.1.mono (by have := HGE.out; omega)))
   clear hX3 hX6 hX6b hY3 hY6 hbt1 hbt2
   go_upto_region 5 with fail
   refine wl <| gz2 (.int .i64 n) (.pointer (some ⟨g3, 1, none⟩)) <| gzs rfl (hst1) <| wn ?_
   simp only [pu]
   go_upto_region 24 with fail
   refine wl <| gzl rfl ⟨g3, 0, none⟩ (.agg #[.int .i64 x0, .int .i64 n, .int .i64 x2, .int .i64 x3, .int .i64 x4, .int .i64 x5, .bool q, .int .i64 x7, .int .i64 x8, .int .u64 x9, .int .i64 x10, .int .i64 x11]) (hl3) <| gzs rfl (hst2) <| wn ?_
   simp only [pu]
   go_wp2_with fail
   exact bodyPost_ret (results_1c (p := 6) rfl (by kernel_rfl) HLD.out) rfl ⟨rfl, HE.out⟩
  ·skip
   go_upto_region 4 with fail
   refine wl <| gzb (eql_nn rfl i 1 (decide_eq_false hk1)) <| gz1 (.bool false) <| wn ?_
   simp only [pu]
   by_cases hk2 : i = 2
   ·skip
    go_upto_region 6 with fail
    refine wl <| gzb (eql_nn rfl i 2 (decide_eq_true hk2)) <| gz1 (.bool true) <| wn ?_
    simp only [pu]
    obtain ⟨V1, hst1, hY3, hbt1⟩ := st_fld (i := 2) (v := .int .i64 n) (ty := 3) #[.int .i64 x0, .int .i64 x1, .int .i64 n, .int .i64 x3, .int .i64 x4, .int .i64 x5, .bool q, .int .i64 x7, .int .i64 x8, .int .u64 x9, .int .i64 x10, .int .i64 x11] hX3 (by simp) rfl rfl (by kernel_rfl)
    have hX6b := hX6.but hbt1 (by have := HGE.out; omega)
    obtain ⟨V2, hst2, hY6, hbt2⟩ := st_all (cs' := #[.int .i64 x0, .int .i64 x1, .int .i64 n, .int .i64 x3, .int .i64 x4, .int .i64 x5, .bool q, .int .i64 x7, .int .i64 x8, .int .u64 x9, .int .i64 x10, .int .i64 x11]) (ty := 24) hX6b rfl (by kernel_rfl) (by kernel_rfl)
    have HLD := Lib.hid (load_Cr hY6)
    have hl3 := load_Cr hY3
    have HE : Hid (Below w.heap.size w V2) := Lib.hid ((HB.out.trans (hbt1.1.mono (by have := HGE.out; omega))).trans (hbt2.1.mono (by have := HGE.out; omega)))
    clear hX3 hX6 hX6b hY3 hY6 hbt1 hbt2
    go_upto_region 7 with fail
    refine wl <| gz2 (.int .i64 n) (.pointer (some ⟨g3, 2, none⟩)) <| gzs rfl (hst1) <| wn ?_
    simp only [pu]
    go_upto_region 24 with fail
    refine wl <| gzl rfl ⟨g3, 0, none⟩ (.agg #[.int .i64 x0, .int .i64 x1, .int .i64 n, .int .i64 x3, .int .i64 x4, .int .i64 x5, .bool q, .int .i64 x7, .int .i64 x8, .int .u64 x9, .int .i64 x10, .int .i64 x11]) (hl3) <| gzs rfl (hst2) <| wn ?_
    simp only [pu]
    go_wp2_with fail
    exact bodyPost_ret (results_1c (p := 6) rfl (by kernel_rfl) HLD.out) rfl ⟨rfl, HE.out⟩
   ·skip
    go_upto_region 6 with fail
    refine wl <| gzb (eql_nn rfl i 2 (decide_eq_false hk2)) <| gz1 (.bool false) <| wn ?_
    simp only [pu]
    by_cases hk3 : i = 3
    ·skip
     go_upto_region 8 with fail
     refine wl <| gzb (eql_nn rfl i 3 (decide_eq_true hk3)) <| gz1 (.bool true) <| wn ?_
     simp only [pu]
     obtain ⟨V1, hst1, hY3, hbt1⟩ := st_fld (i := 3) (v := .int .i64 n) (ty := 3) #[.int .i64 x0, .int .i64 x1, .int .i64 x2, .int .i64 n, .int .i64 x4, .int .i64 x5, .bool q, .int .i64 x7, .int .i64 x8, .int .u64 x9, .int .i64 x10, .int .i64 x11] hX3 (by simp) rfl rfl (by kernel_rfl)
     have hX6b := hX6.but hbt1 (by have := HGE.out; omega)
     obtain ⟨V2, hst2, hY6, hbt2⟩ := st_all (cs' := #[.int .i64 x0, .int .i64 x1, .int .i64 x2, .int .i64 n, .int .i64 x4, .int .i64 x5, .bool q, .int .i64 x7, .int .i64 x8, .int .u64 x9, .int .i64 x10, .int .i64 x11]) (ty := 24) hX6b rfl (by kernel_rfl) (by kernel_rfl)
     have HLD := Lib.hid (load_Cr hY6)
     have hl3 := load_Cr hY3
     have HE : Hid (Below w.heap.size w V2) := Lib.hid ((HB.out.trans (hbt1.1.mono (by have := HGE.out; omega))).trans (hbt2.1.mono (by have := HGE.out; omega)))
     clear hX3 hX6 hX6b hY3 hY6 hbt1 hbt2
     go_upto_region 9 with fail
     refine wl <| gz2 (.int .i64 n) (.pointer (some ⟨g3, 3, none⟩)) <| gzs rfl (hst1) <| wn ?_
     simp only [pu]
     go_upto_region 24 with fail
     refine wl <| gzl rfl ⟨g3, 0, none⟩ (.agg #[.int .i64 x0, .int .i64 x1, .int .i64 x2, .int .i64 n, .int .i64 x4, .int .i64 x5, .bool q, .int .i64 x7, .int .i64 x8, .int .u64 x9, .int .i64 x10, .int .i64 x11]) (hl3) <| gzs rfl (hst2) <| wn ?_
     simp only [pu]
     go_wp2_with fail
     exact bodyPost_ret (results_1c (p := 6) rfl (by kernel_rfl) HLD.out) rfl ⟨rfl, HE.out⟩
    ·skip
     go_upto_region 8 with fail
     refine wl <| gzb (eql_nn rfl i 3 (decide_eq_false hk3)) <| gz1 (.bool false) <| wn ?_
     simp only [pu]
     by_cases hk4 : i = 4
     ·skip
      go_upto_region 10 with fail
      refine wl <| gzb (eql_nn rfl i 4 (decide_eq_true hk4)) <| gz1 (.bool true) <| wn ?_
      simp only [pu]
      obtain ⟨V1, hst1, hY3, hbt1⟩ := st_fld (i := 4) (v := .int .i64 n) (ty := 3) #[.int .i64 x0, .int .i64 x1, .int .i64 x2, .int .i64 x3, .int .i64 n, .int .i64 x5, .bool q, .int .i64 x7, .int .i64 x8, .int .u64 x9, .int .i64 x10, .int .i64 x11] hX3 (by simp) rfl rfl (by kernel_rfl)
      have hX6b := hX6.but hbt1 (by have := HGE.out; omega)
      obtain ⟨V2, hst2, hY6, hbt2⟩ := st_all (cs' := #[.int .i64 x0, .int .i64 x1, .int .i64 x2, .int .i64 x3, .int .i64 n, .int .i64 x5, .bool q, .int .i64 x7, .int .i64 x8, .int .u64 x9, .int .i64 x10, .int .i64 x11]) (ty := 24) hX6b rfl (by kernel_rfl) (by kernel_rfl)
      have HLD := Lib.hid (load_Cr hY6)
      have hl3 := load_Cr hY3
      have HE : Hid (Below w.heap.size w V2) := Lib.hid ((HB.out.trans (hbt1.1.mono (by have := HGE.out; omega))).trans (hbt2.1.mono (by have := HGE.out; omega)))
      clear hX3 hX6 hX6b hY3 hY6 hbt1 hbt2
      go_upto_region 11 with fail
      refine wl <| gz2 (.int .i64 n) (.pointer (some ⟨g3, 4, none⟩)) <| gzs rfl (hst1) <| wn ?_
      simp only [pu]
      go_upto_region 24 with fail
      refine wl <| gzl rfl ⟨g3, 0, none⟩ (.agg #[.int .i64 x0, .int .i64 x1, .int .i64 x2, .int .i64 x3, .int .i64 n, .int .i64 x5, .bool q, .int .i64 x7, .int .i64 x8, .int .u64 x9, .int .i64 x10, .int .i64 x11]) (hl3) <| gzs rfl (hst2) <| wn ?_
      simp only [pu]
      go_wp2_with fail
      exact bodyPost_ret (results_1c (p := 6) rfl (by kernel_rfl) HLD.out) rfl ⟨rfl, HE.out⟩
     ·skip
      go_upto_region 10 with fail
      refine wl <| gzb (eql_nn rfl i 4 (decide_eq_false hk4)) <| gz1 (.bool false) <| wn ?_
      simp only [pu]
      by_cases hk5 : i = 5
      ·skip
       go_upto_region 12 with fail
       refine wl <| gzb (eql_nn rfl i 5 (decide_eq_true hk5)) <| gz1 (.bool true) <| wn ?_
       simp only [pu]
       obtain ⟨V1, hst1, hY3, hbt1⟩ := st_fld (i := 5) (v := .int .i64 n) (ty := 3) #[.int .i64 x0, .int .i64 x1, .int .i64 x2, .int .i64 x3, .int .i64 x4, .int .i64 n, .bool q, .int .i64 x7, .int .i64 x8, .int .u64 x9, .int .i64 x10, .int .i64 x11] hX3 (by simp) rfl rfl (by kernel_rfl)
       have hX6b := hX6.but hbt1 (by have := HGE.out; omega)
       obtain ⟨V2, hst2, hY6, hbt2⟩ := st_all (cs' := #[.int .i64 x0, .int .i64 x1, .int .i64 x2, .int .i64 x3, .int .i64 x4, .int .i64 n, .bool q, .int .i64 x7, .int .i64 x8, .int .u64 x9, .int .i64 x10, .int .i64 x11]) (ty := 24) hX6b rfl (by kernel_rfl) (by kernel_rfl)
       have HLD := Lib.hid (load_Cr hY6)
       have hl3 := load_Cr hY3
       have HE : Hid (Below w.heap.size w V2) := Lib.hid ((HB.out.trans (hbt1.1.mono (by have := HGE.out; omega))).trans (hbt2.1.mono (by have := HGE.out; omega)))
       clear hX3 hX6 hX6b hY3 hY6 hbt1 hbt2
       go_upto_region 13 with fail
       refine wl <| gz2 (.int .i64 n) (.pointer (some ⟨g3, 5, none⟩)) <| gzs rfl (hst1) <| wn ?_
       simp only [pu]
       go_upto_region 24 with fail
       refine wl <| gzl rfl ⟨g3, 0, none⟩ (.agg #[.int .i64 x0, .int .i64 x1, .int .i64 x2, .int .i64 x3, .int .i64 x4, .int .i64 n, .bool q, .int .i64 x7, .int .i64 x8, .int .u64 x9, .int .i64 x10, .int .i64 x11]) (hl3) <| gzs rfl (hst2) <| wn ?_
       simp only [pu]
       go_wp2_with fail
       exact bodyPost_ret (results_1c (p := 6) rfl (by kernel_rfl) HLD.out) rfl ⟨rfl, HE.out⟩
      ·skip
       go_upto_region 12 with fail
       refine wl <| gzb (eql_nn rfl i 5 (decide_eq_false hk5)) <| gz1 (.bool false) <| wn ?_
       simp only [pu]
       by_cases hk6 : i = 6
       ·skip
        go_upto_region 14 with fail
        refine wl <| gzb (eql_nn rfl i 6 (decide_eq_true hk6)) <| gz1 (.bool true) <| wn ?_
        simp only [pu]
        obtain ⟨V1, hst1, hY3, hbt1⟩ := st_fld (i := 6) (v := .bool (decide (n = 1))) (ty := 4) #[.int .i64 x0, .int .i64 x1, .int .i64 x2, .int .i64 x3, .int .i64 x4, .int .i64 x5, .bool (decide (n = 1)), .int .i64 x7, .int .i64 x8, .int .u64 x9, .int .i64 x10, .int .i64 x11] hX3 (by simp) rfl rfl (by kernel_rfl)
        have hX6b := hX6.but hbt1 (by have := HGE.out; omega)
        obtain ⟨V2, hst2, hY6, hbt2⟩ := st_all (cs' := #[.int .i64 x0, .int .i64 x1, .int .i64 x2, .int .i64 x3, .int .i64 x4, .int .i64 x5, .bool (decide (n = 1)), .int .i64 x7, .int .i64 x8, .int .u64 x9, .int .i64 x10, .int .i64 x11]) (ty := 24) hX6b rfl (by kernel_rfl) (by kernel_rfl)
        have HLD := Lib.hid (load_Cr hY6)
        have hl3 := load_Cr hY3
        have HE : Hid (Below w.heap.size w V2) := Lib.hid ((HB.out.trans (hbt1.1.mono (by have := HGE.out; omega))).trans (hbt2.1.mono (by have := HGE.out; omega)))
        clear hX3 hX6 hX6b hY3 hY6 hbt1 hbt2
        go_upto_region 15 with fail
        refine wl <| gz1 (.int .i64 n) <| gzw (.bool (decide (n = 1))) (eql_n rfl n 1 rfl) <| gz1 (.pointer (some ⟨g3, 6, none⟩)) <| gzs rfl (hst1) <| wn ?_
        simp only [pu]
        go_upto_region 24 with fail
        refine wl <| gzl rfl ⟨g3, 0, none⟩ (.agg #[.int .i64 x0, .int .i64 x1, .int .i64 x2, .int .i64 x3, .int .i64 x4, .int .i64 x5, .bool (decide (n = 1)), .int .i64 x7, .int .i64 x8, .int .u64 x9, .int .i64 x10, .int .i64 x11]) (hl3) <| gzs rfl (hst2) <| wn ?_
        simp only [pu]
        go_wp2_with fail
        exact bodyPost_ret (results_1c (p := 6) rfl (by kernel_rfl) HLD.out) rfl ⟨rfl, HE.out⟩
       ·skip
        go_upto_region 14 with fail
        refine wl <| gzb (eql_nn rfl i 6 (decide_eq_false hk6)) <| gz1 (.bool false) <| wn ?_
        simp only [pu]
        by_cases hk7 : i = 7
        ·skip
         go_upto_region 16 with fail
         refine wl <| gzb (eql_nn rfl i 7 (decide_eq_true hk7)) <| gz1 (.bool true) <| wn ?_
         simp only [pu]
         obtain ⟨V1, hst1, hY3, hbt1⟩ := st_fld (i := 7) (v := .int .i64 n) (ty := 3) #[.int .i64 x0, .int .i64 x1, .int .i64 x2, .int .i64 x3, .int .i64 x4, .int .i64 x5, .bool q, .int .i64 n, .int .i64 x8, .int .u64 x9, .int .i64 x10, .int .i64 x11] hX3 (by simp) rfl rfl (by kernel_rfl)
         have hX6b := hX6.but hbt1 (by have := HGE.out; omega)
         obtain ⟨V2, hst2, hY6, hbt2⟩ := st_all (cs' := #[.int .i64 x0, .int .i64 x1, .int .i64 x2, .int .i64 x3, .int .i64 x4, .int .i64 x5, .bool q, .int .i64 n, .int .i64 x8, .int .u64 x9, .int .i64 x10, .int .i64 x11]) (ty := 24) hX6b rfl (by kernel_rfl) (by kernel_rfl)
         have HLD := Lib.hid (load_Cr hY6)
         have hl3 := load_Cr hY3
         have HE : Hid (Below w.heap.size w V2) := Lib.hid ((HB.out.trans (hbt1.1.mono (by have := HGE.out; omega))).trans (hbt2.1.mono (by have := HGE.out; omega)))
         clear hX3 hX6 hX6b hY3 hY6 hbt1 hbt2
         go_upto_region 17 with fail
         refine wl <| gz2 (.int .i64 n) (.pointer (some ⟨g3, 7, none⟩)) <| gzs rfl (hst1) <| wn ?_
         simp only [pu]
         go_upto_region 24 with fail
         refine wl <| gzl rfl ⟨g3, 0, none⟩ (.agg #[.int .i64 x0, .int .i64 x1, .int .i64 x2, .int .i64 x3, .int .i64 x4, .int .i64 x5, .bool q, .int .i64 n, .int .i64 x8, .int .u64 x9, .int .i64 x10, .int .i64 x11]) (hl3) <| gzs rfl (hst2) <| wn ?_
         simp only [pu]
         go_wp2_with fail
         exact bodyPost_ret (results_1c (p := 6) rfl (by kernel_rfl) HLD.out) rfl ⟨rfl, HE.out⟩
        ·skip
         go_upto_region 16 with fail
         refine wl <| gzb (eql_nn rfl i 7 (decide_eq_false hk7)) <| gz1 (.bool false) <| wn ?_
         simp only [pu]
         by_cases hk8 : i = 8
         ·skip
          go_upto_region 18 with fail
          refine wl <| gzb (eql_nn rfl i 8 (decide_eq_true hk8)) <| gz1 (.bool true) <| wn ?_
          simp only [pu]
          obtain ⟨V1, hst1, hY3, hbt1⟩ := st_fld (i := 8) (v := .int .i64 n) (ty := 3) #[.int .i64 x0, .int .i64 x1, .int .i64 x2, .int .i64 x3, .int .i64 x4, .int .i64 x5, .bool q, .int .i64 x7, .int .i64 n, .int .u64 x9, .int .i64 x10, .int .i64 x11] hX3 (by simp) rfl rfl (by kernel_rfl)
          have hX6b := hX6.but hbt1 (by have := HGE.out; omega)
          obtain ⟨V2, hst2, hY6, hbt2⟩ := st_all (cs' := #[.int .i64 x0, .int .i64 x1, .int .i64 x2, .int .i64 x3, .int .i64 x4, .int .i64 x5, .bool q, .int .i64 x7, .int .i64 n, .int .u64 x9, .int .i64 x10, .int .i64 x11]) (ty := 24) hX6b rfl (by kernel_rfl) (by kernel_rfl)
          have HLD := Lib.hid (load_Cr hY6)
          have hl3 := load_Cr hY3
          have HE : Hid (Below w.heap.size w V2) := Lib.hid ((HB.out.trans (hbt1.1.mono (by have := HGE.out; omega))).trans (hbt2.1.mono (by have := HGE.out; omega)))
          clear hX3 hX6 hX6b hY3 hY6 hbt1 hbt2
          go_upto_region 19 with fail
          refine wl <| gz2 (.int .i64 n) (.pointer (some ⟨g3, 8, none⟩)) <| gzs rfl (hst1) <| wn ?_
          simp only [pu]
          go_upto_region 24 with fail
          refine wl <| gzl rfl ⟨g3, 0, none⟩ (.agg #[.int .i64 x0, .int .i64 x1, .int .i64 x2, .int .i64 x3, .int .i64 x4, .int .i64 x5, .bool q, .int .i64 x7, .int .i64 n, .int .u64 x9, .int .i64 x10, .int .i64 x11]) (hl3) <| gzs rfl (hst2) <| wn ?_
          simp only [pu]
          go_wp2_with fail
          exact bodyPost_ret (results_1c (p := 6) rfl (by kernel_rfl) HLD.out) rfl ⟨rfl, HE.out⟩
         ·skip
          go_upto_region 18 with fail
          refine wl <| gzb (eql_nn rfl i 8 (decide_eq_false hk8)) <| gz1 (.bool false) <| wn ?_
          simp only [pu]
          by_cases hk10 : i = 10
          ·skip
           go_upto_region 20 with fail
           refine wl <| gzb (eql_nn rfl i 10 (decide_eq_true hk10)) <| gz1 (.bool true) <| wn ?_
           simp only [pu]
           obtain ⟨V1, hst1, hY3, hbt1⟩ := st_fld (i := 10) (v := .int .i64 n) (ty := 3) #[.int .i64 x0, .int .i64 x1, .int .i64 x2, .int .i64 x3, .int .i64 x4, .int .i64 x5, .bool q, .int .i64 x7, .int .i64 x8, .int .u64 x9, .int .i64 n, .int .i64 x11] hX3 (by simp) rfl rfl (by kernel_rfl)
           have hX6b := hX6.but hbt1 (by have := HGE.out; omega)
           obtain ⟨V2, hst2, hY6, hbt2⟩ := st_all (cs' := #[.int .i64 x0, .int .i64 x1, .int .i64 x2, .int .i64 x3, .int .i64 x4, .int .i64 x5, .bool q, .int .i64 x7, .int .i64 x8, .int .u64 x9, .int .i64 n, .int .i64 x11]) (ty := 24) hX6b rfl (by kernel_rfl) (by kernel_rfl)
           have HLD := Lib.hid (load_Cr hY6)
           have hl3 := load_Cr hY3
           have HE : Hid (Below w.heap.size w V2) := Lib.hid ((HB.out.trans (hbt1.1.mono (by have := HGE.out; omega))).trans (hbt2.1.mono (by have := HGE.out; omega)))
           clear hX3 hX6 hX6b hY3 hY6 hbt1 hbt2
           go_upto_region 21 with fail
           refine wl <| gz2 (.int .i64 n) (.pointer (some ⟨g3, 10, none⟩)) <| gzs rfl (hst1) <| wn ?_
           simp only [pu]
           go_upto_region 24 with fail
           refine wl <| gzl rfl ⟨g3, 0, none⟩ (.agg #[.int .i64 x0, .int .i64 x1, .int .i64 x2, .int .i64 x3, .int .i64 x4, .int .i64 x5, .bool q, .int .i64 x7, .int .i64 x8, .int .u64 x9, .int .i64 n, .int .i64 x11]) (hl3) <| gzs rfl (hst2) <| wn ?_
           simp only [pu]
           go_wp2_with fail
           exact bodyPost_ret (results_1c (p := 6) rfl (by kernel_rfl) HLD.out) rfl ⟨rfl, HE.out⟩
          ·skip
           go_upto_region 20 with fail
           refine wl <| gzb (eql_nn rfl i 10 (decide_eq_false hk10)) <| gz1 (.bool false) <| wn ?_
           simp only [pu]
           by_cases hk11 : i = 11
           ·skip
            go_upto_region 22 with fail
            refine wl <| gzb (eql_nn rfl i 11 (decide_eq_true hk11)) <| gz1 (.bool true) <| wn ?_
            simp only [pu]
            obtain ⟨V1, hst1, hY3, hbt1⟩ := st_fld (i := 11) (v := .int .i64 n) (ty := 3) #[.int .i64 x0, .int .i64 x1, .int .i64 x2, .int .i64 x3, .int .i64 x4, .int .i64 x5, .bool q, .int .i64 x7, .int .i64 x8, .int .u64 x9, .int .i64 x10, .int .i64 n] hX3 (by simp) rfl rfl (by kernel_rfl)
            have hX6b := hX6.but hbt1 (by have := HGE.out; omega)
            obtain ⟨V2, hst2, hY6, hbt2⟩ := st_all (cs' := #[.int .i64 x0, .int .i64 x1, .int .i64 x2, .int .i64 x3, .int .i64 x4, .int .i64 x5, .bool q, .int .i64 x7, .int .i64 x8, .int .u64 x9, .int .i64 x10, .int .i64 n]) (ty := 24) hX6b rfl (by kernel_rfl) (by kernel_rfl)
            have HLD := Lib.hid (load_Cr hY6)
            have hl3 := load_Cr hY3
            have HE : Hid (Below w.heap.size w V2) := Lib.hid ((HB.out.trans (hbt1.1.mono (by have := HGE.out; omega))).trans (hbt2.1.mono (by have := HGE.out; omega)))
            clear hX3 hX6 hX6b hY3 hY6 hbt1 hbt2
            go_upto_region 23 with fail
            refine wl <| gz2 (.int .i64 n) (.pointer (some ⟨g3, 11, none⟩)) <| gzs rfl (hst1) <| wn ?_
            simp only [pu]
            go_upto_region 24 with fail
            refine wl <| gzl rfl ⟨g3, 0, none⟩ (.agg #[.int .i64 x0, .int .i64 x1, .int .i64 x2, .int .i64 x3, .int .i64 x4, .int .i64 x5, .bool q, .int .i64 x7, .int .i64 x8, .int .u64 x9, .int .i64 x10, .int .i64 n]) (hl3) <| gzs rfl (hst2) <| wn ?_
            simp only [pu]
            go_wp2_with fail
            exact bodyPost_ret (results_1c (p := 6) rfl (by kernel_rfl) HLD.out) rfl ⟨rfl, HE.out⟩
           ·exact absurd hi (by omega)
theorem r_with {c : List Int} (hc : c.length = 12) (i : Nat) (hi : i < 12) (h9 : i ≠ 9) (n : Int) (w : World) : Calls Tryd.prog 70 #[.agg (cfA c), .int .i64 i, .int .i64 n] w fun e w' => e = .returned (.agg (cfA (c.set i n))) ∧ Below w.heap.size w w' := by
 have e : (cfA c).setIfInBounds i (if i = 6 then .bool (decide (n = 1)) else .int .i64 n) = cfA (c.set i n) := by
  obtain ⟨x0, x1, x2, x3, x4, x5, x6, x7, x8, x9, x10, x11, rfl⟩ := cf_all hc
  match i, hi, h9 with
  | 0, _, _ => rfl
  | 1, _, _ => rfl
  | 2, _, _ => rfl
  | 3, _, _ => rfl
  | 4, _, _ => rfl
  | 5, _, _ => rfl
  | 6, _, _ => rfl
  | 7, _, _ => rfl
  | 8, _, _ => rfl
  | 10, _, _ => rfl
  | 11, _, _ => rfl
 rw [← e]
 exact r_with_raw _ _ _ _ _ _ _ _ _ _ _ _ i hi h9 n w
theorem nums_eq (s : ByteArray) (k : ByteArray) : decide (nums s = nums k) = (s == k) := by
 rw [beqB]
 refine decide_eq_decide.2 ⟨fun h => ?_, fun h => by rw [h]⟩
 have := congrArg strOfNums h
 rwa [str_nums, str_nums] at this
theorem sp_eq (s : ByteArray) : spL (nums s) = ((s == ⟨#[9]⟩) || (s == ⟨#[32]⟩) || (s == ⟨#[194, 160]⟩) || (s == ⟨#[226, 128, 131]⟩) || (s == ⟨#[227, 128, 128]⟩)) := by
 rw [← nums_eq, ← nums_eq, ← nums_eq, ← nums_eq, ← nums_eq]
 rfl
set_option maxRecDepth 100000 in
set_option maxHeartbeats 8000000 in
theorem r_space (s : ByteArray) (w : World) : Calls Tryd.prog 67 #[.string s] w fun e w' => e = .returned (.bool (spL (nums s))) ∧ w = w' := by
 rw [sp_eq]
 obtain ⟨q0, hq0⟩ : ∃ q, (s == ⟨#[9]⟩) = q := ⟨_, rfl⟩
 obtain ⟨q1, hq1⟩ : ∃ q, (s == ⟨#[32]⟩) = q := ⟨_, rfl⟩
 obtain ⟨q2, hq2⟩ : ∃ q, (s == ⟨#[194, 160]⟩) = q := ⟨_, rfl⟩
 obtain ⟨q3, hq3⟩ : ∃ q, (s == ⟨#[226, 128, 131]⟩) = q := ⟨_, rfl⟩
 obtain ⟨q4, hq4⟩ : ∃ q, (s == ⟨#[227, 128, 128]⟩) = q := ⟨_, rfl⟩
 rw [hq0, hq1, hq2, hq3, hq4]
 go_enter Tryd.func67, Tryd.ntmps67
 go_upto_region 1 with fail
 cases q0
 ·skip
  cases q1
  ·skip
   cases q2
   ·skip
    cases q3
    ·skip
     cases q4
     ·skip
      refine wl <| gz1 (.string s) <| gzw (.bool false) (eql_s rfl s ⟨#[9]⟩ hq0) <| gz2 (.bool false) (.string s) <| gzw (.bool false) (eql_s rfl s ⟨#[32]⟩ hq1) <| gz3 (.bool false) (.bool false) (.string s) <|
       gzw (.bool false) (eql_s rfl s ⟨#[194, 160]⟩ hq2) <| gz3 (.bool false) (.bool false) (.string s) <| gzw (.bool false) (eql_s rfl s ⟨#[226, 128, 131]⟩ hq3) <| gz3 (.bool false) (.bool false) (.string s) <|
       gzw (.bool false) (eql_s rfl s ⟨#[227, 128, 128]⟩ hq4) <| gz2 (.bool false) (.bool false) <| wn ?_
      simp only [pu]
      go_wp2_with fail
      go_ret
      exact ⟨rfl, rfl⟩
     ·skip
      refine wl <| gz1 (.string s) <| gzw (.bool false) (eql_s rfl s ⟨#[9]⟩ hq0) <| gz2 (.bool false) (.string s) <| gzw (.bool false) (eql_s rfl s ⟨#[32]⟩ hq1) <| gz3 (.bool false) (.bool false) (.string s) <|
       gzw (.bool false) (eql_s rfl s ⟨#[194, 160]⟩ hq2) <| gz3 (.bool false) (.bool false) (.string s) <| gzw (.bool false) (eql_s rfl s ⟨#[226, 128, 131]⟩ hq3) <| gz3 (.bool false) (.bool false) (.string s) <|
       gzw (.bool true) (eql_s rfl s ⟨#[227, 128, 128]⟩ hq4) <| gz2 (.bool true) (.bool true) <| wn ?_
      simp only [pu]
      go_wp2_with fail
      go_ret
      exact ⟨by simp, rfl⟩
    ·skip
     refine wl <| gz1 (.string s) <| gzw (.bool false) (eql_s rfl s ⟨#[9]⟩ hq0) <| gz2 (.bool false) (.string s) <| gzw (.bool false) (eql_s rfl s ⟨#[32]⟩ hq1) <| gz3 (.bool false) (.bool false) (.string s) <|
      gzw (.bool false) (eql_s rfl s ⟨#[194, 160]⟩ hq2) <| gz3 (.bool false) (.bool false) (.string s) <| gzw (.bool true) (eql_s rfl s ⟨#[226, 128, 131]⟩ hq3) <|
      gz6 (.bool true) (.bool true) undef undef (.bool true) (.bool true) <| wn ?_
     simp only [pu]
     go_wp2_with fail
     go_ret
     exact ⟨by simp, rfl⟩
   ·skip
    refine wl <| gz1 (.string s) <| gzw (.bool false) (eql_s rfl s ⟨#[9]⟩ hq0) <| gz2 (.bool false) (.string s) <| gzw (.bool false) (eql_s rfl s ⟨#[32]⟩ hq1) <| gz3 (.bool false) (.bool false) (.string s) <|
     gzw (.bool true) (eql_s rfl s ⟨#[194, 160]⟩ hq2) <| gz6 (.bool true) (.bool true) undef undef (.bool true) (.bool true) <| gz4 undef undef (.bool true) (.bool true) <| wn ?_
    simp only [pu]
    go_wp2_with fail
    go_ret
    exact ⟨by simp, rfl⟩
  ·skip
   refine wl <| gz1 (.string s) <| gzw (.bool false) (eql_s rfl s ⟨#[9]⟩ hq0) <| gz2 (.bool false) (.string s) <| gzw (.bool true) (eql_s rfl s ⟨#[32]⟩ hq1) <|
    gz6 (.bool true) (.bool true) undef undef (.bool true) (.bool true) <| gz6 undef undef (.bool true) (.bool true) undef undef <| gz2 (.bool true) (.bool true) <| wn ?_
   simp only [pu]
   go_wp2_with fail
   go_ret
   exact ⟨by simp, rfl⟩
 ·skip
  refine wl <| gz1 (.string s) <| gzw (.bool true) (eql_s rfl s ⟨#[9]⟩ hq0) <| gz6 (.bool true) undef undef (.bool true) (.bool true) undef <| gz6 undef (.bool true) (.bool true) undef undef (.bool true) <|
   gz5 (.bool true) undef undef (.bool true) (.bool true) <| wn ?_
  simp only [pu]
  go_wp2_with fail
  go_ret
  exact ⟨rfl, rfl⟩
def idxI (t : List Int) (L : List (List Int)) : Int := match idxL t L 0 with
 | none => -1
 | some i => (i : Int)
theorem idxL_hit {t : List Int} : ∀ (L : List (List Int)) (i k : Nat), i < L.length → L.getD i [] = t → (∀ j, j < i → L.getD j [] ≠ t) → idxL t L k = some (k + i)
 | [], i, k, h, _, _ => absurd h (Nat.not_lt_zero _)
 | x :: r, 0, k, _, e, _ => by
  have e' : x = t := e
  unfold idxL
  rw [if_pos e']
  rfl
 | x :: r, i + 1, k, h, e, hn => by
  have h0 : x ≠ t := hn 0 (Nat.succ_pos _)
  unfold idxL
  rw [if_neg h0, idxL_hit r i (k + 1) (Nat.lt_of_succ_lt_succ h) e fun j hj => hn (j + 1) (Nat.succ_lt_succ hj)]
  congr 1
  omega
theorem idxL_none {t : List Int} : ∀ (L : List (List Int)) (k : Nat), (∀ j, j < L.length → L.getD j [] ≠ t) → idxL t L k = none
 | [], _, _ => rfl
 | x :: r, k, h => by
  have h0 : x ≠ t := h 0 (Nat.succ_pos _)
  unfold idxL
  rw [if_neg h0]
  exact idxL_none r (k + 1) fun j hj => h (j + 1) (Nat.succ_lt_succ hj)
theorem getD_nums (S : List ByteArray) {j : Nat} (h : j < S.length) : (S.map nums).getD j [] = nums (S.getD j (⟨#[]⟩ : ByteArray)) := by
 rw [List.getD_eq_getElem?_getD, List.getElem?_map, List.getD_eq_getElem?_getD, List.getElem?_eq_getElem h]
 rfl
theorem nums_inj {a b : ByteArray} (h : nums a = nums b) : a = b := by
 have := congrArg strOfNums h
 rwa [str_nums, str_nums] at this
set_option maxRecDepth 100000 in
set_option maxHeartbeats 8000000 in
theorem r_index {w : World} {a : Option Addr} {c : Nat} {S : List ByteArray} (h1 : Cs w a (strs S)) (hl : S.length ≤ 100000) (s : ByteArray) : Calls Tryd.prog 55 #[.slice a S.length c, .string s] w fun e w' => e = .returned (.int .i64 (idxI (nums s) (S.map nums))) ∧ w = w' := by
 have HA : Hid (∀ i, i < S.length → ∃ b off, a = some ⟨b, off, none⟩ ∧ w.cell? ⟨b, off + i, none⟩ = some (.string (S.getD i (⟨#[]⟩ : ByteArray)))) := Lib.hid fun i hi => by
  obtain ⟨b, off, e1, -, c1⟩ := strs_get h1 hi
  exact ⟨b, off, e1, c1⟩
 have HH : Hid (∀ i, i < S.length → S.getD i (⟨#[]⟩ : ByteArray) = s → (∀ j, j < i → S.getD j (⟨#[]⟩ : ByteArray) ≠ s) → (i : Int) = idxI (nums s) (S.map nums)) := Lib.hid fun i hi h hn => by
  unfold idxI
  rw [idxL_hit (S.map nums) i 0 (by rw [List.length_map]; exact hi) (by rw [getD_nums S hi, h]) fun j hj e => hn j hj (nums_inj (by rw [← getD_nums S (by omega)]; exact e)), Nat.zero_add]
 have HNO : Hid ((∀ j, j < S.length → S.getD j (⟨#[]⟩ : ByteArray) ≠ s) → (-1 : Int) = idxI (nums s) (S.map nums)) := Lib.hid fun hn => by
  unfold idxI
  rw [idxL_none (S.map nums) 0 fun j hj e => by
   rw [List.length_map] at hj
   exact hn j hj (nums_inj (by rw [← getD_nums S hj]; exact e))]
 obtain ⟨z, hz⟩ : ∃ z, idxI (nums s) (S.map nums) = z := ⟨_, rfl⟩
 obtain ⟨n, hn⟩ : ∃ n, S.length = n := ⟨_, rfl⟩
 rw [hz] at HH HNO ⊢
 rw [hn] at HA HH HNO hl ⊢
 have HL := Lib.hid hl
 clear h1 hn hl hz
 go_enter Tryd.func55, Tryd.ntmps55
 go_upto_region 1 with fail
 refine wl <| gz3 (.slice a n c) (.int .i64 n) (.int .i64 0) <| wn ?_
 simp only [pu]
 go_wp2_with fail
 go_loopg [9] n (fun gg s9 wx => ∃ (i : Nat), s9 = .int .i64 i ∧ i ≤ n ∧ gg + i = n ∧ Hid (∀ j, j < i → S.getD j (⟨#[]⟩ : ByteArray) ≠ s) ∧ wx = w)
 case atStart => exact ⟨0, rfl, by omega, by omega, Lib.hid (fun j hj => absurd hj (Nat.not_lt_zero j)), rfl⟩
 case round =>
  obtain ⟨i, rfl, hin, hg, HP, rfl⟩ := hrel
  have HGK : Hid (gk + i = n) := Lib.hid hg
  clear hg
  by_cases hlt : i < n
  ·skip
   obtain ⟨b, off, hq1, hc1⟩ := HA.out i hlt
   obtain rfl := hq1
   have HS2 : Hid (¬ S.getD i (⟨#[]⟩ : ByteArray) = s → ∀ j, j < i + 1 → S.getD j (⟨#[]⟩ : ByteArray) ≠ s) := Lib.hid fun h j hj => if hh : j < i then HP.out j hh else by rwa [show j = i by omega]
   have HH2 : Hid (S.getD i (⟨#[]⟩ : ByteArray) = s → (i : Int) = z) := Lib.hid fun h => HH.out i hlt h HP.out
   obtain ⟨v, hv⟩ : ∃ v, S.getD i (⟨#[]⟩ : ByteArray) = v := ⟨_, rfl⟩
   rw [hv] at hc1 HS2 HH2
   clear hv
   go_upto_region 2 with fail
   refine wl <| gzb (lss_n rfl (i) (n) dT) <| wn ?_
   simp only [pu]
   go_upto_region 3 with fail
   refine wl <| gz1 (.int .i64 i) <| gzv (.pointer (some ⟨b, off + i, none⟩)) (idx_str b off n c i hlt _ _ _ rfl (by kernel_rfl) (by kernel_rfl)) <| gzl rfl ⟨b, off + i, none⟩ (.string v) (load_cell hc1 (by kernel_rfl)) <| gz2 (.int .i64 i) (.string v) <| wn ?_
   simp only [pu]
   clear hc1
   by_cases he9 : v = s
   ·skip
    go_upto_region 4 with fail
    refine wl <| gz2 (.string v) (.string s) <| gzw (.bool true) (eql_s rfl v s (by rw [beqB]; exact decide_eq_true he9)) <| wn ?_
    simp only [pu]
    obtain rfl := HH2.out he9
    clear he9 HS2 HA HP HH HH2 HNO
    go_upto_region 5 with fail
    refine wl <| gz2 (.int .i64 i) (.int .i64 i) <| wn ?_
    simp only [pu]
    go_wp2_with fail
    go_ret
    exact ⟨rfl, rfl⟩
   ·skip
    go_upto_region 4 with fail
    refine wl <| gz2 (.string v) (.string s) <| gzw (.bool false) (eql_s rfl v s (by rw [beqB]; exact decide_eq_false he9)) <| wn ?_
    simp only [pu]
    have HP2 := Lib.hid (HS2.out he9)
    clear he9 HS2 HP HH2
    go_upto_region 6 with fail
    refine wl <| gzv (.int .i64 (i + 1 : Nat)) (add_one rfl i (by have := HL.out; omega) (by kernel_rfl) _) <| gz1 (.int .i64 (i + 1 : Nat)) <| wn ?_
    simp only [pu]
    go_wp2_with fail
    go_roundg (n - (i + 1))
    case measure => have := HGK.out; omega
    case rel => exact ⟨i + 1, rfl, by omega, by omega, HP2, rfl⟩
  ·skip
   obtain rfl : i = n := by omega
   obtain rfl := HNO.out HP.out
   clear HP HNO HH HA
   go_upto_region 2 with fail
   refine wl <| gzb (lss_n rfl (i) (i) dF) <| wn ?_
   simp only [pu]
   go_upto_region 7 with fail
   refine wl <| gz1 (.int .i64 (-1)) <| wn ?_
   simp only [pu]
   go_wp2_with fail
   go_ret
   exact ⟨rfl, rfl⟩
end Go.Proofs.YtplfineaomneiaaDoor
