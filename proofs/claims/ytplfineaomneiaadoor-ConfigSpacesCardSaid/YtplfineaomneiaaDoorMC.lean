/-
 The statements' changed: contract.
-/
import Derived.Test.YtplfineaomneiaaDoorMK
namespace Go.Proofs.YtplfineaomneiaaDoor
attribute [local irreducible] wpList wpQuiet
open Go.RowKit
set_option maxRecDepth 100000
set_option linter.unusedSimpArgs false
set_option linter.unusedVariables false

theorem setj {c : List Int} (hc : c.length = 12) (j : Nat) (hj : j < 12) (h6 : j ≠ 6) (h9 : j ≠ 9) (n : Int) : (cfA c).setIfInBounds j (.int .i64 n) = cfA (c.set j n) := by
 obtain ⟨x0, x1, x2, x3, x4, x5, x6, x7, x8, x9, x10, x11, rfl⟩ := cf_all hc
 match j, hj, h6, h9 with
 | 0, _, _, _ => rfl
 | 1, _, _, _ => rfl
 | 2, _, _, _ => rfl
 | 3, _, _, _ => rfl
 | 4, _, _, _ => rfl
 | 5, _, _, _ => rfl
 | 7, _, _, _ => rfl
 | 8, _, _, _ => rfl
 | 10, _, _, _ => rfl
 | 11, _, _, _ => rfl
theorem cf_set {c : List Int} (hc : CfOk c) {j : Nat} (hj : j < 12) (h6 : j ≠ 6) {n : Int} (hn : (j = 9 → 0 ≤ n ∧ n < 18446744073709551616) ∧ (j ≠ 9 → -9223372036854775808 ≤ n ∧ n < 9223372036854775808)) : CfOk (c.set j n) := by
 obtain ⟨h1, h6a, h9a, h9b, hI⟩ := hc
 have g1 : ∀ k, (c.set j n).getD k 0 = if j = k then n else c.getD k 0 := fun k => by
  by_cases e : j = k
  ·subst e
   rw [if_pos rfl, getD_set_eq _ _ _ _ (by rw [h1]; exact hj)]
  ·rw [if_neg e, getD_set_ne _ _ _ _ _ e]
 refine ⟨by rw [List.length_set]; exact h1, ?_, ?_, ?_, ?_⟩
 ·rw [g1, if_neg h6]; exact h6a
 ·rw [g1]; split
  ·rename_i e; exact (hn.1 e).1
  ·exact h9a
 ·rw [g1]; split
  ·rename_i e; exact (hn.1 e).2
  ·exact h9b
 ·intro k hk hk9
  rw [g1]; split
  ·rename_i e; exact hn.2 (by omega)
  ·exact hI k hk hk9
/-- Numbers from a slice. -/
def FrO (w : World) (a : Option Addr) (c : Nat) (L : List Int) (v : Value) (w' : World) : Prop := ∃ g, v = .pointer (some ⟨g, 0, none⟩) ∧ Nm w' g a c L 0 ∧ w.heap.size ≤ g ∧ Below w.heap.size w w'
theorem mk_fromN {w : World} {a : Option Addr} {c : Nat} {L : List Int} (h : Cs w a (icells L)) : Calls Tryd.prog 21 #[.slice a L.length c] w fun e w' => ∃ v, e = .returned v ∧ FrO w a c L v w' := (mk_from a L.length c w).mono fun e w' z => by
 obtain ⟨h1, h2⟩ := z
 have hb : Below w.heap.size w w' := by rw [h2]; exact (Below.refl _ w).alloc (Nat.le_refl _) _
 refine ⟨_, h1, w.heap.size, rfl, ⟨by rw [h2]; exact heap_alloc_last w _, h.below hb, fun hne x hx => ?_⟩, Nat.le_refl _, hb⟩
 obtain ⟨b, off, e2, hb, -⟩ := h 0 _ (icells_at L 0 (List.length_pos_iff.2 hne))
 rw [hx] at e2; cases e2; exact hb
/-- A made configuration, with what was there kept. -/
def MdO (w : World) (g : Nat) (a : Option Addr) (c : Nat) (L : List Int) (v : Value) (w' : World) : Prop := ∃ cf N2, v = .agg (cfA cf) ∧ MadeC cf ∧ N2 ≤ 14 ∧ Nm w' g a c L N2 ∧ But g w w'
theorem mk_configN {w : World} {g c : Nat} {a : Option Addr} {L : List Int} (h : Nm w g a c L 0) (hl : L.length ≤ 100000) : Calls Tryd.prog 20 #[.pointer (some ⟨g, 0, none⟩)] w fun e w' => ∃ v, e = .returned v ∧ MdO w g a c L v w' := (mk_config h hl (by omega)).mono fun e w' z => by
 obtain ⟨cf, N2, h1, h2, h3, h4, h5⟩ := z
 exact ⟨_, h1, cf, N2, rfl, h2, by omega, h4, h5⟩
/-- Some good configuration. -/
def CfO (w : World) (v : Value) (w' : World) : Prop := ∃ cf, v = .agg (cfA cf) ∧ CfOk cf ∧ Below w.heap.size w w'
theorem cv_ww {ρ : Operand → Value} {o : Oper} {x : Operand} (ho : o.op = .convert 3 22 x) (a : Int) (hx : ρ x = .int .i64 a) (w : World) : (execOp ρ o).run Tryd.prog w = .ok (.value (.int .u64 (IntKind.u64.wrap a))) w := by
 unfold execOp
 go_simp
set_option maxRecDepth 100000 in
set_option maxHeartbeats 8000000 in
theorem mk_changed {w : World} {a : Option Addr} {c : Nat} {L : List Int} (h : Cs w a (icells L)) (hl : L.length ≤ 100000) (fd n : Int) (hn : -9223372036854775808 ≤ n ∧ n < 9223372036854775808) : Calls Tryd.prog 11 #[.slice a L.length c, .int .i64 fd, .int .i64 n] w fun e w' => ∃ v, e = .returned v ∧ CfO w v w' := by
 have hb0 : Below w.heap.size w (w.alloc (.cells #[.int .i64 0, .int .i64 0, .int .i64 0, .int .i64 0, .int .i64 0, .int .i64 0, .bool false, .int .i64 0, .int .i64 0, .int .u64 0, .int .i64 0, .int .i64 0] 24)) := (Below.refl _ w).alloc (Nat.le_refl _) _
 have hX6 : Bx (w.alloc (.cells #[.int .i64 0, .int .i64 0, .int .i64 0, .int .i64 0, .int .i64 0, .int .i64 0, .bool false, .int .i64 0, .int .i64 0, .int .u64 0, .int .i64 0, .int .i64 0] 24)) w.heap.size #[.int .i64 0, .int .i64 0, .int .i64 0, .int .i64 0, .int .i64 0, .int .i64 0, .bool false, .int .i64 0, .int .i64 0, .int .u64 0, .int .i64 0, .int .i64 0] 24 := heap_alloc_last w _
 obtain ⟨W, hW⟩ : ∃ W, w.alloc (.cells #[.int .i64 0, .int .i64 0, .int .i64 0, .int .i64 0, .int .i64 0, .int .i64 0, .bool false, .int .i64 0, .int .i64 0, .int .u64 0, .int .i64 0, .int .i64 0] 24) = W := ⟨_, rfl⟩
 rw [hW] at hb0 hX6
 have CF1 := mk_fromN (c := c) (h.below hb0)
 have HL := Lib.hid hl
 have HB0 := Lib.hid hb0
 have HN := Lib.hid hn
 have hpr := pl_range fd 11 (by omega)
 have CP := Lib.hid fun V => mk_place fd 11 V (by omega) (by omega)
 obtain ⟨p, hp⟩ : ∃ p : Nat, pl fd 11 = (p : Int) := ⟨(pl fd 11).toNat, by omega⟩
 simp only [hp] at CP hpr
 have HPR : Hid (p < 11) := Lib.hid (by omega)
 have HWR : Hid (0 ≤ IntKind.u64.wrap n ∧ IntKind.u64.wrap n < 18446744073709551616) := Lib.hid (by rw [IntKind.wrap_u64]; omega)
 clear h hb0 hl hn hp hpr
 go_enter Tryd.func11, Tryd.ntmps11
 go_upto_region 1 with fail
 obtain ⟨g6, hg6⟩ : ∃ g6, w.heap.size = g6 := ⟨_, rfl⟩
 rw [hg6] at hX6
 simp only [hg6]
 have HG6 : Hid (w.heap.size ≤ g6) := Lib.hid (Nat.le_of_eq hg6)
 clear hW hg6
 refine wl <| gz1 (.slice a L.length c) <| gze (FrO W a c L) (CF1) (fun vv V1 hq => ?_)
 obtain ⟨gn, rfl, hnm, hgn, hb1⟩ := hq
 have CM := mk_configN hnm HL.out
 simp only [pu]
 refine gze (MdO V1 gn a c L) (CM) (fun vv V2 hq => ?_)
 obtain ⟨cf, N2, rfl, hmd, -, -, hbt2⟩ := hq
 have hb2 : Below W.heap.size W V2 := hb1.trans (hbt2.1.mono hgn)
 obtain ⟨V3, hst3, hb3, hX7⟩ := new_bx (c := #[.int .i64 0, .int .i64 0, .int .i64 0, .int .i64 0, .int .i64 0, .int .i64 0, .bool false, .int .i64 0, .int .i64 0, .int .u64 0, .int .i64 0, .int .i64 0]) (c' := cfA cf) (ty := 24) V2 rfl (by kernel_rfl) (by kernel_rfl)
 simp only [pu]
 refine run_to rfl (some 7) rfl (.pointer (some ⟨V2.heap.size, 0, none⟩)) (V2.alloc (.cells #[.int .i64 0, .int .i64 0, .int .i64 0, .int .i64 0, .int .i64 0, .int .i64 0, .bool false, .int .i64 0, .int .i64 0, .int .u64 0, .int .i64 0, .int .i64 0] 24)) (by kernel_rfl) ?_
 simp only [pu]
 refine gzs rfl (hst3) <| wn ?_
 have hX62 := hX6.below hX6.lt hb2
 have hX63 := hX62.below hX62.lt hb3
 have hg67 : g6 < V2.heap.size := hX62.lt
 have HB3 := Lib.hid ((HB0.out.trans (hb2.mono HB0.out.size)).trans (hb3.mono (HB0.out.trans (hb2.mono HB0.out.size)).size))
 obtain ⟨g7, hg7⟩ : ∃ g7, V2.heap.size = g7 := ⟨_, rfl⟩
 rw [hg7] at hX7 hg67
 simp only [hg7]
 have HOK := Lib.hid hmd.1
 have HGG : Hid (w.heap.size ≤ g6 ∧ g6 < g7) := Lib.hid ⟨HG6.out, hg67⟩
 obtain ⟨CC, hCC⟩ : ∃ X, cfA cf = X := ⟨_, rfl⟩
 rw [hCC] at hX7
 simp only [hCC]
 have HCC := Lib.hid hCC
 have HCZ : Hid (CC.size = 12) := Lib.hid (by rw [← hCC]; rfl)
 clear hst3 hb3 hb2 hb1 hbt2 hX6 hX62 hnm hgn hg7 hmd hCC CF1 CM HB0 HG6 hg67
 have cp := CP.out V3
 go_upto_region 2 with fail
 refine wl <| gz1 (.int .i64 fd) <| gzc (.int .i64 p) (fun w' => V3 = w') (cp) (fun V9 hV9 => ?_)
 subst hV9
 simp only [pu]
 apply wpList_nil
 clear cp
 by_cases hk0 : p = 0
 ·skip
  go_upto_region 4 with fail
  refine wl <| gzb (eql_nn rfl p 0 (decide_eq_true hk0)) <| gz1 (.bool true) <| wn ?_
  simp only [pu]
  clear hk0
  have HNW : Hid (CfOk (cf.set 0 (n))) := Lib.hid (cf_set HOK.out (by omega) (by omega) (by have := HN.out; have := HWR.out; omega))
  have hset : CC.setIfInBounds 0 (.int .i64 n) = cfA (cf.set 0 (n)) := by rw [← HCC.out]; exact setj HOK.out.1 0 (by omega) (by omega) (by omega) _
  obtain ⟨CN, hCN⟩ : ∃ X, cfA (cf.set 0 (n)) = X := ⟨_, rfl⟩
  rw [hCN] at hset
  obtain ⟨V4, hst4, hY7, hbt4⟩ := st_fld (i := 0) (v := .int .i64 n) (ty := 3) CN hX7 (by rw [HCZ.out]; omega) hset rfl (by kernel_rfl)
  have hX64 := hX63.but hbt4 (by have := HGG.out; omega)
  have hl7 : (Instr.loadAt 24 (.pointer (some ⟨g7, 0, none⟩))).run Tryd.prog V4 = .ok (.agg CN) V4 := by rw [← hCN] at hY7 ⊢; exact load_C hY7
  have AS := sta (cf.set 0 (n))
  rw [hCN] at AS
  obtain ⟨V5, hst5, hld5, -, hbt5⟩ := AS V4 g6 _ rfl hX64
  have HE : Hid (CfO w (.agg CN) V5) := Lib.hid ⟨_, by rw [hCN], HNW.out, (HB3.out.trans (hbt4.1.mono (by have := HGG.out; omega))).trans (hbt5.1.mono (by have := HGG.out; omega))⟩
  clear hset hX64 hbt4 hbt5 hY7 AS hCN HNW HOK HN HWR HCC
  go_upto_region 5 with fail
  refine wl <| gz2 (.int .i64 n) (.pointer (some ⟨g7, 0, none⟩)) <| gzs rfl (hst4) <| wn ?_
  simp only [pu]
  go_upto_region 24 with fail
  refine wl <| gzl rfl ⟨g7, 0, none⟩ (.agg CN) (hl7) <| gzs rfl (hst5) <| wn ?_
  simp only [pu]
  clear hst4 hst5 hl7
  go_wp2_with fail
  exact bodyPost_ret (results_1c (p := 6) rfl (by kernel_rfl) hld5) rfl ⟨_, rfl, HE.out⟩
 ·skip
  go_upto_region 4 with fail
  refine wl <| gzb (eql_nn rfl p 0 (decide_eq_false hk0)) <| gz1 (.bool false) <| wn ?_
  simp only [pu]
  by_cases hk1 : p = 1
  ·skip
   go_upto_region 6 with fail
   refine wl <| gzb (eql_nn rfl p 1 (decide_eq_true hk1)) <| gz1 (.bool true) <| wn ?_
   simp only [pu]
   clear hk0 hk1
   have HNW : Hid (CfOk (cf.set 1 (n))) := Lib.hid (cf_set HOK.out (by omega) (by omega) (by have := HN.out; have := HWR.out; omega))
   have hset : CC.setIfInBounds 1 (.int .i64 n) = cfA (cf.set 1 (n)) := by rw [← HCC.out]; exact setj HOK.out.1 1 (by omega) (by omega) (by omega) _
   obtain ⟨CN, hCN⟩ : ∃ X, cfA (cf.set 1 (n)) = X := ⟨_, rfl⟩
   rw [hCN] at hset
   obtain ⟨V4, hst4, hY7, hbt4⟩ := st_fld (i := 1) (v := .int .i64 n) (ty := 3) CN hX7 (by rw [HCZ.out]; omega) hset rfl (by kernel_rfl)
   have hX64 := hX63.but hbt4 (by have := HGG.out; omega)
   have hl7 : (Instr.loadAt 24 (.pointer (some ⟨g7, 0, none⟩))).run Tryd.prog V4 = .ok (.agg CN) V4 := by rw [← hCN] at hY7 ⊢; exact load_C hY7
   have AS := sta (cf.set 1 (n))
   rw [hCN] at AS
   obtain ⟨V5, hst5, hld5, -, hbt5⟩ := AS V4 g6 _ rfl hX64
   have HE : Hid (CfO w (.agg CN) V5) := Lib.hid ⟨_, by rw [hCN], HNW.out, (HB3.out.trans (hbt4.1.mono (by have := HGG.out; omega))).trans (hbt5.1.mono (by have := HGG.out; omega))⟩
   clear hset hX64 hbt4 hbt5 hY7 AS hCN HNW HOK HN HWR HCC
   go_upto_region 7 with fail
   refine wl <| gz2 (.int .i64 n) (.pointer (some ⟨g7, 1, none⟩)) <| gzs rfl (hst4) <| wn ?_
   simp only [pu]
   go_upto_region 24 with fail
   refine wl <| gzl rfl ⟨g7, 0, none⟩ (.agg CN) (hl7) <| gzs rfl (hst5) <| wn ?_
   simp only [pu]
   clear hst4 hst5 hl7
   go_wp2_with fail
   exact bodyPost_ret (results_1c (p := 6) rfl (by kernel_rfl) hld5) rfl ⟨_, rfl, HE.out⟩
  ·skip
   go_upto_region 6 with fail
   refine wl <| gzb (eql_nn rfl p 1 (decide_eq_false hk1)) <| gz1 (.bool false) <| wn ?_
   simp only [pu]
   by_cases hk2 : p = 2
   ·skip
    go_upto_region 8 with fail
    refine wl <| gzb (eql_nn rfl p 2 (decide_eq_true hk2)) <| gz1 (.bool true) <| wn ?_
    simp only [pu]
    clear hk0 hk1 hk2
    have HNW : Hid (CfOk (cf.set 2 (n))) := Lib.hid (cf_set HOK.out (by omega) (by omega) (by have := HN.out; have := HWR.out; omega))
    have hset : CC.setIfInBounds 2 (.int .i64 n) = cfA (cf.set 2 (n)) := by rw [← HCC.out]; exact setj HOK.out.1 2 (by omega) (by omega) (by omega) _
    obtain ⟨CN, hCN⟩ : ∃ X, cfA (cf.set 2 (n)) = X := ⟨_, rfl⟩
    rw [hCN] at hset
    obtain ⟨V4, hst4, hY7, hbt4⟩ := st_fld (i := 2) (v := .int .i64 n) (ty := 3) CN hX7 (by rw [HCZ.out]; omega) hset rfl (by kernel_rfl)
    have hX64 := hX63.but hbt4 (by have := HGG.out; omega)
    have hl7 : (Instr.loadAt 24 (.pointer (some ⟨g7, 0, none⟩))).run Tryd.prog V4 = .ok (.agg CN) V4 := by rw [← hCN] at hY7 ⊢; exact load_C hY7
    have AS := sta (cf.set 2 (n))
    rw [hCN] at AS
    obtain ⟨V5, hst5, hld5, -, hbt5⟩ := AS V4 g6 _ rfl hX64
    have HE : Hid (CfO w (.agg CN) V5) := Lib.hid ⟨_, by rw [hCN], HNW.out, (HB3.out.trans (hbt4.1.mono (by have := HGG.out; omega))).trans (hbt5.1.mono (by have := HGG.out; omega))⟩
    clear hset hX64 hbt4 hbt5 hY7 AS hCN HNW HOK HN HWR HCC
    go_upto_region 9 with fail
    refine wl <| gz2 (.int .i64 n) (.pointer (some ⟨g7, 2, none⟩)) <| gzs rfl (hst4) <| wn ?_
    simp only [pu]
    go_upto_region 24 with fail
    refine wl <| gzl rfl ⟨g7, 0, none⟩ (.agg CN) (hl7) <| gzs rfl (hst5) <| wn ?_
    simp only [pu]
    clear hst4 hst5 hl7
    go_wp2_with fail
    exact bodyPost_ret (results_1c (p := 6) rfl (by kernel_rfl) hld5) rfl ⟨_, rfl, HE.out⟩
   ·skip
    go_upto_region 8 with fail
    refine wl <| gzb (eql_nn rfl p 2 (decide_eq_false hk2)) <| gz1 (.bool false) <| wn ?_
    simp only [pu]
    by_cases hk3 : p = 3
    ·skip
     go_upto_region 10 with fail
     refine wl <| gzb (eql_nn rfl p 3 (decide_eq_true hk3)) <| gz1 (.bool true) <| wn ?_
     simp only [pu]
     clear hk0 hk1 hk2 hk3
     have HNW : Hid (CfOk (cf.set 3 (n))) := Lib.hid (cf_set HOK.out (by omega) (by omega) (by have := HN.out; have := HWR.out; omega))
     have hset : CC.setIfInBounds 3 (.int .i64 n) = cfA (cf.set 3 (n)) := by rw [← HCC.out]; exact setj HOK.out.1 3 (by omega) (by omega) (by omega) _
     obtain ⟨CN, hCN⟩ : ∃ X, cfA (cf.set 3 (n)) = X := ⟨_, rfl⟩
     rw [hCN] at hset
     obtain ⟨V4, hst4, hY7, hbt4⟩ := st_fld (i := 3) (v := .int .i64 n) (ty := 3) CN hX7 (by rw [HCZ.out]; omega) hset rfl (by kernel_rfl)
     have hX64 := hX63.but hbt4 (by have := HGG.out; omega)
     have hl7 : (Instr.loadAt 24 (.pointer (some ⟨g7, 0, none⟩))).run Tryd.prog V4 = .ok (.agg CN) V4 := by rw [← hCN] at hY7 ⊢; exact load_C hY7
     have AS := sta (cf.set 3 (n))
     rw [hCN] at AS
     obtain ⟨V5, hst5, hld5, -, hbt5⟩ := AS V4 g6 _ rfl hX64
     have HE : Hid (CfO w (.agg CN) V5) := Lib.hid ⟨_, by rw [hCN], HNW.out, (HB3.out.trans (hbt4.1.mono (by have := HGG.out; omega))).trans (hbt5.1.mono (by have := HGG.out; omega))⟩
     clear hset hX64 hbt4 hbt5 hY7 AS hCN HNW HOK HN HWR HCC
     go_upto_region 11 with fail
     refine wl <| gz2 (.int .i64 n) (.pointer (some ⟨g7, 3, none⟩)) <| gzs rfl (hst4) <| wn ?_
     simp only [pu]
     go_upto_region 24 with fail
     refine wl <| gzl rfl ⟨g7, 0, none⟩ (.agg CN) (hl7) <| gzs rfl (hst5) <| wn ?_
     simp only [pu]
     clear hst4 hst5 hl7
     go_wp2_with fail
     exact bodyPost_ret (results_1c (p := 6) rfl (by kernel_rfl) hld5) rfl ⟨_, rfl, HE.out⟩
    ·skip
     go_upto_region 10 with fail
     refine wl <| gzb (eql_nn rfl p 3 (decide_eq_false hk3)) <| gz1 (.bool false) <| wn ?_
     simp only [pu]
     by_cases hk4 : p = 4
     ·skip
      go_upto_region 12 with fail
      refine wl <| gzb (eql_nn rfl p 4 (decide_eq_true hk4)) <| gz1 (.bool true) <| wn ?_
      simp only [pu]
      clear hk0 hk1 hk2 hk3 hk4
      have HNW : Hid (CfOk (cf.set 4 (n))) := Lib.hid (cf_set HOK.out (by omega) (by omega) (by have := HN.out; have := HWR.out; omega))
      have hset : CC.setIfInBounds 4 (.int .i64 n) = cfA (cf.set 4 (n)) := by rw [← HCC.out]; exact setj HOK.out.1 4 (by omega) (by omega) (by omega) _
      obtain ⟨CN, hCN⟩ : ∃ X, cfA (cf.set 4 (n)) = X := ⟨_, rfl⟩
      rw [hCN] at hset
      obtain ⟨V4, hst4, hY7, hbt4⟩ := st_fld (i := 4) (v := .int .i64 n) (ty := 3) CN hX7 (by rw [HCZ.out]; omega) hset rfl (by kernel_rfl)
      have hX64 := hX63.but hbt4 (by have := HGG.out; omega)
      have hl7 : (Instr.loadAt 24 (.pointer (some ⟨g7, 0, none⟩))).run Tryd.prog V4 = .ok (.agg CN) V4 := by rw [← hCN] at hY7 ⊢; exact load_C hY7
      have AS := sta (cf.set 4 (n))
      rw [hCN] at AS
      obtain ⟨V5, hst5, hld5, -, hbt5⟩ := AS V4 g6 _ rfl hX64
      have HE : Hid (CfO w (.agg CN) V5) := Lib.hid ⟨_, by rw [hCN], HNW.out, (HB3.out.trans (hbt4.1.mono (by have := HGG.out; omega))).trans (hbt5.1.mono (by have := HGG.out; omega))⟩
      clear hset hX64 hbt4 hbt5 hY7 AS hCN HNW HOK HN HWR HCC
      go_upto_region 13 with fail
      refine wl <| gz2 (.int .i64 n) (.pointer (some ⟨g7, 4, none⟩)) <| gzs rfl (hst4) <| wn ?_
      simp only [pu]
      go_upto_region 24 with fail
      refine wl <| gzl rfl ⟨g7, 0, none⟩ (.agg CN) (hl7) <| gzs rfl (hst5) <| wn ?_
      simp only [pu]
      clear hst4 hst5 hl7
      go_wp2_with fail
      exact bodyPost_ret (results_1c (p := 6) rfl (by kernel_rfl) hld5) rfl ⟨_, rfl, HE.out⟩
     ·skip
      go_upto_region 12 with fail
      refine wl <| gzb (eql_nn rfl p 4 (decide_eq_false hk4)) <| gz1 (.bool false) <| wn ?_
      simp only [pu]
      by_cases hk5 : p = 5
      ·skip
       go_upto_region 14 with fail
       refine wl <| gzb (eql_nn rfl p 5 (decide_eq_true hk5)) <| gz1 (.bool true) <| wn ?_
       simp only [pu]
       clear hk0 hk1 hk2 hk3 hk4 hk5
       have HNW : Hid (CfOk (cf.set 5 (n))) := Lib.hid (cf_set HOK.out (by omega) (by omega) (by have := HN.out; have := HWR.out; omega))
       have hset : CC.setIfInBounds 5 (.int .i64 n) = cfA (cf.set 5 (n)) := by rw [← HCC.out]; exact setj HOK.out.1 5 (by omega) (by omega) (by omega) _
       obtain ⟨CN, hCN⟩ : ∃ X, cfA (cf.set 5 (n)) = X := ⟨_, rfl⟩
       rw [hCN] at hset
       obtain ⟨V4, hst4, hY7, hbt4⟩ := st_fld (i := 5) (v := .int .i64 n) (ty := 3) CN hX7 (by rw [HCZ.out]; omega) hset rfl (by kernel_rfl)
       have hX64 := hX63.but hbt4 (by have := HGG.out; omega)
       have hl7 : (Instr.loadAt 24 (.pointer (some ⟨g7, 0, none⟩))).run Tryd.prog V4 = .ok (.agg CN) V4 := by rw [← hCN] at hY7 ⊢; exact load_C hY7
       have AS := sta (cf.set 5 (n))
       rw [hCN] at AS
       obtain ⟨V5, hst5, hld5, -, hbt5⟩ := AS V4 g6 _ rfl hX64
       have HE : Hid (CfO w (.agg CN) V5) := Lib.hid ⟨_, by rw [hCN], HNW.out, (HB3.out.trans (hbt4.1.mono (by have := HGG.out; omega))).trans (hbt5.1.mono (by have := HGG.out; omega))⟩
       clear hset hX64 hbt4 hbt5 hY7 AS hCN HNW HOK HN HWR HCC
       go_upto_region 15 with fail
       refine wl <| gz2 (.int .i64 n) (.pointer (some ⟨g7, 5, none⟩)) <| gzs rfl (hst4) <| wn ?_
       simp only [pu]
       go_upto_region 24 with fail
       refine wl <| gzl rfl ⟨g7, 0, none⟩ (.agg CN) (hl7) <| gzs rfl (hst5) <| wn ?_
       simp only [pu]
       clear hst4 hst5 hl7
       go_wp2_with fail
       exact bodyPost_ret (results_1c (p := 6) rfl (by kernel_rfl) hld5) rfl ⟨_, rfl, HE.out⟩
      ·skip
       go_upto_region 14 with fail
       refine wl <| gzb (eql_nn rfl p 5 (decide_eq_false hk5)) <| gz1 (.bool false) <| wn ?_
       simp only [pu]
       by_cases hk6 : p = 6
       ·skip
        go_upto_region 16 with fail
        refine wl <| gzb (eql_nn rfl p 6 (decide_eq_true hk6)) <| gz1 (.bool true) <| wn ?_
        simp only [pu]
        clear hk0 hk1 hk2 hk3 hk4 hk5 hk6
        have HNW : Hid (CfOk (cf.set 7 (n))) := Lib.hid (cf_set HOK.out (by omega) (by omega) (by have := HN.out; have := HWR.out; omega))
        have hset : CC.setIfInBounds 7 (.int .i64 n) = cfA (cf.set 7 (n)) := by rw [← HCC.out]; exact setj HOK.out.1 7 (by omega) (by omega) (by omega) _
        obtain ⟨CN, hCN⟩ : ∃ X, cfA (cf.set 7 (n)) = X := ⟨_, rfl⟩
        rw [hCN] at hset
        obtain ⟨V4, hst4, hY7, hbt4⟩ := st_fld (i := 7) (v := .int .i64 n) (ty := 3) CN hX7 (by rw [HCZ.out]; omega) hset rfl (by kernel_rfl)
        have hX64 := hX63.but hbt4 (by have := HGG.out; omega)
        have hl7 : (Instr.loadAt 24 (.pointer (some ⟨g7, 0, none⟩))).run Tryd.prog V4 = .ok (.agg CN) V4 := by rw [← hCN] at hY7 ⊢; exact load_C hY7
        have AS := sta (cf.set 7 (n))
        rw [hCN] at AS
        obtain ⟨V5, hst5, hld5, -, hbt5⟩ := AS V4 g6 _ rfl hX64
        have HE : Hid (CfO w (.agg CN) V5) := Lib.hid ⟨_, by rw [hCN], HNW.out, (HB3.out.trans (hbt4.1.mono (by have := HGG.out; omega))).trans (hbt5.1.mono (by have := HGG.out; omega))⟩
        clear hset hX64 hbt4 hbt5 hY7 AS hCN HNW HOK HN HWR HCC
        go_upto_region 17 with fail
        refine wl <| gz2 (.int .i64 n) (.pointer (some ⟨g7, 7, none⟩)) <| gzs rfl (hst4) <| wn ?_
        simp only [pu]
        go_upto_region 24 with fail
        refine wl <| gzl rfl ⟨g7, 0, none⟩ (.agg CN) (hl7) <| gzs rfl (hst5) <| wn ?_
        simp only [pu]
        clear hst4 hst5 hl7
        go_wp2_with fail
        exact bodyPost_ret (results_1c (p := 6) rfl (by kernel_rfl) hld5) rfl ⟨_, rfl, HE.out⟩
       ·skip
        go_upto_region 16 with fail
        refine wl <| gzb (eql_nn rfl p 6 (decide_eq_false hk6)) <| gz1 (.bool false) <| wn ?_
        simp only [pu]
        by_cases hk7 : p = 7
        ·skip
         go_upto_region 18 with fail
         refine wl <| gzb (eql_nn rfl p 7 (decide_eq_true hk7)) <| gz1 (.bool true) <| wn ?_
         simp only [pu]
         clear hk0 hk1 hk2 hk3 hk4 hk5 hk6 hk7
         have HNW : Hid (CfOk (cf.set 8 (n))) := Lib.hid (cf_set HOK.out (by omega) (by omega) (by have := HN.out; have := HWR.out; omega))
         have hset : CC.setIfInBounds 8 (.int .i64 n) = cfA (cf.set 8 (n)) := by rw [← HCC.out]; exact setj HOK.out.1 8 (by omega) (by omega) (by omega) _
         obtain ⟨CN, hCN⟩ : ∃ X, cfA (cf.set 8 (n)) = X := ⟨_, rfl⟩
         rw [hCN] at hset
         obtain ⟨V4, hst4, hY7, hbt4⟩ := st_fld (i := 8) (v := .int .i64 n) (ty := 3) CN hX7 (by rw [HCZ.out]; omega) hset rfl (by kernel_rfl)
         have hX64 := hX63.but hbt4 (by have := HGG.out; omega)
         have hl7 : (Instr.loadAt 24 (.pointer (some ⟨g7, 0, none⟩))).run Tryd.prog V4 = .ok (.agg CN) V4 := by rw [← hCN] at hY7 ⊢; exact load_C hY7
         have AS := sta (cf.set 8 (n))
         rw [hCN] at AS
         obtain ⟨V5, hst5, hld5, -, hbt5⟩ := AS V4 g6 _ rfl hX64
         have HE : Hid (CfO w (.agg CN) V5) := Lib.hid ⟨_, by rw [hCN], HNW.out, (HB3.out.trans (hbt4.1.mono (by have := HGG.out; omega))).trans (hbt5.1.mono (by have := HGG.out; omega))⟩
         clear hset hX64 hbt4 hbt5 hY7 AS hCN HNW HOK HN HWR HCC
         go_upto_region 19 with fail
         refine wl <| gz2 (.int .i64 n) (.pointer (some ⟨g7, 8, none⟩)) <| gzs rfl (hst4) <| wn ?_
         simp only [pu]
         go_upto_region 24 with fail
         refine wl <| gzl rfl ⟨g7, 0, none⟩ (.agg CN) (hl7) <| gzs rfl (hst5) <| wn ?_
         simp only [pu]
         clear hst4 hst5 hl7
         go_wp2_with fail
         exact bodyPost_ret (results_1c (p := 6) rfl (by kernel_rfl) hld5) rfl ⟨_, rfl, HE.out⟩
        ·skip
         go_upto_region 18 with fail
         refine wl <| gzb (eql_nn rfl p 7 (decide_eq_false hk7)) <| gz1 (.bool false) <| wn ?_
         simp only [pu]
         by_cases hk8 : p = 8
         ·skip
          go_upto_region 20 with fail
          refine wl <| gzb (eql_nn rfl p 8 (decide_eq_true hk8)) <| gz1 (.bool true) <| wn ?_
          simp only [pu]
          clear hk0 hk1 hk2 hk3 hk4 hk5 hk6 hk7 hk8
          have HNW : Hid (CfOk (cf.set 10 (n))) := Lib.hid (cf_set HOK.out (by omega) (by omega) (by have := HN.out; have := HWR.out; omega))
          have hset : CC.setIfInBounds 10 (.int .i64 n) = cfA (cf.set 10 (n)) := by rw [← HCC.out]; exact setj HOK.out.1 10 (by omega) (by omega) (by omega) _
          obtain ⟨CN, hCN⟩ : ∃ X, cfA (cf.set 10 (n)) = X := ⟨_, rfl⟩
          rw [hCN] at hset
          obtain ⟨V4, hst4, hY7, hbt4⟩ := st_fld (i := 10) (v := .int .i64 n) (ty := 3) CN hX7 (by rw [HCZ.out]; omega) hset rfl (by kernel_rfl)
          have hX64 := hX63.but hbt4 (by have := HGG.out; omega)
          have hl7 : (Instr.loadAt 24 (.pointer (some ⟨g7, 0, none⟩))).run Tryd.prog V4 = .ok (.agg CN) V4 := by rw [← hCN] at hY7 ⊢; exact load_C hY7
          have AS := sta (cf.set 10 (n))
          rw [hCN] at AS
          obtain ⟨V5, hst5, hld5, -, hbt5⟩ := AS V4 g6 _ rfl hX64
          have HE : Hid (CfO w (.agg CN) V5) := Lib.hid ⟨_, by rw [hCN], HNW.out, (HB3.out.trans (hbt4.1.mono (by have := HGG.out; omega))).trans (hbt5.1.mono (by have := HGG.out; omega))⟩
          clear hset hX64 hbt4 hbt5 hY7 AS hCN HNW HOK HN HWR HCC
          go_upto_region 21 with fail
          refine wl <| gz2 (.int .i64 n) (.pointer (some ⟨g7, 10, none⟩)) <| gzs rfl (hst4) <| wn ?_
          simp only [pu]
          go_upto_region 24 with fail
          refine wl <| gzl rfl ⟨g7, 0, none⟩ (.agg CN) (hl7) <| gzs rfl (hst5) <| wn ?_
          simp only [pu]
          clear hst4 hst5 hl7
          go_wp2_with fail
          exact bodyPost_ret (results_1c (p := 6) rfl (by kernel_rfl) hld5) rfl ⟨_, rfl, HE.out⟩
         ·skip
          go_upto_region 20 with fail
          refine wl <| gzb (eql_nn rfl p 8 (decide_eq_false hk8)) <| gz1 (.bool false) <| wn ?_
          simp only [pu]
          by_cases hk9 : p = 9
          ·skip
           go_upto_region 22 with fail
           refine wl <| gzb (eql_nn rfl p 9 (decide_eq_true hk9)) <| gz1 (.bool true) <| wn ?_
           simp only [pu]
           clear hk0 hk1 hk2 hk3 hk4 hk5 hk6 hk7 hk8 hk9
           have HNW : Hid (CfOk (cf.set 11 (n))) := Lib.hid (cf_set HOK.out (by omega) (by omega) (by have := HN.out; have := HWR.out; omega))
           have hset : CC.setIfInBounds 11 (.int .i64 n) = cfA (cf.set 11 (n)) := by rw [← HCC.out]; exact setj HOK.out.1 11 (by omega) (by omega) (by omega) _
           obtain ⟨CN, hCN⟩ : ∃ X, cfA (cf.set 11 (n)) = X := ⟨_, rfl⟩
           rw [hCN] at hset
           obtain ⟨V4, hst4, hY7, hbt4⟩ := st_fld (i := 11) (v := .int .i64 n) (ty := 3) CN hX7 (by rw [HCZ.out]; omega) hset rfl (by kernel_rfl)
           have hX64 := hX63.but hbt4 (by have := HGG.out; omega)
           have hl7 : (Instr.loadAt 24 (.pointer (some ⟨g7, 0, none⟩))).run Tryd.prog V4 = .ok (.agg CN) V4 := by rw [← hCN] at hY7 ⊢; exact load_C hY7
           have AS := sta (cf.set 11 (n))
           rw [hCN] at AS
           obtain ⟨V5, hst5, hld5, -, hbt5⟩ := AS V4 g6 _ rfl hX64
           have HE : Hid (CfO w (.agg CN) V5) := Lib.hid ⟨_, by rw [hCN], HNW.out, (HB3.out.trans (hbt4.1.mono (by have := HGG.out; omega))).trans (hbt5.1.mono (by have := HGG.out; omega))⟩
           clear hset hX64 hbt4 hbt5 hY7 AS hCN HNW HOK HN HWR HCC
           go_upto_region 23 with fail
           refine wl <| gz2 (.int .i64 n) (.pointer (some ⟨g7, 11, none⟩)) <| gzs rfl (hst4) <| wn ?_
           simp only [pu]
           go_upto_region 24 with fail
           refine wl <| gzl rfl ⟨g7, 0, none⟩ (.agg CN) (hl7) <| gzs rfl (hst5) <| wn ?_
           simp only [pu]
           clear hst4 hst5 hl7
           go_wp2_with fail
           exact bodyPost_ret (results_1c (p := 6) rfl (by kernel_rfl) hld5) rfl ⟨_, rfl, HE.out⟩
          ·skip
           go_upto_region 22 with fail
           refine wl <| gzb (eql_nn rfl p 9 (decide_eq_false hk9)) <| gz1 (.bool false) <| wn ?_
           simp only [pu]
           clear hk0 hk1 hk2 hk3 hk4 hk5 hk6 hk7 hk8 hk9
           have HNW : Hid (CfOk (cf.set 9 (IntKind.u64.wrap n))) := Lib.hid (cf_set HOK.out (by omega) (by omega) (by have := HN.out; have := HWR.out; omega))
           have hset : CC.setIfInBounds 9 (.int .u64 (IntKind.u64.wrap n)) = cfA (cf.set 9 (IntKind.u64.wrap n)) := by rw [← HCC.out]; exact set9 HOK.out.1 _
           obtain ⟨CN, hCN⟩ : ∃ X, cfA (cf.set 9 (IntKind.u64.wrap n)) = X := ⟨_, rfl⟩
           rw [hCN] at hset
           obtain ⟨V4, hst4, hY7, hbt4⟩ := st_fld (i := 9) (v := .int .u64 (IntKind.u64.wrap n)) (ty := 22) CN hX7 (by rw [HCZ.out]; omega) hset rfl (by kernel_rfl)
           have hX64 := hX63.but hbt4 (by have := HGG.out; omega)
           have hl7 : (Instr.loadAt 24 (.pointer (some ⟨g7, 0, none⟩))).run Tryd.prog V4 = .ok (.agg CN) V4 := by rw [← hCN] at hY7 ⊢; exact load_C hY7
           have AS := sta (cf.set 9 (IntKind.u64.wrap n))
           rw [hCN] at AS
           obtain ⟨V5, hst5, hld5, -, hbt5⟩ := AS V4 g6 _ rfl hX64
           have HE : Hid (CfO w (.agg CN) V5) := Lib.hid ⟨_, by rw [hCN], HNW.out, (HB3.out.trans (hbt4.1.mono (by have := HGG.out; omega))).trans (hbt5.1.mono (by have := HGG.out; omega))⟩
           clear hset hX64 hbt4 hbt5 hY7 AS hCN HNW HOK HN HWR HCC
           go_upto_region 3 with fail
           refine wl <| gz1 (.int .i64 n) <| gzv (.int .u64 (IntKind.u64.wrap n)) (cv_ww rfl n (by kernel_rfl) _) <| gz1 (.pointer (some ⟨g7, 9, none⟩)) <| gzs rfl (hst4) <| wn ?_
           simp only [pu]
           go_upto_region 24 with fail
           refine wl <| gzl rfl ⟨g7, 0, none⟩ (.agg CN) (hl7) <| gzs rfl (hst5) <| wn ?_
           simp only [pu]
           clear hst4 hst5 hl7
           go_wp2_with fail
           exact bodyPost_ret (results_1c (p := 6) rfl (by kernel_rfl) hld5) rfl ⟨_, rfl, HE.out⟩
end Go.Proofs.YtplfineaomneiaaDoor
