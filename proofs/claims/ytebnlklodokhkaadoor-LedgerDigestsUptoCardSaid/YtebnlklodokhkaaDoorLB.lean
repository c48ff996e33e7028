/-
  The statements' big, their fixed example: contracts.
-/
import Derived.Test.YtebnlklodokhkaaDoorLS
namespace Go.Proofs.YtebnlklodokhkaaDoor.Lg
set_option maxRecDepth 100000
open Go.RowKit
set_option linter.unusedSimpArgs false
set_option linter.unusedVariables false

set_option maxRecDepth 100000 in
set_option maxHeartbeats 8000000 in
theorem big_any (a : Option Addr) (c : Nat) (A : List Ac) (w : World) (hR : Cs w a (acc A)) (hn : A.length ≤ 4398046511104) :
    Calls Tryd.prog 5 #[.slice a A.length c] w fun e w' => (∃ b, e = .returned (.bool b)) ∧ Below w.heap.size w w' := by
  have HA := Lib.hid hR
  obtain ⟨n, hnn⟩ : ∃ n, A.length = n := ⟨_, rfl⟩
  have HN := Lib.hid hnn
  have HNL : Hid (n ≤ 4398046511104) := Lib.hid (by omega)
  rw [hnn]
  clear hR hn hnn
  go_enter Tryd.func5, Tryd.ntmps5
  go_upto_region 1 with fail
  apply wp_region_lit
  refine gw_val (by kernel_rfl) (some 6) rfl (.slice a n c) (by kernel_rfl) ?_
  simp only [pu1, pu2, pu3, pu4]
  refine gw_val (by kernel_rfl) (some 7) rfl (.int .i64 n) (by kernel_rfl) ?_
  simp only [pu1, pu2, pu3, pu4]
  refine gw_val (by kernel_rfl) (some 3) rfl (.int .i64 n) (by kernel_rfl) ?_
  simp only [pu1, pu2, pu3, pu4]
  apply wpList_nil
  go_upto_region 2 with fail
  apply wp_region_lit
  refine gw_val (by kernel_rfl) (some 8) rfl (.slice a n c) (by kernel_rfl) ?_
  simp only [pu1, pu2, pu3, pu4]
  refine gw_val (by kernel_rfl) (some 9) rfl (.int .i64 n) (by kernel_rfl) ?_
  simp only [pu1, pu2, pu3, pu4]
  refine gw_val (by kernel_rfl) (some 10) rfl (.int .i64 0) (by kernel_rfl) ?_
  simp only [pu1, pu2, pu3, pu4]
  apply wpList_nil
  go_wp2_with fail
  go_loopg [3, 10] n (fun gg s3 s10 wx => ∃ (m : Int) (j : Nat), s3 = .int .i64 m ∧ s10 = .int .i64 j ∧ j ≤ n ∧ Hid (Below w.heap.size w wx) ∧ n - j = gg)
  case atStart => exact ⟨n, 0, rfl, rfl, by omega, Lib.hid (Below.refl _ _), by omega⟩
  case round =>
    obtain ⟨m, j, rfl, rfl, hj, HB, hg⟩ := hrel
    by_cases hlt : j < n
    · skip
      have HG : Hid (n - (j + 1) = gk - 1 ∧ 0 < gk ∧ j + 1 ≤ n) := Lib.hid ⟨by omega, by omega, by omega⟩
      obtain ⟨b, off, rfl, -, hrx⟩ := ac_range (HA.out.below HB.out) (k := j) (by rw [HN.out]; exact hlt)
      have HLD := Lib.hid (load_ac hrx)
      generalize aca A j = y at *
      obtain ⟨V2, hst, hb2, hbx⟩ := new_ac wr y
      have HB2 := Lib.hid (HB.out.trans (hb2.mono HB.out.size))
      obtain ⟨ly, hly⟩ : ∃ ly, y.1.size = ly := ⟨_, rfl⟩
      clear hrx hb2 hg HB
      go_upto_region 3 with fail
      apply wp_region_lit
      refine gw_val (by kernel_rfl) (some 11) rfl (.bool true) (lss_n rfl (j) (n) (decide_eq_true (by omega)) (by kernel_rfl) (by kernel_rfl) _) ?_
      simp only [pu1, pu2, pu3, pu4]
      apply wpList_nil
      go_upto_region 4 with fail
      apply wp_region_lit
      refine gw_val (by kernel_rfl) (some 12) rfl (.pointer (some ⟨b, off + j * 3, none⟩)) (idx_ac b off n c j hlt _ _ _ rfl (by kernel_rfl) (by kernel_rfl)) ?_
      simp only [pu1, pu2, pu3, pu4]
      refine gw_load (by kernel_rfl) (some 13) rfl 37 (.tmp 12) rfl ⟨b, off + j * 3, none⟩ (.agg (acA y)) (by kernel_rfl) (HLD.out) ?_
      simp only [pu1, pu2, pu3, pu4]
      refine run_to rfl (some 5) rfl (.pointer (some ⟨wr.heap.size, 0, none⟩)) (wr.alloc (.cells (acA zAc) 37)) (by kernel_rfl) ?_
      simp only [pu1, pu2, pu3, pu4]
      refine gw_store (by kernel_rfl) rfl 37 (.tmp 5) (.tmp 13) rfl (.pointer (some ⟨wr.heap.size, 0, none⟩)) (.agg (acA y)) (by kernel_rfl) (by kernel_rfl) (V2) (hst) ?_
      apply wpList_nil
      obtain ⟨g4, hg4⟩ : ∃ g4, wr.heap.size = g4 := ⟨_, rfl⟩
      rw [hg4] at hbx ⊢
      clear hst hg4 HLD
      go_upto_region 5 with fail
      apply wp_region_lit
      refine gw_val (by kernel_rfl) (some 14) rfl (.int .i64 m) (by kernel_rfl) ?_
      simp only [pu1, pu2, pu3, pu4]
      refine gw_val (by kernel_rfl) (some 15) rfl (.pointer (some ⟨g4, 0, none⟩)) (by kernel_rfl) ?_
      simp only [pu1, pu2, pu3, pu4]
      refine gw_load (by kernel_rfl) (some 16) rfl 9 (.tmp 15) rfl ⟨g4, 0, none⟩ (.string y.1) (by kernel_rfl) (hbx.load (i := 0) rfl (by kernel_rfl)) ?_
      simp only [pu1, pu2, pu3, pu4]
      refine gw_val (by kernel_rfl) (some 17) rfl (.int .i64 ly) (by rw [← hly]; kernel_rfl) ?_
      simp only [pu1, pu2, pu3, pu4]
      refine gw_val (by kernel_rfl) (some 18) rfl (.int .i64 (IntKind.i64.wrap (m + (ly : Int)))) (add_iw rfl m ly (by kernel_rfl) (by kernel_rfl) _) ?_
      simp only [pu1, pu2, pu3, pu4]
      refine gw_val (by kernel_rfl) (some 3) rfl (.int .i64 (IntKind.i64.wrap (m + (ly : Int)))) (by kernel_rfl) ?_
      simp only [pu1, pu2, pu3, pu4]
      apply wpList_nil
      clear hly hbx
      obtain ⟨m2, hm2⟩ : ∃ m2, IntKind.i64.wrap (m + (ly : Int)) = m2 := ⟨_, rfl⟩
      rw [hm2]
      clear hm2
      go_upto_region 6 with fail
      apply wp_region_lit
      refine gw_val (by kernel_rfl) (some 19) rfl (.int .i64 (j + 1 : Nat)) (add_nat rfl j 1 (by have := HNL.out; have := HG.out; omega) (by kernel_rfl) (by kernel_rfl) _) ?_
      simp only [pu1, pu2, pu3, pu4]
      refine gw_val (by kernel_rfl) (some 10) rfl (.int .i64 (j + 1 : Nat)) (by kernel_rfl) ?_
      simp only [pu1, pu2, pu3, pu4]
      apply wpList_nil
      go_wp2_with fail
      go_roundg (gk - 1)
      case measure => have := HG.out; omega
      case rel => exact ⟨m2, j + 1, rfl, rfl, HG.out.2.2, HB2, HG.out.1⟩
    · skip
      have HB9 := HB
      clear hg
      go_upto_region 3 with fail
      apply wp_region_lit
      refine gw_val (by kernel_rfl) (some 11) rfl (.bool false) (lss_n rfl (j) (n) (decide_eq_false (by omega)) (by kernel_rfl) (by kernel_rfl) _) ?_
      simp only [pu1, pu2, pu3, pu4]
      apply wpList_nil
      go_upto_region 7 with fail
      apply wp_region_lit
      refine gw_val (by kernel_rfl) (some 20) rfl (.int .i64 m) (by kernel_rfl) ?_
      simp only [pu1, pu2, pu3, pu4]
      refine gw_val (by kernel_rfl) (some 21) rfl (.bool (decide ((300 : Int) < m))) (gtr_any rfl m 300 (by kernel_rfl) (by kernel_rfl) _) ?_
      simp only [pu1, pu2, pu3, pu4]
      refine gw_val (by kernel_rfl) (some 2) rfl (.bool (decide ((300 : Int) < m))) (by kernel_rfl) ?_
      simp only [pu1, pu2, pu3, pu4]
      apply wpList_nil
      go_wp2_with fail
      go_ret
      exact ⟨⟨_, rfl⟩, HB9.out⟩
def kA : List Ac := [(⟨#[98]⟩, 3, 0), (⟨#[97]⟩, 4, 1)]
def kL : List Ac := [(⟨#[97]⟩, 4, 1), (⟨#[98]⟩, 3, 0)]
def kM : List Ac := [(⟨#[97]⟩, 4, 1), (⟨#[97, 97]⟩, 1, 0), (⟨#[98]⟩, 3, 0)]
theorem k_gen : genY kA = (kL, 0, 0) := by decide +kernel
theorem k_set : setX kL 0 (⟨#[97, 97]⟩, 1, 0) = (kM, 0, 0) := by decide +kernel
theorem k_tot : totV kM 0 = 8 ∧ totB kM 0 = true := by decide +kernel
theorem k_get : getX kM ⟨#[97]⟩ = ((⟨#[97]⟩, 4, 1), true) := by decide +kernel
theorem k_val : valE kM 0 = 0 := by decide +kernel
theorem k_w : AcW kA ∧ AcW kL ∧ AcW kM := ⟨acw_of (by unfold W64; decide +kernel), acw_of (by unfold W64; decide +kernel), acw_of (by unfold W64; decide +kernel)⟩
theorem k_z : (∀ x, x ∈ kA → x.1.size ≤ 140737488355328) ∧ (∀ x, x ∈ kL → x.1.size ≤ 140737488355328) ∧ (∀ x, x ∈ kM → x.1.size ≤ 140737488355328) := ⟨by decide +kernel, by decide +kernel, by decide +kernel⟩
theorem build_two (x y : Ac) (V : World) : (Instr.buildSlice 22 2 #[(0, .agg (acA x)), (1, .agg (acA y))]).run Tryd.prog V = .ok (.slice (some ⟨V.heap.size, 0, none⟩) 2 2) (V.alloc (.cells #[.string x.1, .int .u64 x.2.1, .int .u64 x.2.2, .string y.1, .int .u64 y.2.1, .int .u64 y.2.2] 37)) := by
  obtain ⟨i0, hi, hz0, hz1, hz2⟩ := info_parts infoAc
  refine run_buildSlice V 22 37 2 _ _ i0 _ Tryd.underlying22 hi hz0 (by rw [hz1]; omega) (by rw [hz1]; omega) ?_
  rw [hz1]
  kernel_rfl
theorem nth_n {A : List Ac} {w : World} {a : Option Addr} (h : Cs w a (acc A)) {k : Nat} (hk : k < A.length) : ∃ b off, a = some ⟨b, off, none⟩ ∧ NmAt w b (off + k * 3) (aca A k).1 := by
  obtain ⟨b, off, e, -, hr⟩ := ac_range h hk
  exact ⟨b, off, e, nm_at hr⟩
theorem eql_u6 {ρ : Operand → Value} {o : Oper} {x y : Operand} (ho : o.op = .binOp .eql 23 x y 23) (a b : Int) {t : Bool} (ht : decide (a = b) = t) (hx : ρ x = .int .u64 a) (hy : ρ y = .int .u64 b) (w : World) : (execOp ρ o).run Tryd.prog w = .ok (.value (.bool t)) w := by
  have e : (a == b) = t := ht
  unfold execOp
  simp only [ho, hx, hy]
  go_simp
set_option maxRecDepth 100000 in
set_option maxHeartbeats 8000000 in
theorem known_true (w : World) : Calls Tryd.prog 6 #[] w fun e w' => e = .returned (.bool true) ∧ Below w.heap.size w w' := by
  have hbu := build_two (⟨#[98]⟩, 3, 0) (⟨#[97]⟩, 4, 1) w
  have hb1 : Below w.heap.size w (w.alloc (.cells (acc kA).toArray 37)) := (Below.refl _ w).alloc (Nat.le_refl _) _
  have hc1 : Cs (w.alloc (.cells (acc kA).toArray 37)) (some ⟨w.heap.size, 0, none⟩) (acc kA) := Cs.block (t := 37) (fr := (0, 0)) (heap_alloc_last w _)
  have CG := q_genesis (some ⟨w.heap.size, 0, none⟩) 2 kA (w.alloc (.cells (acc kA).toArray 37)) hc1 (by decide) k_w.1 k_z.1
  rw [k_gen] at CG
  change (Instr.buildSlice 22 2 _).run Tryd.prog w = .ok _ (w.alloc (.cells (acc kA).toArray 37)) at hbu
  have HKL := Lib.hid (fun (V : World) (a : Option Addr) (k : Nat) (h : Cs V a (acc kL)) (hk : 2 ≤ k) => q_set a k kL 0 (⟨#[97, 97]⟩, 1, 0) V h hk (by decide) w64_0 k_w.2.1 k_z.2.1 ⟨⟨by decide, by decide⟩, w64_0⟩ (by decide))
  rw [k_set] at HKL
  have HKT := Lib.hid (fun (V : World) (a : Option Addr) (k : Nat) (h : Cs V a (acc kM)) => q_total a k kM 0 V h (by decide) w64_0 k_w.2.2)
  rw [k_tot.1, k_tot.2] at HKT
  have HKG := Lib.hid (fun (V : World) (a : Option Addr) (k : Nat) (h : Cs V a (acc kM)) => q_get a k kM 0 ⟨#[97]⟩ V h (by decide))
  rw [k_get] at HKG
  have HKV := Lib.hid (fun (V : World) (a : Option Addr) (k : Nat) (h : Cs V a (acc kM)) => q_validate a k kM 0 V h (by decide) w64_0 k_w.2.2 k_z.2.2)
  rw [k_val] at HKV
  have HN0 := Lib.hid (fun (V : World) (a : Option Addr) (h : Cs V a (acc kL)) => nth_n h (k := 0) (by decide))
  have HN1 := Lib.hid (fun (V : World) (a : Option Addr) (h : Cs V a (acc kM)) => nth_n h (k := 1) (by decide))
  generalize w.alloc (.cells (acc kA).toArray 37) = W at *
  clear hc1
  go_enter Tryd.func6, Tryd.ntmps6
  go_upto_region 1 with fail
  apply wp_region_lit
  refine gw_val (by kernel_rfl) (some 10) rfl (.agg (acA (⟨#[98]⟩, 3, 0))) (by kernel_rfl) ?_
  simp only [pu1, pu2, pu3, pu4]
  refine gw_val (by kernel_rfl) (some 11) rfl (.agg (acA (⟨#[97]⟩, 4, 1))) (by kernel_rfl) ?_
  simp only [pu1, pu2, pu3, pu4]
  refine gw_build (by kernel_rfl) (some 12) rfl 22 2 #[(0, .tmp 10), (1, .tmp 11)] rfl #[(0, .agg (acA (⟨#[98]⟩, 3, 0))), (1, .agg (acA (⟨#[97]⟩, 4, 1)))] (by kernel_rfl) (.slice (some ⟨w.heap.size, 0, none⟩) 2 2) _ hbu ?_
  simp only [pu1, pu2, pu3, pu4]
  refine gw_callE (by kernel_rfl) (some 13) rfl 10 #[.slice (some ⟨w.heap.size, 0, none⟩) 2 2] (fun v w' => ∃ ad kk, v = .tuple #[.agg (lgA ad 2 kk 0), .int .i64 0] ∧ Cs w' ad (acc kL) ∧ 2 ≤ kk ∧ Below W.heap.size W w') (by kernel_rfl) ((CG).mono fun e w' q => by obtain ⟨ad, kk, h1, h2, h3⟩ := q; obtain ⟨a9, c9, e9, h4, h5⟩ := own_cs h2; simp only [Value.slice.injEq, true_and] at e9; obtain ⟨rfl, rfl⟩ := e9; exact ⟨_, h1, ad, kk, rfl, h4, h5, h3⟩) (fun vv V1 hq => ?_)
  obtain ⟨a1, k1, rfl, hcV1, hkV1, hbV1⟩ := hq
  obtain ⟨V2, hst2, hb2, hbx2⟩ := new_lg V1 a1 2 k1 0
  simp only [pu1, pu2, pu3, pu4]
  refine gw_val (by kernel_rfl) (some 9) rfl (.tuple #[.agg (lgA a1 2 k1 0), .int .i64 0]) (by kernel_rfl) ?_
  simp only [pu1, pu2, pu3, pu4]
  refine gw_val (by kernel_rfl) (some 14) rfl (.agg (lgA a1 2 k1 0)) (by kernel_rfl) ?_
  simp only [pu1, pu2, pu3, pu4]
  refine gw_val (by kernel_rfl) (some 15) rfl (.int .i64 0) (by kernel_rfl) ?_
  simp only [pu1, pu2, pu3, pu4]
  refine run_to rfl (some 1) rfl (.pointer (some ⟨V1.heap.size, 0, none⟩)) (V1.alloc (.cells (lgA none 0 0 0) 25)) (by kernel_rfl) ?_
  simp only [pu1, pu2, pu3, pu4]
  refine gw_store (by kernel_rfl) rfl 25 (.tmp 1) (.tmp 14) rfl (.pointer (some ⟨V1.heap.size, 0, none⟩)) (.agg (lgA a1 2 k1 0)) (by kernel_rfl) (by kernel_rfl) (V2) (hst2) ?_
  refine gw_val (by kernel_rfl) (some 2) rfl (.int .i64 0) (by kernel_rfl) ?_
  simp only [pu1, pu2, pu3, pu4]
  apply wpList_nil
  obtain ⟨g1, hg1⟩ : ∃ g1, V1.heap.size = g1 := ⟨_, rfl⟩
  have HX2 := Lib.hid hbx2
  have HB2 := Lib.hid (hb1.trans ((hbV1.trans (hb2.mono hbV1.size)).mono hb1.size))
  have HC2 := Lib.hid (hcV1.below hb2)
  have HK1 := Lib.hid hkV1
  rw [hg1] at HX2 ⊢
  clear hbx2 hb1 hbV1 hb2 hcV1 hst2 hg1 hbu CG hkV1
  go_upto_region 2 with fail
  apply wp_region_lit
  refine gw_val (by kernel_rfl) (some 16) rfl (.int .i64 0) (by kernel_rfl) ?_
  simp only [pu1, pu2, pu3, pu4]
  refine gw_val (by kernel_rfl) (some 17) rfl (.bool false) (neq_e rfl 0 0 (decide_eq_true rfl) (by kernel_rfl) (by kernel_rfl) _) ?_
  simp only [pu1, pu2, pu3, pu4]
  refine gw_val (by kernel_rfl) (some 18) rfl (.bool false) (by kernel_rfl) ?_
  simp only [pu1, pu2, pu3, pu4]
  refine gw_val (by kernel_rfl) (some 19) rfl (.pointer (some ⟨g1, 0, none⟩)) (by kernel_rfl) ?_
  simp only [pu1, pu2, pu3, pu4]
  refine gw_load (by kernel_rfl) (some 20) rfl 22 (.tmp 19) rfl ⟨g1, 0, none⟩ (.slice a1 2 k1) (by kernel_rfl) (HX2.out.load (i := 0) rfl (by kernel_rfl)) ?_
  simp only [pu1, pu2, pu3, pu4]
  refine gw_val (by kernel_rfl) (some 21) rfl (.int .i64 2) (by kernel_rfl) ?_
  simp only [pu1, pu2, pu3, pu4]
  refine gw_val (by kernel_rfl) (some 22) rfl (.bool false) (neq_n rfl 2 2 (decide_eq_true rfl) (by kernel_rfl) (by kernel_rfl) _) ?_
  simp only [pu1, pu2, pu3, pu4]
  refine gw_val (by kernel_rfl) (some 23) rfl (.bool false) (by kernel_rfl) ?_
  simp only [pu1, pu2, pu3, pu4]
  apply wpList_nil
  have CS := HKL.out V2 a1 k1 HC2.out HK1.out
  go_upto_region 4 with fail
  apply wp_region_lit
  refine gw_load (by kernel_rfl) (some 25) rfl 25 (.tmp 1) rfl ⟨g1, 0, none⟩ (.agg (lgA a1 2 k1 0)) (by kernel_rfl) (load_lg HX2.out) ?_
  simp only [pu1, pu2, pu3, pu4]
  refine gw_val (by kernel_rfl) (some 26) rfl (.agg (acA (⟨#[97, 97]⟩, 1, 0))) (by kernel_rfl) ?_
  simp only [pu1, pu2, pu3, pu4]
  refine gw_callE (by kernel_rfl) (some 27) rfl 11 #[.agg (lgA a1 2 k1 0), .agg (acA (⟨#[97, 97]⟩, 1, 0))] (fun v w' => ∃ ad kk, v = .tuple #[.agg (lgA ad 3 kk 0), .int .i64 0] ∧ Cs w' ad (acc kM) ∧ 3 ≤ kk ∧ Below V2.heap.size V2 w') (by kernel_rfl) ((CS).mono fun e w' q => by obtain ⟨ad, kk, h1, h2, h3⟩ := q; obtain ⟨a9, c9, e9, h4, h5⟩ := own_cs h2; simp only [Value.slice.injEq, true_and] at e9; obtain ⟨rfl, rfl⟩ := e9; exact ⟨_, h1, ad, kk, rfl, h4, h5, h3⟩) (fun vv V3 hq => ?_)
  obtain ⟨a3, k3, rfl, hcV3, hkV3, hbV3⟩ := hq
  obtain ⟨V4, hst4, hb4, hbx4⟩ := new_lg V3 a3 3 k3 0
  simp only [pu1, pu2, pu3, pu4]
  refine gw_val (by kernel_rfl) (some 24) rfl (.tuple #[.agg (lgA a3 3 k3 0), .int .i64 0]) (by kernel_rfl) ?_
  simp only [pu1, pu2, pu3, pu4]
  refine gw_val (by kernel_rfl) (some 28) rfl (.agg (lgA a3 3 k3 0)) (by kernel_rfl) ?_
  simp only [pu1, pu2, pu3, pu4]
  refine gw_val (by kernel_rfl) (some 29) rfl (.int .i64 0) (by kernel_rfl) ?_
  simp only [pu1, pu2, pu3, pu4]
  refine run_to rfl (some 3) rfl (.pointer (some ⟨V3.heap.size, 0, none⟩)) (V3.alloc (.cells (lgA none 0 0 0) 25)) (by kernel_rfl) ?_
  simp only [pu1, pu2, pu3, pu4]
  refine gw_store (by kernel_rfl) rfl 25 (.tmp 3) (.tmp 28) rfl (.pointer (some ⟨V3.heap.size, 0, none⟩)) (.agg (lgA a3 3 k3 0)) (by kernel_rfl) (by kernel_rfl) (V4) (hst4) ?_
  refine gw_val (by kernel_rfl) (some 4) rfl (.int .i64 0) (by kernel_rfl) ?_
  simp only [pu1, pu2, pu3, pu4]
  apply wpList_nil
  obtain ⟨g3, hg3⟩ : ∃ g3, V3.heap.size = g3 := ⟨_, rfl⟩
  have hb24 := hbV3.trans (hb4.mono hbV3.size)
  have HX4 := Lib.hid hbx4
  have HX2b := Lib.hid (HX2.out.below HX2.out.lt hb24)
  have HC2b := Lib.hid (HC2.out.below hb24)
  have HB4 := Lib.hid (HB2.out.trans (hb24.mono HB2.out.size))
  have HC4 := Lib.hid (hcV3.below hb4)
  rw [hg3] at HX4 ⊢
  have CT := HKT.out V4 a3 k3 HC4.out
  clear hbx4 hb4 hbV3 hb24 hcV3 hst4 hg3 CS hkV3 HX2 HC2 HB2
  go_upto_region 5 with fail
  apply wp_region_lit
  refine gw_load (by kernel_rfl) (some 31) rfl 25 (.tmp 3) rfl ⟨g3, 0, none⟩ (.agg (lgA a3 3 k3 0)) (by kernel_rfl) (load_lg HX4.out) ?_
  simp only [pu1, pu2, pu3, pu4]
  refine gw_call (by kernel_rfl) (some 32) rfl 12 #[.agg (lgA a3 3 k3 0)] (.tuple #[.int .u64 8, .bool true]) (fun w' => Below V4.heap.size V4 w') (by kernel_rfl) (CT) (fun V5 hV5 => ?_)
  simp only [pu1, pu2, pu3, pu4]
  refine gw_val (by kernel_rfl) (some 30) rfl (.tuple #[.int .u64 8, .bool true]) (by kernel_rfl) ?_
  simp only [pu1, pu2, pu3, pu4]
  refine gw_val (by kernel_rfl) (some 33) rfl (.int .u64 8) (by kernel_rfl) ?_
  simp only [pu1, pu2, pu3, pu4]
  refine gw_val (by kernel_rfl) (some 34) rfl (.bool true) (by kernel_rfl) ?_
  simp only [pu1, pu2, pu3, pu4]
  refine gw_val (by kernel_rfl) (some 5) rfl (.int .u64 8) (by kernel_rfl) ?_
  simp only [pu1, pu2, pu3, pu4]
  refine gw_val (by kernel_rfl) (some 6) rfl (.bool true) (by kernel_rfl) ?_
  simp only [pu1, pu2, pu3, pu4]
  apply wpList_nil
  have HX5 := Lib.hid (HX4.out.below HX4.out.lt hV5)
  have HX25 := Lib.hid (HX2b.out.below HX2b.out.lt hV5)
  have HC25 := Lib.hid (HC2b.out.below hV5)
  have HC5 := Lib.hid (HC4.out.below hV5)
  have HB5 := Lib.hid (HB4.out.trans (hV5.mono HB4.out.size))
  have CG := HKG.out V5 a3 k3 HC5.out
  clear CT hV5 HX4 HX2b HC2b HC4 HB4
  go_upto_region 6 with fail
  apply wp_region_lit
  refine gw_load (by kernel_rfl) (some 36) rfl 25 (.tmp 3) rfl ⟨g3, 0, none⟩ (.agg (lgA a3 3 k3 0)) (by kernel_rfl) (load_lg HX5.out) ?_
  simp only [pu1, pu2, pu3, pu4]
  refine gw_call (by kernel_rfl) (some 37) rfl 13 #[.agg (lgA a3 3 k3 0), .string ⟨#[97]⟩] (.tuple #[.agg (acA (⟨#[97]⟩, 4, 1)), .bool true]) (fun w' => Below V5.heap.size V5 w') (by kernel_rfl) (CG) (fun V6 hV6 => ?_)
  obtain ⟨V7, hst7, hb7, hbx7⟩ := new_ac V6 (⟨#[97]⟩, 4, 1)
  simp only [pu1, pu2, pu3, pu4]
  refine gw_val (by kernel_rfl) (some 35) rfl (.tuple #[.agg (acA (⟨#[97]⟩, 4, 1)), .bool true]) (by kernel_rfl) ?_
  simp only [pu1, pu2, pu3, pu4]
  refine gw_val (by kernel_rfl) (some 38) rfl (.agg (acA (⟨#[97]⟩, 4, 1))) (by kernel_rfl) ?_
  simp only [pu1, pu2, pu3, pu4]
  refine gw_val (by kernel_rfl) (some 39) rfl (.bool true) (by kernel_rfl) ?_
  simp only [pu1, pu2, pu3, pu4]
  refine run_to rfl (some 7) rfl (.pointer (some ⟨V6.heap.size, 0, none⟩)) (V6.alloc (.cells (acA zAc) 37)) (by kernel_rfl) ?_
  simp only [pu1, pu2, pu3, pu4]
  refine gw_store (by kernel_rfl) rfl 37 (.tmp 7) (.tmp 38) rfl (.pointer (some ⟨V6.heap.size, 0, none⟩)) (.agg (acA (⟨#[97]⟩, 4, 1))) (by kernel_rfl) (by kernel_rfl) (V7) (hst7) ?_
  refine gw_val (by kernel_rfl) (some 8) rfl (.bool true) (by kernel_rfl) ?_
  simp only [pu1, pu2, pu3, pu4]
  apply wpList_nil
  obtain ⟨g7, hg7⟩ : ∃ g7, V6.heap.size = g7 := ⟨_, rfl⟩
  have hb57 := hV6.trans (hb7.mono hV6.size)
  have HX7 := Lib.hid hbx7
  have HX57 := Lib.hid (HX5.out.below HX5.out.lt hb57)
  have HX27 := Lib.hid (HX25.out.below HX25.out.lt hb57)
  obtain ⟨b1, o1, rfl, hn1⟩ := HN0.out V7 a1 (HC25.out.below hb57)
  obtain ⟨b3, o3, rfl, hn3⟩ := HN1.out V7 a3 (HC5.out.below hb57)
  have HM1 := Lib.hid hn1
  have HM3 := Lib.hid hn3
  have HB7 := Lib.hid (HB5.out.trans (hb57.mono HB5.out.size))
  have CV := HKV.out V7 (some ⟨b3, o3, none⟩) k3 (HC5.out.below hb57)
  rw [hg7] at HX7 ⊢
  clear hbx7 hb7 hV6 hb57 hst7 hg7 CG hn1 hn3 HX5 HX25 HC25 HC5 HB5
  go_upto_region 7 with fail
  apply wp_region_lit
  refine gw_val (by kernel_rfl) (some 40) rfl (.pointer (some ⟨g1, 0, none⟩)) (by kernel_rfl) ?_
  simp only [pu1, pu2, pu3, pu4]
  refine gw_load (by kernel_rfl) (some 41) rfl 22 (.tmp 40) rfl ⟨g1, 0, none⟩ (.slice (some ⟨b1, o1, none⟩) 2 k1) (by kernel_rfl) (HX27.out.load (i := 0) rfl (by kernel_rfl)) ?_
  simp only [pu1, pu2, pu3, pu4]
  refine gw_val (by kernel_rfl) (some 42) rfl (.pointer (some ⟨b1, o1 + 0 * 3, none⟩)) (idx_ac b1 o1 2 k1 0 (by omega) _ _ _ rfl (by kernel_rfl) (by kernel_rfl)) ?_
  simp only [pu1, pu2, pu3, pu4]
  refine gw_val (by kernel_rfl) (some 43) rfl (.pointer (some ⟨b1, o1 + 0 * 3, none⟩)) (by kernel_rfl) ?_
  simp only [pu1, pu2, pu3, pu4]
  refine gw_load (by kernel_rfl) (some 44) rfl 9 (.tmp 43) rfl ⟨b1, o1 + 0 * 3, none⟩ (.string ⟨#[97]⟩) (by kernel_rfl) (HM1.out.load) ?_
  simp only [pu1, pu2, pu3, pu4]
  refine gw_val (by kernel_rfl) (some 45) rfl (.bool true) (eql_s rfl ⟨#[97]⟩ ⟨#[97]⟩ (by rw [beqB]; exact decide_eq_true rfl) (by kernel_rfl) (by kernel_rfl) _) ?_
  simp only [pu1, pu2, pu3, pu4]
  refine gw_val (by kernel_rfl) (some 46) rfl (.bool true) (by kernel_rfl) ?_
  simp only [pu1, pu2, pu3, pu4]
  refine gw_val (by kernel_rfl) (some 47) rfl (.int .i64 0) (by kernel_rfl) ?_
  simp only [pu1, pu2, pu3, pu4]
  refine gw_val (by kernel_rfl) (some 48) rfl (.bool true) (eql_e rfl 0 0 (decide_eq_true rfl) (by kernel_rfl) (by kernel_rfl) _) ?_
  simp only [pu1, pu2, pu3, pu4]
  refine gw_val (by kernel_rfl) (some 49) rfl (.bool true) (by kernel_rfl) ?_
  simp only [pu1, pu2, pu3, pu4]
  refine gw_val (by kernel_rfl) (some 50) rfl (.bool true) (by kernel_rfl) ?_
  simp only [pu1, pu2, pu3, pu4]
  refine gw_val (by kernel_rfl) (some 51) rfl (.pointer (some ⟨g3, 0, none⟩)) (by kernel_rfl) ?_
  simp only [pu1, pu2, pu3, pu4]
  refine gw_load (by kernel_rfl) (some 52) rfl 22 (.tmp 51) rfl ⟨g3, 0, none⟩ (.slice (some ⟨b3, o3, none⟩) 3 k3) (by kernel_rfl) (HX57.out.load (i := 0) rfl (by kernel_rfl)) ?_
  simp only [pu1, pu2, pu3, pu4]
  refine gw_val (by kernel_rfl) (some 53) rfl (.int .i64 3) (by kernel_rfl) ?_
  simp only [pu1, pu2, pu3, pu4]
  refine gw_val (by kernel_rfl) (some 54) rfl (.bool true) (eql_n rfl 3 3 (decide_eq_true rfl) (by kernel_rfl) (by kernel_rfl) _) ?_
  simp only [pu1, pu2, pu3, pu4]
  refine gw_val (by kernel_rfl) (some 55) rfl (.bool true) (by kernel_rfl) ?_
  simp only [pu1, pu2, pu3, pu4]
  refine gw_val (by kernel_rfl) (some 56) rfl (.bool true) (by kernel_rfl) ?_
  simp only [pu1, pu2, pu3, pu4]
  refine gw_val (by kernel_rfl) (some 57) rfl (.pointer (some ⟨g3, 0, none⟩)) (by kernel_rfl) ?_
  simp only [pu1, pu2, pu3, pu4]
  refine gw_load (by kernel_rfl) (some 58) rfl 22 (.tmp 57) rfl ⟨g3, 0, none⟩ (.slice (some ⟨b3, o3, none⟩) 3 k3) (by kernel_rfl) (HX57.out.load (i := 0) rfl (by kernel_rfl)) ?_
  simp only [pu1, pu2, pu3, pu4]
  refine gw_val (by kernel_rfl) (some 59) rfl (.pointer (some ⟨b3, o3 + 1 * 3, none⟩)) (idx_ac b3 o3 3 k3 1 (by omega) _ _ _ rfl (by kernel_rfl) (by kernel_rfl)) ?_
  simp only [pu1, pu2, pu3, pu4]
  refine gw_val (by kernel_rfl) (some 60) rfl (.pointer (some ⟨b3, o3 + 1 * 3, none⟩)) (by kernel_rfl) ?_
  simp only [pu1, pu2, pu3, pu4]
  refine gw_load (by kernel_rfl) (some 61) rfl 9 (.tmp 60) rfl ⟨b3, o3 + 1 * 3, none⟩ (.string ⟨#[97, 97]⟩) (by kernel_rfl) (HM3.out.load) ?_
  simp only [pu1, pu2, pu3, pu4]
  refine gw_val (by kernel_rfl) (some 62) rfl (.bool true) (eql_s rfl ⟨#[97, 97]⟩ ⟨#[97, 97]⟩ (by rw [beqB]; exact decide_eq_true rfl) (by kernel_rfl) (by kernel_rfl) _) ?_
  simp only [pu1, pu2, pu3, pu4]
  refine gw_val (by kernel_rfl) (some 63) rfl (.bool true) (by kernel_rfl) ?_
  simp only [pu1, pu2, pu3, pu4]
  refine gw_val (by kernel_rfl) (some 64) rfl (.bool true) (by kernel_rfl) ?_
  simp only [pu1, pu2, pu3, pu4]
  refine gw_val (by kernel_rfl) (some 65) rfl (.int .u64 8) (by kernel_rfl) ?_
  simp only [pu1, pu2, pu3, pu4]
  refine gw_val (by kernel_rfl) (some 66) rfl (.bool true) (eql_u6 rfl 8 8 (decide_eq_true rfl) (by kernel_rfl) (by kernel_rfl) _) ?_
  simp only [pu1, pu2, pu3, pu4]
  refine gw_val (by kernel_rfl) (some 67) rfl (.bool true) (by kernel_rfl) ?_
  simp only [pu1, pu2, pu3, pu4]
  refine gw_val (by kernel_rfl) (some 68) rfl (.bool true) (by kernel_rfl) ?_
  simp only [pu1, pu2, pu3, pu4]
  refine gw_val (by kernel_rfl) (some 69) rfl (.bool true) (by kernel_rfl) ?_
  simp only [pu1, pu2, pu3, pu4]
  refine gw_val (by kernel_rfl) (some 70) rfl (.bool true) (by kernel_rfl) ?_
  simp only [pu1, pu2, pu3, pu4]
  refine gw_val (by kernel_rfl) (some 71) rfl (.bool true) (by kernel_rfl) ?_
  simp only [pu1, pu2, pu3, pu4]
  refine gw_val (by kernel_rfl) (some 72) rfl (.bool true) (by kernel_rfl) ?_
  simp only [pu1, pu2, pu3, pu4]
  refine gw_val (by kernel_rfl) (some 73) rfl (.bool true) (by kernel_rfl) ?_
  simp only [pu1, pu2, pu3, pu4]
  refine gw_val (by kernel_rfl) (some 74) rfl (.bool true) (by kernel_rfl) ?_
  simp only [pu1, pu2, pu3, pu4]
  refine gw_val (by kernel_rfl) (some 75) rfl (.pointer (some ⟨g7, 2, none⟩)) (by kernel_rfl) ?_
  simp only [pu1, pu2, pu3, pu4]
  refine gw_load (by kernel_rfl) (some 76) rfl 23 (.tmp 75) rfl ⟨g7, 2, none⟩ (.int .u64 1) (by kernel_rfl) (HX7.out.load (i := 2) rfl (by kernel_rfl)) ?_
  simp only [pu1, pu2, pu3, pu4]
  refine gw_val (by kernel_rfl) (some 77) rfl (.bool true) (eql_u6 rfl 1 1 (decide_eq_true rfl) (by kernel_rfl) (by kernel_rfl) _) ?_
  simp only [pu1, pu2, pu3, pu4]
  refine gw_val (by kernel_rfl) (some 78) rfl (.bool true) (by kernel_rfl) ?_
  simp only [pu1, pu2, pu3, pu4]
  refine gw_val (by kernel_rfl) (some 79) rfl (.bool true) (by kernel_rfl) ?_
  simp only [pu1, pu2, pu3, pu4]
  refine gw_load (by kernel_rfl) (some 80) rfl 25 (.tmp 3) rfl ⟨g3, 0, none⟩ (.agg (lgA (some ⟨b3, o3, none⟩) 3 k3 0)) (by kernel_rfl) (load_lg HX57.out) ?_
  simp only [pu1, pu2, pu3, pu4]
  refine gw_call (by kernel_rfl) (some 81) rfl 14 #[.agg (lgA (some ⟨b3, o3, none⟩) 3 k3 0)] (.int .i64 0) (fun w' => Below V7.heap.size V7 w') (by kernel_rfl) (CV) (fun V8 hV8 => ?_)
  have HE := Lib.hid (HB7.out.trans (hV8.mono HB7.out.size))
  simp only [pu1, pu2, pu3, pu4]
  refine gw_val (by kernel_rfl) (some 82) rfl (.bool true) (eql_e rfl 0 0 (decide_eq_true rfl) (by kernel_rfl) (by kernel_rfl) _) ?_
  simp only [pu1, pu2, pu3, pu4]
  refine gw_val (by kernel_rfl) (some 83) rfl (.bool true) (by kernel_rfl) ?_
  simp only [pu1, pu2, pu3, pu4]
  refine gw_val (by kernel_rfl) (some 0) rfl (.bool true) (by kernel_rfl) ?_
  simp only [pu1, pu2, pu3, pu4]
  apply wpList_nil
  clear CV hV8 HM1 HM3 HX7 HX57 HX27
  go_wp2_with fail
  go_ret
  exact ⟨rfl, HE.out⟩
end Go.Proofs.YtebnlklodokhkaaDoor.Lg
