/-
  big: some answer.
-/
import Derived.Test.YtaaeepanelmgnaaRS
namespace Go.Proofs.Ytaaeepanelmgnaa
open Go.RowKit
set_option linter.unusedSimpArgs false
set_option linter.unusedVariables false

theorem add_iw {ρ : Operand → Value} {o : Oper} {x y : Operand} (ho : o.op = .binOp .add 3 x y 3) (a b : Int) (hx : ρ x = .int .i64 a) (hy : ρ y = .int .i64 b) (w : World) : (execOp ρ o).run Try.prog w = .ok (.value (.int .i64 (IntKind.i64.wrap (a + b)))) w := by
  unfold execOp
  simp only [ho, hx, hy]
  go_simp
theorem gtr_any {ρ : Operand → Value} {o : Oper} {x y : Operand} (ho : o.op = .binOp .gtr 3 x y 3) (a b : Int) (hx : ρ x = .int .i64 a) (hy : ρ y = .int .i64 b) (w : World) : (execOp ρ o).run Try.prog w = .ok (.value (.bool (decide (b < a)))) w := by
  unfold execOp
  simp only [ho, hx, hy]
  go_simp
set_option maxRecDepth 100000 in
set_option maxHeartbeats 8000000 in
theorem big_any (x : Txd) (a : Option Addr) (c : Nat) (w : World) (hR : Cs w a (tfc x.tr)) (hn : x.tr.length ≤ 9223372036854775807) :
    Calls Try.prog 15 #[.agg (txA x a c)] w fun e w' => (∃ b, e = .returned (.bool b)) ∧ Below w.heap.size w w' := by
  have hb0 : Below w.heap.size w (w.alloc (.cells (txA x a c) 29)) := (Below.refl _ w).alloc (Nat.le_refl _) _
  have hX0 : Bx (w.alloc (.cells (txA x a c) 29)) w.heap.size (txA x a c) 29 := heap_alloc_last w _
  have HA := Lib.hid (hR.below hb0)
  obtain ⟨snd, sq, gas, fee, memo, M⟩ := x
  simp only [txA] at hb0 hX0 HA hn ⊢
  obtain ⟨n, hnn⟩ : ∃ n, M.length = n := ⟨_, rfl⟩
  obtain ⟨l1, hl1⟩ : ∃ l1, snd.size = l1 := ⟨_, rfl⟩
  obtain ⟨l2, hl2⟩ : ∃ l2, memo.size = l2 := ⟨_, rfl⟩
  have HN := Lib.hid hnn
  have HNL : Hid (n ≤ 9223372036854775807) := Lib.hid (by rw [← hnn]; exact hn)
  have H1 := Lib.hid hl1
  have H2 := Lib.hid hl2
  rw [hnn] at hb0 hX0 HA ⊢
  clear hR hnn hl1 hl2 hn
  go_enter Try.func15, Try.ntmps15
  go_upto_region 1 with fail
  change Code.wp _ _ _ _ (w.alloc (.cells #[.string snd, .int .u64 sq, .int .u64 gas, .int .u64 fee, .string memo, .slice a n c] 29))
  generalize w.alloc (.cells #[.string snd, .int .u64 sq, .int .u64 gas, .int .u64 fee, .string memo, .slice a n c] 29) = W at *
  obtain ⟨g0, hg0⟩ : ∃ g0, w.heap.size = g0 := ⟨_, rfl⟩
  have HB0 := Lib.hid hb0
  rw [hg0] at hX0
  simp only [hg0]
  have HX := Lib.hid hX0
  clear hb0 hg0 hX0
  apply wp_region_lit
  refine gw_val (by kernel_rfl) (some 6) rfl (.pointer (some ⟨g0, 0, none⟩)) (by kernel_rfl) ?_
  simp only [pu1, pu2, pu3, pu4]
  refine gw_load (by kernel_rfl) (some 7) rfl 9 (.tmp 6) rfl ⟨g0, 0, none⟩ (.string snd) (by kernel_rfl) (HX.out.load (i := 0) rfl (by kernel_rfl)) ?_
  simp only [pu1, pu2, pu3, pu4]
  refine gw_val (by kernel_rfl) (some 8) rfl (.int .i64 l1) (by rw [← H1.out]; kernel_rfl) ?_
  simp only [pu1, pu2, pu3, pu4]
  refine gw_val (by kernel_rfl) (some 9) rfl (.pointer (some ⟨g0, 4, none⟩)) (by kernel_rfl) ?_
  simp only [pu1, pu2, pu3, pu4]
  refine gw_load (by kernel_rfl) (some 10) rfl 9 (.tmp 9) rfl ⟨g0, 4, none⟩ (.string memo) (by kernel_rfl) (HX.out.load (i := 4) rfl (by kernel_rfl)) ?_
  simp only [pu1, pu2, pu3, pu4]
  refine gw_val (by kernel_rfl) (some 11) rfl (.int .i64 l2) (by rw [← H2.out]; kernel_rfl) ?_
  simp only [pu1, pu2, pu3, pu4]
  refine gw_val (by kernel_rfl) (some 12) rfl (.int .i64 (IntKind.i64.wrap ((l1 : Int) + (l2 : Int)))) (add_iw rfl l1 l2 (by kernel_rfl) (by kernel_rfl) _) ?_
  simp only [pu1, pu2, pu3, pu4]
  refine gw_val (by kernel_rfl) (some 13) rfl (.pointer (some ⟨g0, 5, none⟩)) (by kernel_rfl) ?_
  simp only [pu1, pu2, pu3, pu4]
  refine gw_load (by kernel_rfl) (some 14) rfl 27 (.tmp 13) rfl ⟨g0, 5, none⟩ (.slice a n c) (by kernel_rfl) (HX.out.load (i := 5) rfl (by kernel_rfl)) ?_
  simp only [pu1, pu2, pu3, pu4]
  refine gw_val (by kernel_rfl) (some 15) rfl (.int .i64 n) (by kernel_rfl) ?_
  simp only [pu1, pu2, pu3, pu4]
  refine gw_val (by kernel_rfl) (some 16) rfl (.int .i64 (IntKind.i64.wrap (IntKind.i64.wrap ((l1 : Int) + (l2 : Int)) + (n : Int)))) (add_iw rfl _ n (by kernel_rfl) (by kernel_rfl) _) ?_
  simp only [pu1, pu2, pu3, pu4]
  refine gw_val (by kernel_rfl) (some 3) rfl (.int .i64 (IntKind.i64.wrap (IntKind.i64.wrap ((l1 : Int) + (l2 : Int)) + (n : Int)))) (by kernel_rfl) ?_
  simp only [pu1, pu2, pu3, pu4]
  apply wpList_nil
  generalize IntKind.i64.wrap (IntKind.i64.wrap ((l1 : Int) + (l2 : Int)) + (n : Int)) = m0 at *
  generalize IntKind.i64.wrap ((l1 : Int) + (l2 : Int)) = m1 at *
  go_upto_region 2 with fail
  apply wp_region_lit
  refine gw_val (by kernel_rfl) (some 17) rfl (.pointer (some ⟨g0, 5, none⟩)) (by kernel_rfl) ?_
  simp only [pu1, pu2, pu3, pu4]
  refine gw_load (by kernel_rfl) (some 18) rfl 27 (.tmp 17) rfl ⟨g0, 5, none⟩ (.slice a n c) (by kernel_rfl) (HX.out.load (i := 5) rfl (by kernel_rfl)) ?_
  simp only [pu1, pu2, pu3, pu4]
  refine gw_val (by kernel_rfl) (some 19) rfl (.int .i64 n) (by kernel_rfl) ?_
  simp only [pu1, pu2, pu3, pu4]
  refine gw_val (by kernel_rfl) (some 20) rfl (.int .i64 0) (by kernel_rfl) ?_
  simp only [pu1, pu2, pu3, pu4]
  apply wpList_nil
  go_wp2_with fail
  go_loopg [3, 20] n (fun gg s3 s20 wx => ∃ (m : Int) (j : Nat), s3 = .int .i64 m ∧ s20 = .int .i64 j ∧ j ≤ n ∧ Hid (Below W.heap.size W wx) ∧ n - j = gg)
  case atStart => exact ⟨m0, 0, rfl, rfl, by omega, Lib.hid (Below.refl _ _), by omega⟩
  case round =>
    obtain ⟨m, j, rfl, rfl, hj, HB, hg⟩ := hrel
    by_cases hlt : j < n
    · skip
      have HG : Hid (n - (j + 1) = gk - 1 ∧ 0 < gk ∧ j + 1 ≤ n) := Lib.hid ⟨by omega, by omega, by omega⟩
      have hjm : j < M.length := by rw [HN.out]; exact hlt
      obtain ⟨b, off, rfl, -, hrx⟩ := tf_range (HA.out.below HB.out) (k := j) hjm
      have HLD := Lib.hid (load_tf hrx)
      generalize tfa M j = y at *
      obtain ⟨V2, hst, hb2, hbx⟩ := new_tf wr y
      have HB2 := Lib.hid (HB.out.trans (hb2.mono HB.out.size))
      obtain ⟨ly, hly⟩ : ∃ ly, y.1.size = ly := ⟨_, rfl⟩
      clear hrx hb2 hjm hg HB
      go_upto_region 3 with fail
      apply wp_region_lit
      refine gw_val (by kernel_rfl) (some 21) rfl (.bool true) (lss_n rfl (j) (n) (decide_eq_true (by omega)) (by kernel_rfl) (by kernel_rfl) _) ?_
      simp only [pu1, pu2, pu3, pu4]
      apply wpList_nil
      go_upto_region 4 with fail
      apply wp_region_lit
      refine gw_val (by kernel_rfl) (some 22) rfl (.pointer (some ⟨b, off + j * 2, none⟩)) (idx_tf b off n c j hlt _ _ _ rfl (by kernel_rfl) (by kernel_rfl)) ?_
      simp only [pu1, pu2, pu3, pu4]
      refine gw_load (by kernel_rfl) (some 23) rfl 58 (.tmp 22) rfl ⟨b, off + j * 2, none⟩ (.agg (tfA y)) (by kernel_rfl) (HLD.out) ?_
      simp only [pu1, pu2, pu3, pu4]
      refine run_to rfl (some 5) rfl (.pointer (some ⟨wr.heap.size, 0, none⟩)) (wr.alloc (.cells (tfA zTf) 58)) (by kernel_rfl) ?_
      simp only [pu1, pu2, pu3, pu4]
      refine gw_store (by kernel_rfl) rfl 58 (.tmp 5) (.tmp 23) rfl (.pointer (some ⟨wr.heap.size, 0, none⟩)) (.agg (tfA y)) (by kernel_rfl) (by kernel_rfl) (V2) (hst) ?_
      apply wpList_nil
      obtain ⟨g4, hg4⟩ : ∃ g4, wr.heap.size = g4 := ⟨_, rfl⟩
      rw [hg4] at hbx ⊢
      clear hst hg4 HLD
      go_upto_region 5 with fail
      apply wp_region_lit
      refine gw_val (by kernel_rfl) (some 24) rfl (.int .i64 m) (by kernel_rfl) ?_
      simp only [pu1, pu2, pu3, pu4]
      refine gw_val (by kernel_rfl) (some 25) rfl (.pointer (some ⟨g4, 0, none⟩)) (by kernel_rfl) ?_
      simp only [pu1, pu2, pu3, pu4]
      refine gw_load (by kernel_rfl) (some 26) rfl 9 (.tmp 25) rfl ⟨g4, 0, none⟩ (.string y.1) (by kernel_rfl) (hbx.load (i := 0) rfl (by kernel_rfl)) ?_
      simp only [pu1, pu2, pu3, pu4]
      refine gw_val (by kernel_rfl) (some 27) rfl (.int .i64 ly) (by rw [← hly]; kernel_rfl) ?_
      simp only [pu1, pu2, pu3, pu4]
      refine gw_val (by kernel_rfl) (some 28) rfl (.int .i64 (IntKind.i64.wrap (m + (ly : Int)))) (add_iw rfl m ly (by kernel_rfl) (by kernel_rfl) _) ?_
      simp only [pu1, pu2, pu3, pu4]
      refine gw_val (by kernel_rfl) (some 3) rfl (.int .i64 (IntKind.i64.wrap (m + (ly : Int)))) (by kernel_rfl) ?_
      simp only [pu1, pu2, pu3, pu4]
      apply wpList_nil
      clear hly hbx
      obtain ⟨m2, hm2⟩ : ∃ m2, IntKind.i64.wrap (m + (ly : Int)) = m2 := ⟨_, rfl⟩
      rw [hm2]
      clear hm2
      go_upto_region 6 with fail
      apply wp_region_lit
      refine gw_val (by kernel_rfl) (some 29) rfl (.int .i64 (j + 1 : Nat)) (add_nat rfl j 1 (by have := HNL.out; have := HG.out; omega) (by kernel_rfl) (by kernel_rfl) _) ?_
      simp only [pu1, pu2, pu3, pu4]
      refine gw_val (by kernel_rfl) (some 20) rfl (.int .i64 (j + 1 : Nat)) (by kernel_rfl) ?_
      simp only [pu1, pu2, pu3, pu4]
      apply wpList_nil
      go_wp2_with fail
      go_roundg (gk - 1)
      case measure => have := HG.out; omega
      case rel => exact ⟨m2, j + 1, rfl, rfl, HG.out.2.2, HB2, HG.out.1⟩
    · skip
      have HB9 := Lib.hid (HB0.out.trans (HB.out.mono HB0.out.size))
      clear HB hg
      go_upto_region 3 with fail
      apply wp_region_lit
      refine gw_val (by kernel_rfl) (some 21) rfl (.bool false) (lss_n rfl (j) (n) (decide_eq_false (by omega)) (by kernel_rfl) (by kernel_rfl) _) ?_
      simp only [pu1, pu2, pu3, pu4]
      apply wpList_nil
      go_upto_region 7 with fail
      apply wp_region_lit
      refine gw_val (by kernel_rfl) (some 30) rfl (.int .i64 m) (by kernel_rfl) ?_
      simp only [pu1, pu2, pu3, pu4]
      refine gw_val (by kernel_rfl) (some 31) rfl (.bool (decide ((800 : Int) < m))) (gtr_any rfl m 800 (by kernel_rfl) (by kernel_rfl) _) ?_
      simp only [pu1, pu2, pu3, pu4]
      refine gw_val (by kernel_rfl) (some 2) rfl (.bool (decide ((800 : Int) < m))) (by kernel_rfl) ?_
      simp only [pu1, pu2, pu3, pu4]
      apply wpList_nil
      go_wp2_with fail
      go_ret
      exact ⟨⟨_, rfl⟩, HB9.out⟩
end Go.Proofs.Ytaaeepanelmgnaa
