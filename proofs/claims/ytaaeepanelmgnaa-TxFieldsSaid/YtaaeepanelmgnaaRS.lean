/-
  SameTx of two equal transactions: contract.
-/
import Derived.Test.YtaaeepanelmgnaaDE
namespace Go.Proofs.Ytaaeepanelmgnaa
open Go.RowKit
set_option linter.unusedSimpArgs false
set_option linter.unusedVariables false

theorem neq_s0 {ρ : Operand → Value} {o : Oper} {x y : Operand} (ho : o.op = .binOp .neq 9 x y 9) (a : ByteArray) (hx : ρ x = .string a) (hy : ρ y = .string a) (w : World) : (execOp ρ o).run Try.prog w = .ok (.value (.bool false)) w := by
  unfold execOp
  simp only [ho, hx, hy]
  go_simp
theorem neq_u0 {ρ : Operand → Value} {o : Oper} {x y : Operand} (ho : o.op = .binOp .neq 26 x y 26) (a : Int) (hx : ρ x = .int .u64 a) (hy : ρ y = .int .u64 a) (w : World) : (execOp ρ o).run Try.prog w = .ok (.value (.bool false)) w := by
  unfold execOp
  simp only [ho, hx, hy]
  go_simp
theorem neq_tf0 {ρ : Operand → Value} {o : Oper} {x y : Operand} (ho : o.op = .binOp .neq 58 x y 58) (a : Tf) (hx : ρ x = .agg (tfA a)) (hy : ρ y = .agg (tfA a)) (w : World) : (execOp ρ o).run Try.prog w = .ok (.value (.bool false)) w := by
  unfold execOp
  simp only [ho, hx, hy]
  go_simp
set_option maxRecDepth 100000 in
set_option maxHeartbeats 8000000 in
theorem ref_sametx (x : Txd) (a1 a2 : Option Addr) (c1 c2 : Nat) (w : World) (h1 : Cs w a1 (tfc x.tr)) (h2 : Cs w a2 (tfc x.tr)) (hn : x.tr.length ≤ 100000) :
    Calls Try.prog 23 #[.agg (txA x a1 c1), .agg (txA x a2 c2)] w fun e w' => e = .returned (.bool true) ∧ Below w.heap.size w w' := by
  have hb1 : Below w.heap.size w (w.alloc (.cells (txA x a1 c1) 29)) := (Below.refl _ w).alloc (Nat.le_refl _) _
  have hX1 : Bx (w.alloc (.cells (txA x a1 c1) 29)) w.heap.size (txA x a1 c1) 29 := heap_alloc_last w _
  have hsz1 : (w.alloc (.cells (txA x a1 c1) 29)).heap.size = w.heap.size + 1 := by simp
  obtain ⟨snd, sq, gas, fee, memo, M⟩ := x
  simp only [txA] at hb1 hX1 hsz1 h1 h2 hn ⊢
  obtain ⟨n, hnn⟩ : ∃ n, M.length = n := ⟨_, rfl⟩
  have HN := Lib.hid hnn
  rw [hnn] at hb1 hX1 hsz1 hn ⊢
  clear hnn
  go_enter Try.func23, Try.ntmps23
  go_upto_region 1 with fail
  change Code.wp _ _ _ _ ((w.alloc (.cells #[.string snd, .int .u64 sq, .int .u64 gas, .int .u64 fee, .string memo, .slice a1 n c1] 29)).alloc (.cells #[.string snd, .int .u64 sq, .int .u64 gas, .int .u64 fee, .string memo, .slice a2 n c2] 29))
  generalize w.alloc (.cells #[.string snd, .int .u64 sq, .int .u64 gas, .int .u64 fee, .string memo, .slice a1 n c1] 29) = W1 at *
  have hb0 : Below w.heap.size w (W1.alloc (.cells #[.string snd, .int .u64 sq, .int .u64 gas, .int .u64 fee, .string memo, .slice a2 n c2] 29)) := hb1.alloc hb1.size _
  have hX0 : Bx (W1.alloc (.cells #[.string snd, .int .u64 sq, .int .u64 gas, .int .u64 fee, .string memo, .slice a2 n c2] 29)) w.heap.size #[.string snd, .int .u64 sq, .int .u64 gas, .int .u64 fee, .string memo, .slice a1 n c1] 29 := hX1.below hX1.lt ((Below.refl _ W1).alloc (Nat.le_refl _) _)
  have hY0 : Bx (W1.alloc (.cells #[.string snd, .int .u64 sq, .int .u64 gas, .int .u64 fee, .string memo, .slice a2 n c2] 29)) W1.heap.size #[.string snd, .int .u64 sq, .int .u64 gas, .int .u64 fee, .string memo, .slice a2 n c2] 29 := heap_alloc_last W1 _
  rw [hsz1] at hY0
  generalize W1.alloc (.cells #[.string snd, .int .u64 sq, .int .u64 gas, .int .u64 fee, .string memo, .slice a2 n c2] 29) = W at *
  obtain ⟨g0, hg0⟩ : ∃ g0, w.heap.size = g0 := ⟨_, rfl⟩
  obtain ⟨g2, hg2⟩ : ∃ g2, w.heap.size + 1 = g2 := ⟨_, rfl⟩
  have HB0 := Lib.hid hb0
  have HA1 := Lib.hid (h1.below hb0)
  have HA2 := Lib.hid (h2.below hb0)
  rw [hg2] at hY0
  rw [hg0] at hX0
  rw [hg2, hg0]
  have HX := Lib.hid hX0
  have HY := Lib.hid hY0
  clear hb0 hb1 hX1 hsz1 hg0 hg2 h1 h2 hX0 hY0
  apply wp_region_lit
  refine gw_val (by kernel_rfl) (some 6) rfl (.pointer (some ⟨g0, 0, none⟩)) (by kernel_rfl) ?_
  simp only [pu1, pu2, pu3, pu4]
  refine gw_load (by kernel_rfl) (some 7) rfl 9 (.tmp 6) rfl ⟨g0, 0, none⟩ (.string snd) (by kernel_rfl) (HX.out.load (i := 0) rfl (by kernel_rfl)) ?_
  simp only [pu1, pu2, pu3, pu4]
  refine gw_val (by kernel_rfl) (some 8) rfl (.pointer (some ⟨g2, 0, none⟩)) (by kernel_rfl) ?_
  simp only [pu1, pu2, pu3, pu4]
  refine gw_load (by kernel_rfl) (some 9) rfl 9 (.tmp 8) rfl ⟨g2, 0, none⟩ (.string snd) (by kernel_rfl) (HY.out.load (i := 0) rfl (by kernel_rfl)) ?_
  simp only [pu1, pu2, pu3, pu4]
  refine gw_val (by kernel_rfl) (some 10) rfl (.bool false) (neq_s0 rfl (snd) (by kernel_rfl) (by kernel_rfl) _) ?_
  simp only [pu1, pu2, pu3, pu4]
  refine gw_val (by kernel_rfl) (some 11) rfl (.bool false) (by kernel_rfl) ?_
  simp only [pu1, pu2, pu3, pu4]
  refine gw_val (by kernel_rfl) (some 12) rfl (.pointer (some ⟨g0, 1, none⟩)) (by kernel_rfl) ?_
  simp only [pu1, pu2, pu3, pu4]
  refine gw_load (by kernel_rfl) (some 13) rfl 26 (.tmp 12) rfl ⟨g0, 1, none⟩ (.int .u64 sq) (by kernel_rfl) (HX.out.load (i := 1) rfl (by kernel_rfl)) ?_
  simp only [pu1, pu2, pu3, pu4]
  refine gw_val (by kernel_rfl) (some 14) rfl (.pointer (some ⟨g2, 1, none⟩)) (by kernel_rfl) ?_
  simp only [pu1, pu2, pu3, pu4]
  refine gw_load (by kernel_rfl) (some 15) rfl 26 (.tmp 14) rfl ⟨g2, 1, none⟩ (.int .u64 sq) (by kernel_rfl) (HY.out.load (i := 1) rfl (by kernel_rfl)) ?_
  simp only [pu1, pu2, pu3, pu4]
  refine gw_val (by kernel_rfl) (some 16) rfl (.bool false) (neq_u0 rfl (sq) (by kernel_rfl) (by kernel_rfl) _) ?_
  simp only [pu1, pu2, pu3, pu4]
  refine gw_val (by kernel_rfl) (some 17) rfl (.bool false) (by kernel_rfl) ?_
  simp only [pu1, pu2, pu3, pu4]
  refine gw_val (by kernel_rfl) (some 18) rfl (.bool false) (by kernel_rfl) ?_
  simp only [pu1, pu2, pu3, pu4]
  refine gw_val (by kernel_rfl) (some 19) rfl (.pointer (some ⟨g0, 2, none⟩)) (by kernel_rfl) ?_
  simp only [pu1, pu2, pu3, pu4]
  refine gw_load (by kernel_rfl) (some 20) rfl 26 (.tmp 19) rfl ⟨g0, 2, none⟩ (.int .u64 gas) (by kernel_rfl) (HX.out.load (i := 2) rfl (by kernel_rfl)) ?_
  simp only [pu1, pu2, pu3, pu4]
  refine gw_val (by kernel_rfl) (some 21) rfl (.pointer (some ⟨g2, 2, none⟩)) (by kernel_rfl) ?_
  simp only [pu1, pu2, pu3, pu4]
  refine gw_load (by kernel_rfl) (some 22) rfl 26 (.tmp 21) rfl ⟨g2, 2, none⟩ (.int .u64 gas) (by kernel_rfl) (HY.out.load (i := 2) rfl (by kernel_rfl)) ?_
  simp only [pu1, pu2, pu3, pu4]
  refine gw_val (by kernel_rfl) (some 23) rfl (.bool false) (neq_u0 rfl (gas) (by kernel_rfl) (by kernel_rfl) _) ?_
  simp only [pu1, pu2, pu3, pu4]
  refine gw_val (by kernel_rfl) (some 24) rfl (.bool false) (by kernel_rfl) ?_
  simp only [pu1, pu2, pu3, pu4]
  refine gw_val (by kernel_rfl) (some 25) rfl (.bool false) (by kernel_rfl) ?_
  simp only [pu1, pu2, pu3, pu4]
  refine gw_val (by kernel_rfl) (some 26) rfl (.pointer (some ⟨g0, 3, none⟩)) (by kernel_rfl) ?_
  simp only [pu1, pu2, pu3, pu4]
  refine gw_load (by kernel_rfl) (some 27) rfl 26 (.tmp 26) rfl ⟨g0, 3, none⟩ (.int .u64 fee) (by kernel_rfl) (HX.out.load (i := 3) rfl (by kernel_rfl)) ?_
  simp only [pu1, pu2, pu3, pu4]
  refine gw_val (by kernel_rfl) (some 28) rfl (.pointer (some ⟨g2, 3, none⟩)) (by kernel_rfl) ?_
  simp only [pu1, pu2, pu3, pu4]
  refine gw_load (by kernel_rfl) (some 29) rfl 26 (.tmp 28) rfl ⟨g2, 3, none⟩ (.int .u64 fee) (by kernel_rfl) (HY.out.load (i := 3) rfl (by kernel_rfl)) ?_
  simp only [pu1, pu2, pu3, pu4]
  refine gw_val (by kernel_rfl) (some 30) rfl (.bool false) (neq_u0 rfl (fee) (by kernel_rfl) (by kernel_rfl) _) ?_
  simp only [pu1, pu2, pu3, pu4]
  refine gw_val (by kernel_rfl) (some 31) rfl (.bool false) (by kernel_rfl) ?_
  simp only [pu1, pu2, pu3, pu4]
  refine gw_val (by kernel_rfl) (some 32) rfl (.bool false) (by kernel_rfl) ?_
  simp only [pu1, pu2, pu3, pu4]
  refine gw_val (by kernel_rfl) (some 33) rfl (.pointer (some ⟨g0, 4, none⟩)) (by kernel_rfl) ?_
  simp only [pu1, pu2, pu3, pu4]
  refine gw_load (by kernel_rfl) (some 34) rfl 9 (.tmp 33) rfl ⟨g0, 4, none⟩ (.string memo) (by kernel_rfl) (HX.out.load (i := 4) rfl (by kernel_rfl)) ?_
  simp only [pu1, pu2, pu3, pu4]
  refine gw_val (by kernel_rfl) (some 35) rfl (.pointer (some ⟨g2, 4, none⟩)) (by kernel_rfl) ?_
  simp only [pu1, pu2, pu3, pu4]
  refine gw_load (by kernel_rfl) (some 36) rfl 9 (.tmp 35) rfl ⟨g2, 4, none⟩ (.string memo) (by kernel_rfl) (HY.out.load (i := 4) rfl (by kernel_rfl)) ?_
  simp only [pu1, pu2, pu3, pu4]
  refine gw_val (by kernel_rfl) (some 37) rfl (.bool false) (neq_s0 rfl (memo) (by kernel_rfl) (by kernel_rfl) _) ?_
  simp only [pu1, pu2, pu3, pu4]
  refine gw_val (by kernel_rfl) (some 38) rfl (.bool false) (by kernel_rfl) ?_
  simp only [pu1, pu2, pu3, pu4]
  refine gw_val (by kernel_rfl) (some 39) rfl (.bool false) (by kernel_rfl) ?_
  simp only [pu1, pu2, pu3, pu4]
  refine gw_val (by kernel_rfl) (some 40) rfl (.pointer (some ⟨g0, 5, none⟩)) (by kernel_rfl) ?_
  simp only [pu1, pu2, pu3, pu4]
  refine gw_load (by kernel_rfl) (some 41) rfl 27 (.tmp 40) rfl ⟨g0, 5, none⟩ (.slice a1 n c1) (by kernel_rfl) (HX.out.load (i := 5) rfl (by kernel_rfl)) ?_
  simp only [pu1, pu2, pu3, pu4]
  refine gw_val (by kernel_rfl) (some 42) rfl (.int .i64 n) (by kernel_rfl) ?_
  simp only [pu1, pu2, pu3, pu4]
  refine gw_val (by kernel_rfl) (some 43) rfl (.pointer (some ⟨g2, 5, none⟩)) (by kernel_rfl) ?_
  simp only [pu1, pu2, pu3, pu4]
  refine gw_load (by kernel_rfl) (some 44) rfl 27 (.tmp 43) rfl ⟨g2, 5, none⟩ (.slice a2 n c2) (by kernel_rfl) (HY.out.load (i := 5) rfl (by kernel_rfl)) ?_
  simp only [pu1, pu2, pu3, pu4]
  refine gw_val (by kernel_rfl) (some 45) rfl (.int .i64 n) (by kernel_rfl) ?_
  simp only [pu1, pu2, pu3, pu4]
  refine gw_val (by kernel_rfl) (some 46) rfl (.bool false) (neq_n rfl n n (decide_eq_true rfl) (by kernel_rfl) (by kernel_rfl) _) ?_
  simp only [pu1, pu2, pu3, pu4]
  refine gw_val (by kernel_rfl) (some 47) rfl (.bool false) (by kernel_rfl) ?_
  simp only [pu1, pu2, pu3, pu4]
  apply wpList_nil
  go_upto_region 3 with fail
  apply wp_region_lit
  refine gw_val (by kernel_rfl) (some 48) rfl (.pointer (some ⟨g0, 5, none⟩)) (by kernel_rfl) ?_
  simp only [pu1, pu2, pu3, pu4]
  refine gw_load (by kernel_rfl) (some 49) rfl 27 (.tmp 48) rfl ⟨g0, 5, none⟩ (.slice a1 n c1) (by kernel_rfl) (HX.out.load (i := 5) rfl (by kernel_rfl)) ?_
  simp only [pu1, pu2, pu3, pu4]
  refine gw_val (by kernel_rfl) (some 50) rfl (.int .i64 n) (by kernel_rfl) ?_
  simp only [pu1, pu2, pu3, pu4]
  refine gw_val (by kernel_rfl) (some 51) rfl (.int .i64 0) (by kernel_rfl) ?_
  simp only [pu1, pu2, pu3, pu4]
  apply wpList_nil
  go_wp2_with fail
  go_loopg [51] n (fun gg s51 wx => ∃ j : Nat, s51 = .int .i64 j ∧ j ≤ n ∧ Hid (Below W.heap.size W wx) ∧ n - j = gg)
  case atStart => exact ⟨0, rfl, by omega, Lib.hid (Below.refl _ _), by omega⟩
  case round =>
    obtain ⟨j, rfl, hj, HB, hg⟩ := hrel
    by_cases hlt : j < n
    · skip
      have HG : Hid (n - (j + 1) = gk - 1 ∧ 0 < gk ∧ j + 1 ≤ n ∧ j + 1 ≤ 100000) := Lib.hid ⟨by omega, by omega, by omega, by omega⟩
      have hjm : j < M.length := by rw [HN.out]; exact hlt
      obtain ⟨b1, o1, rfl, -, hr1⟩ := tf_range (HA1.out.below HB.out) (k := j) hjm
      obtain ⟨b2, o2, rfl, -, hr2⟩ := tf_range (HA2.out.below HB.out) (k := j) hjm
      have HL1 : Hid ((Instr.loadAt 58 (.pointer (some ⟨b1, o1 + j * 2, none⟩))).run Try.prog wr.drew = .ok (.agg (tfA (tfa M j))) wr.drew) := Lib.hid (load_tf (w := wr.drew) hr1)
      have HL2 : Hid ((Instr.loadAt 58 (.pointer (some ⟨b2, o2 + j * 2, none⟩))).run Try.prog wr.drew = .ok (.agg (tfA (tfa M j))) wr.drew) := Lib.hid (load_tf (w := wr.drew) hr2)
      have HX9 : Hid (Bx wr.drew g0 #[.string snd, .int .u64 sq, .int .u64 gas, .int .u64 fee, .string memo, .slice (some ⟨b1, o1, none⟩) n c1] 29) := Lib.hid (HX.out.below HX.out.lt HB.out.drew)
      have HY9 : Hid (Bx wr.drew g2 #[.string snd, .int .u64 sq, .int .u64 gas, .int .u64 fee, .string memo, .slice (some ⟨b2, o2, none⟩) n c2] 29) := Lib.hid (HY.out.below HY.out.lt HB.out.drew)
      have HB9 := Lib.hid HB.out.drew
      generalize tfa M j = y at *
      clear hr1 hr2 hjm hg HB
      go_upto_region 4 with fail
      apply wp_region_lit
      refine gw_val (by kernel_rfl) (some 52) rfl (.bool true) (lss_n rfl (j) (n) (decide_eq_true (by omega)) (by kernel_rfl) (by kernel_rfl) _) ?_
      simp only [pu1, pu2, pu3, pu4]
      apply wpList_nil
      go_upto_region 5 with fail
      apply wp_region_lit
      refine gw_val (by kernel_rfl) (some 53) rfl (.int .i64 j) (by kernel_rfl) ?_
      simp only [pu1, pu2, pu3, pu4]
      refine gw_val (by kernel_rfl) (some 5) rfl (.int .i64 j) (by kernel_rfl) ?_
      simp only [pu1, pu2, pu3, pu4]
      apply wpList_nil
      go_upto_region 6 with fail
      refine wp_region_class (C := fun U => U = wr.drew) (by kernel_rfl) (by kernel_rfl) (rfl) ?_
      refine gq_val (by kernel_rfl) (some 54) rfl (.pointer (some ⟨g0, 5, none⟩)) (fun U hU => by kernel_rfl) ?_
      simp only [pu1, pu2, pu3, pu4]
      refine gq_load (by kernel_rfl) (some 55) rfl 27 (.tmp 54) rfl ⟨g0, 5, none⟩ (.slice (some ⟨b1, o1, none⟩) n c1) (by kernel_rfl) (fun U hU => by rw [hU]; exact HX9.out.load (i := 5) rfl (by kernel_rfl)) ?_
      simp only [pu1, pu2, pu3, pu4]
      refine gq_val (by kernel_rfl) (some 56) rfl (.int .i64 j) (fun U hU => by kernel_rfl) ?_
      simp only [pu1, pu2, pu3, pu4]
      refine gq_val (by kernel_rfl) (some 57) rfl (.pointer (some ⟨b1, o1 + j * 2, none⟩)) (fun U hU => idx_tf b1 o1 n c1 j hlt _ _ _ rfl (by kernel_rfl) (by kernel_rfl)) ?_
      simp only [pu1, pu2, pu3, pu4]
      refine gq_load (by kernel_rfl) (some 58) rfl 58 (.tmp 57) rfl ⟨b1, o1 + j * 2, none⟩ (.agg (tfA y)) (by kernel_rfl) (fun U hU => by rw [hU]; exact HL1.out) ?_
      simp only [pu1, pu2, pu3, pu4]
      refine gq_val (by kernel_rfl) (some 59) rfl (.pointer (some ⟨g2, 5, none⟩)) (fun U hU => by kernel_rfl) ?_
      simp only [pu1, pu2, pu3, pu4]
      refine gq_load (by kernel_rfl) (some 60) rfl 27 (.tmp 59) rfl ⟨g2, 5, none⟩ (.slice (some ⟨b2, o2, none⟩) n c2) (by kernel_rfl) (fun U hU => by rw [hU]; exact HY9.out.load (i := 5) rfl (by kernel_rfl)) ?_
      simp only [pu1, pu2, pu3, pu4]
      refine gq_val (by kernel_rfl) (some 61) rfl (.int .i64 j) (fun U hU => by kernel_rfl) ?_
      simp only [pu1, pu2, pu3, pu4]
      refine gq_val (by kernel_rfl) (some 62) rfl (.pointer (some ⟨b2, o2 + j * 2, none⟩)) (fun U hU => idx_tf b2 o2 n c2 j hlt _ _ _ rfl (by kernel_rfl) (by kernel_rfl)) ?_
      simp only [pu1, pu2, pu3, pu4]
      refine gq_load (by kernel_rfl) (some 63) rfl 58 (.tmp 62) rfl ⟨b2, o2 + j * 2, none⟩ (.agg (tfA y)) (by kernel_rfl) (fun U hU => by rw [hU]; exact HL2.out) ?_
      simp only [pu1, pu2, pu3, pu4]
      refine gq_val (by kernel_rfl) (some 64) rfl (.bool false) (fun U hU => neq_tf0 rfl y (by kernel_rfl) (by kernel_rfl) _) ?_
      simp only [pu1, pu2, pu3, pu4]
      apply wpQuiet_nil
      intro U hU
      subst hU
      clear HL1 HL2 HX9 HY9
      go_upto_region 8 with fail
      apply wp_region_lit
      refine gw_val (by kernel_rfl) (some 65) rfl (.int .i64 (j + 1 : Nat)) (add_one rfl j (by have := HG.out; omega) (by kernel_rfl) _) ?_
      simp only [pu1, pu2, pu3, pu4]
      refine gw_val (by kernel_rfl) (some 51) rfl (.int .i64 (j + 1 : Nat)) (by kernel_rfl) ?_
      simp only [pu1, pu2, pu3, pu4]
      apply wpList_nil
      go_wp2_with fail
      go_roundg (gk - 1)
      case measure => have := HG.out; omega
      case rel => exact ⟨j + 1, rfl, HG.out.2.2.1, HB9, HG.out.1⟩
    · skip
      have HB9 := Lib.hid (HB0.out.trans (HB.out.mono HB0.out.size))
      clear HB hg
      go_upto_region 4 with fail
      apply wp_region_lit
      refine gw_val (by kernel_rfl) (some 52) rfl (.bool false) (lss_n rfl (j) (n) (decide_eq_false (by omega)) (by kernel_rfl) (by kernel_rfl) _) ?_
      simp only [pu1, pu2, pu3, pu4]
      apply wpList_nil
      go_upto_region 9 with fail
      apply wp_region_lit
      refine gw_val (by kernel_rfl) (some 4) rfl (.bool true) (by kernel_rfl) ?_
      simp only [pu1, pu2, pu3, pu4]
      apply wpList_nil
      go_wp2_with fail
      go_ret
      exact ⟨rfl, HB9.out⟩
end Go.Proofs.Ytaaeepanelmgnaa
