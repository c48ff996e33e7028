/-
 Numbers; an exchange of two parts of the row: contract.
-/
import Derived.Test.YtgkckblcekbafaaVN
namespace Go.Proofs.Ytgkckblcekbafaa
open Go.RowKit
set_option maxRecDepth 100000
set_option linter.unusedSimpArgs false
set_option linter.unusedVariables false

section
variable {ρ : Operand → Value} {o : Oper} {x y : Operand}
theorem add_nn (ho : o.op = .binOp .add 3 x y 3) (a b : Nat) (h : a + b < 4611686018427387904) (hx : ρ x = .int .i64 a) (hy : ρ y = .int .i64 b) (w : World) : (execOp ρ o).run Try.prog w = .ok (.value (.int .i64 ((a + b : Nat) : Int))) w := by
 have hw : IntKind.i64.wrap ((a : Int) + b) = ((a + b : Nat) : Int) := by simp [IntKind.wrap, IntKind.bits, IntKind.signed]; omega
 unfold execOp
 simp only [ho, hx, hy]
 go_simp
theorem sub_nn (ho : o.op = .binOp .sub 3 x y 3) (a b : Nat) (h : b ≤ a) (h2 : a < 4611686018427387904) (hx : ρ x = .int .i64 a) (hy : ρ y = .int .i64 b) (w : World) : (execOp ρ o).run Try.prog w = .ok (.value (.int .i64 ((a - b : Nat) : Int))) w := by
 have hw : IntKind.i64.wrap ((a : Int) - b) = ((a - b : Nat) : Int) := by simp [IntKind.wrap, IntKind.bits, IntKind.signed]; omega
 unfold execOp
 simp only [ho, hx, hy]
 go_simp
theorem mul_nn (ho : o.op = .binOp .mul 3 x y 3) (a b : Nat) (h : a * b < 4611686018427387904) (hx : ρ x = .int .i64 a) (hy : ρ y = .int .i64 b) (w : World) : (execOp ρ o).run Try.prog w = .ok (.value (.int .i64 ((a * b : Nat) : Int))) w := by
 have hw : IntKind.i64.wrap ((a : Int) * b) = ((a * b : Nat) : Int) := by rw [← Int.natCast_mul]; simp [IntKind.wrap, IntKind.bits, IntKind.signed]; omega
 unfold execOp
 simp only [ho, hx, hy]
 go_simp
theorem cv_iu (ho : o.op = .convert 3 81 x) (a : Nat) (h : a < 4611686018427387904) (hx : ρ x = .int .i64 a) (w : World) : (execOp ρ o).run Try.prog w = .ok (.value (.int .u64 (a : Int))) w := by
 have hw : IntKind.u64.wrap (a : Int) = a := by simp [IntKind.wrap, IntKind.bits, IntKind.signed]; omega
 unfold execOp
 simp only [ho, hx]
 go_simp
theorem cv_ui (ho : o.op = .convert 81 3 x) (a : Nat) (h : a < 4611686018427387904) (hx : ρ x = .int .u64 a) (w : World) : (execOp ρ o).run Try.prog w = .ok (.value (.int .i64 (a : Int))) w := by
 have hw : IntKind.i64.wrap (a : Int) = a := by simp [IntKind.wrap, IntKind.bits, IntKind.signed]; omega
 unfold execOp
 simp only [ho, hx]
 go_simp
theorem shr_1 (ho : o.op = .binOp .shr 81 x y 81) (a : Nat) (h : a < 4611686018427387904) (hx : ρ x = .int .u64 a) (hy : ρ y = .int .u64 1) (w : World) : (execOp ρ o).run Try.prog w = .ok (.value (.int .u64 ((a / 2 : Nat) : Int))) w := by
 have hw : IntKind.u64.wrap ((a : Int) / 2) = ((a / 2 : Nat) : Int) := by simp [IntKind.wrap, IntKind.bits, IntKind.signed]; omega
 have hw2 : IntKind.u64.wrap ((a / 2 : Nat) : Int) = ((a / 2 : Nat) : Int) := by simp [IntKind.wrap, IntKind.bits, IntKind.signed]; omega
 unfold execOp
 simp only [ho, hx, hy]
 go_simp
end
theorem load_ls {W : World} {g4 bs g n c : Nat} (h : Bx W g4 (lsA bs g n c) 78) : (Instr.loadAt 78 (.pointer (some ⟨g4, 0, none⟩))).run Try.prog W = .ok (.agg (lsA bs g n c)) W :=
 run_loadAt_mid W g4 0 78 [lsV bs, swV g n c] _ (bx_range (cs := [lsV bs, swV g n c]) h) Try.underlying78 rfl (by kernel_rfl)
set_option maxRecDepth 100000 in
set_option maxHeartbeats 8000000 in
theorem q_swr {w0 w : World} {B g n c bs : Nat} {L : List Tg} (h : SW w0 B g n c bs L w) (hn : n < 1152921504606846976) (a b k : Nat) (ha : a + k ≤ n) (hb : b + k ≤ n) : Calls Try.prog 53 #[.agg (lsA bs g n c), .int .i64 a, .int .i64 b, .int .i64 k] w fun e w' => e = .returned (.tuple #[]) ∧ SW w0 B g n c bs (srN L a b k) w' := by
 have HN : Hid (n < 1152921504606846976 ∧ a + k ≤ n ∧ b + k ≤ n) := Lib.hid ⟨hn, ha, hb⟩
 clear hn ha hb
 go_enter Try.func53, Try.ntmps53
 go_upto_region 1 with fail
 change Code.wp _ _ _ _ (w.alloc (.cells (lsA bs g n c) 78))
 have hX4 : Bx (w.alloc (.cells (lsA bs g n c) 78)) w.heap.size (lsA bs g n c) 78 := heap_alloc_last w _
 have hA := h.alloc (.cells (lsA bs g n c) 78)
 have hgl := h.gl
 clear h
 generalize w.alloc (.cells (lsA bs g n c) 78) = W1 at *
 obtain ⟨g4, hg4⟩ : ∃ q, w.heap.size = q := ⟨_, rfl⟩
 rw [hg4] at hX4 hgl
 simp only [hg4]
 have HON : Hid (∀ U L', SW W1 B g n c bs L' U → SW w0 B g n c bs L' U) := Lib.hid fun U L' hU => hU.on hA.but
 have HLS : Hid (∀ U L', SW W1 B g n c bs L' U → Bx U g4 (lsA bs g n c) 78) := Lib.hid fun U L' hU => hU.box hX4 (by omega)
 have HS0 : Hid (SW W1 B g n c bs L W1) := Lib.hid hA.rebase
 clear hX4 hA hgl hg4
 refine wl <| gz1 (.int .i64 0) <| wn ?_
 simp only [pu]
 go_wp2_with fail
 go_loopg [8] k (fun gg s8 wx => ∃ (i : Nat), s8 = .int .i64 i ∧ i ≤ k ∧ gg + i = k ∧ Hid (SW W1 B g n c bs (srN L a b i) wx))
 case atStart => exact ⟨0, rfl, by omega, by omega, HS0⟩
 case round =>
  obtain ⟨i, rfl, hin, hg, HR⟩ := hrel
  clear HS0
  have HGK : Hid (gk + i = k) := Lib.hid hg
  clear hg
  by_cases hlt : i < k
  ·skip
   obtain ⟨V2, hrun, hS2⟩ := HR.out.swap (i := a + i) (j := b + i) (by have := HN.out; omega) (by have := HN.out; omega)
   have HR2 : Hid (SW W1 B g n c bs (srN L a b (i + 1)) V2) := Lib.hid hS2
   clear hS2
   go_upto_region 2 with fail
   refine wl <| gz2 (.int .i64 i) (.int .i64 k) <| gzb (lss_n rfl (i) (k) dT) <| wn ?_
   simp only [pu]
   go_upto_region 4 with fail
   refine wl <| gz1 (.pointer (some ⟨g4, 1, none⟩)) <| gzl rfl ⟨g4, 1, none⟩ (swV g n c) (rg_cell (bx_range (cs := [lsV bs, swV g n c]) (HLS.out _ _ HR.out)) (j := 1) rfl (by kernel_rfl)) <| gz2 (.int .i64 a) (.int .i64 i) <|
    gzw (.int .i64 ((a + i : Nat) : Int)) (add_nn rfl (a) (i) (by have := HN.out; omega)) <| gz2 (.int .i64 b) (.int .i64 i) <| gzw (.int .i64 ((b + i : Nat) : Int)) (add_nn rfl (b) (i) (by have := HN.out; omega)) ?_
   simp only [pu]
   refine run_to rfl (some 22) rfl (.tuple #[]) V2 (swap_op rfl (by kernel_rfl) (by kernel_rfl) (by kernel_rfl) hrun) ?_
   simp only [pu]
   apply wpList_nil
   clear hrun HR
   go_upto_region 3 with fail
   refine wl <| gz1 (.int .i64 i) <| gzw (.int .i64 (i + 1 : Nat)) (add_nn rfl i 1 (by have := HN.out; omega)) <| gz1 (.int .i64 (i + 1 : Nat)) <| wn ?_
   simp only [pu]
   go_wp2_with fail
   go_roundg (k - (i + 1))
   case measure => have := HGK.out; omega
   case rel => exact ⟨i + 1, rfl, by omega, by omega, HR2⟩
  ·skip
   obtain rfl : i = k := by omega
   go_upto_region 2 with fail
   refine wl <| gz2 (.int .i64 i) (.int .i64 i) <| gzb (lss_n rfl (i) (i) dF) <| wn ?_
   simp only [pu]
   go_wp2_with fail
   go_end0
   exact ⟨rfl, HON.out _ _ HR.out⟩
end Go.Proofs.Ytgkckblcekbafaa
