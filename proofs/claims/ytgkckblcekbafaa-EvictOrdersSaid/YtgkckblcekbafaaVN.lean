/-
 The comparison of leaving: contract.
-/
import Derived.Test.YtgkckblcekbafaaVM
namespace Go.Proofs.Ytgkckblcekbafaa
open Go.RowKit
set_option maxRecDepth 100000
set_option linter.unusedSimpArgs false
set_option linter.unusedVariables false

section
variable {ρ : Operand → Value} {o : Oper} {x y : Operand}
theorem neq_w (ho : o.op = .binOp .neq 33 x y 33) (a b : Int) {t : Bool} (ht : decide (a ≠ b) = t) (hx : ρ x = .int .u64 a) (hy : ρ y = .int .u64 b) (w : World) : (execOp ρ o).run Try.prog w = .ok (.value (.bool t)) w := by
 unfold execOp
 go_simp
 rw [← ht]
 by_cases h : a = b <;> simp [h]
theorem lss_w (ho : o.op = .binOp .lss 33 x y 33) (a b : Int) {t : Bool} (ht : decide (a < b) = t) (hx : ρ x = .int .u64 a) (hy : ρ y = .int .u64 b) (w : World) : (execOp ρ o).run Try.prog w = .ok (.value (.bool t)) w := by
 rw [← ht]
 unfold execOp
 go_simp
theorem geq_w (ho : o.op = .binOp .geq 33 x y 33) (a b : Int) {t : Bool} (ht : decide (b ≤ a) = t) (hx : ρ x = .int .u64 a) (hy : ρ y = .int .u64 b) (w : World) : (execOp ρ o).run Try.prog w = .ok (.value (.bool t)) w := by
 rw [← ht]
 unfold execOp
 go_simp
end
theorem ls_dec (a b : Tg) : lsT a b = if a.1.1.pri = b.1.1.pri then decide (b.1.1.od < a.1.1.od) else decide (a.1.1.pri < b.1.1.pri) := by
 unfold lsT bfP
 by_cases h : a.1.1.pri = b.1.1.pri
 ·rw [if_pos h, decide_eq_false (by omega), decide_eq_true h, Bool.false_or, Bool.true_and]
 ·rw [if_neg h, decide_eq_false h, Bool.false_and, Bool.or_false]
set_option maxRecDepth 100000 in
set_option maxHeartbeats 8000000 in
theorem q_less {w0 w : World} {B g n c bs : Nat} {L : List Tg} (h : SW w0 B g n c bs L w) {i j : Nat} (hi : i < n) (hj : j < n) : Calls Try.prog 33 #[.int .i64 i, .int .i64 j, .pointer (some ⟨bs, 0, none⟩)] w fun e w' => e = .returned (.bool (lsT (L.getD i zT) (L.getD j zT))) ∧ Below w.heap.size w w' := by
 have HX : Hid (∀ U, Below w.heap.size w U → Bx U bs #[.slice (some ⟨g, 0, none⟩) n c] 22 ∧ U.rangeAt g (0 + i * 41) (enp (L.getD i zT).1) ∧ U.rangeAt g (0 + j * 41) (enp (L.getD j zT).1)) := Lib.hid fun U hU => by
  have hS := h.below hU
  refine ⟨hS.bx, ?_, ?_⟩
  ·rw [Nat.zero_add]; exact hS.rg hi
  ·rw [Nat.zero_add]; exact hS.rg hj
 rw [ls_dec]
 generalize L.getD i zT = a at *
 generalize L.getD j zT = b at *
 clear h
 obtain ⟨⟨a, ad⟩, at9⟩ := a
 obtain ⟨⟨b, bd⟩, bt9⟩ := b
 by_cases hp : a.pri = b.pri
 ·obtain ⟨q, hq⟩ : ∃ q : Bool, decide (b.od < a.od) = q := ⟨_, rfl⟩
  have HQ := Lib.hid hq.symm
  go_enter Try.func33, Try.ntmps33
  go_upto_region 1 with fail
  refine wp_region_class (C := fun U => Below w.heap.size w U) (by kernel_rfl) (by kernel_rfl) ((Below.refl _ w).drew) ?_
  refine gyl rfl ⟨bs, 0, none⟩ (.slice (some ⟨g, 0, none⟩) n c) (fun U hU => rg_cell (bx_range (cs := [.slice (some ⟨g, 0, none⟩) n c]) (HX.out U hU).1) (j := 0) rfl (by kernel_rfl)) <| gy (.int .i64 i) <|
    gyv (.pointer (some ⟨g, 0 + i * 41, none⟩)) (fun U hU => idx_en g 0 n c i hi U _ _ rfl (by kernel_rfl) (by kernel_rfl)) <| gy (.pointer (some ⟨g, 0 + i * 41 + 36, none⟩)) <| gyl rfl ⟨g, 0 + i * 41 + 36, none⟩ (.int .u64 a.pri) (fun U hU => rg_cell (HX.out U hU).2.1 (j := 36) rfl (by kernel_rfl)) <|
    gyl rfl ⟨bs, 0, none⟩ (.slice (some ⟨g, 0, none⟩) n c) (fun U hU => rg_cell (bx_range (cs := [.slice (some ⟨g, 0, none⟩) n c]) (HX.out U hU).1) (j := 0) rfl (by kernel_rfl)) <| gy (.int .i64 j) <|
    gyv (.pointer (some ⟨g, 0 + j * 41, none⟩)) (fun U hU => idx_en g 0 n c j hj U _ _ rfl (by kernel_rfl) (by kernel_rfl)) <| gy (.pointer (some ⟨g, 0 + j * 41 + 36, none⟩)) <| gyl rfl ⟨g, 0 + j * 41 + 36, none⟩ (.int .u64 b.pri) (fun U hU => rg_cell (HX.out U hU).2.2 (j := 36) rfl (by kernel_rfl)) <|
    gyv (.bool false) (fun U hU => neq_w rfl a.pri b.pri (decide_eq_false (fun h => h hp)) (by kernel_rfl) (by kernel_rfl) U) ?_
  simp only [pu]
  apply wpQuiet_nil
  intro V1 hV1
  have HX1 := Lib.hid hV1
  clear hV1
  go_upto_region 3 with fail
  refine wp_region_class (C := fun U => Below w.heap.size w U) (by kernel_rfl) (by kernel_rfl) (HX1.out.drew) ?_
  refine gyl rfl ⟨bs, 0, none⟩ (.slice (some ⟨g, 0, none⟩) n c) (fun U hU => rg_cell (bx_range (cs := [.slice (some ⟨g, 0, none⟩) n c]) (HX.out U hU).1) (j := 0) rfl (by kernel_rfl)) <| gy (.int .i64 i) <|
    gyv (.pointer (some ⟨g, 0 + i * 41, none⟩)) (fun U hU => idx_en g 0 n c i hi U _ _ rfl (by kernel_rfl) (by kernel_rfl)) <| gy (.pointer (some ⟨g, 0 + i * 41 + 39, none⟩)) <| gyl rfl ⟨g, 0 + i * 41 + 39, none⟩ (.int .i64 a.od) (fun U hU => rg_cell (HX.out U hU).2.1 (j := 39) rfl (by kernel_rfl)) <|
    gyl rfl ⟨bs, 0, none⟩ (.slice (some ⟨g, 0, none⟩) n c) (fun U hU => rg_cell (bx_range (cs := [.slice (some ⟨g, 0, none⟩) n c]) (HX.out U hU).1) (j := 0) rfl (by kernel_rfl)) <| gy (.int .i64 j) <|
    gyv (.pointer (some ⟨g, 0 + j * 41, none⟩)) (fun U hU => idx_en g 0 n c j hj U _ _ rfl (by kernel_rfl) (by kernel_rfl)) <| gy (.pointer (some ⟨g, 0 + j * 41 + 39, none⟩)) <| gyl rfl ⟨g, 0 + j * 41 + 39, none⟩ (.int .i64 b.od) (fun U hU => rg_cell (HX.out U hU).2.2 (j := 39) rfl (by kernel_rfl)) <|
    gyv (.bool q) (fun U hU => gtr_n rfl a.od b.od hq (by kernel_rfl) (by kernel_rfl) U) <| gy (.bool q) ?_
  simp only [pu]
  apply wpQuiet_nil
  intro V2 hV2
  have HX2 := Lib.hid hV2
  clear hV2 hq
  go_wp2_with fail
  go_ret
  exact ⟨congrArg (fun q => Ending.returned (Value.bool q)) HQ.out, HX2.out⟩
 ·obtain ⟨q, hq⟩ : ∃ q : Bool, decide (a.pri < b.pri) = q := ⟨_, rfl⟩
  have HQ := Lib.hid hq.symm
  go_enter Try.func33, Try.ntmps33
  go_upto_region 1 with fail
  refine wp_region_class (C := fun U => Below w.heap.size w U) (by kernel_rfl) (by kernel_rfl) ((Below.refl _ w).drew) ?_
  refine gyl rfl ⟨bs, 0, none⟩ (.slice (some ⟨g, 0, none⟩) n c) (fun U hU => rg_cell (bx_range (cs := [.slice (some ⟨g, 0, none⟩) n c]) (HX.out U hU).1) (j := 0) rfl (by kernel_rfl)) <| gy (.int .i64 i) <|
    gyv (.pointer (some ⟨g, 0 + i * 41, none⟩)) (fun U hU => idx_en g 0 n c i hi U _ _ rfl (by kernel_rfl) (by kernel_rfl)) <| gy (.pointer (some ⟨g, 0 + i * 41 + 36, none⟩)) <| gyl rfl ⟨g, 0 + i * 41 + 36, none⟩ (.int .u64 a.pri) (fun U hU => rg_cell (HX.out U hU).2.1 (j := 36) rfl (by kernel_rfl)) <|
    gyl rfl ⟨bs, 0, none⟩ (.slice (some ⟨g, 0, none⟩) n c) (fun U hU => rg_cell (bx_range (cs := [.slice (some ⟨g, 0, none⟩) n c]) (HX.out U hU).1) (j := 0) rfl (by kernel_rfl)) <| gy (.int .i64 j) <|
    gyv (.pointer (some ⟨g, 0 + j * 41, none⟩)) (fun U hU => idx_en g 0 n c j hj U _ _ rfl (by kernel_rfl) (by kernel_rfl)) <| gy (.pointer (some ⟨g, 0 + j * 41 + 36, none⟩)) <| gyl rfl ⟨g, 0 + j * 41 + 36, none⟩ (.int .u64 b.pri) (fun U hU => rg_cell (HX.out U hU).2.2 (j := 36) rfl (by kernel_rfl)) <|
    gyv (.bool true) (fun U hU => neq_w rfl a.pri b.pri (decide_eq_true hp) (by kernel_rfl) (by kernel_rfl) U) ?_
  simp only [pu]
  apply wpQuiet_nil
  intro V1 hV1
  have HX1 := Lib.hid hV1
  clear hV1
  go_upto_region 2 with fail
  refine wp_region_class (C := fun U => Below w.heap.size w U) (by kernel_rfl) (by kernel_rfl) (HX1.out.drew) ?_
  refine gyl rfl ⟨bs, 0, none⟩ (.slice (some ⟨g, 0, none⟩) n c) (fun U hU => rg_cell (bx_range (cs := [.slice (some ⟨g, 0, none⟩) n c]) (HX.out U hU).1) (j := 0) rfl (by kernel_rfl)) <| gy (.int .i64 i) <|
    gyv (.pointer (some ⟨g, 0 + i * 41, none⟩)) (fun U hU => idx_en g 0 n c i hi U _ _ rfl (by kernel_rfl) (by kernel_rfl)) <| gy (.pointer (some ⟨g, 0 + i * 41 + 36, none⟩)) <| gyl rfl ⟨g, 0 + i * 41 + 36, none⟩ (.int .u64 a.pri) (fun U hU => rg_cell (HX.out U hU).2.1 (j := 36) rfl (by kernel_rfl)) <|
    gyl rfl ⟨bs, 0, none⟩ (.slice (some ⟨g, 0, none⟩) n c) (fun U hU => rg_cell (bx_range (cs := [.slice (some ⟨g, 0, none⟩) n c]) (HX.out U hU).1) (j := 0) rfl (by kernel_rfl)) <| gy (.int .i64 j) <|
    gyv (.pointer (some ⟨g, 0 + j * 41, none⟩)) (fun U hU => idx_en g 0 n c j hj U _ _ rfl (by kernel_rfl) (by kernel_rfl)) <| gy (.pointer (some ⟨g, 0 + j * 41 + 36, none⟩)) <| gyl rfl ⟨g, 0 + j * 41 + 36, none⟩ (.int .u64 b.pri) (fun U hU => rg_cell (HX.out U hU).2.2 (j := 36) rfl (by kernel_rfl)) <|
    gyv (.bool q) (fun U hU => lss_w rfl a.pri b.pri hq (by kernel_rfl) (by kernel_rfl) U) <| gy (.bool q) ?_
  simp only [pu]
  apply wpQuiet_nil
  intro V2 hV2
  have HX2 := Lib.hid hV2
  clear hV2 hq
  go_wp2_with fail
  go_ret
  exact ⟨congrArg (fun q => Ending.returned (Value.bool q)) HQ.out, HX2.out⟩
end Go.Proofs.Ytgkckblcekbafaa
