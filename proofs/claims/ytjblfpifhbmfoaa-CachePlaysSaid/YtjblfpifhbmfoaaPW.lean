/-
  The contracts of the program's list: join, link, unlink. (Out of stage 7.)
-/
import Derived.Test.YtjblfpifhbmfoaaPF
namespace Go.Proofs.Ytjblfpifhbmfoaa
open Go.RowKit
set_option linter.unusedSimpArgs false
set_option linter.unusedVariables false

theorem sub_one {ρ : Operand → Value} {o : Oper} {x : Operand} (ho : o.op = .binOp .sub 3 x (.const (.int .i64 1)) 3) (m : Nat) (hm : m ≤ 1000000) (h0 : 0 < m) (hx : ρ x = .int .i64 m) (w : World) (hρ : ρ (.const (.int .i64 1)) = .int .i64 1 := by rfl) : (execOp ρ o).run Try.prog w = .ok (.value (.int .i64 (m - 1 : Nat))) w := by
  unfold execOp
  simp only [ho, hx, hρ]
  simp [go_sem]
  rw [IntKind.wrap_i64]
  omega
set_option linter.unusedSimpArgs false
set_option linter.unusedVariables false
/-- No slot, or the slot of an element of the row. -/
def Rg (q : PS) (a : Int) : Prop := a = -1 ∨ ∃ k : Nat, a = k ∧ k < q.T.length
theorem Rp.setN0 {w : World} {g ec : Nat} {ea : Option Addr} {q : PS} (h : Rp w g ea ec q) (b : Int) : Rp (w.setCell ⟨g, 1, none⟩ (.int .i64 b)) g ea ec (setN q (-1) b) := by
  unfold setN
  rw [if_pos rfl]
  exact h.field 1 _ rfl rfl h.ln
theorem Rp.setP0 {w : World} {g ec : Nat} {ea : Option Addr} {q : PS} (h : Rp w g ea ec q) (a : Int) : Rp (w.setCell ⟨g, 2, none⟩ (.int .i64 a)) g ea ec (setP q a (-1)) := by
  unfold setP
  rw [if_pos rfl]
  exact h.field 2 _ rfl rfl h.ln
theorem Rp.setN1 {w : World} {g ec b : Nat} {q : PS} (h : Rp w g (some ⟨b, 0, none⟩) ec q) (k : Nat) (hk : k < q.T.length) (x : Int) : Rp (w.setCell ⟨b, k * 4 + 2, none⟩ (.int .i64 x)) g (some ⟨b, 0, none⟩) ec (setN q k x) := by
  unfold setN
  rw [if_neg (by omega)]
  exact h.put (k * 4 + 2) _ (by omega) (by unfold putE at_; rw [Int.toNat_natCast]; exact tc_setn q.T k x hk) (putE_len _ _ _) (by unfold hd5; simp only [putE_len]) h.ln
theorem Rp.setP1 {w : World} {g ec b : Nat} {q : PS} (h : Rp w g (some ⟨b, 0, none⟩) ec q) (k : Nat) (hk : k < q.T.length) (x : Int) : Rp (w.setCell ⟨b, k * 4 + 1, none⟩ (.int .i64 x)) g (some ⟨b, 0, none⟩) ec (setP q x k) := by
  unfold setP
  rw [if_neg (by omega)]
  exact h.put (k * 4 + 1) _ (by omega) (by unfold putE at_; rw [Int.toNat_natCast]; exact tc_setp q.T k x hk) (putE_len _ _ _) (by unfold hd5; simp only [putE_len]) h.ln
theorem setN_len (q : PS) (a b : Int) : (setN q a b).T.length = q.T.length := by unfold setN; split; rfl; exact putE_len _ _ _
theorem setP_len (q : PS) (a b : Int) : (setP q a b).T.length = q.T.length := by unfold setP; split; rfl; exact putE_len _ _ _
theorem joinP_len (q : PS) (a b : Int) : (joinP q a b).T.length = q.T.length := (setP_len _ _ _).trans (setN_len _ _ _)
theorem setN_ln (q : PS) (a b : Int) : (setN q a b).ln = q.ln := by unfold setN; split <;> rfl
theorem setP_ln (q : PS) (a b : Int) : (setP q a b).ln = q.ln := by unfold setP; split <;> rfl
theorem joinP_ln (q : PS) (a b : Int) : (joinP q a b).ln = q.ln := (setP_ln _ _ _).trans (setN_ln _ _ _)
theorem Rg.join {q : PS} {x : Int} (h : Rg q x) (a b : Int) : Rg (joinP q a b) x := h.imp id fun ⟨k, e, hk⟩ => ⟨k, e, by rw [joinP_len]; exact hk⟩
theorem add_oneP {ρ : Operand → Value} {o : Oper} {x : Operand} (ho : o.op = .binOp .add 3 x (.const (.int .i64 1)) 3) (m : Nat) (hm : m ≤ 1000000) (hx : ρ x = .int .i64 m) (w : World) (hρ : ρ (.const (.int .i64 1)) = .int .i64 1 := by rfl) : (execOp ρ o).run Try.prog w = .ok (.value (.int .i64 (m + 1 : Nat))) w := by
  unfold execOp
  simp only [ho, hx, hρ]
  simp [go_sem]
  rw [IntKind.wrap_i64]
  omega
set_option maxRecDepth 100000 in
set_option maxHeartbeats 2000000 in
theorem p_join11 {w : World} {B g ec : Nat} {ea : Option Addr} {q : PS} (h : Rp w g ea ec q) (hB : ∀ k, Sg g ea k → B ≤ k) : Calls Try.prog 42 #[.pointer (some ⟨g, 0, none⟩), .int .i64 (-1), .int .i64 (-1)] w fun e w' => e = .returned (.tuple #[]) ∧ Rp w' g ea ec (joinP q (-1) (-1)) ∧ ButS B (Sg g ea) w w' := by
  unfold joinP
  have h1 := h.setN0 (-1)
  have hS1 := run_store_cell (ty := 3) (i := 1) (v := .int .i64 (-1)) h.bx (by simp [hd5]) rfl (by kernel_rfl)
  have hb1 : ButS B (Sg g ea) w _ := ButS.setCell w g 1 (.int .i64 (-1)) (hB g (.inl rfl)) (.inl rfl)
  obtain ⟨w1, hw1⟩ : ∃ w1, w1 = w.setCell ⟨g, 1, none⟩ (.int .i64 (-1)) := ⟨_, rfl⟩
  rw [← hw1] at h1 hS1 hb1
  generalize setN q (-1) (-1) = q1 at *
  have h2 := h1.setP0 (-1)
  have hS2 := run_store_cell (ty := 3) (i := 2) (v := .int .i64 (-1)) h1.bx (by simp [hd5]) rfl (by kernel_rfl)
  have hb2 := hb1.trans' (ButS.setCell w1 g 2 (.int .i64 (-1)) (hB g (.inl rfl)) (.inl rfl))
  have HF : Hid (Rp (w1.setCell ⟨g, 2, none⟩ (.int .i64 (-1))) g ea ec (setP q1 (-1) (-1)) ∧ ButS B (Sg g ea) w (w1.setCell ⟨g, 2, none⟩ (.int .i64 (-1)))) := Lib.hid ⟨h2, hb2⟩
  clear hw1 h1 hb1 h2 hb2 h hB
  go_enter Try.func42, Try.ntmps42
  go_upto_region 0 with fail
  apply wp_region_lit
  refine gw_val (by kernel_rfl) (some 6) rfl (.int .i64 (-1)) (by kernel_rfl) ?_
  simp only [Act.put, List.setIfInBounds_toArray, List.set_cons_succ, List.set_cons_zero]
  refine gw_val (by kernel_rfl) (some 7) rfl (.bool true) (by kernel_rfl) ?_
  simp only [Act.put, List.setIfInBounds_toArray, List.set_cons_succ, List.set_cons_zero]
  apply wpList_nil
  go_upto_region 1 with fail
  apply wp_region_lit
  refine gw_val (by kernel_rfl) (some 8) rfl (.pointer (some ⟨g, 0, none⟩)) (by kernel_rfl) ?_
  simp only [Act.put, List.setIfInBounds_toArray, List.set_cons_succ, List.set_cons_zero]
  refine gw_val (by kernel_rfl) (some 9) rfl (.int .i64 (-1)) (by kernel_rfl) ?_
  simp only [Act.put, List.setIfInBounds_toArray, List.set_cons_succ, List.set_cons_zero]
  refine gw_val (by kernel_rfl) (some 10) rfl (.pointer (some ⟨g, 0, none⟩)) (by kernel_rfl) ?_
  simp only [Act.put, List.setIfInBounds_toArray, List.set_cons_succ, List.set_cons_zero]
  refine gw_val (by kernel_rfl) (some 11) rfl (.pointer (some ⟨g, 1, none⟩)) (by kernel_rfl) ?_
  simp only [Act.put, List.setIfInBounds_toArray, List.set_cons_succ, List.set_cons_zero]
  refine gw_store (by kernel_rfl) rfl 3 (.tmp 11) (.tmp 9) rfl (.pointer (some ⟨g, 1, none⟩)) (.int .i64 (-1)) (by kernel_rfl) (by kernel_rfl) (w1) (hS1) ?_
  apply wpList_nil
  go_upto_region 3 with fail
  apply wp_region_lit
  refine gw_val (by kernel_rfl) (some 20) rfl (.int .i64 (-1)) (by kernel_rfl) ?_
  simp only [Act.put, List.setIfInBounds_toArray, List.set_cons_succ, List.set_cons_zero]
  refine gw_val (by kernel_rfl) (some 21) rfl (.bool true) (by kernel_rfl) ?_
  simp only [Act.put, List.setIfInBounds_toArray, List.set_cons_succ, List.set_cons_zero]
  apply wpList_nil
  go_upto_region 4 with fail
  apply wp_region_lit
  refine gw_val (by kernel_rfl) (some 22) rfl (.pointer (some ⟨g, 0, none⟩)) (by kernel_rfl) ?_
  simp only [Act.put, List.setIfInBounds_toArray, List.set_cons_succ, List.set_cons_zero]
  refine gw_val (by kernel_rfl) (some 23) rfl (.int .i64 (-1)) (by kernel_rfl) ?_
  simp only [Act.put, List.setIfInBounds_toArray, List.set_cons_succ, List.set_cons_zero]
  refine gw_val (by kernel_rfl) (some 24) rfl (.pointer (some ⟨g, 0, none⟩)) (by kernel_rfl) ?_
  simp only [Act.put, List.setIfInBounds_toArray, List.set_cons_succ, List.set_cons_zero]
  refine gw_val (by kernel_rfl) (some 25) rfl (.pointer (some ⟨g, 2, none⟩)) (by kernel_rfl) ?_
  simp only [Act.put, List.setIfInBounds_toArray, List.set_cons_succ, List.set_cons_zero]
  refine gw_store (by kernel_rfl) rfl 3 (.tmp 25) (.tmp 23) rfl (.pointer (some ⟨g, 2, none⟩)) (.int .i64 (-1)) (by kernel_rfl) (by kernel_rfl) (w1.setCell ⟨g, 2, none⟩ (.int .i64 (-1))) (hS2) ?_
  apply wpList_nil
  go_wp2_with fail
  go_end0
  exact ⟨rfl, HF.out⟩
set_option maxRecDepth 100000 in
set_option maxHeartbeats 2000000 in
theorem p_join10 {w : World} {B g ec b0 : Nat} {q : PS} (h : Rp w g (some ⟨b0, 0, none⟩) ec q) (hB : ∀ k, Sg g (some ⟨b0, 0, none⟩) k → B ≤ k) (j : Nat) (hj : j < q.T.length) : Calls Try.prog 42 #[.pointer (some ⟨g, 0, none⟩), .int .i64 (-1), .int .i64 j] w fun e w' => e = .returned (.tuple #[]) ∧ Rp w' g (some ⟨b0, 0, none⟩) ec (joinP q (-1) j) ∧ ButS B (Sg g (some ⟨b0, 0, none⟩)) w w' := by
  unfold joinP
  have h1 := h.setN0 j
  have hS1 := run_store_cell (ty := 3) (i := 1) (v := .int .i64 j) h.bx (by simp [hd5]) rfl (by kernel_rfl)
  have hb1 : ButS B (Sg g (some ⟨b0, 0, none⟩)) w _ := ButS.setCell w g 1 (.int .i64 j) (hB g (.inl rfl)) (.inl rfl)
  have hj1 : j < (setN q (-1) j).T.length := by rw [setN_len]; exact hj
  obtain ⟨w1, hw1⟩ : ∃ w1, w1 = w.setCell ⟨g, 1, none⟩ (.int .i64 j) := ⟨_, rfl⟩
  rw [← hw1] at h1 hS1 hb1
  generalize setN q (-1) j = q1 at *
  have h2 := h1.setP1 j hj1 (-1)
  have hS2 := h1.store (ty := 3) (j * 4 + 1) (.int .i64 (-1)) (by omega) rfl (by kernel_rfl)
  have hb2 := hb1.trans' (ButS.setCell w1 b0 (j * 4 + 1) (.int .i64 (-1)) (hB b0 (.inr ⟨_, rfl, rfl⟩)) (.inr ⟨_, rfl, rfl⟩))
  have hl1 := h1.bx.load (i := 0) (ty := 62) rfl (by kernel_rfl)
  have HF : Hid (Rp (w1.setCell ⟨b0, j * 4 + 1, none⟩ (.int .i64 (-1))) g (some ⟨b0, 0, none⟩) ec (setP q1 (-1) j) ∧ ButS B (Sg g (some ⟨b0, 0, none⟩)) w (w1.setCell ⟨b0, j * 4 + 1, none⟩ (.int .i64 (-1)))) := Lib.hid ⟨h2, hb2⟩
  clear hw1 h1 hb1 h2 hb2 h hB
  go_enter Try.func42, Try.ntmps42
  go_upto_region 0 with fail
  apply wp_region_lit
  refine gw_val (by kernel_rfl) (some 6) rfl (.int .i64 (-1)) (by kernel_rfl) ?_
  simp only [Act.put, List.setIfInBounds_toArray, List.set_cons_succ, List.set_cons_zero]
  refine gw_val (by kernel_rfl) (some 7) rfl (.bool true) (by kernel_rfl) ?_
  simp only [Act.put, List.setIfInBounds_toArray, List.set_cons_succ, List.set_cons_zero]
  apply wpList_nil
  go_upto_region 1 with fail
  apply wp_region_lit
  refine gw_val (by kernel_rfl) (some 8) rfl (.pointer (some ⟨g, 0, none⟩)) (by kernel_rfl) ?_
  simp only [Act.put, List.setIfInBounds_toArray, List.set_cons_succ, List.set_cons_zero]
  refine gw_val (by kernel_rfl) (some 9) rfl (.int .i64 j) (by kernel_rfl) ?_
  simp only [Act.put, List.setIfInBounds_toArray, List.set_cons_succ, List.set_cons_zero]
  refine gw_val (by kernel_rfl) (some 10) rfl (.pointer (some ⟨g, 0, none⟩)) (by kernel_rfl) ?_
  simp only [Act.put, List.setIfInBounds_toArray, List.set_cons_succ, List.set_cons_zero]
  refine gw_val (by kernel_rfl) (some 11) rfl (.pointer (some ⟨g, 1, none⟩)) (by kernel_rfl) ?_
  simp only [Act.put, List.setIfInBounds_toArray, List.set_cons_succ, List.set_cons_zero]
  refine gw_store (by kernel_rfl) rfl 3 (.tmp 11) (.tmp 9) rfl (.pointer (some ⟨g, 1, none⟩)) (.int .i64 j) (by kernel_rfl) (by kernel_rfl) (w1) (hS1) ?_
  apply wpList_nil
  go_upto_region 3 with fail
  apply wp_region_lit
  refine gw_val (by kernel_rfl) (some 20) rfl (.int .i64 j) (by kernel_rfl) ?_
  simp only [Act.put, List.setIfInBounds_toArray, List.set_cons_succ, List.set_cons_zero]
  refine gw_val (by kernel_rfl) (some 21) rfl (.bool false) (by kernel_rfl) ?_
  simp only [Act.put, List.setIfInBounds_toArray, List.set_cons_succ, List.set_cons_zero]
  apply wpList_nil
  go_upto_region 5 with fail
  apply wp_region_lit
  refine gw_val (by kernel_rfl) (some 26) rfl (.pointer (some ⟨g, 0, none⟩)) (by kernel_rfl) ?_
  simp only [Act.put, List.setIfInBounds_toArray, List.set_cons_succ, List.set_cons_zero]
  refine gw_val (by kernel_rfl) (some 27) rfl (.pointer (some ⟨g, 0, none⟩)) (by kernel_rfl) ?_
  simp only [Act.put, List.setIfInBounds_toArray, List.set_cons_succ, List.set_cons_zero]
  refine gw_val (by kernel_rfl) (some 28) rfl (.pointer (some ⟨g, 0, none⟩)) (by kernel_rfl) ?_
  simp only [Act.put, List.setIfInBounds_toArray, List.set_cons_succ, List.set_cons_zero]
  refine gw_load (by kernel_rfl) (some 29) rfl 62 (.tmp 28) rfl ⟨g, 0, none⟩ (.slice (some ⟨b0, 0, none⟩) q1.T.length ec) (by kernel_rfl) (hl1) ?_
  simp only [Act.put, List.setIfInBounds_toArray, List.set_cons_succ, List.set_cons_zero]
  refine gw_val (by kernel_rfl) (some 30) rfl (.int .i64 j) (by kernel_rfl) ?_
  simp only [Act.put, List.setIfInBounds_toArray, List.set_cons_succ, List.set_cons_zero]
  refine gw_val (by kernel_rfl) (some 31) rfl (.int .i64 (-1)) (by kernel_rfl) ?_
  simp only [Act.put, List.setIfInBounds_toArray, List.set_cons_succ, List.set_cons_zero]
  refine gw_val (by kernel_rfl) (some 32) rfl (.pointer (some ⟨b0, j * 4, none⟩)) (idx_P b0 q1.T.length ec j hj1 _ _ _ rfl (by kernel_rfl) (by kernel_rfl)) ?_
  simp only [Act.put, List.setIfInBounds_toArray, List.set_cons_succ, List.set_cons_zero]
  refine gw_val (by kernel_rfl) (some 33) rfl (.pointer (some ⟨b0, j * 4 + 1, none⟩)) (by kernel_rfl) ?_
  simp only [Act.put, List.setIfInBounds_toArray, List.set_cons_succ, List.set_cons_zero]
  refine gw_store (by kernel_rfl) rfl 3 (.tmp 33) (.tmp 31) rfl (.pointer (some ⟨b0, j * 4 + 1, none⟩)) (.int .i64 (-1)) (by kernel_rfl) (by kernel_rfl) (w1.setCell ⟨b0, j * 4 + 1, none⟩ (.int .i64 (-1))) (hS2) ?_
  apply wpList_nil
  go_wp2_with fail
  go_end0
  exact ⟨rfl, HF.out⟩
set_option maxRecDepth 100000 in
set_option maxHeartbeats 2000000 in
theorem p_join01 {w : World} {B g ec b0 : Nat} {q : PS} (h : Rp w g (some ⟨b0, 0, none⟩) ec q) (hB : ∀ k, Sg g (some ⟨b0, 0, none⟩) k → B ≤ k) (i : Nat) (hi : i < q.T.length) : Calls Try.prog 42 #[.pointer (some ⟨g, 0, none⟩), .int .i64 i, .int .i64 (-1)] w fun e w' => e = .returned (.tuple #[]) ∧ Rp w' g (some ⟨b0, 0, none⟩) ec (joinP q i (-1)) ∧ ButS B (Sg g (some ⟨b0, 0, none⟩)) w w' := by
  unfold joinP
  have h1 := h.setN1 i hi (-1)
  have hS1 := h.store (ty := 3) (i * 4 + 2) (.int .i64 (-1)) (by omega) rfl (by kernel_rfl)
  have hb1 : ButS B (Sg g (some ⟨b0, 0, none⟩)) w _ := ButS.setCell w b0 (i * 4 + 2) (.int .i64 (-1)) (hB b0 (.inr ⟨_, rfl, rfl⟩)) (.inr ⟨_, rfl, rfl⟩)
  have hl := h.bx.load (i := 0) (ty := 62) rfl (by kernel_rfl)
  obtain ⟨w1, hw1⟩ : ∃ w1, w1 = w.setCell ⟨b0, i * 4 + 2, none⟩ (.int .i64 (-1)) := ⟨_, rfl⟩
  rw [← hw1] at h1 hS1 hb1
  generalize setN q i (-1) = q1 at *
  have h2 := h1.setP0 i
  have hS2 := run_store_cell (ty := 3) (i := 2) (v := .int .i64 i) h1.bx (by simp [hd5]) rfl (by kernel_rfl)
  have hb2 := hb1.trans' (ButS.setCell w1 g 2 (.int .i64 i) (hB g (.inl rfl)) (.inl rfl))
  have HF : Hid (Rp (w1.setCell ⟨g, 2, none⟩ (.int .i64 i)) g (some ⟨b0, 0, none⟩) ec (setP q1 i (-1)) ∧ ButS B (Sg g (some ⟨b0, 0, none⟩)) w (w1.setCell ⟨g, 2, none⟩ (.int .i64 i))) := Lib.hid ⟨h2, hb2⟩
  clear hw1 h1 hb1 h2 hb2 h hB
  go_enter Try.func42, Try.ntmps42
  go_upto_region 0 with fail
  apply wp_region_lit
  refine gw_val (by kernel_rfl) (some 6) rfl (.int .i64 i) (by kernel_rfl) ?_
  simp only [Act.put, List.setIfInBounds_toArray, List.set_cons_succ, List.set_cons_zero]
  refine gw_val (by kernel_rfl) (some 7) rfl (.bool false) (by kernel_rfl) ?_
  simp only [Act.put, List.setIfInBounds_toArray, List.set_cons_succ, List.set_cons_zero]
  apply wpList_nil
  go_upto_region 2 with fail
  apply wp_region_lit
  refine gw_val (by kernel_rfl) (some 12) rfl (.pointer (some ⟨g, 0, none⟩)) (by kernel_rfl) ?_
  simp only [Act.put, List.setIfInBounds_toArray, List.set_cons_succ, List.set_cons_zero]
  refine gw_val (by kernel_rfl) (some 13) rfl (.pointer (some ⟨g, 0, none⟩)) (by kernel_rfl) ?_
  simp only [Act.put, List.setIfInBounds_toArray, List.set_cons_succ, List.set_cons_zero]
  refine gw_val (by kernel_rfl) (some 14) rfl (.pointer (some ⟨g, 0, none⟩)) (by kernel_rfl) ?_
  simp only [Act.put, List.setIfInBounds_toArray, List.set_cons_succ, List.set_cons_zero]
  refine gw_load (by kernel_rfl) (some 15) rfl 62 (.tmp 14) rfl ⟨g, 0, none⟩ (.slice (some ⟨b0, 0, none⟩) q.T.length ec) (by kernel_rfl) (hl) ?_
  simp only [Act.put, List.setIfInBounds_toArray, List.set_cons_succ, List.set_cons_zero]
  refine gw_val (by kernel_rfl) (some 16) rfl (.int .i64 i) (by kernel_rfl) ?_
  simp only [Act.put, List.setIfInBounds_toArray, List.set_cons_succ, List.set_cons_zero]
  refine gw_val (by kernel_rfl) (some 17) rfl (.int .i64 (-1)) (by kernel_rfl) ?_
  simp only [Act.put, List.setIfInBounds_toArray, List.set_cons_succ, List.set_cons_zero]
  refine gw_val (by kernel_rfl) (some 18) rfl (.pointer (some ⟨b0, i * 4, none⟩)) (idx_P b0 q.T.length ec i hi _ _ _ rfl (by kernel_rfl) (by kernel_rfl)) ?_
  simp only [Act.put, List.setIfInBounds_toArray, List.set_cons_succ, List.set_cons_zero]
  refine gw_val (by kernel_rfl) (some 19) rfl (.pointer (some ⟨b0, i * 4 + 2, none⟩)) (by kernel_rfl) ?_
  simp only [Act.put, List.setIfInBounds_toArray, List.set_cons_succ, List.set_cons_zero]
  refine gw_store (by kernel_rfl) rfl 3 (.tmp 19) (.tmp 17) rfl (.pointer (some ⟨b0, i * 4 + 2, none⟩)) (.int .i64 (-1)) (by kernel_rfl) (by kernel_rfl) (w1) (hS1) ?_
  apply wpList_nil
  go_upto_region 3 with fail
  apply wp_region_lit
  refine gw_val (by kernel_rfl) (some 20) rfl (.int .i64 (-1)) (by kernel_rfl) ?_
  simp only [Act.put, List.setIfInBounds_toArray, List.set_cons_succ, List.set_cons_zero]
  refine gw_val (by kernel_rfl) (some 21) rfl (.bool true) (by kernel_rfl) ?_
  simp only [Act.put, List.setIfInBounds_toArray, List.set_cons_succ, List.set_cons_zero]
  apply wpList_nil
  go_upto_region 4 with fail
  apply wp_region_lit
  refine gw_val (by kernel_rfl) (some 22) rfl (.pointer (some ⟨g, 0, none⟩)) (by kernel_rfl) ?_
  simp only [Act.put, List.setIfInBounds_toArray, List.set_cons_succ, List.set_cons_zero]
  refine gw_val (by kernel_rfl) (some 23) rfl (.int .i64 i) (by kernel_rfl) ?_
  simp only [Act.put, List.setIfInBounds_toArray, List.set_cons_succ, List.set_cons_zero]
  refine gw_val (by kernel_rfl) (some 24) rfl (.pointer (some ⟨g, 0, none⟩)) (by kernel_rfl) ?_
  simp only [Act.put, List.setIfInBounds_toArray, List.set_cons_succ, List.set_cons_zero]
  refine gw_val (by kernel_rfl) (some 25) rfl (.pointer (some ⟨g, 2, none⟩)) (by kernel_rfl) ?_
  simp only [Act.put, List.setIfInBounds_toArray, List.set_cons_succ, List.set_cons_zero]
  refine gw_store (by kernel_rfl) rfl 3 (.tmp 25) (.tmp 23) rfl (.pointer (some ⟨g, 2, none⟩)) (.int .i64 i) (by kernel_rfl) (by kernel_rfl) (w1.setCell ⟨g, 2, none⟩ (.int .i64 i)) (hS2) ?_
  apply wpList_nil
  go_wp2_with fail
  go_end0
  exact ⟨rfl, HF.out⟩
set_option maxRecDepth 100000 in
set_option maxHeartbeats 2000000 in
theorem p_join00 {w : World} {B g ec b0 : Nat} {q : PS} (h : Rp w g (some ⟨b0, 0, none⟩) ec q) (hB : ∀ k, Sg g (some ⟨b0, 0, none⟩) k → B ≤ k) (i : Nat) (hi : i < q.T.length) (j : Nat) (hj : j < q.T.length) : Calls Try.prog 42 #[.pointer (some ⟨g, 0, none⟩), .int .i64 i, .int .i64 j] w fun e w' => e = .returned (.tuple #[]) ∧ Rp w' g (some ⟨b0, 0, none⟩) ec (joinP q i j) ∧ ButS B (Sg g (some ⟨b0, 0, none⟩)) w w' := by
  unfold joinP
  have h1 := h.setN1 i hi j
  have hS1 := h.store (ty := 3) (i * 4 + 2) (.int .i64 j) (by omega) rfl (by kernel_rfl)
  have hb1 : ButS B (Sg g (some ⟨b0, 0, none⟩)) w _ := ButS.setCell w b0 (i * 4 + 2) (.int .i64 j) (hB b0 (.inr ⟨_, rfl, rfl⟩)) (.inr ⟨_, rfl, rfl⟩)
  have hl := h.bx.load (i := 0) (ty := 62) rfl (by kernel_rfl)
  have hj1 : j < (setN q i j).T.length := by rw [setN_len]; exact hj
  obtain ⟨w1, hw1⟩ : ∃ w1, w1 = w.setCell ⟨b0, i * 4 + 2, none⟩ (.int .i64 j) := ⟨_, rfl⟩
  rw [← hw1] at h1 hS1 hb1
  generalize setN q i j = q1 at *
  have h2 := h1.setP1 j hj1 i
  have hS2 := h1.store (ty := 3) (j * 4 + 1) (.int .i64 i) (by omega) rfl (by kernel_rfl)
  have hb2 := hb1.trans' (ButS.setCell w1 b0 (j * 4 + 1) (.int .i64 i) (hB b0 (.inr ⟨_, rfl, rfl⟩)) (.inr ⟨_, rfl, rfl⟩))
  have hl1 := h1.bx.load (i := 0) (ty := 62) rfl (by kernel_rfl)
  have HF : Hid (Rp (w1.setCell ⟨b0, j * 4 + 1, none⟩ (.int .i64 i)) g (some ⟨b0, 0, none⟩) ec (setP q1 i j) ∧ ButS B (Sg g (some ⟨b0, 0, none⟩)) w (w1.setCell ⟨b0, j * 4 + 1, none⟩ (.int .i64 i))) := Lib.hid ⟨h2, hb2⟩
  clear hw1 h1 hb1 h2 hb2 h hB
  go_enter Try.func42, Try.ntmps42
  go_upto_region 0 with fail
  apply wp_region_lit
  refine gw_val (by kernel_rfl) (some 6) rfl (.int .i64 i) (by kernel_rfl) ?_
  simp only [Act.put, List.setIfInBounds_toArray, List.set_cons_succ, List.set_cons_zero]
  refine gw_val (by kernel_rfl) (some 7) rfl (.bool false) (by kernel_rfl) ?_
  simp only [Act.put, List.setIfInBounds_toArray, List.set_cons_succ, List.set_cons_zero]
  apply wpList_nil
  go_upto_region 2 with fail
  apply wp_region_lit
  refine gw_val (by kernel_rfl) (some 12) rfl (.pointer (some ⟨g, 0, none⟩)) (by kernel_rfl) ?_
  simp only [Act.put, List.setIfInBounds_toArray, List.set_cons_succ, List.set_cons_zero]
  refine gw_val (by kernel_rfl) (some 13) rfl (.pointer (some ⟨g, 0, none⟩)) (by kernel_rfl) ?_
  simp only [Act.put, List.setIfInBounds_toArray, List.set_cons_succ, List.set_cons_zero]
  refine gw_val (by kernel_rfl) (some 14) rfl (.pointer (some ⟨g, 0, none⟩)) (by kernel_rfl) ?_
  simp only [Act.put, List.setIfInBounds_toArray, List.set_cons_succ, List.set_cons_zero]
  refine gw_load (by kernel_rfl) (some 15) rfl 62 (.tmp 14) rfl ⟨g, 0, none⟩ (.slice (some ⟨b0, 0, none⟩) q.T.length ec) (by kernel_rfl) (hl) ?_
  simp only [Act.put, List.setIfInBounds_toArray, List.set_cons_succ, List.set_cons_zero]
  refine gw_val (by kernel_rfl) (some 16) rfl (.int .i64 i) (by kernel_rfl) ?_
  simp only [Act.put, List.setIfInBounds_toArray, List.set_cons_succ, List.set_cons_zero]
  refine gw_val (by kernel_rfl) (some 17) rfl (.int .i64 j) (by kernel_rfl) ?_
  simp only [Act.put, List.setIfInBounds_toArray, List.set_cons_succ, List.set_cons_zero]
  refine gw_val (by kernel_rfl) (some 18) rfl (.pointer (some ⟨b0, i * 4, none⟩)) (idx_P b0 q.T.length ec i hi _ _ _ rfl (by kernel_rfl) (by kernel_rfl)) ?_
  simp only [Act.put, List.setIfInBounds_toArray, List.set_cons_succ, List.set_cons_zero]
  refine gw_val (by kernel_rfl) (some 19) rfl (.pointer (some ⟨b0, i * 4 + 2, none⟩)) (by kernel_rfl) ?_
  simp only [Act.put, List.setIfInBounds_toArray, List.set_cons_succ, List.set_cons_zero]
  refine gw_store (by kernel_rfl) rfl 3 (.tmp 19) (.tmp 17) rfl (.pointer (some ⟨b0, i * 4 + 2, none⟩)) (.int .i64 j) (by kernel_rfl) (by kernel_rfl) (w1) (hS1) ?_
  apply wpList_nil
  go_upto_region 3 with fail
  apply wp_region_lit
  refine gw_val (by kernel_rfl) (some 20) rfl (.int .i64 j) (by kernel_rfl) ?_
  simp only [Act.put, List.setIfInBounds_toArray, List.set_cons_succ, List.set_cons_zero]
  refine gw_val (by kernel_rfl) (some 21) rfl (.bool false) (by kernel_rfl) ?_
  simp only [Act.put, List.setIfInBounds_toArray, List.set_cons_succ, List.set_cons_zero]
  apply wpList_nil
  go_upto_region 5 with fail
  apply wp_region_lit
  refine gw_val (by kernel_rfl) (some 26) rfl (.pointer (some ⟨g, 0, none⟩)) (by kernel_rfl) ?_
  simp only [Act.put, List.setIfInBounds_toArray, List.set_cons_succ, List.set_cons_zero]
  refine gw_val (by kernel_rfl) (some 27) rfl (.pointer (some ⟨g, 0, none⟩)) (by kernel_rfl) ?_
  simp only [Act.put, List.setIfInBounds_toArray, List.set_cons_succ, List.set_cons_zero]
  refine gw_val (by kernel_rfl) (some 28) rfl (.pointer (some ⟨g, 0, none⟩)) (by kernel_rfl) ?_
  simp only [Act.put, List.setIfInBounds_toArray, List.set_cons_succ, List.set_cons_zero]
  refine gw_load (by kernel_rfl) (some 29) rfl 62 (.tmp 28) rfl ⟨g, 0, none⟩ (.slice (some ⟨b0, 0, none⟩) q1.T.length ec) (by kernel_rfl) (hl1) ?_
  simp only [Act.put, List.setIfInBounds_toArray, List.set_cons_succ, List.set_cons_zero]
  refine gw_val (by kernel_rfl) (some 30) rfl (.int .i64 j) (by kernel_rfl) ?_
  simp only [Act.put, List.setIfInBounds_toArray, List.set_cons_succ, List.set_cons_zero]
  refine gw_val (by kernel_rfl) (some 31) rfl (.int .i64 i) (by kernel_rfl) ?_
  simp only [Act.put, List.setIfInBounds_toArray, List.set_cons_succ, List.set_cons_zero]
  refine gw_val (by kernel_rfl) (some 32) rfl (.pointer (some ⟨b0, j * 4, none⟩)) (idx_P b0 q1.T.length ec j hj1 _ _ _ rfl (by kernel_rfl) (by kernel_rfl)) ?_
  simp only [Act.put, List.setIfInBounds_toArray, List.set_cons_succ, List.set_cons_zero]
  refine gw_val (by kernel_rfl) (some 33) rfl (.pointer (some ⟨b0, j * 4 + 1, none⟩)) (by kernel_rfl) ?_
  simp only [Act.put, List.setIfInBounds_toArray, List.set_cons_succ, List.set_cons_zero]
  refine gw_store (by kernel_rfl) rfl 3 (.tmp 33) (.tmp 31) rfl (.pointer (some ⟨b0, j * 4 + 1, none⟩)) (.int .i64 i) (by kernel_rfl) (by kernel_rfl) (w1.setCell ⟨b0, j * 4 + 1, none⟩ (.int .i64 i)) (hS2) ?_
  apply wpList_nil
  go_wp2_with fail
  go_end0
  exact ⟨rfl, HF.out⟩
theorem p_join {w : World} {B g ec : Nat} {ea : Option Addr} {q : PS} (h : Rp w g ea ec q) (hB : ∀ k, Sg g ea k → B ≤ k) (a b : Int) (ha : Rg q a) (hb : Rg q b) : Calls Try.prog 42 #[.pointer (some ⟨g, 0, none⟩), .int .i64 a, .int .i64 b] w fun e w' => e = .returned (.tuple #[]) ∧ Rp w' g ea ec (joinP q a b) ∧ ButS B (Sg g ea) w w' := by
  rcases ha with rfl | ⟨i, rfl, hi⟩ <;> rcases hb with rfl | ⟨j, rfl, hj⟩
  · exact p_join11 h hB
  · obtain ⟨b0, rfl, -⟩ := h.addr j hj
    exact p_join10 h hB j hj
  · obtain ⟨b0, rfl, -⟩ := h.addr i hi
    exact p_join01 h hB i hi
  · obtain ⟨b0, rfl, -⟩ := h.addr i hi
    exact p_join00 h hB i hi j hj
theorem Rp.len' {w : World} {g ec : Nat} {ea : Option Addr} {q : PS} (h : Rp w g ea ec q) (n : Nat) (hn : n ≤ 100000) : Rp (w.setCell ⟨g, 4, none⟩ (.int .i64 n)) g ea ec { q with ln := n } := h.field 4 _ rfl rfl hn
set_option maxRecDepth 100000 in
set_option maxHeartbeats 2000000 in
theorem p_link {w : World} {B g ec : Nat} {ea : Option Addr} {q : PS} (h : Rp w g ea ec q) (hB : ∀ k, Sg g ea k → B ≤ k) (p s n : Int) (hp : Rg q p) (hs : Rg q s) (hn : Rg q n) (hl : q.ln + 1 ≤ 100000) : Calls Try.prog 36 #[.pointer (some ⟨g, 0, none⟩), .int .i64 p, .int .i64 s, .int .i64 n] w fun e w' => e = .returned (.tuple #[]) ∧ Rp w' g ea ec (linkP q p s n) ∧ ButS B (Sg g ea) w w' := by
  have C1 := p_join h hB p s hp hs
  have C2 := fun w1 (h1 : Rp w1 g ea ec (joinP q p s)) => p_join h1 hB s n (hs.join p s) (hn.join p s)
  have hl2 : (joinP (joinP q p s) s n).ln + 1 ≤ 100000 := by rw [joinP_ln, joinP_ln]; exact hl
  unfold linkP
  generalize joinP q p s = q1 at *
  generalize joinP q1 s n = q2 at *
  have hln : q2.ln ≤ 1000000 := by omega
  have HL := Lib.hid hl2
  clear hl hl2 hp hs hn h
  go_enter Try.func36, Try.ntmps36
  go_upto_region 0 with fail
  apply wp_region_lit
  refine gw_val (by kernel_rfl) (some 8) rfl (.pointer (some ⟨g, 0, none⟩)) (by kernel_rfl) ?_
  simp only [Act.put, List.setIfInBounds_toArray, List.set_cons_succ, List.set_cons_zero]
  refine gw_val (by kernel_rfl) (some 9) rfl (.int .i64 p) (by kernel_rfl) ?_
  simp only [Act.put, List.setIfInBounds_toArray, List.set_cons_succ, List.set_cons_zero]
  refine gw_val (by kernel_rfl) (some 10) rfl (.int .i64 s) (by kernel_rfl) ?_
  simp only [Act.put, List.setIfInBounds_toArray, List.set_cons_succ, List.set_cons_zero]
  refine gw_call (by kernel_rfl) (some 11) rfl 42 #[.pointer (some ⟨g, 0, none⟩), .int .i64 p, .int .i64 s] (.tuple #[]) (fun w' => Rp w' g ea ec q1 ∧ ButS B (Sg g ea) w w') (by kernel_rfl) (C1) (fun w1 hw1 => ?_)
  simp only [Act.put, List.setIfInBounds_toArray, List.set_cons_succ, List.set_cons_zero]
  apply wpList_nil
  obtain ⟨h1, hb1⟩ := hw1
  go_upto_region 1 with fail
  apply wp_region_lit
  refine gw_val (by kernel_rfl) (some 12) rfl (.pointer (some ⟨g, 0, none⟩)) (by kernel_rfl) ?_
  simp only [Act.put, List.setIfInBounds_toArray, List.set_cons_succ, List.set_cons_zero]
  refine gw_val (by kernel_rfl) (some 13) rfl (.int .i64 s) (by kernel_rfl) ?_
  simp only [Act.put, List.setIfInBounds_toArray, List.set_cons_succ, List.set_cons_zero]
  refine gw_val (by kernel_rfl) (some 14) rfl (.int .i64 n) (by kernel_rfl) ?_
  simp only [Act.put, List.setIfInBounds_toArray, List.set_cons_succ, List.set_cons_zero]
  refine gw_call (by kernel_rfl) (some 15) rfl 42 #[.pointer (some ⟨g, 0, none⟩), .int .i64 s, .int .i64 n] (.tuple #[]) (fun w' => Rp w' g ea ec q2 ∧ ButS B (Sg g ea) w1 w') (by kernel_rfl) (C2 w1 h1) (fun w2 hw2 => ?_)
  simp only [Act.put, List.setIfInBounds_toArray, List.set_cons_succ, List.set_cons_zero]
  apply wpList_nil
  obtain ⟨h2, hb2⟩ := hw2
  have hb3 := (hb1.trans' hb2).trans' (ButS.setCell w2 g 4 (.int .i64 (q2.ln + 1 : Nat)) (hB g (.inl rfl)) (.inl rfl))
  have hS := run_store_cell (ty := 3) (i := 4) (v := .int .i64 (q2.ln + 1 : Nat)) h2.bx (by simp [hd5]) rfl (by kernel_rfl)
  have hl4 := h2.bx.load (i := 4) (ty := 3) rfl (by kernel_rfl)
  have HF := Lib.hid (And.intro (h2.len' (q2.ln + 1) HL.out) hb3)
  clear C1 C2 h1 hb1 h2 hb2 hb3
  go_upto_region 2 with fail
  apply wp_region_lit
  refine gw_val (by kernel_rfl) (some 16) rfl (.pointer (some ⟨g, 0, none⟩)) (by kernel_rfl) ?_
  simp only [Act.put, List.setIfInBounds_toArray, List.set_cons_succ, List.set_cons_zero]
  refine gw_val (by kernel_rfl) (some 17) rfl (.pointer (some ⟨g, 0, none⟩)) (by kernel_rfl) ?_
  simp only [Act.put, List.setIfInBounds_toArray, List.set_cons_succ, List.set_cons_zero]
  refine gw_val (by kernel_rfl) (some 18) rfl (.pointer (some ⟨g, 4, none⟩)) (by kernel_rfl) ?_
  simp only [Act.put, List.setIfInBounds_toArray, List.set_cons_succ, List.set_cons_zero]
  refine gw_load (by kernel_rfl) (some 19) rfl 3 (.tmp 18) rfl ⟨g, 4, none⟩ (.int .i64 q2.ln) (by kernel_rfl) (hl4) ?_
  simp only [Act.put, List.setIfInBounds_toArray, List.set_cons_succ, List.set_cons_zero]
  refine gw_val (by kernel_rfl) (some 20) rfl (.int .i64 (q2.ln + 1 : Nat)) (add_oneP rfl q2.ln hln (by kernel_rfl) w2) ?_
  simp only [Act.put, List.setIfInBounds_toArray, List.set_cons_succ, List.set_cons_zero]
  refine gw_val (by kernel_rfl) (some 21) rfl (.pointer (some ⟨g, 0, none⟩)) (by kernel_rfl) ?_
  simp only [Act.put, List.setIfInBounds_toArray, List.set_cons_succ, List.set_cons_zero]
  refine gw_val (by kernel_rfl) (some 22) rfl (.pointer (some ⟨g, 4, none⟩)) (by kernel_rfl) ?_
  simp only [Act.put, List.setIfInBounds_toArray, List.set_cons_succ, List.set_cons_zero]
  refine gw_store (by kernel_rfl) rfl 3 (.tmp 22) (.tmp 20) rfl (.pointer (some ⟨g, 4, none⟩)) (.int .i64 (q2.ln + 1 : Nat)) (by kernel_rfl) (by kernel_rfl) (_) (hS) ?_
  apply wpList_nil
  go_wp2_with fail
  go_end0
  exact ⟨rfl, HF.out⟩
set_option maxRecDepth 100000 in
set_option maxHeartbeats 2000000 in
theorem p_unlink {w : World} {B g ec : Nat} {ea : Option Addr} {q : PS} (h : Rp w g ea ec q) (hB : ∀ k, Sg g ea k → B ≤ k) (s : Int) (hp : Rg q (prevP q s)) (hn : Rg q (nextP q s)) (hl : 1 ≤ q.ln) : Calls Try.prog 35 #[.pointer (some ⟨g, 0, none⟩), .int .i64 s] w fun e w' => e = .returned (.tuple #[]) ∧ Rp w' g ea ec (unlinkP q s) ∧ ButS B (Sg g ea) w w' := by
  have C1 := p_prev h s
  have C2 := p_next h s
  have C3 := p_join h hB (prevP q s) (nextP q s) hp hn
  have hl2 : 0 < (joinP q (prevP q s) (nextP q s)).ln := by rw [joinP_ln]; exact hl
  have hl3 : (joinP q (prevP q s) (nextP q s)).ln ≤ 100000 := by rw [joinP_ln]; exact h.ln
  unfold unlinkP
  generalize prevP q s = p at *
  generalize nextP q s = n at *
  generalize joinP q p n = q1 at *
  have hln : q1.ln ≤ 1000000 := by omega
  clear hl hp hn h
  go_enter Try.func35, Try.ntmps35
  go_upto_region 0 with fail
  apply wp_region_lit
  refine gw_val (by kernel_rfl) (some 4) rfl (.pointer (some ⟨g, 0, none⟩)) (by kernel_rfl) ?_
  simp only [Act.put, List.setIfInBounds_toArray, List.set_cons_succ, List.set_cons_zero]
  refine gw_val (by kernel_rfl) (some 5) rfl (.pointer (some ⟨g, 0, none⟩)) (by kernel_rfl) ?_
  simp only [Act.put, List.setIfInBounds_toArray, List.set_cons_succ, List.set_cons_zero]
  refine gw_val (by kernel_rfl) (some 6) rfl (.int .i64 s) (by kernel_rfl) ?_
  simp only [Act.put, List.setIfInBounds_toArray, List.set_cons_succ, List.set_cons_zero]
  refine gw_call (by kernel_rfl) (some 7) rfl 43 #[.pointer (some ⟨g, 0, none⟩), .int .i64 s] (.int .i64 p) (fun w9 => w9 = w) (by kernel_rfl) C1 (fun w9 hw9 => ?_)
  subst hw9
  simp only [Act.put, List.setIfInBounds_toArray, List.set_cons_succ, List.set_cons_zero]
  refine gw_val (by kernel_rfl) (some 8) rfl (.pointer (some ⟨g, 0, none⟩)) (by kernel_rfl) ?_
  simp only [Act.put, List.setIfInBounds_toArray, List.set_cons_succ, List.set_cons_zero]
  refine gw_val (by kernel_rfl) (some 9) rfl (.int .i64 s) (by kernel_rfl) ?_
  simp only [Act.put, List.setIfInBounds_toArray, List.set_cons_succ, List.set_cons_zero]
  refine gw_call (by kernel_rfl) (some 10) rfl 41 #[.pointer (some ⟨g, 0, none⟩), .int .i64 s] (.int .i64 n) (fun w8 => w8 = w9) (by kernel_rfl) C2 (fun w8 hw8 => ?_)
  subst hw8
  simp only [Act.put, List.setIfInBounds_toArray, List.set_cons_succ, List.set_cons_zero]
  refine gw_call (by kernel_rfl) (some 11) rfl 42 #[.pointer (some ⟨g, 0, none⟩), .int .i64 p, .int .i64 n] (.tuple #[]) (fun w' => Rp w' g ea ec q1 ∧ ButS B (Sg g ea) w8 w') (by kernel_rfl) (C3) (fun w1 hw1 => ?_)
  simp only [Act.put, List.setIfInBounds_toArray, List.set_cons_succ, List.set_cons_zero]
  apply wpList_nil
  obtain ⟨h1, hb1⟩ := hw1
  have hb3 := hb1.trans' (ButS.setCell w1 g 4 (.int .i64 (q1.ln - 1 : Nat)) (hB g (.inl rfl)) (.inl rfl))
  have hS := run_store_cell (ty := 3) (i := 4) (v := .int .i64 (q1.ln - 1 : Nat)) h1.bx (by simp [hd5]) rfl (by kernel_rfl)
  have hl4 := h1.bx.load (i := 4) (ty := 3) rfl (by kernel_rfl)
  have HF := Lib.hid (And.intro (h1.len' (q1.ln - 1) (by omega)) hb3)
  clear C1 C2 C3 h1 hb1 hb3
  go_upto_region 1 with fail
  apply wp_region_lit
  refine gw_val (by kernel_rfl) (some 12) rfl (.pointer (some ⟨g, 0, none⟩)) (by kernel_rfl) ?_
  simp only [Act.put, List.setIfInBounds_toArray, List.set_cons_succ, List.set_cons_zero]
  refine gw_val (by kernel_rfl) (some 13) rfl (.pointer (some ⟨g, 0, none⟩)) (by kernel_rfl) ?_
  simp only [Act.put, List.setIfInBounds_toArray, List.set_cons_succ, List.set_cons_zero]
  refine gw_val (by kernel_rfl) (some 14) rfl (.pointer (some ⟨g, 4, none⟩)) (by kernel_rfl) ?_
  simp only [Act.put, List.setIfInBounds_toArray, List.set_cons_succ, List.set_cons_zero]
  refine gw_load (by kernel_rfl) (some 15) rfl 3 (.tmp 14) rfl ⟨g, 4, none⟩ (.int .i64 q1.ln) (by kernel_rfl) (hl4) ?_
  simp only [Act.put, List.setIfInBounds_toArray, List.set_cons_succ, List.set_cons_zero]
  refine gw_val (by kernel_rfl) (some 16) rfl (.int .i64 (q1.ln - 1 : Nat)) (sub_one rfl q1.ln hln hl2 (by kernel_rfl) w1) ?_
  simp only [Act.put, List.setIfInBounds_toArray, List.set_cons_succ, List.set_cons_zero]
  refine gw_val (by kernel_rfl) (some 17) rfl (.pointer (some ⟨g, 0, none⟩)) (by kernel_rfl) ?_
  simp only [Act.put, List.setIfInBounds_toArray, List.set_cons_succ, List.set_cons_zero]
  refine gw_val (by kernel_rfl) (some 18) rfl (.pointer (some ⟨g, 4, none⟩)) (by kernel_rfl) ?_
  simp only [Act.put, List.setIfInBounds_toArray, List.set_cons_succ, List.set_cons_zero]
  refine gw_store (by kernel_rfl) rfl 3 (.tmp 18) (.tmp 16) rfl (.pointer (some ⟨g, 4, none⟩)) (.int .i64 (q1.ln - 1 : Nat)) (by kernel_rfl) (by kernel_rfl) (_) (hS) ?_
  apply wpList_nil
  go_wp2_with fail
  go_end0
  exact ⟨rfl, HF.out⟩
end Go.Proofs.Ytjblfpifhbmfoaa
