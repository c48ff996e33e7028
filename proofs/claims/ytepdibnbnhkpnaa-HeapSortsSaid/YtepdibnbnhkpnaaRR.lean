/-
  The reference's Insert, Take and SameItems, the statements' item: contracts.
-/
import Derived.Test.YtepdibnbnhkpnaaRI
import Derived.Test.YtepdibnbnhkpnaaHR
namespace Go.Proofs.Ytepdibnbnhkpnaa
open Go.RowKit
set_option linter.unusedSimpArgs false
set_option linter.unusedVariables false

theorem take_snoc9 {M : List It} {i : Nat} (h : i < M.length) : M.take (i + 1) = M.take i ++ [ita M i] := by
  rw [List.take_succ_eq_append_getElem h, ita_get h]
theorem kk_step {M : List It} {x : It} {i : Nat} (h : i < M.length) : kkF x (M.take (i + 1)) 0 0 = if bf (ita M i) x then i + 1 else kkF x (M.take i) 0 0 := by
  rw [take_snoc9 h, kkF_app, List.length_take, Nat.min_eq_left (by omega), Nat.zero_add]
theorem ins_dup {M : List It} {x : It} {i : Nat} (h : i < M.length) (e : (ita M i).1 = x.1) : insM M x = (M, false) := by
  unfold insM
  rw [hasId_true.2 ⟨_, ita_mem h, e⟩]
  rfl
theorem ins_new {M : List It} {x : It} (h : ∀ j, j < M.length → (ita M j).1 ≠ x.1) : insM M x = (M.take (kkF x M 0 0) ++ [x] ++ M.drop (kkF x M 0 0), true) := by
  unfold insM
  rw [hasId_no.2 fun y hy => by obtain ⟨j, hj, rfl⟩ := mem_ita hy; exact h j hj]
  simp
theorem tak_new {M : List It} {k : Int} (h : ∀ j, j < M.length → (ita M j).1 ≠ k) : takM M k = (M, false) := by
  have h2 : hasId k M = false := hasId_no.2 fun y hy => by obtain ⟨j, hj, rfl⟩ := mem_ita hy; exact h j hj
  exact Prod.ext (tak_none h2) h2
theorem tak_it {M : List It} {k : Int} {i : Nat} (hi : i < M.length) (hk : (ita M i).1 = k) (hno : ∀ j, j < i → (ita M j).1 ≠ k) : takM M k = (M.take i ++ M.drop (i + 1), true) :=
  Prod.ext (tak_at hi hk hno) (hasId_true.2 ⟨_, ita_mem hi, hk⟩)
theorem new_box9 (V : World) (x : It) : ∃ V2, (Instr.storeAt 24 (.pointer (some ⟨V.heap.size, 0, none⟩)) (.agg (itA x))).run Try.prog (V.alloc (.cells (itA ((0, 0, 0) : It)) 24)) = .ok () V2 ∧ Gd V V2 ∧ Bx V2 V.heap.size (itA x) 24 := new_box V x
theorem new_box0 (V : World) (x : It) : ∃ V2, (Instr.storeAt 24 (.pointer (some ⟨V.heap.size, 0, none⟩)) (.agg (itA x))).run Try.prog (V.alloc (.cells (itA ((0, 0, 0) : It)) 24)) = .ok () V2 ∧ Below V.heap.size V V2 ∧ Bx V2 V.heap.size (itA x) 24 := by
  obtain ⟨V2, h1, h2, h3⟩ := new_box9 V x
  exact ⟨V2, h1, h2.1, h3⟩
def InsR (w : World) (M : List It) (x : It) (n : Nat) (W : World) (gg : Nat) (s6 s11 : Value) (V : World) : Prop := ∃ i k : Nat, s11 = .int .i64 i ∧ s6 = .int .i64 k ∧ i ≤ n ∧ k ≤ i ∧ kkF x (M.take i) 0 0 = k ∧ (∀ j, j < i → (ita M j).1 ≠ x.1) ∧ Below W.heap.size W V ∧ n - i = gg
set_option maxRecDepth 100000 in
set_option maxHeartbeats 4000000 in
theorem ref_insert (al : Option Addr) (c : Nat) (M : List It) (x : It) (w : World) (hR : Cs w al (itc M)) (hcc : M.length ≤ c) (hl : M.length ≤ 1000) :
    Calls Try.prog 14 #[.slice al M.length c, .agg (itA x)] w (RowO w al (insM M x).1 (insM M x).2) := by
  have hb0 : Below w.heap.size w (w.alloc (.cells (itA x) 24)) := (Below.refl _ w).alloc (Nat.le_refl _) _
  have hX0 : Bx (w.alloc (.cells (itA x) 24)) w.heap.size (itA x) 24 := heap_alloc_last w _
  have HA := Lib.hid (hR.below hb0)
  have HF := Lib.hid (fun W (hb : Below w.heap.size w W) (i : Nat) (hi : i < M.length) (e : (ita M i).1 = x.1) => (by
    rw [ins_dup hi e]
    exact ⟨al, c, rfl, hR.below hb, hcc, hb, .inl rfl⟩ : RowO w al (insM M x).1 (insM M x).2 (.returned (.tuple #[.slice al M.length c, .bool false])) W))
  have HE := Lib.hid (fun (h : ∀ j, j < M.length → (ita M j).1 ≠ x.1) => ins_new h)
  generalize insM M x = D at *
  obtain ⟨n, hn⟩ : ∃ n, M.length = n := ⟨_, rfl⟩
  have HN := Lib.hid hn
  rw [hn] at hl hcc HE HF ⊢
  clear hR hn
  go_enter Try.func14, Try.ntmps14
  go_upto_region 1 with fail
  change Code.wp _ _ _ _ (w.alloc (.cells (itA x) 24))
  generalize w.alloc (.cells (itA x) 24) = W at *
  obtain ⟨g0, hg0⟩ : ∃ g0, w.heap.size = g0 := ⟨_, rfl⟩
  have HB0 := Lib.hid hb0
  have HG0 := Lib.hid hg0
  rw [hg0] at hX0
  simp only [hg0]
  clear hb0 hg0
  have HX0 := Lib.hid hX0
  have HG1 := Lib.hid hX0.lt
  have HS : Hid (InsR w M x n W n (.int .i64 0) (.int .i64 0) W) := Lib.hid ⟨0, 0, rfl, rfl, by omega, by omega, rfl, fun j hj => by omega, Below.refl _ _, by omega⟩
  clear hX0
  apply wp_region_lit
  refine gw_val (by kernel_rfl) (some 6) rfl (.int .i64 0) (by kernel_rfl) ?_
  simp only [Act.put, List.setIfInBounds_toArray, List.set_cons_succ, List.set_cons_zero]
  apply wpList_nil
  go_upto_region 2 with fail
  apply wp_region_lit
  refine gw_val (by kernel_rfl) (some 9) rfl (.slice al n c) (by kernel_rfl) ?_
  simp only [Act.put, List.setIfInBounds_toArray, List.set_cons_succ, List.set_cons_zero]
  refine gw_val (by kernel_rfl) (some 10) rfl (.int .i64 n) (by kernel_rfl) ?_
  simp only [Act.put, List.setIfInBounds_toArray, List.set_cons_succ, List.set_cons_zero]
  refine gw_val (by kernel_rfl) (some 11) rfl (.int .i64 0) (by kernel_rfl) ?_
  simp only [Act.put, List.setIfInBounds_toArray, List.set_cons_succ, List.set_cons_zero]
  apply wpList_nil
  go_wp2_with fail
  go_loopg [6, 11] n (fun gg s6 s11 wx => InsR w M x n W gg s6 s11 wx)
  case atStart => exact HS.out
  case round =>
    obtain ⟨i, k, rfl, rfl, hi, hk, hkk, hno, hB, hg⟩ := hrel
    by_cases hlt : i < n
    · have HD : Hid (decide (i < n) = true) := Lib.hid (decide_eq_true hlt)
      obtain ⟨b, off, rfl, hbb, hrx⟩ := it_range (HA.out.below hB) (k := i) (by rw [HN.out]; exact hlt)
      have HKK : Hid (kkF x (M.take (i + 1)) 0 0 = if bf (ita M i) x then i + 1 else k) := Lib.hid (by rw [kk_step (by rw [HN.out]; exact hlt), hkk])
      have HNO : Hid (∀ j, j < i → (ita M j).1 ≠ x.1) := Lib.hid hno
      have HFI := Lib.hid (fun W hb => HF.out W hb i (by exact hlt))
      have HL := Lib.hid (load_it hrx)
      have HY : Hid (ita M i = ita M i) := Lib.hid rfl
      obtain ⟨y, hy⟩ : ∃ y, ita M i = y := ⟨_, rfl⟩
      have HYY := Lib.hid hy
      rw [hy] at HKK HFI HL
      have HG : Hid (n - (i + 1) = gk - 1 ∧ 0 < gk ∧ i + 1 ≤ n) := Lib.hid ⟨by omega, by omega, by omega⟩
      obtain ⟨V2, hst, hb2, hbx⟩ := new_box0 wr y
      have HB2 := Lib.hid (hB.trans (hb2.mono hB.size))
      have HBX := Lib.hid hbx
      clear hkk hno hg hrx hbb hy HY hB hb2 hbx
      go_upto_region 3 with fail
      apply wp_region_lit
      refine gw_val (by kernel_rfl) (some 12) rfl (.bool true) (by rw [← HD.out]; exact lt_nat rfl i n (by kernel_rfl) (by kernel_rfl) _) ?_
      simp only [Act.put, List.setIfInBounds_toArray, List.set_cons_succ, List.set_cons_zero]
      apply wpList_nil
      go_upto_region 4 with fail
      apply wp_region_lit
      refine gw_val (by kernel_rfl) (some 13) rfl (.int .i64 i) (by kernel_rfl) ?_
      simp only [Act.put, List.setIfInBounds_toArray, List.set_cons_succ, List.set_cons_zero]
      refine gw_val (by kernel_rfl) (some 14) rfl (.pointer (some ⟨b, off + i * 3, none⟩)) (idx_it b off n c i hlt _ _ _ rfl (by kernel_rfl) (by kernel_rfl)) ?_
      simp only [Act.put, List.setIfInBounds_toArray, List.set_cons_succ, List.set_cons_zero]
      refine gw_load (by kernel_rfl) (some 15) rfl 24 (.tmp 14) rfl ⟨b, off + i * 3, none⟩ (.agg (itA y)) (by kernel_rfl) HL.out ?_
      simp only [Act.put, List.setIfInBounds_toArray, List.set_cons_succ, List.set_cons_zero]
      refine run_to rfl (some 8) rfl (.pointer (some ⟨wr.heap.size, 0, none⟩)) (wr.alloc (.cells (itA ((0, 0, 0) : It)) 24)) (by kernel_rfl) ?_
      simp only [Act.put, List.setIfInBounds_toArray, List.set_cons_succ, List.set_cons_zero]
      refine gw_val (by kernel_rfl) (some 7) rfl (.int .i64 i) (by kernel_rfl) ?_
      simp only [Act.put, List.setIfInBounds_toArray, List.set_cons_succ, List.set_cons_zero]
      refine gw_store (by kernel_rfl) rfl 24 (.tmp 8) (.tmp 15) rfl (.pointer (some ⟨wr.heap.size, 0, none⟩)) (.agg (itA y)) (by kernel_rfl) (by kernel_rfl) V2 hst ?_
      apply wpList_nil
      obtain ⟨g8, hg8⟩ : ∃ g8, wr.heap.size = g8 := ⟨_, rfl⟩
      rw [hg8] at HBX ⊢
      clear hst hg8 HL
      have HX2 := Lib.hid (HX0.out.below HG1.out HB2.out)
      go_upto_region 5 with fail
      by_cases he : y.1 = x.1
      · have HQ : Hid (decide (y.1 = x.1) = true) := Lib.hid (decide_eq_true he)
        have HO := Lib.hid (HFI.out V2 (HB0.out.trans (HB2.out.mono HB0.out.size)) he)
        apply wp_region_lit
        refine gw_val (by kernel_rfl) (some 16) rfl (.pointer (some ⟨g8, 0, none⟩)) (by kernel_rfl) ?_
        simp only [Act.put, List.setIfInBounds_toArray, List.set_cons_succ, List.set_cons_zero]
        refine gw_load (by kernel_rfl) (some 17) rfl 3 (.tmp 16) rfl ⟨g8, 0, none⟩ (.int .i64 y.1) (by kernel_rfl) (ld_f0 HBX.out) ?_
        simp only [Act.put, List.setIfInBounds_toArray, List.set_cons_succ, List.set_cons_zero]
        refine gw_val (by kernel_rfl) (some 18) rfl (.pointer (some ⟨g0, 0, none⟩)) (by kernel_rfl) ?_
        simp only [Act.put, List.setIfInBounds_toArray, List.set_cons_succ, List.set_cons_zero]
        refine gw_load (by kernel_rfl) (some 19) rfl 3 (.tmp 18) rfl ⟨g0, 0, none⟩ (.int .i64 x.1) (by kernel_rfl) (ld_f0 HX2.out) ?_
        simp only [Act.put, List.setIfInBounds_toArray, List.set_cons_succ, List.set_cons_zero]
        refine gw_val (by kernel_rfl) (some 20) rfl (.bool true) (by rw [← HQ.out]; exact eq_i rfl y.1 x.1 (by kernel_rfl) (by kernel_rfl) _) ?_
        simp only [Act.put, List.setIfInBounds_toArray, List.set_cons_succ, List.set_cons_zero]
        apply wpList_nil
        clear HX2 HBX HQ he HFI HKK HNO HE HF
        go_upto_region 6 with fail
        apply wp_region_lit
        refine gw_val (by kernel_rfl) (some 21) rfl (.slice (some ⟨b, off, none⟩) n c) (by kernel_rfl) ?_
        simp only [Act.put, List.setIfInBounds_toArray, List.set_cons_succ, List.set_cons_zero]
        refine gw_val (by kernel_rfl) (some 4) rfl (.slice (some ⟨b, off, none⟩) n c) (by kernel_rfl) ?_
        simp only [Act.put, List.setIfInBounds_toArray, List.set_cons_succ, List.set_cons_zero]
        refine gw_val (by kernel_rfl) (some 5) rfl (.bool false) (by kernel_rfl) ?_
        simp only [Act.put, List.setIfInBounds_toArray, List.set_cons_succ, List.set_cons_zero]
        apply wpList_nil
        go_wp2_with fail
        go_ret2
        exact HO.out
      · have HQ : Hid (decide (y.1 = x.1) = false) := Lib.hid (decide_eq_false he)
        have HNE := Lib.hid he
        clear he
        apply wp_region_lit
        refine gw_val (by kernel_rfl) (some 16) rfl (.pointer (some ⟨g8, 0, none⟩)) (by kernel_rfl) ?_
        simp only [Act.put, List.setIfInBounds_toArray, List.set_cons_succ, List.set_cons_zero]
        refine gw_load (by kernel_rfl) (some 17) rfl 3 (.tmp 16) rfl ⟨g8, 0, none⟩ (.int .i64 y.1) (by kernel_rfl) (ld_f0 HBX.out) ?_
        simp only [Act.put, List.setIfInBounds_toArray, List.set_cons_succ, List.set_cons_zero]
        refine gw_val (by kernel_rfl) (some 18) rfl (.pointer (some ⟨g0, 0, none⟩)) (by kernel_rfl) ?_
        simp only [Act.put, List.setIfInBounds_toArray, List.set_cons_succ, List.set_cons_zero]
        refine gw_load (by kernel_rfl) (some 19) rfl 3 (.tmp 18) rfl ⟨g0, 0, none⟩ (.int .i64 x.1) (by kernel_rfl) (ld_f0 HX2.out) ?_
        simp only [Act.put, List.setIfInBounds_toArray, List.set_cons_succ, List.set_cons_zero]
        refine gw_val (by kernel_rfl) (some 20) rfl (.bool false) (by rw [← HQ.out]; exact eq_i rfl y.1 x.1 (by kernel_rfl) (by kernel_rfl) _) ?_
        simp only [Act.put, List.setIfInBounds_toArray, List.set_cons_succ, List.set_cons_zero]
        apply wpList_nil
        go_upto_region 7 with fail
        obtain ⟨r, hr⟩ : ∃ r, bf y x = r := ⟨_, rfl⟩
        rw [hr] at HKK
        have HR := Lib.hid hr
        clear hr
        apply wp_region_lit
        refine gw_load (by kernel_rfl) (some 22) rfl 24 (.tmp 8) rfl ⟨g8, 0, none⟩ (.agg (itA y)) (by kernel_rfl) (load_box HBX.out) ?_
        simp only [Act.put, List.setIfInBounds_toArray, List.set_cons_succ, List.set_cons_zero]
        refine gw_load (by kernel_rfl) (some 23) rfl 24 (.tmp 3) rfl ⟨g0, 0, none⟩ (.agg (itA x)) (by kernel_rfl) (load_box HX2.out) ?_
        simp only [Act.put, List.setIfInBounds_toArray, List.set_cons_succ, List.set_cons_zero]
        refine gw_call (by kernel_rfl) (some 24) rfl 12 #[.agg (itA y), .agg (itA x)] (.bool r) (fun w9 => Below V2.heap.size V2 w9) (by kernel_rfl) ((rbefore_it y x V2).mono fun e w9 q => ⟨by rw [q.1, HR.out], q.2.1⟩) (fun V3 hV3 => ?_)
        simp only [Act.put, List.setIfInBounds_toArray, List.set_cons_succ, List.set_cons_zero]
        apply wpList_nil
        have HB3 := Lib.hid (HB2.out.trans (hV3.mono HB2.out.size))
        have HNO2 : Hid (∀ j, j < i + 1 → (ita M j).1 ≠ x.1) := Lib.hid (fun j hj => by
          by_cases e : j = i
          · rw [e, HYY.out]; exact HNE.out
          · exact HNO.out j (by omega))
        clear hV3 HX2 HBX HQ HNE HNO HFI HB2
        cases r with
        | true =>
          go_upto_region 8 with fail
          apply wp_region_lit
          refine gw_val (by kernel_rfl) (some 25) rfl (.int .i64 i) (by kernel_rfl) ?_
          simp only [Act.put, List.setIfInBounds_toArray, List.set_cons_succ, List.set_cons_zero]
          refine gw_val (by kernel_rfl) (some 26) rfl (.int .i64 (i + 1 : Nat)) (add_one rfl i (by omega) (by kernel_rfl) _) ?_
          simp only [Act.put, List.setIfInBounds_toArray, List.set_cons_succ, List.set_cons_zero]
          refine gw_val (by kernel_rfl) (some 6) rfl (.int .i64 (i + 1 : Nat)) (by kernel_rfl) ?_
          simp only [Act.put, List.setIfInBounds_toArray, List.set_cons_succ, List.set_cons_zero]
          apply wpList_nil
          go_upto_region 9 with fail
          apply wp_region_lit
          refine gw_val (by kernel_rfl) (some 27) rfl (.int .i64 (i + 1 : Nat)) (add_one rfl i (by omega) (by kernel_rfl) _) ?_
          simp only [Act.put, List.setIfInBounds_toArray, List.set_cons_succ, List.set_cons_zero]
          refine gw_val (by kernel_rfl) (some 11) rfl (.int .i64 (i + 1 : Nat)) (by kernel_rfl) ?_
          simp only [Act.put, List.setIfInBounds_toArray, List.set_cons_succ, List.set_cons_zero]
          apply wpList_nil
          go_wp2_with fail
          go_roundg (gk - 1)
          case measure => have := HG.out; omega
          case rel => exact ⟨i + 1, i + 1, rfl, rfl, HG.out.2.2, by omega, HKK.out, HNO2.out, HB3.out, HG.out.1⟩
        | false =>
          go_upto_region 9 with fail
          apply wp_region_lit
          refine gw_val (by kernel_rfl) (some 27) rfl (.int .i64 (i + 1 : Nat)) (add_one rfl i (by omega) (by kernel_rfl) _) ?_
          simp only [Act.put, List.setIfInBounds_toArray, List.set_cons_succ, List.set_cons_zero]
          refine gw_val (by kernel_rfl) (some 11) rfl (.int .i64 (i + 1 : Nat)) (by kernel_rfl) ?_
          simp only [Act.put, List.setIfInBounds_toArray, List.set_cons_succ, List.set_cons_zero]
          apply wpList_nil
          go_wp2_with fail
          go_roundg (gk - 1)
          case measure => have := HG.out; omega
          case rel => exact ⟨i + 1, k, rfl, rfl, HG.out.2.2, by omega, HKK.out, HNO2.out, HB3.out, HG.out.1⟩
    · have HD : Hid (decide (i < n) = false) := Lib.hid (decide_eq_false hlt)
      have hin : i = n := by omega
      rw [hin, ← HN.out, List.take_length] at hkk
      have hno2 : ∀ j, j < n → (ita M j).1 ≠ x.1 := fun j hj => hno j (by omega)
      have hDE := HE.out hno2
      rw [hkk] at hDE
      have hkn : k ≤ n := by omega
      have htl : (M.take k).length = k := by rw [List.length_take, HN.out]; omega
      have hdl : (M.drop k).length = n - k := by rw [List.length_drop, HN.out]
      have HTL := Lib.hid htl
      have HDL := Lib.hid hdl
      have HDE := Lib.hid hDE
      have HX3 := Lib.hid (HX0.out.below HG1.out hB)
      have HA3 := Lib.hid (HA.out.below hB)
      have HBW := Lib.hid (HB0.out.trans (hB.mono HB0.out.size))
      have h0 := CH.start wr x (M.take k) (M.take k ++ [x]) (M.take k ++ [x] ++ M.drop k) undef undef undef undef undef
      clear hin hkk hno hno2 hDE htl hdl hB hg HX0 HA HF HE
      go_upto_region 3 with fail
      apply wp_region_lit
      refine gw_val (by kernel_rfl) (some 12) rfl (.bool false) (by rw [← HD.out]; exact lt_nat rfl i n (by kernel_rfl) (by kernel_rfl) _) ?_
      simp only [Act.put, List.setIfInBounds_toArray, List.set_cons_succ, List.set_cons_zero]
      apply wpList_nil
      go_upto_region 10 with fail
      refine wp_region_inv (fun listed act9 V => ∃ b0 b1 b2 b3 b4 b5 b6 b7 b8 b9 b10 b11 b12 b13 : Bool, ∃ x28 x32 x34 x35 x39 : Value, listed = #[b0, b1, b2, b3, b4, b5, b6, b7, b8, b9, b10, b11, b12, b13] ∧ act9 = { tmps := #[.slice al n c, .agg (itA x), undef, .pointer (some ⟨g0, 0, none⟩), (cond b12 (x39) (u4)), (cond b13 (.bool true) (u5)), .int .i64 k, u7, u8, .slice al n c, .int .i64 n, .int .i64 i, .bool false, u13, u14, u15, u16, u17, u18, u19, u20, u21, u22, u23, u24, u25, u26, u27, x28, (cond b1 (.slice al n c) undef), (cond b2 (.int .i64 k) undef), (cond b3 (.slice al k c) undef), x32, (cond b5 (.agg (itA x)) undef), x34, x35, (cond b8 (.slice al n c) undef), (cond b9 (.int .i64 k) undef), (cond b10 (.slice (fromS 3 al c k) (n - k) (c - k)) undef), x39], defers := [] } ∧ CH wr x (M.take k) (M.take k ++ [x]) (M.take k ++ [x] ++ M.drop k) b0 b4 b7 b11 b6 x28 x32 x35 x39 x34 V ∧ (b12 = true → b11 = true)) (by kernel_rfl) (by kernel_rfl) ?_ ?_ ?_
      · exact ⟨false, false, false, false, false, false, false, false, false, false, false, false, false, false, undef, undef, undef, undef, undef, rfl, rfl, h0, fun h => (by cases h)⟩
      · intro i9 listed act9 V hi9 hr hJ
        obtain ⟨b0, b1, b2, b3, b4, b5, b6, b7, b8, b9, b10, b11, b12, b13, x28, x32, x34, x35, x39, rfl, rfl, hF, hA⟩ := hJ
        have hi2 : i9 < 14 := hi9
        have hi3 : i9 = 0 ∨ i9 = 1 ∨ i9 = 2 ∨ i9 = 3 ∨ i9 = 4 ∨ i9 = 5 ∨ i9 = 6 ∨ i9 = 7 ∨ i9 = 8 ∨ i9 = 9 ∨ i9 = 10 ∨ i9 = 11 ∨ i9 = 12 ∨ i9 = 13 := by omega
        rcases hi3 with rfl | rfl | rfl | rfl | rfl | rfl | rfl | rfl | rfl | rfl | rfl | rfl | rfl | rfl
        · obtain rfl : b0 = false := ready_self hr
          obtain rfl : b4 = false := by cases b4; rfl; exact absurd (hF.c1 rfl) (by decide)
          obtain rfl : b7 = false := by cases b7; rfl; exact absurd (hF.c2 rfl) (by decide)
          obtain rfl : b11 = false := by cases b11; rfl; exact absurd (hF.c3 rfl) (by decide)
          refine st_build rfl (by kernel_rfl) (some 28) rfl 35 0 #[] rfl #[] (by kernel_rfl) (.slice (some ⟨V.heap.size, 0, none⟩) 0 0) _ (nil_it V) ?_
          exact ⟨true, b1, b2, b3, false, b5, b6, false, b8, b9, b10, false, b12, b13, _, x32, x34, x35, x39, rfl, rfl, hF.nil, hA⟩
        · obtain rfl : b1 = false := ready_self hr
          refine st_val rfl (by kernel_rfl) (some 29) rfl (.slice al n c) V (by kernel_rfl) ?_
          exact ⟨b0, true, b2, b3, b4, b5, b6, b7, b8, b9, b10, b11, b12, b13, x28, x32, x34, x35, x39, rfl, rfl, hF, hA⟩
        · obtain rfl : b2 = false := ready_self hr
          refine st_val rfl (by kernel_rfl) (some 30) rfl (.int .i64 k) V (by kernel_rfl) ?_
          exact ⟨b0, b1, true, b3, b4, b5, b6, b7, b8, b9, b10, b11, b12, b13, x28, x32, x34, x35, x39, rfl, rfl, hF, hA⟩
        · obtain rfl : b3 = false := ready_self hr
          obtain rfl : b1 = true := ready_dep hr 1 (by kernel_rfl)
          obtain rfl : b2 = true := ready_dep hr 2 (by kernel_rfl)
          refine st_slice_to rfl (by kernel_rfl) (some 31) rfl 35 (.tmp 29) (.tmp 30) rfl (.slice al n c) (.int .i64 (k : Int)) (.slice al k c) (by kernel_rfl) (by kernel_rfl) (cut_it_to al n c k V (by omega)) ?_
          exact ⟨b0, true, true, true, b4, b5, b6, b7, b8, b9, b10, b11, b12, b13, x28, x32, x34, x35, x39, rfl, rfl, hF, hA⟩
        · obtain rfl : b4 = false := ready_self hr
          obtain rfl : b0 = true := ready_dep hr 0 (by kernel_rfl)
          obtain rfl : b3 = true := ready_dep hr 3 (by kernel_rfl)
          obtain rfl : b7 = false := by cases b7; rfl; exact absurd (hF.c2 rfl) (by decide)
          obtain rfl : b11 = false := by cases b11; rfl; exact absurd (hF.c3 rfl) (by decide)
          have hO := hF.r0 rfl rfl
          obtain ⟨v, V2, hap, hO2, hb2, hg2, hat2⟩ := hO.app hF.bel.size al k c (M.take k) (by rw [← itc_take]; exact (HA3.out.below hF.bel).take _) HTL.out (by simp) (by omega)
          refine st_append rfl (by kernel_rfl) (some 32) rfl 35 rfl (.tmp 28) (.tmp 31) 35 rfl x28 (.slice al k c) v V2 (by kernel_rfl) (by kernel_rfl) hap ?_
          exact ⟨true, b1, b2, true, true, b5, b6, false, b8, b9, b10, false, b12, b13, x28, v, x34, x35, x39, rfl, rfl, hF.one (by rw [List.nil_append] at hO2; exact hO2) hb2 hg2 hat2, hA⟩
        · obtain rfl : b5 = false := ready_self hr
          refine st_load rfl (by kernel_rfl) (some 33) rfl 24 (.tmp 3) rfl ⟨g0, 0, none⟩ (.agg (itA x)) (by kernel_rfl) (load_box (HX3.out.below HX3.out.lt hF.bel)) ?_
          exact ⟨b0, b1, b2, b3, b4, true, b6, b7, b8, b9, b10, b11, b12, b13, x28, x32, x34, x35, x39, rfl, rfl, hF, hA⟩
        · obtain rfl : b6 = false := ready_self hr
          obtain rfl : b5 = true := ready_dep hr 5 (by kernel_rfl)
          refine st_build rfl (by kernel_rfl) (some 34) rfl 35 1 #[(0, .tmp 33)] rfl #[(0, .agg (itA x))] (by kernel_rfl) (.slice (some ⟨V.heap.size, 0, none⟩) 1 1) _ (build_it x V) ?_
          exact ⟨b0, b1, b2, b3, b4, true, true, b7, b8, b9, b10, b11, b12, b13, x28, x32, _, x35, x39, rfl, rfl, hF.key, hA⟩
        · obtain rfl : b7 = false := ready_self hr
          obtain rfl : b4 = true := ready_dep hr 4 (by kernel_rfl)
          obtain rfl : b6 = true := ready_dep hr 6 (by kernel_rfl)
          obtain rfl : b11 = false := by cases b11; rfl; exact absurd (hF.c3 rfl) (by decide)
          have hO := hF.r1 rfl rfl
          obtain ⟨gq, rfl, hgx, -⟩ := hF.kx rfl
          have hgc : Cs V (some ⟨gq, 0, none⟩) (itc [x]) := Cs.block (cs := itl x) hgx
          obtain ⟨v, V2, hap, hO2, hb2, hg2, hat2⟩ := hO.app hF.bel.size (some ⟨gq, 0, none⟩) 1 1 [x] hgc rfl (by rw [HTL.out]; omega) (by omega)
          refine st_append rfl (by kernel_rfl) (some 35) rfl 35 rfl (.tmp 32) (.tmp 34) 35 rfl x32 (.slice (some ⟨gq, 0, none⟩) 1 1) v V2 (by kernel_rfl) (by kernel_rfl) hap ?_
          exact ⟨b0, b1, b2, b3, true, b5, true, true, b8, b9, b10, false, b12, b13, x28, x32, _, v, x39, rfl, rfl, hF.two hO2 hb2 hg2 hat2, hA⟩
        · obtain rfl : b8 = false := ready_self hr
          refine st_val rfl (by kernel_rfl) (some 36) rfl (.slice al n c) V (by kernel_rfl) ?_
          exact ⟨b0, b1, b2, b3, b4, b5, b6, b7, true, b9, b10, b11, b12, b13, x28, x32, x34, x35, x39, rfl, rfl, hF, hA⟩
        · obtain rfl : b9 = false := ready_self hr
          refine st_val rfl (by kernel_rfl) (some 37) rfl (.int .i64 k) V (by kernel_rfl) ?_
          exact ⟨b0, b1, b2, b3, b4, b5, b6, b7, b8, true, b10, b11, b12, b13, x28, x32, x34, x35, x39, rfl, rfl, hF, hA⟩
        · obtain rfl : b10 = false := ready_self hr
          obtain rfl : b8 = true := ready_dep hr 8 (by kernel_rfl)
          obtain rfl : b9 = true := ready_dep hr 9 (by kernel_rfl)
          refine st_slice_from rfl (by kernel_rfl) (some 38) rfl 35 (.tmp 36) (.tmp 37) rfl (.slice al n c) (.int .i64 ((k : Nat) : Int)) (.slice (fromS 3 al c k) (n - k) (c - k)) (by kernel_rfl) (by kernel_rfl) (cut_it_from al n c (k) V (by omega)) ?_
          exact ⟨b0, b1, b2, b3, b4, b5, b6, b7, true, true, true, b11, b12, b13, x28, x32, x34, x35, x39, rfl, rfl, hF, hA⟩
        · obtain rfl : b11 = false := ready_self hr
          obtain rfl : b7 = true := ready_dep hr 7 (by kernel_rfl)
          obtain rfl : b10 = true := ready_dep hr 10 (by kernel_rfl)
          obtain rfl : b12 = false := by cases b12; rfl; exact absurd (hA rfl) (by decide)
          have hO := hF.r2 rfl rfl
          obtain ⟨v, V2, hap, hO2, hb2, hg2, hat2⟩ := hO.app hF.bel.size (fromS 3 al c k) (n - k) (c - k) (M.drop k) (by rw [← itc_drop]; exact (HA3.out.below hF.bel).from 3 c k (by rw [itc_len, HN.out]; omega)) HDL.out (by rw [List.length_append, HTL.out]; simp; omega) (by omega)
          refine st_append rfl (by kernel_rfl) (some 39) rfl 35 rfl (.tmp 35) (.tmp 38) 35 rfl x35 (.slice (fromS 3 al c k) (n - k) (c - k)) v V2 (by kernel_rfl) (by kernel_rfl) hap ?_
          exact ⟨b0, b1, b2, b3, b4, b5, b6, true, b8, b9, true, true, false, b13, x28, x32, x34, x35, v, rfl, rfl, hF.three hO2 hb2 hg2 hat2, fun h => (by cases h)⟩
        · obtain rfl : b12 = false := ready_self hr
          obtain rfl : b11 = true := ready_dep hr 11 (by kernel_rfl)
          refine st_val rfl (by kernel_rfl) (some 4) rfl (x39) V (by kernel_rfl) ?_
          exact ⟨b0, b1, b2, b3, b4, b5, b6, b7, b8, b9, b10, true, true, b13, x28, x32, x34, x35, x39, rfl, rfl, hF, fun _ => rfl⟩
        · obtain rfl : b13 = false := ready_self hr
          refine st_val rfl (by kernel_rfl) (some 5) rfl (.bool true) V (by kernel_rfl) ?_
          exact ⟨b0, b1, b2, b3, b4, b5, b6, b7, b8, b9, b10, b11, b12, true, x28, x32, x34, x35, x39, rfl, rfl, hF, hA⟩
      · intro act9 V hJ
        obtain ⟨b0, b1, b2, b3, b4, b5, b6, b7, b8, b9, b10, b11, b12, b13, x28, x32, x34, x35, x39, he, rfl, hF, hA⟩ := hJ
        have he : (#[true, true, true, true, true, true, true, true, true, true, true, true, true, true] : Array Bool) = #[b0, b1, b2, b3, b4, b5, b6, b7, b8, b9, b10, b11, b12, b13] := he
        simp only [Array.mk.injEq, List.cons.injEq, and_true] at he
        obtain ⟨rfl, rfl, rfl, rfl, rfl, rfl, rfl, rfl, rfl, rfl, rfl, rfl, rfl, rfl⟩ := he
        simp only [cond_true]
        have hO := hF.r3 rfl
        have HO := Lib.hid (RowO.of (a := al) true hO (HBW.out.trans (hF.bel.mono HBW.out.size)) HBW.out.size)
        clear hF h0 hO HX3 HA3
        go_wp2_with fail
        go_ret2
        rw [HDE.out]
        exact HO.out
end Go.Proofs.Ytepdibnbnhkpnaa
