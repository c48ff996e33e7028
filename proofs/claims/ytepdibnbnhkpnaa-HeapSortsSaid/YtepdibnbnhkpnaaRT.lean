/-
  The reference's Take and SameItems, the statements' item: contracts.
-/
import Derived.Test.YtepdibnbnhkpnaaRR
namespace Go.Proofs.Ytepdibnbnhkpnaa
open Go.RowKit
set_option linter.unusedSimpArgs false
set_option linter.unusedVariables false

def TakR (M : List It) (k : Int) (n : Nat) (W : World) (gg : Nat) (s10 : Value) (V : World) : Prop := ∃ i : Nat, s10 = .int .i64 i ∧ i ≤ n ∧ (∀ j, j < i → (ita M j).1 ≠ k) ∧ Below W.heap.size W V ∧ n - i = gg
set_option maxRecDepth 100000 in
set_option maxHeartbeats 4000000 in
theorem ref_take (al : Option Addr) (c : Nat) (M : List It) (k : Int) (w : World) (hR : Cs w al (itc M)) (hcc : M.length ≤ c) (hl : M.length ≤ 1000) :
    Calls Try.prog 18 #[.slice al M.length c, .int .i64 k] w (RowO w al (takM M k).1 (takM M k).2) := by
  have HA := Lib.hid hR
  have HE := Lib.hid (fun W (hb : Below w.heap.size w W) (h : ∀ j, j < M.length → (ita M j).1 ≠ k) => (by
    rw [tak_new h]
    exact ⟨al, c, rfl, hR.below hb, hcc, hb, .inl rfl⟩ : RowO w al (takM M k).1 (takM M k).2 (.returned (.tuple #[.slice al M.length c, .bool false])) W))
  have HF := Lib.hid (fun (i : Nat) (hi : i < M.length) (e : (ita M i).1 = k) (h : ∀ j, j < i → (ita M j).1 ≠ k) => tak_it hi e h)
  generalize takM M k = D at *
  obtain ⟨n, hn⟩ : ∃ n, M.length = n := ⟨_, rfl⟩
  have HN := Lib.hid hn
  rw [hn] at hl hcc HE HF ⊢
  have HS : Hid (TakR M k n w n (.int .i64 0) w) := Lib.hid ⟨0, rfl, by omega, fun j hj => by omega, Below.refl _ _, by omega⟩
  clear hR hn
  go_enter Try.func18, Try.ntmps18
  go_upto_region 1 with fail
  apply wp_region_lit
  refine gw_val (by kernel_rfl) (some 8) rfl (.slice al n c) (by kernel_rfl) ?_
  simp only [Act.put, List.setIfInBounds_toArray, List.set_cons_succ, List.set_cons_zero]
  refine gw_val (by kernel_rfl) (some 9) rfl (.int .i64 n) (by kernel_rfl) ?_
  simp only [Act.put, List.setIfInBounds_toArray, List.set_cons_succ, List.set_cons_zero]
  refine gw_val (by kernel_rfl) (some 10) rfl (.int .i64 0) (by kernel_rfl) ?_
  simp only [Act.put, List.setIfInBounds_toArray, List.set_cons_succ, List.set_cons_zero]
  apply wpList_nil
  go_wp2_with fail
  go_loopg [10] n (fun gg s10 wx => TakR M k n w gg s10 wx)
  case atStart => exact HS.out
  case round =>
    obtain ⟨i, rfl, hi, hno, hB, hg⟩ := hrel
    by_cases hlt : i < n
    · have HD : Hid (decide (i < n) = true) := Lib.hid (decide_eq_true hlt)
      obtain ⟨b, off, rfl, hbb, hrx⟩ := it_range (HA.out.below hB) (k := i) (by rw [HN.out]; exact hlt)
      have HNO : Hid (∀ j, j < i → (ita M j).1 ≠ k) := Lib.hid hno
      have HFI := Lib.hid (fun e => HF.out i hlt e hno)
      have HL := Lib.hid (load_it hrx)
      obtain ⟨y, hy⟩ : ∃ y, ita M i = y := ⟨_, rfl⟩
      have HYY := Lib.hid hy
      rw [hy] at HFI HL
      have HG : Hid (n - (i + 1) = gk - 1 ∧ 0 < gk ∧ i + 1 ≤ n) := Lib.hid ⟨by omega, by omega, by omega⟩
      obtain ⟨V2, hst, hb2, hbx⟩ := new_box0 wr y
      have HB2 := Lib.hid (hB.trans (hb2.mono hB.size))
      have HBX := Lib.hid hbx
      clear hno hg hrx hbb hy hB hb2 hbx
      go_upto_region 2 with fail
      apply wp_region_lit
      refine gw_val (by kernel_rfl) (some 11) rfl (.bool true) (by rw [← HD.out]; exact lt_nat rfl i n (by kernel_rfl) (by kernel_rfl) _) ?_
      simp only [Act.put, List.setIfInBounds_toArray, List.set_cons_succ, List.set_cons_zero]
      apply wpList_nil
      go_upto_region 3 with fail
      apply wp_region_lit
      refine gw_val (by kernel_rfl) (some 12) rfl (.int .i64 i) (by kernel_rfl) ?_
      simp only [Act.put, List.setIfInBounds_toArray, List.set_cons_succ, List.set_cons_zero]
      refine gw_val (by kernel_rfl) (some 13) rfl (.pointer (some ⟨b, off + i * 3, none⟩)) (idx_it b off n c i hlt _ _ _ rfl (by kernel_rfl) (by kernel_rfl)) ?_
      simp only [Act.put, List.setIfInBounds_toArray, List.set_cons_succ, List.set_cons_zero]
      refine gw_load (by kernel_rfl) (some 14) rfl 24 (.tmp 13) rfl ⟨b, off + i * 3, none⟩ (.agg (itA y)) (by kernel_rfl) HL.out ?_
      simp only [Act.put, List.setIfInBounds_toArray, List.set_cons_succ, List.set_cons_zero]
      refine run_to rfl (some 7) rfl (.pointer (some ⟨wr.heap.size, 0, none⟩)) (wr.alloc (.cells (itA ((0, 0, 0) : It)) 24)) (by kernel_rfl) ?_
      simp only [Act.put, List.setIfInBounds_toArray, List.set_cons_succ, List.set_cons_zero]
      refine gw_val (by kernel_rfl) (some 6) rfl (.int .i64 i) (by kernel_rfl) ?_
      simp only [Act.put, List.setIfInBounds_toArray, List.set_cons_succ, List.set_cons_zero]
      refine gw_store (by kernel_rfl) rfl 24 (.tmp 7) (.tmp 14) rfl (.pointer (some ⟨wr.heap.size, 0, none⟩)) (.agg (itA y)) (by kernel_rfl) (by kernel_rfl) V2 hst ?_
      apply wpList_nil
      obtain ⟨g8, hg8⟩ : ∃ g8, wr.heap.size = g8 := ⟨_, rfl⟩
      rw [hg8] at HBX ⊢
      clear hst hg8 HL
      go_upto_region 4 with fail
      by_cases he : y.1 = k
      · have HQ : Hid (decide (y.1 = k) = true) := Lib.hid (decide_eq_true he)
        apply wp_region_lit
        refine gw_val (by kernel_rfl) (some 15) rfl (.pointer (some ⟨g8, 0, none⟩)) (by kernel_rfl) ?_
        simp only [Act.put, List.setIfInBounds_toArray, List.set_cons_succ, List.set_cons_zero]
        refine gw_load (by kernel_rfl) (some 16) rfl 3 (.tmp 15) rfl ⟨g8, 0, none⟩ (.int .i64 y.1) (by kernel_rfl) (ld_f0 HBX.out) ?_
        simp only [Act.put, List.setIfInBounds_toArray, List.set_cons_succ, List.set_cons_zero]
        refine gw_val (by kernel_rfl) (some 17) rfl (.int .i64 k) (by kernel_rfl) ?_
        simp only [Act.put, List.setIfInBounds_toArray, List.set_cons_succ, List.set_cons_zero]
        refine gw_val (by kernel_rfl) (some 18) rfl (.bool true) (by rw [← HQ.out]; exact eq_i rfl y.1 k (by kernel_rfl) (by kernel_rfl) _) ?_
        simp only [Act.put, List.setIfInBounds_toArray, List.set_cons_succ, List.set_cons_zero]
        apply wpList_nil
        have HDE := Lib.hid (HFI.out he)
        have HTL : Hid ((M.take i).length = i) := Lib.hid (by rw [List.length_take, HN.out]; omega)
        have HDL : Hid ((M.drop (i + 1)).length = n - (i + 1)) := Lib.hid (by rw [List.length_drop, HN.out])
        have HA3 := Lib.hid (HA.out.below HB2.out)
        have h0 := CH.start V2 y (M.take i) (M.take i ++ M.drop (i + 1)) [] u19 u23 u28 undef undef
        clear HBX HQ he HFI HNO HE HF HYY
        go_upto_region 5 with fail
        refine wp_region_inv (fun listed act9 V => ∃ b0 b1 b2 b3 b4 b5 b6 b7 b8 b9 b10 b11 : Bool, ∃ x19 x23 x28 : Value, listed = #[b0, b1, b2, b3, b4, b5, b6, b7, b8, b9, b10, b11] ∧ act9 = { tmps := #[.slice (some ⟨b, off, none⟩) n c, .int .i64 k, undef, undef, (cond b10 (x28) (u4)), (cond b11 (.bool true) (u5)), .int .i64 i, .pointer (some ⟨g8, 0, none⟩), .slice (some ⟨b, off, none⟩) n c, .int .i64 n, .int .i64 i, .bool true, .int .i64 i, .pointer (some ⟨b, off + i * 3, none⟩), .agg (itA y), .pointer (some ⟨g8, 0, none⟩), .int .i64 y.1, .int .i64 k, .bool true, x19, (cond b1 (.slice (some ⟨b, off, none⟩) n c) (u20)), (cond b2 (.int .i64 i) (u21)), (cond b3 (.slice (some ⟨b, off, none⟩) i c) (u22)), x23, (cond b5 (.slice (some ⟨b, off, none⟩) n c) (u24)), (cond b6 (.int .i64 i) (u25)), (cond b7 (.int .i64 (i + 1 : Nat)) (u26)), (cond b8 (.slice (fromS 3 (some ⟨b, off, none⟩) c (i + 1)) (n - (i + 1)) (c - (i + 1))) (u27)), x28, u29, undef], defers := [] } ∧ CH V2 y (M.take i) (M.take i ++ M.drop (i + 1)) [] b0 b4 b9 false false x19 x23 x28 undef undef V ∧ (b10 = true → b9 = true)) (by kernel_rfl) (by kernel_rfl) ?_ ?_ ?_
        · exact ⟨false, false, false, false, false, false, false, false, false, false, false, false, u19, u23, u28, rfl, rfl, h0, fun h => (by cases h)⟩
        · intro i9 listed act9 V hi9 hr hJ
          obtain ⟨b0, b1, b2, b3, b4, b5, b6, b7, b8, b9, b10, b11, x19, x23, x28, rfl, rfl, hF, hA⟩ := hJ
          have hi2 : i9 < 12 := hi9
          have hi3 : i9 = 0 ∨ i9 = 1 ∨ i9 = 2 ∨ i9 = 3 ∨ i9 = 4 ∨ i9 = 5 ∨ i9 = 6 ∨ i9 = 7 ∨ i9 = 8 ∨ i9 = 9 ∨ i9 = 10 ∨ i9 = 11 := by omega
          rcases hi3 with rfl | rfl | rfl | rfl | rfl | rfl | rfl | rfl | rfl | rfl | rfl | rfl
          · obtain rfl : b0 = false := ready_self hr
            obtain rfl : b4 = false := by cases b4; rfl; exact absurd (hF.c1 rfl) (by decide)
            obtain rfl : b9 = false := by cases b9; rfl; exact absurd (hF.c2 rfl) (by decide)
            refine st_build rfl (by kernel_rfl) (some 19) rfl 35 0 #[] rfl #[] (by kernel_rfl) (.slice (some ⟨V.heap.size, 0, none⟩) 0 0) _ (nil_it V) ?_
            exact ⟨true, b1, b2, b3, false, b5, b6, b7, b8, false, b10, b11, _, x23, x28, rfl, rfl, hF.nil, hA⟩
          · obtain rfl : b1 = false := ready_self hr
            refine st_val rfl (by kernel_rfl) (some 20) rfl (.slice (some ⟨b, off, none⟩) n c) V (by kernel_rfl) ?_
            exact ⟨b0, true, b2, b3, b4, b5, b6, b7, b8, b9, b10, b11, x19, x23, x28, rfl, rfl, hF, hA⟩
          · obtain rfl : b2 = false := ready_self hr
            refine st_val rfl (by kernel_rfl) (some 21) rfl (.int .i64 i) V (by kernel_rfl) ?_
            exact ⟨b0, b1, true, b3, b4, b5, b6, b7, b8, b9, b10, b11, x19, x23, x28, rfl, rfl, hF, hA⟩
          · obtain rfl : b3 = false := ready_self hr
            obtain rfl : b1 = true := ready_dep hr 1 (by kernel_rfl)
            obtain rfl : b2 = true := ready_dep hr 2 (by kernel_rfl)
            refine st_slice_to rfl (by kernel_rfl) (some 22) rfl 35 (.tmp 20) (.tmp 21) rfl (.slice (some ⟨b, off, none⟩) n c) (.int .i64 (i : Int)) (.slice (some ⟨b, off, none⟩) i c) (by kernel_rfl) (by kernel_rfl) (cut_it_to (some ⟨b, off, none⟩) n c i V (by omega)) ?_
            exact ⟨b0, true, true, true, b4, b5, b6, b7, b8, b9, b10, b11, x19, x23, x28, rfl, rfl, hF, hA⟩
          · obtain rfl : b4 = false := ready_self hr
            obtain rfl : b0 = true := ready_dep hr 0 (by kernel_rfl)
            obtain rfl : b3 = true := ready_dep hr 3 (by kernel_rfl)
            obtain rfl : b9 = false := by cases b9; rfl; exact absurd (hF.c2 rfl) (by decide)
            have hO := hF.r0 rfl rfl
            obtain ⟨v, V2, hap, hO2, hb2, hg2, hat2⟩ := hO.app hF.bel.size (some ⟨b, off, none⟩) i c (M.take i) (by rw [← itc_take]; exact (HA3.out.below hF.bel).take _) HTL.out (by simp) (by omega)
            refine st_append rfl (by kernel_rfl) (some 23) rfl 35 rfl (.tmp 19) (.tmp 22) 35 rfl x19 (.slice (some ⟨b, off, none⟩) i c) v V2 (by kernel_rfl) (by kernel_rfl) hap ?_
            exact ⟨true, b1, b2, true, true, b5, b6, b7, b8, false, b10, b11, x19, v, x28, rfl, rfl, hF.one (by rw [List.nil_append] at hO2; exact hO2) hb2 hg2 hat2, hA⟩
          · obtain rfl : b5 = false := ready_self hr
            refine st_val rfl (by kernel_rfl) (some 24) rfl (.slice (some ⟨b, off, none⟩) n c) V (by kernel_rfl) ?_
            exact ⟨b0, b1, b2, b3, b4, true, b6, b7, b8, b9, b10, b11, x19, x23, x28, rfl, rfl, hF, hA⟩
          · obtain rfl : b6 = false := ready_self hr
            refine st_val rfl (by kernel_rfl) (some 25) rfl (.int .i64 i) V (by kernel_rfl) ?_
            exact ⟨b0, b1, b2, b3, b4, b5, true, b7, b8, b9, b10, b11, x19, x23, x28, rfl, rfl, hF, hA⟩
          · obtain rfl : b7 = false := ready_self hr
            obtain rfl : b6 = true := ready_dep hr 6 (by kernel_rfl)
            refine st_val rfl (by kernel_rfl) (some 26) rfl (.int .i64 (i + 1 : Nat)) V (add_one rfl i (by omega) (by kernel_rfl) V) ?_
            exact ⟨b0, b1, b2, b3, b4, b5, true, true, b8, b9, b10, b11, x19, x23, x28, rfl, rfl, hF, hA⟩
          · obtain rfl : b8 = false := ready_self hr
            obtain rfl : b5 = true := ready_dep hr 5 (by kernel_rfl)
            obtain rfl : b7 = true := ready_dep hr 7 (by kernel_rfl)
            refine st_slice_from rfl (by kernel_rfl) (some 27) rfl 35 (.tmp 24) (.tmp 26) rfl (.slice (some ⟨b, off, none⟩) n c) (.int .i64 ((i + 1 : Nat) : Int)) (.slice (fromS 3 (some ⟨b, off, none⟩) c (i + 1)) (n - (i + 1)) (c - (i + 1))) (by kernel_rfl) (by kernel_rfl) (cut_it_from (some ⟨b, off, none⟩) n c (i + 1) V (by omega)) ?_
            exact ⟨b0, b1, b2, b3, b4, true, b6, true, true, b9, b10, b11, x19, x23, x28, rfl, rfl, hF, hA⟩
          · obtain rfl : b9 = false := ready_self hr
            obtain rfl : b4 = true := ready_dep hr 4 (by kernel_rfl)
            obtain rfl : b8 = true := ready_dep hr 8 (by kernel_rfl)
            obtain rfl : b10 = false := by cases b10; rfl; exact absurd (hA rfl) (by decide)
            have hO := hF.r1 rfl rfl
            obtain ⟨v, V2, hap, hO2, hb2, hg2, hat2⟩ := hO.app hF.bel.size (fromS 3 (some ⟨b, off, none⟩) c (i + 1)) (n - (i + 1)) (c - (i + 1)) (M.drop (i + 1)) (by rw [← itc_drop]; exact (HA3.out.below hF.bel).from 3 c (i + 1) (by rw [itc_len, HN.out]; omega)) HDL.out (by rw [HTL.out]; omega) (by omega)
            refine st_append rfl (by kernel_rfl) (some 28) rfl 35 rfl (.tmp 23) (.tmp 27) 35 rfl x23 (.slice (fromS 3 (some ⟨b, off, none⟩) c (i + 1)) (n - (i + 1)) (c - (i + 1))) v V2 (by kernel_rfl) (by kernel_rfl) hap ?_
            exact ⟨b0, b1, b2, b3, true, b5, b6, b7, true, true, false, b11, x19, x23, v, rfl, rfl, hF.two hO2 hb2 hg2 hat2, fun h => (by cases h)⟩
          · obtain rfl : b10 = false := ready_self hr
            obtain rfl : b9 = true := ready_dep hr 9 (by kernel_rfl)
            refine st_val rfl (by kernel_rfl) (some 4) rfl (x28) V (by kernel_rfl) ?_
            exact ⟨b0, b1, b2, b3, b4, b5, b6, b7, b8, true, true, b11, x19, x23, x28, rfl, rfl, hF, fun _ => rfl⟩
          · obtain rfl : b11 = false := ready_self hr
            refine st_val rfl (by kernel_rfl) (some 5) rfl (.bool true) V (by kernel_rfl) ?_
            exact ⟨b0, b1, b2, b3, b4, b5, b6, b7, b8, b9, b10, true, x19, x23, x28, rfl, rfl, hF, hA⟩
        · intro act9 V hJ
          obtain ⟨b0, b1, b2, b3, b4, b5, b6, b7, b8, b9, b10, b11, x19, x23, x28, he, rfl, hF, hA⟩ := hJ
          have he : (#[true, true, true, true, true, true, true, true, true, true, true, true] : Array Bool) = #[b0, b1, b2, b3, b4, b5, b6, b7, b8, b9, b10, b11] := he
          simp only [Array.mk.injEq, List.cons.injEq, and_true] at he
          obtain ⟨rfl, rfl, rfl, rfl, rfl, rfl, rfl, rfl, rfl, rfl, rfl, rfl⟩ := he
          simp only [cond_true]
          have hO := hF.r2 rfl rfl
          have HO := Lib.hid (RowO.of (a := some ⟨b, off, none⟩) true hO (HB2.out.trans (hF.bel.mono HB2.out.size)) HB2.out.size)
          clear hF h0 hO HA3
          go_wp2_with fail
          go_ret2
          rw [HDE.out]
          exact HO.out
      · have HQ : Hid (decide (y.1 = k) = false) := Lib.hid (decide_eq_false he)
        apply wp_region_lit
        refine gw_val (by kernel_rfl) (some 15) rfl (.pointer (some ⟨g8, 0, none⟩)) (by kernel_rfl) ?_
        simp only [Act.put, List.setIfInBounds_toArray, List.set_cons_succ, List.set_cons_zero]
        refine gw_load (by kernel_rfl) (some 16) rfl 3 (.tmp 15) rfl ⟨g8, 0, none⟩ (.int .i64 y.1) (by kernel_rfl) (ld_f0 HBX.out) ?_
        simp only [Act.put, List.setIfInBounds_toArray, List.set_cons_succ, List.set_cons_zero]
        refine gw_val (by kernel_rfl) (some 17) rfl (.int .i64 k) (by kernel_rfl) ?_
        simp only [Act.put, List.setIfInBounds_toArray, List.set_cons_succ, List.set_cons_zero]
        refine gw_val (by kernel_rfl) (some 18) rfl (.bool false) (by rw [← HQ.out]; exact eq_i rfl y.1 k (by kernel_rfl) (by kernel_rfl) _) ?_
        simp only [Act.put, List.setIfInBounds_toArray, List.set_cons_succ, List.set_cons_zero]
        apply wpList_nil
        have HNO2 : Hid (∀ j, j < i + 1 → (ita M j).1 ≠ k) := Lib.hid (fun j hj => by
          by_cases e : j = i
          · rw [e, HYY.out]; exact he
          · exact HNO.out j (by omega))
        clear HBX HQ he HNO HFI
        go_upto_region 6 with fail
        apply wp_region_lit
        refine gw_val (by kernel_rfl) (some 29) rfl (.int .i64 (i + 1 : Nat)) (add_one rfl i (by omega) (by kernel_rfl) _) ?_
        simp only [Act.put, List.setIfInBounds_toArray, List.set_cons_succ, List.set_cons_zero]
        refine gw_val (by kernel_rfl) (some 10) rfl (.int .i64 (i + 1 : Nat)) (by kernel_rfl) ?_
        simp only [Act.put, List.setIfInBounds_toArray, List.set_cons_succ, List.set_cons_zero]
        apply wpList_nil
        go_wp2_with fail
        go_roundg (gk - 1)
        case measure => have := HG.out; omega
        case rel => exact ⟨i + 1, rfl, HG.out.2.2, HNO2.out, HB2.out, HG.out.1⟩
    · have HD : Hid (decide (i < n) = false) := Lib.hid (decide_eq_false hlt)
      have HO := Lib.hid (HE.out wr hB (fun j hj => hno j (by omega)))
      clear hno hB hg HE HF
      go_upto_region 2 with fail
      apply wp_region_lit
      refine gw_val (by kernel_rfl) (some 11) rfl (.bool false) (by rw [← HD.out]; exact lt_nat rfl i n (by kernel_rfl) (by kernel_rfl) _) ?_
      simp only [Act.put, List.setIfInBounds_toArray, List.set_cons_succ, List.set_cons_zero]
      apply wpList_nil
      go_upto_region 7 with fail
      apply wp_region_lit
      refine gw_val (by kernel_rfl) (some 30) rfl (.slice al n c) (by kernel_rfl) ?_
      simp only [Act.put, List.setIfInBounds_toArray, List.set_cons_succ, List.set_cons_zero]
      refine gw_val (by kernel_rfl) (some 4) rfl (.slice al n c) (by kernel_rfl) ?_
      simp only [Act.put, List.setIfInBounds_toArray, List.set_cons_succ, List.set_cons_zero]
      refine gw_val (by kernel_rfl) (some 5) rfl (.bool false) (by kernel_rfl) ?_
      simp only [Act.put, List.setIfInBounds_toArray, List.set_cons_succ, List.set_cons_zero]
      apply wpList_nil
      go_wp2_with fail
      go_ret2
      exact HO.out
theorem same_it {ρ : Operand → Value} {o : Oper} {X Y : Operand} (ho : o.op = .binOp .neq 24 X Y 24) (x : It) (hx : ρ X = .agg (itA x)) (hy : ρ Y = .agg (itA x)) (w : World) : (execOp ρ o).run Try.prog w = .ok (.value (.bool false)) w := by
  have := ne_it ho x x hx hy w
  simpa using this
theorem neq_k {ρ : Operand → Value} {o : Oper} {x y : Operand} (ho : o.op = .binOp .neq 3 x y 3) (k : Int) (hx : ρ x = .int .i64 k) (hy : ρ y = .int .i64 k) (w : World) : (execOp ρ o).run Try.prog w = .ok (.value (.bool false)) w := by
  have := ne_i ho k k hx hy w
  simpa using this
def SamR (n : Nat) (w : World) (gg : Nat) (s13 : Value) (V : World) : Prop := ∃ i : Nat, s13 = .int .i64 i ∧ i ≤ n ∧ Below w.heap.size w V ∧ n - i = gg
set_option maxRecDepth 100000 in
set_option maxHeartbeats 4000000 in
theorem ref_same (a1 a2 : Option Addr) (c1 c2 : Nat) (M : List It) (w : World) (h1 : Cs w a1 (itc M)) (h2 : Cs w a2 (itc M)) (hl : M.length ≤ 100000) :
    Calls Try.prog 22 #[.slice a1 M.length c1, .slice a2 M.length c2] w fun e w' => e = .returned (.bool true) ∧ Below w.heap.size w w' := by
  obtain ⟨n, hn⟩ : ∃ n, M.length = n := ⟨_, rfl⟩
  have HC := Lib.hid (And.intro h1 (And.intro h2 hn))
  rw [hn] at hl ⊢
  have HS : Hid (SamR n w n (.int .i64 0) w) := Lib.hid ⟨0, rfl, by omega, Below.refl _ _, by omega⟩
  clear h1 h2 hn
  go_enter Try.func22, Try.ntmps22
  go_upto_region 1 with fail
  apply wp_region_lit
  refine gw_val (by kernel_rfl) (some 6) rfl (.slice a1 n c1) (by kernel_rfl) ?_
  simp only [Act.put, List.setIfInBounds_toArray, List.set_cons_succ, List.set_cons_zero]
  refine gw_val (by kernel_rfl) (some 7) rfl (.int .i64 n) (by kernel_rfl) ?_
  simp only [Act.put, List.setIfInBounds_toArray, List.set_cons_succ, List.set_cons_zero]
  refine gw_val (by kernel_rfl) (some 8) rfl (.slice a2 n c2) (by kernel_rfl) ?_
  simp only [Act.put, List.setIfInBounds_toArray, List.set_cons_succ, List.set_cons_zero]
  refine gw_val (by kernel_rfl) (some 9) rfl (.int .i64 n) (by kernel_rfl) ?_
  simp only [Act.put, List.setIfInBounds_toArray, List.set_cons_succ, List.set_cons_zero]
  refine gw_val (by kernel_rfl) (some 10) rfl (.bool false) (neq_k rfl n (by kernel_rfl) (by kernel_rfl) _) ?_
  simp only [Act.put, List.setIfInBounds_toArray, List.set_cons_succ, List.set_cons_zero]
  apply wpList_nil
  go_upto_region 3 with fail
  apply wp_region_lit
  refine gw_val (by kernel_rfl) (some 11) rfl (.slice a1 n c1) (by kernel_rfl) ?_
  simp only [Act.put, List.setIfInBounds_toArray, List.set_cons_succ, List.set_cons_zero]
  refine gw_val (by kernel_rfl) (some 12) rfl (.int .i64 n) (by kernel_rfl) ?_
  simp only [Act.put, List.setIfInBounds_toArray, List.set_cons_succ, List.set_cons_zero]
  refine gw_val (by kernel_rfl) (some 13) rfl (.int .i64 0) (by kernel_rfl) ?_
  simp only [Act.put, List.setIfInBounds_toArray, List.set_cons_succ, List.set_cons_zero]
  apply wpList_nil
  go_wp2_with fail
  go_loopg [13] n (fun gg s13 wx => SamR n w gg s13 wx)
  case atStart => exact HS.out
  case round =>
    obtain ⟨i, rfl, hi, hB, hg⟩ := hrel
    by_cases hlt : i < n
    · have HD : Hid (decide (i < n) = true) := Lib.hid (decide_eq_true hlt)
      obtain ⟨b1, o1, e1, -, r1⟩ := it_range (HC.out.1.below hB) (k := i) (by rw [HC.out.2.2]; exact hlt)
      obtain ⟨b2, o2, e2, -, r2⟩ := it_range (HC.out.2.1.below hB) (k := i) (by rw [HC.out.2.2]; exact hlt)
      subst e1 e2
      have HL1 := Lib.hid (fun U (hU : Below w.heap.size w U) => (by
        obtain ⟨b3, o3, e3, -, r3⟩ := it_range (HC.out.1.below hU) (k := i) (by rw [HC.out.2.2]; exact hlt)
        simp only [Option.some.injEq, Addr.mk.injEq, and_true] at e3
        obtain ⟨rfl, rfl⟩ := e3
        exact load_it r3 : (Instr.loadAt 24 (.pointer (some ⟨b1, o1 + i * 3, none⟩))).run Try.prog U = .ok (.agg (itA (ita M i))) U))
      have HL2 := Lib.hid (fun U (hU : Below w.heap.size w U) => (by
        obtain ⟨b3, o3, e3, -, r3⟩ := it_range (HC.out.2.1.below hU) (k := i) (by rw [HC.out.2.2]; exact hlt)
        simp only [Option.some.injEq, Addr.mk.injEq, and_true] at e3
        obtain ⟨rfl, rfl⟩ := e3
        exact load_it r3 : (Instr.loadAt 24 (.pointer (some ⟨b2, o2 + i * 3, none⟩))).run Try.prog U = .ok (.agg (itA (ita M i))) U))
      have HG : Hid (n - (i + 1) = gk - 1 ∧ 0 < gk ∧ i + 1 ≤ n) := Lib.hid ⟨by omega, by omega, by omega⟩
      generalize ita M i = y at *
      clear hg r1 r2
      go_upto_region 4 with fail
      apply wp_region_lit
      refine gw_val (by kernel_rfl) (some 14) rfl (.bool true) (by rw [← HD.out]; exact lt_nat rfl i n (by kernel_rfl) (by kernel_rfl) _) ?_
      simp only [Act.put, List.setIfInBounds_toArray, List.set_cons_succ, List.set_cons_zero]
      apply wpList_nil
      go_upto_region 5 with fail
      apply wp_region_lit
      refine gw_val (by kernel_rfl) (some 15) rfl (.int .i64 i) (by kernel_rfl) ?_
      simp only [Act.put, List.setIfInBounds_toArray, List.set_cons_succ, List.set_cons_zero]
      refine gw_val (by kernel_rfl) (some 5) rfl (.int .i64 i) (by kernel_rfl) ?_
      simp only [Act.put, List.setIfInBounds_toArray, List.set_cons_succ, List.set_cons_zero]
      apply wpList_nil
      go_upto_region 6 with fail
      refine wp_region_class (C := fun U => Below w.heap.size w U) (by kernel_rfl) (by kernel_rfl) (hB.drew) ?_
      refine gq_val (by kernel_rfl) (some 16) rfl (.slice (some ⟨b1, o1, none⟩) n c1) (fun U hU => by kernel_rfl) ?_
      simp only [Act.put, List.setIfInBounds_toArray, List.set_cons_succ, List.set_cons_zero]
      refine gq_val (by kernel_rfl) (some 17) rfl (.int .i64 i) (fun U hU => by kernel_rfl) ?_
      simp only [Act.put, List.setIfInBounds_toArray, List.set_cons_succ, List.set_cons_zero]
      refine gq_val (by kernel_rfl) (some 18) rfl (.pointer (some ⟨b1, o1 + i * 3, none⟩)) (fun U hU => idx_it b1 o1 n c1 i hlt _ _ _ rfl (by kernel_rfl) (by kernel_rfl)) ?_
      simp only [Act.put, List.setIfInBounds_toArray, List.set_cons_succ, List.set_cons_zero]
      refine gq_load (by kernel_rfl) (some 19) rfl 24 (.tmp 18) rfl ⟨b1, o1 + i * 3, none⟩ (.agg (itA y)) (by kernel_rfl) (fun U hU => HL1.out U hU) ?_
      simp only [Act.put, List.setIfInBounds_toArray, List.set_cons_succ, List.set_cons_zero]
      refine gq_val (by kernel_rfl) (some 20) rfl (.slice (some ⟨b2, o2, none⟩) n c2) (fun U hU => by kernel_rfl) ?_
      simp only [Act.put, List.setIfInBounds_toArray, List.set_cons_succ, List.set_cons_zero]
      refine gq_val (by kernel_rfl) (some 21) rfl (.int .i64 i) (fun U hU => by kernel_rfl) ?_
      simp only [Act.put, List.setIfInBounds_toArray, List.set_cons_succ, List.set_cons_zero]
      refine gq_val (by kernel_rfl) (some 22) rfl (.pointer (some ⟨b2, o2 + i * 3, none⟩)) (fun U hU => idx_it b2 o2 n c2 i hlt _ _ _ rfl (by kernel_rfl) (by kernel_rfl)) ?_
      simp only [Act.put, List.setIfInBounds_toArray, List.set_cons_succ, List.set_cons_zero]
      refine gq_load (by kernel_rfl) (some 23) rfl 24 (.tmp 22) rfl ⟨b2, o2 + i * 3, none⟩ (.agg (itA y)) (by kernel_rfl) (fun U hU => HL2.out U hU) ?_
      simp only [Act.put, List.setIfInBounds_toArray, List.set_cons_succ, List.set_cons_zero]
      refine gq_val (by kernel_rfl) (some 24) rfl (.bool false) (fun U hU => same_it rfl y (by kernel_rfl) (by kernel_rfl) U) ?_
      simp only [Act.put, List.setIfInBounds_toArray, List.set_cons_succ, List.set_cons_zero]
      apply wpQuiet_nil
      intro V hV
      have HV := Lib.hid hV
      clear hV hB HL1 HL2
      go_upto_region 8 with fail
      apply wp_region_lit
      refine gw_val (by kernel_rfl) (some 25) rfl (.int .i64 (i + 1 : Nat)) (add_one rfl i (by omega) (by kernel_rfl) _) ?_
      simp only [Act.put, List.setIfInBounds_toArray, List.set_cons_succ, List.set_cons_zero]
      refine gw_val (by kernel_rfl) (some 13) rfl (.int .i64 (i + 1 : Nat)) (by kernel_rfl) ?_
      simp only [Act.put, List.setIfInBounds_toArray, List.set_cons_succ, List.set_cons_zero]
      apply wpList_nil
      go_wp2_with fail
      go_roundg (gk - 1)
      case measure => have := HG.out; omega
      case rel => exact ⟨i + 1, rfl, HG.out.2.2, HV.out, HG.out.1⟩
    · have HD : Hid (decide (i < n) = false) := Lib.hid (decide_eq_false hlt)
      have HB := Lib.hid hB
      clear hB hg
      go_upto_region 4 with fail
      apply wp_region_lit
      refine gw_val (by kernel_rfl) (some 14) rfl (.bool false) (by rw [← HD.out]; exact lt_nat rfl i n (by kernel_rfl) (by kernel_rfl) _) ?_
      simp only [Act.put, List.setIfInBounds_toArray, List.set_cons_succ, List.set_cons_zero]
      apply wpList_nil
      go_upto_region 9 with fail
      apply wp_region_lit
      refine gw_val (by kernel_rfl) (some 4) rfl (.bool true) (by kernel_rfl) ?_
      simp only [Act.put, List.setIfInBounds_toArray, List.set_cons_succ, List.set_cons_zero]
      apply wpList_nil
      go_wp2_with fail
      go_ret
      exact ⟨rfl, HB.out⟩
/-- The item that the statements make of numbers. -/
def itmL (L : List Int) (N : Nat) : It := (pl (L.getD N 0) 9 - 2, pl (L.getD (N + 1) 0) 4, pl (L.getD (N + 2) 0) 5 - 1)
theorem sub_i {ρ : Operand → Value} {o : Oper} {x y : Operand} (ho : o.op = .binOp .sub 3 x y 3) (a b : Int) (ha : -1000 ≤ a ∧ a ≤ 1000) (hb : -1000 ≤ b ∧ b ≤ 1000) (hx : ρ x = .int .i64 a) (hy : ρ y = .int .i64 b) (w : World) : (execOp ρ o).run Try.prog w = .ok (.value (.int .i64 (a - b))) w := by
  have e : IntKind.i64.wrap (a - b) = a - b := by rw [IntKind.wrap_i64]; omega
  unfold execOp
  simp only [ho, hx, hy]
  simp [go_sem, e]
theorem conv_u64 {ρ : Operand → Value} {o : Oper} {x : Operand} (ho : o.op = .convert 3 22 x) (n : Int) (h0 : 0 ≤ n) (h1 : n ≤ 1000) (hx : ρ x = .int .i64 n) (w : World) : (execOp ρ o).run Try.prog w = .ok (.value (.int .u64 n)) w := by
  have e : IntKind.u64.wrap n = n := by
    simp [IntKind.wrap, IntKind.bits, IntKind.signed]
    omega
  unfold execOp
  simp only [ho, hx]
  simp [go_sem, e]
theorem But.set {gs g0 : Nat} {w V : World} (h : But gs w V) (hg : w.heap.size ≤ g0) (hs : gs < w.heap.size) (cs : Array Value) : But gs w (V.setRow g0 cs) :=
  ⟨belowRow h.1 (by omega) cs, fun k hk hn => (setRow_other V g0 k cs (by omega)).trans (h.2 k hk hn)⟩
set_option maxRecDepth 100000 in
set_option maxHeartbeats 4000000 in
theorem item_any {w0 : World} {a : Option Addr} {L : List Int} (hL : Cs w0 a (icells L)) (hl : L.length ≤ 100000) (c gs N : Nat) (w : World) (hX : Bx w gs #[.slice a L.length c, .int .i64 N] 42) (hb : Below w0.heap.size w0 w) (hg : w0.heap.size ≤ gs) (hN : N ≤ 90000) :
    Calls Try.prog 10 #[.pointer (some ⟨gs, 0, none⟩)] w fun e w' => e = .returned (.agg (itA (itmL L N))) ∧ But gs w w' ∧ Bx w' gs #[.slice a L.length c, .int .i64 (N + 3 : Nat)] 42 := by
  have HNX := Lib.hid (fun (V : World) (hV : But gs w V) (N : Nat) (k : Int) (hX : Bx V gs #[.slice a L.length c, .int .i64 N] 42) (hN : N ≤ 100000) (h0 : 0 < k) (h1 : k ≤ 1000000) => mk_next gs L a c N k V hX (hL.below (hb.trans (hV.1.mono hg))) hl hN h0 h1)
  have hgl := hX.lt
  have hbz := box_z w
  obtain ⟨g0, hg0⟩ : ∃ g0, w.heap.size = g0 := ⟨_, rfl⟩
  have hW : But gs w (w.alloc (.cells (itA zIt) 24)) := But.of_below hbz.1.1 (by omega)
  have hX1 := hX.below hX.lt hbz.1.1
  have hZ := hbz.2
  rw [hg0] at hZ
  unfold itmL
  have p0 := pl_range (L.getD N 0) 9 (by omega)
  have p1 := pl_range (L.getD (N + 1) 0) 4 (by omega)
  have p2 := pl_range (L.getD (N + 2) 0) 5 (by omega)
  obtain ⟨q0, hq0⟩ : ∃ q, pl (L.getD N 0) 9 = q := ⟨_, rfl⟩
  obtain ⟨q1, hq1⟩ : ∃ q, pl (L.getD (N + 1) 0) 4 = q := ⟨_, rfl⟩
  obtain ⟨q2, hq2⟩ : ∃ q, pl (L.getD (N + 2) 0) 5 = q := ⟨_, rfl⟩
  rw [hq0] at p0 ⊢
  rw [hq1] at p1 ⊢
  rw [hq2] at p2 ⊢
  have HQ : Hid (pl (L.getD N 0) 9 = q0 ∧ pl (L.getD (N + 1) 0) 4 = q1 ∧ pl (L.getD (N + 1 + 1) 0) 5 = q2) := Lib.hid ⟨hq0, hq1, hq2⟩
  have HG0 := Lib.hid hg0
  obtain ⟨n, hn⟩ : ∃ n, L.length = n := ⟨_, rfl⟩
  rw [hn] at HNX hX1 hl ⊢
  clear hX hb hL hbz hq0 hq1 hq2 hg hn
  go_enter Try.func10, Try.ntmps10
  go_upto_region 1 with fail
  change Code.wp _ _ _ _ (w.alloc (.cells (itA zIt) 24))
  generalize w.alloc (.cells (itA zIt) 24) = W at *
  clear hg0
  apply wp_region_lit
  refine gw_val (by kernel_rfl) (some 3) rfl (.pointer (some ⟨gs, 0, none⟩)) (by kernel_rfl) ?_
  simp only [Act.put, List.setIfInBounds_toArray, List.set_cons_succ, List.set_cons_zero]
  have C0 := HNX.out W hW (N) 9 hX1 (by omega) (by omega) (by omega)
  rw [HQ.out.1] at C0
  refine gw_call (by kernel_rfl) (some 4) rfl 16 #[.pointer (some ⟨gs, 0, none⟩), .int .i64 9] (.int .i64 q0) (fun w' => But gs W w' ∧ Bx w' gs #[.slice a n c, .int .i64 (N + 1 : Nat)] 42) (by kernel_rfl) C0 (fun A1 hq => ?_)
  simp only [Act.put, List.setIfInBounds_toArray, List.set_cons_succ, List.set_cons_zero]
  obtain ⟨hb0, hXA1⟩ := hq
  have hBA1 := hW.trans hb0
  have hZA1 := hZ.but hb0 (by have := HG0.out; omega)
  clear hb0 C0 hX1 hW hZ
  refine gw_val (by kernel_rfl) (some 5) rfl (.int .i64 (q0 - 2)) (sub_i rfl q0 2 (by omega) (by omega) (by kernel_rfl) (by kernel_rfl) _) ?_
  simp only [Act.put, List.setIfInBounds_toArray, List.set_cons_succ, List.set_cons_zero]
  refine gw_val (by kernel_rfl) (some 6) rfl (.pointer (some ⟨gs, 0, none⟩)) (by kernel_rfl) ?_
  simp only [Act.put, List.setIfInBounds_toArray, List.set_cons_succ, List.set_cons_zero]
  have C1 := HNX.out A1 hBA1 (N + 1) 4 hXA1 (by omega) (by omega) (by omega)
  rw [HQ.out.2.1] at C1
  refine gw_call (by kernel_rfl) (some 7) rfl 16 #[.pointer (some ⟨gs, 0, none⟩), .int .i64 4] (.int .i64 q1) (fun w' => But gs A1 w' ∧ Bx w' gs #[.slice a n c, .int .i64 (N + 1 + 1 : Nat)] 42) (by kernel_rfl) C1 (fun A2 hq => ?_)
  simp only [Act.put, List.setIfInBounds_toArray, List.set_cons_succ, List.set_cons_zero]
  obtain ⟨hb1, hXA2⟩ := hq
  have hBA2 := hBA1.trans hb1
  have hZA2 := hZA1.but hb1 (by have := HG0.out; omega)
  clear hb1 C1 hXA1 hBA1 hZA1
  refine gw_val (by kernel_rfl) (some 8) rfl (.int .u64 q1) (conv_u64 rfl q1 (by omega) (by omega) (by kernel_rfl) _) ?_
  simp only [Act.put, List.setIfInBounds_toArray, List.set_cons_succ, List.set_cons_zero]
  refine gw_val (by kernel_rfl) (some 9) rfl (.pointer (some ⟨gs, 0, none⟩)) (by kernel_rfl) ?_
  simp only [Act.put, List.setIfInBounds_toArray, List.set_cons_succ, List.set_cons_zero]
  have C2 := HNX.out A2 hBA2 (N + 1 + 1) 5 hXA2 (by omega) (by omega) (by omega)
  rw [HQ.out.2.2] at C2
  refine gw_call (by kernel_rfl) (some 10) rfl 16 #[.pointer (some ⟨gs, 0, none⟩), .int .i64 5] (.int .i64 q2) (fun w' => But gs A2 w' ∧ Bx w' gs #[.slice a n c, .int .i64 (N + 1 + 1 + 1 : Nat)] 42) (by kernel_rfl) C2 (fun A3 hq => ?_)
  simp only [Act.put, List.setIfInBounds_toArray, List.set_cons_succ, List.set_cons_zero]
  obtain ⟨hb2, hXA3⟩ := hq
  have hBA3 := hBA2.trans hb2
  have hZA3 := hZA2.but hb2 (by have := HG0.out; omega)
  clear hb2 C2 hXA2 hBA2 hZA2
  refine gw_val (by kernel_rfl) (some 11) rfl (.int .i64 (q2 - 1)) (sub_i rfl q2 1 (by omega) (by omega) (by kernel_rfl) (by kernel_rfl) _) ?_
  simp only [Act.put, List.setIfInBounds_toArray, List.set_cons_succ, List.set_cons_zero]
  refine gw_val (by kernel_rfl) (some 12) rfl (.agg (itA ((q0 - 2, q1, q2 - 1) : It))) (by kernel_rfl) ?_
  simp only [Act.put, List.setIfInBounds_toArray, List.set_cons_succ, List.set_cons_zero]
  obtain ⟨hs, hX2⟩ := store_box (y := ((q0 - 2, q1, q2 - 1) : It)) hZA3
  have HE := Lib.hid (hBA3.set (g0 := g0) (by have := HG0.out; omega) hgl (itA ((q0 - 2, q1, q2 - 1) : It)))
  have HN2 : Hid (Bx (A3.setRow g0 (itA ((q0 - 2, q1, q2 - 1) : It))) gs #[.slice a n c, .int .i64 (N + 1 + 1 + 1 : Nat)] 42) := Lib.hid ((setRow_other A3 g0 gs _ (by have := HG0.out; omega)).trans hXA3)
  have HX2 := Lib.hid hX2
  clear hX2 hZA3 hBA3 hXA3 HNX
  refine gw_store (by kernel_rfl) rfl 24 (.tmp 2) (.tmp 12) rfl (.pointer (some ⟨g0, 0, none⟩)) (.agg (itA ((q0 - 2, q1, q2 - 1) : It))) (by kernel_rfl) (by kernel_rfl) _ hs ?_
  apply wpList_nil
  generalize A3.setRow g0 (itA ((q0 - 2, q1, q2 - 1) : It)) = V4 at *
  clear hs
  go_wp2_with fail
  exact bodyPost_ret (results_i1 (p := 2) rfl (by kernel_rfl) (load_box HX2.out)) rfl ⟨rfl, HE.out, HN2.out⟩
end Go.Proofs.Ytepdibnbnhkpnaa
