/-
  The walk of TxLimits.
-/
import Derived.Test.YtaaeepanelmgnaaLI
namespace Go.Proofs.Ytaaeepanelmgnaa
open Go.RowKit
set_option linter.unusedSimpArgs false
set_option linter.unusedVariables false

section
variable {ρ : Operand → Value} {o : Oper} {x y : Operand}
theorem eql_b0 (ho : o.op = .binOp .eql 4 x y 4) (a : Bool) (hx : ρ x = .bool a) (hy : ρ y = .bool a) (w : World) : (execOp ρ o).run Try.prog w = .ok (.value (.bool true)) w := by
  unfold execOp
  simp only [ho, hx, hy]
  cases a <;> go_simp
theorem lss_8 (ho : o.op = .binOp .lss 5 x y 5) (a b : Int) {t : Bool} (ht : decide (a < b) = t) (hx : ρ x = .int .u8 a) (hy : ρ y = .int .u8 b) (w : World) : (execOp ρ o).run Try.prog w = .ok (.value (.bool t)) w := by
  unfold execOp
  simp only [ho, hx, hy]
  go_simp
end
/-- The memory while the transaction is made. -/
structure Lm (w : World) (g B : Nat) (x : Txd) (a : Option Addr) (c : Nat) (V : World) : Prop where
  bel : Below w.heap.size w V
  bx : Bx V g (txA x a c) 29
  rt : RowT V B (.slice a x.tr.length c) x.tr
  sz : B ≤ V.heap.size
theorem Lm.grow {w V V2 : World} {g B k : Nat} {a a2 : Option Addr} {c c2 : Nat} (h : Lm w g B (limX 0 k) a c V) (hg : w.heap.size ≤ g) (hB : g < B) (hb : Below B V V2) (hr : RowT V2 B (.slice a2 (limX 0 (k + 1)).tr.length c2) (limX 0 (k + 1)).tr) :
    ∃ V3, (Instr.storeAt 27 (.pointer (some ⟨g, 5, none⟩)) (.slice a2 (limX 0 (k + 1)).tr.length c2)).run Try.prog V2 = .ok () V3 ∧ Lm w g B (limX 0 (k + 1)) a2 c2 V3 := by
  obtain ⟨V3, hst, hX, -, hbt⟩ := st_cell (i := 5) (ty := 27) (v := .slice a2 (limX 0 (k + 1)).tr.length c2) (cs' := txA (limX 0 (k + 1)) a2 c2) (w0 := V2) (B := g) (h.bx.below hB hb) (Below.refl _ _) (Nat.le_refl _) (by show 5 < 6; decide) rfl (by kernel_rfl) rfl
  exact ⟨V3, hst, (h.bel.trans (hb.mono (by omega))).trans (hbt.1.mono hg), hX, hr.but hbt hB, Nat.le_trans h.sz (Nat.le_trans hb.size hbt.1.size)⟩
theorem Lm.word {w V : World} {g B j k : Nat} {a : Option Addr} {c : Nat} (h : Lm w g B (limX j k) a c V) (hg : w.heap.size ≤ g) (hB : g < B) :
    ∃ V3, (Instr.storeAt 9 (.pointer (some ⟨g, 4, none⟩)) (.string (reps (j + 1)))).run Try.prog V = .ok () V3 ∧ Lm w g B (limX (j + 1) k) a c V3 := by
  obtain ⟨V3, hst, hX, -, hbt⟩ := st_cell (i := 4) (ty := 9) (v := .string (reps (j + 1))) (cs' := txA (limX (j + 1) k) a c) (w0 := V) (B := g) h.bx (Below.refl _ _) (Nat.le_refl _) (by show 4 < 6; decide) rfl (by kernel_rfl) rfl
  exact ⟨V3, hst, h.bel.trans (hbt.1.mono hg), hX, h.rt.but hbt hB, Nat.le_trans h.sz hbt.1.size⟩
set_option maxRecDepth 100000 in
set_option maxHeartbeats 8000000 in
theorem limits_core (n s m : Nat) (w : World) (hn : n ≤ 255) (hs : s ≤ 255) (hm : m ≤ 255) :
    Calls Try.prog 8 #[.int .u8 n, .int .u8 s, .int .u8 m] w fun e w' => e = .returned (.bool true) ∧ Below w.heap.size w w' := by
  have HK := Lib.hid (fun (V : World) (h : Below w.heap.size w V) => (known_true V).mono fun e w' (q : e = .returned (.bool true) ∧ Below V.heap.size V w') => (⟨q.1, h.trans (q.2.mono h.size)⟩ : e = .returned (.bool true) ∧ Below w.heap.size w w'))
  obtain ⟨V2, hst, hb2, hbx⟩ := new_txv w (limX 0 0) none 0
  go_enter Try.func8, Try.ntmps8
  go_upto_region 1 with fail
  apply wp_region_lit
  refine gw_val (by kernel_rfl) (some 19) rfl (.agg (txA (limX 0 0) none 0)) (by kernel_rfl) ?_
  simp only [Act.put, List.setIfInBounds_toArray, List.set_cons_succ, List.set_cons_zero]
  refine run_to rfl (some 7) rfl (.pointer (some ⟨w.heap.size, 0, none⟩)) (w.alloc (.cells (txA zX none 0) 29)) (by kernel_rfl) ?_
  simp only [Act.put, List.setIfInBounds_toArray, List.set_cons_succ, List.set_cons_zero]
  refine gw_store (by kernel_rfl) rfl 29 (.tmp 7) (.tmp 19) rfl (.pointer (some ⟨w.heap.size, 0, none⟩)) (.agg (txA (limX 0 0) none 0)) (by kernel_rfl) (by kernel_rfl) (V2) (hst) ?_
  apply wpList_nil
  obtain ⟨g, hg⟩ : ∃ g, w.heap.size = g := ⟨_, rfl⟩
  obtain ⟨B, hB⟩ : ∃ B, V2.heap.size = B := ⟨_, rfl⟩
  have hbl := hbx.lt
  have HL0 : Hid (Lm w g B (limX 0 0) none 0 V2) := Lib.hid ⟨hb2, by rw [← hg]; exact hbx, RowT.nil _ _, Nat.le_of_eq hB.symm⟩
  have HGB : Hid (w.heap.size ≤ g ∧ g < B) := Lib.hid ⟨by omega, by omega⟩
  rw [hg]
  clear hst hb2 hbx hbl hg hB
  go_upto_region 2 with fail
  apply wp_region_lit
  refine gw_val (by kernel_rfl) (some 8) rfl (.int .i64 0) (by kernel_rfl) ?_
  simp only [Act.put, List.setIfInBounds_toArray, List.set_cons_succ, List.set_cons_zero]
  apply wpList_nil
  go_wp2_with fail
  go_loopg [8] (15 + n % 3) (fun gg s8 wx => ∃ (i : Nat) (a : Option Addr) (c : Nat), s8 = .int .i64 i ∧ i ≤ 15 + n % 3 ∧ Hid (Lm w g B (limX 0 i) a c wx) ∧ 15 + n % 3 - i = gg)
  case atStart => exact ⟨0, none, 0, rfl, by omega, HL0, by omega⟩
  case round =>
    obtain ⟨i, a, c, rfl, hi, HS, hg⟩ := hrel
    clear HL0
    by_cases hlt : i < 15 + n % 3
    · skip
      have HG : Hid (15 + n % 3 - (i + 1) = gk - 1 ∧ 0 < gk ∧ i + 1 ≤ 15 + n % 3) := Lib.hid ⟨by omega, by omega, by omega⟩
      obtain ⟨a7, c7, Y6, hap, hr6, hb6⟩ := grow_tf HS.out.rt HS.out.sz (bobS, two63) (by show (List.replicate i (bobS, two63)).length ≤ 100000; rw [List.length_replicate]; omega)
      rw [show (limX 0 i).tr ++ [(bobS, two63)] = (limX 0 (i + 1)).tr from lim_more i] at hap hr6
      obtain ⟨Y7, hst7, hS7⟩ := HS.out.grow HGB.out.1 HGB.out.2 hb6 hr6
      have hbd := build_tf (bobS, two63) wr
      have HS8 := Lib.hid hS7
      clear hr6 hb6 hS7 hg
      go_upto_region 3 with fail
      apply wp_region_lit
      refine gw_val (by kernel_rfl) (some 20) rfl (.int .i64 i) (by kernel_rfl) ?_
      simp only [Act.put, List.setIfInBounds_toArray, List.set_cons_succ, List.set_cons_zero]
      refine gw_val (by kernel_rfl) (some 21) rfl (.int .u8 n) (by kernel_rfl) ?_
      simp only [Act.put, List.setIfInBounds_toArray, List.set_cons_succ, List.set_cons_zero]
      refine gw_val (by kernel_rfl) (some 22) rfl (.int .u8 (n % 3 : Nat)) (rem_u8 rfl n 3 (by decide) (by kernel_rfl) (by kernel_rfl) _) ?_
      simp only [Act.put, List.setIfInBounds_toArray, List.set_cons_succ, List.set_cons_zero]
      refine gw_val (by kernel_rfl) (some 23) rfl (.int .i64 (n % 3 : Nat)) (conv_u8 rfl (n % 3 : Nat) (by omega) (by omega) (by kernel_rfl) _) ?_
      simp only [Act.put, List.setIfInBounds_toArray, List.set_cons_succ, List.set_cons_zero]
      refine gw_val (by kernel_rfl) (some 24) rfl (.int .i64 (15 + n % 3 : Nat)) (add_nat rfl 15 (n % 3) (by omega) (by kernel_rfl) (by kernel_rfl) _) ?_
      simp only [Act.put, List.setIfInBounds_toArray, List.set_cons_succ, List.set_cons_zero]
      refine gw_val (by kernel_rfl) (some 25) rfl (.bool true) (lss_n rfl (i) ((15 + n % 3 : Nat)) (decide_eq_true (by omega)) (by kernel_rfl) (by kernel_rfl) _) ?_
      simp only [Act.put, List.setIfInBounds_toArray, List.set_cons_succ, List.set_cons_zero]
      apply wpList_nil
      go_upto_region 5 with fail
      apply wp_region_lit
      refine gw_val (by kernel_rfl) (some 28) rfl (.pointer (some ⟨g, 5, none⟩)) (by kernel_rfl) ?_
      simp only [Act.put, List.setIfInBounds_toArray, List.set_cons_succ, List.set_cons_zero]
      refine gw_load (by kernel_rfl) (some 29) rfl 27 (.tmp 28) rfl ⟨g, 5, none⟩ (.slice a (limX 0 i).tr.length c) (by kernel_rfl) (HS.out.bx.load (i := 5) rfl (by kernel_rfl)) ?_
      simp only [Act.put, List.setIfInBounds_toArray, List.set_cons_succ, List.set_cons_zero]
      refine gw_val (by kernel_rfl) (some 30) rfl (.agg (tfA (bobS, two63))) (by kernel_rfl) ?_
      simp only [Act.put, List.setIfInBounds_toArray, List.set_cons_succ, List.set_cons_zero]
      refine gw_build (by kernel_rfl) (some 31) rfl 27 1 #[(0, .tmp 30)] rfl #[(0, .agg (tfA (bobS, two63)))] (by kernel_rfl) (.slice (some ⟨wr.heap.size, 0, none⟩) 1 1) _ hbd ?_
      simp only [Act.put, List.setIfInBounds_toArray, List.set_cons_succ, List.set_cons_zero]
      refine append_step rfl (some 32) rfl 27 rfl (.tmp 29) (.tmp 31) 27 rfl (.slice a (limX 0 i).tr.length c) (.slice (some ⟨wr.heap.size, 0, none⟩) 1 1) (.slice a7 (limX 0 (i + 1)).tr.length c7) Y6 (by kernel_rfl) (by kernel_rfl) hap ?_
      simp only [Act.put, List.setIfInBounds_toArray, List.set_cons_succ, List.set_cons_zero]
      refine gw_val (by kernel_rfl) (some 33) rfl (.pointer (some ⟨g, 5, none⟩)) (by kernel_rfl) ?_
      simp only [Act.put, List.setIfInBounds_toArray, List.set_cons_succ, List.set_cons_zero]
      refine gw_store (by kernel_rfl) rfl 27 (.tmp 33) (.tmp 32) rfl (.pointer (some ⟨g, 5, none⟩)) (.slice a7 (limX 0 (i + 1)).tr.length c7) (by kernel_rfl) (by kernel_rfl) (Y7) (hst7) ?_
      apply wpList_nil
      clear hap hst7 hbd HS
      go_upto_region 4 with fail
      apply wp_region_lit
      refine gw_val (by kernel_rfl) (some 26) rfl (.int .i64 i) (by kernel_rfl) ?_
      simp only [Act.put, List.setIfInBounds_toArray, List.set_cons_succ, List.set_cons_zero]
      refine gw_val (by kernel_rfl) (some 27) rfl (.int .i64 (i + 1 : Nat)) (add_one rfl i (by omega) (by kernel_rfl) _) ?_
      simp only [Act.put, List.setIfInBounds_toArray, List.set_cons_succ, List.set_cons_zero]
      refine gw_val (by kernel_rfl) (some 8) rfl (.int .i64 (i + 1 : Nat)) (by kernel_rfl) ?_
      simp only [Act.put, List.setIfInBounds_toArray, List.set_cons_succ, List.set_cons_zero]
      apply wpList_nil
      go_wp2_with fail
      go_roundg (gk - 1)
      case measure => have := HG.out; omega
      case rel => exact ⟨i + 1, a7, c7, rfl, HG.out.2.2, HS8, HG.out.1⟩
    · skip
      obtain rfl : i = 15 + n % 3 := by omega
      clear hg
      go_upto_region 3 with fail
      apply wp_region_lit
      refine gw_val (by kernel_rfl) (some 20) rfl (.int .i64 (15 + n % 3 : Nat)) (by kernel_rfl) ?_
      simp only [Act.put, List.setIfInBounds_toArray, List.set_cons_succ, List.set_cons_zero]
      refine gw_val (by kernel_rfl) (some 21) rfl (.int .u8 n) (by kernel_rfl) ?_
      simp only [Act.put, List.setIfInBounds_toArray, List.set_cons_succ, List.set_cons_zero]
      refine gw_val (by kernel_rfl) (some 22) rfl (.int .u8 (n % 3 : Nat)) (rem_u8 rfl n 3 (by decide) (by kernel_rfl) (by kernel_rfl) _) ?_
      simp only [Act.put, List.setIfInBounds_toArray, List.set_cons_succ, List.set_cons_zero]
      refine gw_val (by kernel_rfl) (some 23) rfl (.int .i64 (n % 3 : Nat)) (conv_u8 rfl (n % 3 : Nat) (by omega) (by omega) (by kernel_rfl) _) ?_
      simp only [Act.put, List.setIfInBounds_toArray, List.set_cons_succ, List.set_cons_zero]
      refine gw_val (by kernel_rfl) (some 24) rfl (.int .i64 (15 + n % 3 : Nat)) (add_nat rfl 15 (n % 3) (by omega) (by kernel_rfl) (by kernel_rfl) _) ?_
      simp only [Act.put, List.setIfInBounds_toArray, List.set_cons_succ, List.set_cons_zero]
      refine gw_val (by kernel_rfl) (some 25) rfl (.bool false) (lss_n rfl ((15 + n % 3 : Nat)) ((15 + n % 3 : Nat)) (decide_eq_false (by omega)) (by kernel_rfl) (by kernel_rfl) _) ?_
      simp only [Act.put, List.setIfInBounds_toArray, List.set_cons_succ, List.set_cons_zero]
      apply wpList_nil
      obtain ⟨k, hk⟩ : ∃ k, 15 + n % 3 = k := ⟨_, rfl⟩
      rw [hk] at HS ⊢
      have HKN := Lib.hid hk
      clear hk hlt hi
      go_upto_region 6 with fail
      apply wp_region_lit
      refine gw_val (by kernel_rfl) (some 9) rfl (.int .i64 0) (by kernel_rfl) ?_
      simp only [Act.put, List.setIfInBounds_toArray, List.set_cons_succ, List.set_cons_zero]
      apply wpList_nil
      go_wp2_with fail
      go_loopg [9] (63 + m % 3) (fun gg s9 wx => ∃ j : Nat, s9 = .int .i64 j ∧ j ≤ 63 + m % 3 ∧ Hid (Lm w g B (limX j k) a c wx) ∧ 63 + m % 3 - j = gg)
      case atStart => exact ⟨0, rfl, by omega, HS, by omega⟩
      case round =>
        obtain ⟨j, rfl, hj, HS2, hg⟩ := hrel
        clear HS
        by_cases hlt : j < 63 + m % 3
        · skip
          have HG : Hid (63 + m % 3 - (j + 1) = gk - 1 ∧ 0 < gk ∧ j + 1 ≤ 63 + m % 3) := Lib.hid ⟨by omega, by omega, by omega⟩
          obtain ⟨Y7, hst7, hS7⟩ := HS2.out.word HGB.out.1 HGB.out.2
          have HS3 := Lib.hid hS7
          have hsz : (reps j).size + facS.size ≤ 1000000000 := by rw [reps_size, facS_size]; omega
          clear hS7 hg
          go_upto_region 7 with fail
          apply wp_region_lit
          refine gw_val (by kernel_rfl) (some 34) rfl (.int .i64 j) (by kernel_rfl) ?_
          simp only [Act.put, List.setIfInBounds_toArray, List.set_cons_succ, List.set_cons_zero]
          refine gw_val (by kernel_rfl) (some 35) rfl (.int .u8 m) (by kernel_rfl) ?_
          simp only [Act.put, List.setIfInBounds_toArray, List.set_cons_succ, List.set_cons_zero]
          refine gw_val (by kernel_rfl) (some 36) rfl (.int .u8 (m % 3 : Nat)) (rem_u8 rfl m 3 (by decide) (by kernel_rfl) (by kernel_rfl) _) ?_
          simp only [Act.put, List.setIfInBounds_toArray, List.set_cons_succ, List.set_cons_zero]
          refine gw_val (by kernel_rfl) (some 37) rfl (.int .i64 (m % 3 : Nat)) (conv_u8 rfl (m % 3 : Nat) (by omega) (by omega) (by kernel_rfl) _) ?_
          simp only [Act.put, List.setIfInBounds_toArray, List.set_cons_succ, List.set_cons_zero]
          refine gw_val (by kernel_rfl) (some 38) rfl (.int .i64 (63 + m % 3 : Nat)) (add_nat rfl 63 (m % 3) (by omega) (by kernel_rfl) (by kernel_rfl) _) ?_
          simp only [Act.put, List.setIfInBounds_toArray, List.set_cons_succ, List.set_cons_zero]
          refine gw_val (by kernel_rfl) (some 39) rfl (.bool true) (lss_n rfl (j) ((63 + m % 3 : Nat)) (decide_eq_true (by omega)) (by kernel_rfl) (by kernel_rfl) _) ?_
          simp only [Act.put, List.setIfInBounds_toArray, List.set_cons_succ, List.set_cons_zero]
          apply wpList_nil
          go_upto_region 9 with fail
          apply wp_region_lit
          refine gw_val (by kernel_rfl) (some 42) rfl (.pointer (some ⟨g, 4, none⟩)) (by kernel_rfl) ?_
          simp only [Act.put, List.setIfInBounds_toArray, List.set_cons_succ, List.set_cons_zero]
          refine gw_load (by kernel_rfl) (some 43) rfl 9 (.tmp 42) rfl ⟨g, 4, none⟩ (.string (reps j)) (by kernel_rfl) (HS2.out.bx.load (i := 4) rfl (by kernel_rfl)) ?_
          simp only [Act.put, List.setIfInBounds_toArray, List.set_cons_succ, List.set_cons_zero]
          refine gw_val (by kernel_rfl) (some 44) rfl (.string (reps (j + 1))) (add_s rfl (reps j) facS hsz (by kernel_rfl) (by kernel_rfl) _) ?_
          simp only [Act.put, List.setIfInBounds_toArray, List.set_cons_succ, List.set_cons_zero]
          refine gw_val (by kernel_rfl) (some 45) rfl (.pointer (some ⟨g, 4, none⟩)) (by kernel_rfl) ?_
          simp only [Act.put, List.setIfInBounds_toArray, List.set_cons_succ, List.set_cons_zero]
          refine gw_store (by kernel_rfl) rfl 9 (.tmp 45) (.tmp 44) rfl (.pointer (some ⟨g, 4, none⟩)) (.string (reps (j + 1))) (by kernel_rfl) (by kernel_rfl) (Y7) (hst7) ?_
          apply wpList_nil
          clear hst7 HS2 hsz
          go_upto_region 8 with fail
          apply wp_region_lit
          refine gw_val (by kernel_rfl) (some 40) rfl (.int .i64 j) (by kernel_rfl) ?_
          simp only [Act.put, List.setIfInBounds_toArray, List.set_cons_succ, List.set_cons_zero]
          refine gw_val (by kernel_rfl) (some 41) rfl (.int .i64 (j + 1 : Nat)) (add_one rfl j (by omega) (by kernel_rfl) _) ?_
          simp only [Act.put, List.setIfInBounds_toArray, List.set_cons_succ, List.set_cons_zero]
          refine gw_val (by kernel_rfl) (some 9) rfl (.int .i64 (j + 1 : Nat)) (by kernel_rfl) ?_
          simp only [Act.put, List.setIfInBounds_toArray, List.set_cons_succ, List.set_cons_zero]
          apply wpList_nil
          go_wp2_with fail
          go_roundg (gk - 1)
          case measure => have := HG.out; omega
          case rel => exact ⟨j + 1, rfl, HG.out.2.2, HS3, HG.out.1⟩
        · skip
          obtain rfl : j = 63 + m % 3 := by omega
          clear hg
          go_upto_region 7 with fail
          apply wp_region_lit
          refine gw_val (by kernel_rfl) (some 34) rfl (.int .i64 (63 + m % 3 : Nat)) (by kernel_rfl) ?_
          simp only [Act.put, List.setIfInBounds_toArray, List.set_cons_succ, List.set_cons_zero]
          refine gw_val (by kernel_rfl) (some 35) rfl (.int .u8 m) (by kernel_rfl) ?_
          simp only [Act.put, List.setIfInBounds_toArray, List.set_cons_succ, List.set_cons_zero]
          refine gw_val (by kernel_rfl) (some 36) rfl (.int .u8 (m % 3 : Nat)) (rem_u8 rfl m 3 (by decide) (by kernel_rfl) (by kernel_rfl) _) ?_
          simp only [Act.put, List.setIfInBounds_toArray, List.set_cons_succ, List.set_cons_zero]
          refine gw_val (by kernel_rfl) (some 37) rfl (.int .i64 (m % 3 : Nat)) (conv_u8 rfl (m % 3 : Nat) (by omega) (by omega) (by kernel_rfl) _) ?_
          simp only [Act.put, List.setIfInBounds_toArray, List.set_cons_succ, List.set_cons_zero]
          refine gw_val (by kernel_rfl) (some 38) rfl (.int .i64 (63 + m % 3 : Nat)) (add_nat rfl 63 (m % 3) (by omega) (by kernel_rfl) (by kernel_rfl) _) ?_
          simp only [Act.put, List.setIfInBounds_toArray, List.set_cons_succ, List.set_cons_zero]
          refine gw_val (by kernel_rfl) (some 39) rfl (.bool false) (lss_n rfl ((63 + m % 3 : Nat)) ((63 + m % 3 : Nat)) (decide_eq_false (by omega)) (by kernel_rfl) (by kernel_rfl) _) ?_
          simp only [Act.put, List.setIfInBounds_toArray, List.set_cons_succ, List.set_cons_zero]
          apply wpList_nil
          have hk := HKN.out
          have HW8 := Lib.hid (enc_w8 _ (lim_b (63 + m % 3) k (by omega)))
          have HEN := Lib.hid (lim_enc (63 + m % 3) k (by omega) (by omega) (by omega))
          obtain ⟨ar, cr, er, hcr, -⟩ := HS2.out.rt.cs
          simp only [Value.slice.injEq, true_and] at er
          obtain ⟨rfl, rfl⟩ := er
          have CE := q_encode (limX (63 + m % 3) k) a c wr hcr (lim_b _ _ (by omega))
          have CR := fun V h => ref_encode (limX (63 + m % 3) k) a c V h (lim_b _ _ (by omega))
          have hb := HS2.out.bel
          have hX := HS2.out.bx
          generalize limX (63 + m % 3) k = X at *
          obtain ⟨E, ee, hEX⟩ : ∃ E ee, encX X = (E, ee) := ⟨_, _, rfl⟩
          rw [hEX] at HW8 HEN
          dsimp only at HW8 HEN
          have HEX := Lib.hid hEX
          clear hk hEX hlt hj HS2
          go_upto_region 10 with fail
          apply wp_region_lit
          refine gw_load (by kernel_rfl) (some 47) rfl 29 (.tmp 7) rfl ⟨g, 0, none⟩ (.agg (txA X a c)) (by kernel_rfl) (load_txb hX) ?_
          simp only [Act.put, List.setIfInBounds_toArray, List.set_cons_succ, List.set_cons_zero]
          refine gw_callE (by kernel_rfl) (some 48) rfl 19 #[.agg (txA X a c)] (fun v w' => ∃ u, v = .tuple #[u, .int .i64 ee] ∧ Own w' wr.heap.size u E ∧ Below wr.heap.size wr w') (by kernel_rfl) ((CE).mono fun e w' q => by obtain ⟨u, h1, h2, h3⟩ := q; rw [HEX.out] at h1 h2; exact ⟨_, h1, u, rfl, h2, h3⟩) (fun vv V3 hq => ?_)
          obtain ⟨u1, rfl, hO1, hb1⟩ := hq
          obtain ⟨b1, d1, rfl, hs1, hd1⟩ := hO1.sl
          simp only [Act.put, List.setIfInBounds_toArray, List.set_cons_succ, List.set_cons_zero]
          refine gw_val (by kernel_rfl) (some 46) rfl (.tuple #[.slice b1 E.length d1, .int .i64 ee]) (by kernel_rfl) ?_
          simp only [Act.put, List.setIfInBounds_toArray, List.set_cons_succ, List.set_cons_zero]
          refine gw_val (by kernel_rfl) (some 49) rfl (.slice b1 E.length d1) (by kernel_rfl) ?_
          simp only [Act.put, List.setIfInBounds_toArray, List.set_cons_succ, List.set_cons_zero]
          refine gw_val (by kernel_rfl) (some 50) rfl (.int .i64 ee) (by kernel_rfl) ?_
          simp only [Act.put, List.setIfInBounds_toArray, List.set_cons_succ, List.set_cons_zero]
          refine gw_val (by kernel_rfl) (some 10) rfl (.slice b1 E.length d1) (by kernel_rfl) ?_
          simp only [Act.put, List.setIfInBounds_toArray, List.set_cons_succ, List.set_cons_zero]
          refine gw_val (by kernel_rfl) (some 11) rfl (.int .i64 ee) (by kernel_rfl) ?_
          simp only [Act.put, List.setIfInBounds_toArray, List.set_cons_succ, List.set_cons_zero]
          apply wpList_nil
          have hbV3 := hb.trans (hb1.mono hb.size)
          have hX3 := hX.below hX.lt hb1
          have CR3 := CR V3 (hcr.below hb1)
          clear hO1 hd1 CE hb hX hcr hb1 CR
          go_upto_region 11 with fail
          apply wp_region_lit
          refine gw_load (by kernel_rfl) (some 52) rfl 29 (.tmp 7) rfl ⟨g, 0, none⟩ (.agg (txA X a c)) (by kernel_rfl) (load_txb hX3) ?_
          simp only [Act.put, List.setIfInBounds_toArray, List.set_cons_succ, List.set_cons_zero]
          refine gw_callE (by kernel_rfl) (some 53) rfl 20 #[.agg (txA X a c)] (fun v w' => ∃ u, v = .tuple #[u, .int .i64 ee] ∧ Own w' V3.heap.size u E ∧ Below V3.heap.size V3 w') (by kernel_rfl) ((CR3).mono fun e w' q => by obtain ⟨u, h1, h2, h3⟩ := q; rw [HEX.out] at h1 h2; exact ⟨_, h1, u, rfl, h2, h3⟩) (fun vv V4 hq => ?_)
          obtain ⟨u2, rfl, hO2, hb2⟩ := hq
          obtain ⟨b2, d2, rfl, hs2, hd2⟩ := hO2.sl
          simp only [Act.put, List.setIfInBounds_toArray, List.set_cons_succ, List.set_cons_zero]
          refine gw_val (by kernel_rfl) (some 51) rfl (.tuple #[.slice b2 E.length d2, .int .i64 ee]) (by kernel_rfl) ?_
          simp only [Act.put, List.setIfInBounds_toArray, List.set_cons_succ, List.set_cons_zero]
          refine gw_val (by kernel_rfl) (some 54) rfl (.slice b2 E.length d2) (by kernel_rfl) ?_
          simp only [Act.put, List.setIfInBounds_toArray, List.set_cons_succ, List.set_cons_zero]
          refine gw_val (by kernel_rfl) (some 55) rfl (.int .i64 ee) (by kernel_rfl) ?_
          simp only [Act.put, List.setIfInBounds_toArray, List.set_cons_succ, List.set_cons_zero]
          refine gw_val (by kernel_rfl) (some 12) rfl (.slice b2 E.length d2) (by kernel_rfl) ?_
          simp only [Act.put, List.setIfInBounds_toArray, List.set_cons_succ, List.set_cons_zero]
          refine gw_val (by kernel_rfl) (some 13) rfl (.int .i64 ee) (by kernel_rfl) ?_
          simp only [Act.put, List.setIfInBounds_toArray, List.set_cons_succ, List.set_cons_zero]
          apply wpList_nil
          have hbV4 := hbV3.trans (hb2.mono hbV3.size)
          have hs14 := sl_below hs1 hb2
          obtain ⟨V5, hmk, hsZ, hbZ⟩ := make_bytes V4 (4095 + s % 3) (by omega)
          have HZ8 : Hid (∀ x, x ∈ List.replicate (4095 + s % 3) (0 : Int) → W8 x) := Lib.hid (fun x hx => by rw [List.eq_of_mem_replicate hx]; exact ⟨by decide, by decide⟩)
          have hZl : (List.replicate (4095 + s % 3) (0 : Int)).length ≤ 4095 + s % 3 := by rw [List.length_replicate]; exact Nat.le_refl _
          have hbV5 := hbV4.trans (hbZ.mono hbV4.size)
          have hs15 := sl_below hs14 hbZ
          have hs25 := sl_below hs2 hbZ
          generalize List.replicate (4095 + s % 3) (0 : Int) = Z at *
          obtain ⟨gz, hgz⟩ : ∃ gz, V4.heap.size = gz := ⟨_, rfl⟩
          clear hO2 hd2 CR3 hb2 hs1 hs2 hs14 hX3 hbV3 hbV4 hbZ
          go_upto_region 12 with fail
          rw [hgz] at hmk hsZ
          clear hgz
          apply wp_region_lit
          refine gw_val (by kernel_rfl) (some 56) rfl (.int .u8 s) (by kernel_rfl) ?_
          simp only [Act.put, List.setIfInBounds_toArray, List.set_cons_succ, List.set_cons_zero]
          refine gw_val (by kernel_rfl) (some 57) rfl (.int .u8 (s % 3 : Nat)) (rem_u8 rfl s 3 (by decide) (by kernel_rfl) (by kernel_rfl) _) ?_
          simp only [Act.put, List.setIfInBounds_toArray, List.set_cons_succ, List.set_cons_zero]
          refine gw_val (by kernel_rfl) (some 58) rfl (.int .i64 (s % 3 : Nat)) (conv_u8 rfl (s % 3 : Nat) (by omega) (by omega) (by kernel_rfl) _) ?_
          simp only [Act.put, List.setIfInBounds_toArray, List.set_cons_succ, List.set_cons_zero]
          refine gw_val (by kernel_rfl) (some 59) rfl (.int .i64 (4095 + s % 3 : Nat)) (add_nat rfl 4095 (s % 3) (by omega) (by kernel_rfl) (by kernel_rfl) _) ?_
          simp only [Act.put, List.setIfInBounds_toArray, List.set_cons_succ, List.set_cons_zero]
          refine gw_make (by kernel_rfl) (some 60) rfl 39 (.tmp 59) (.tmp 59) rfl (.int .i64 (4095 + s % 3 : Nat)) (.int .i64 (4095 + s % 3 : Nat)) (.slice (some ⟨gz, 0, none⟩) Z.length (4095 + s % 3)) (by kernel_rfl) (by kernel_rfl) V5 hmk ?_
          simp only [Act.put, List.setIfInBounds_toArray, List.set_cons_succ, List.set_cons_zero]
          refine gw_val (by kernel_rfl) (some 14) rfl (.slice (some ⟨gz, 0, none⟩) Z.length (4095 + s % 3)) (by kernel_rfl) ?_
          simp only [Act.put, List.setIfInBounds_toArray, List.set_cons_succ, List.set_cons_zero]
          apply wpList_nil
          have CD := q_decode (some ⟨gz, 0, none⟩) (4095 + s % 3) Z V5 hsZ hZl HZ8.out
          have CRD := fun V h => ref_decode (some ⟨gz, 0, none⟩) (4095 + s % 3) Z V h hZl HZ8.out
          obtain ⟨X1, e1, hD⟩ : ∃ X1 e1, decX Z = (X1, e1) := ⟨_, _, rfl⟩
          rw [hD] at CD
          simp only [hD] at CRD
          clear hmk hD HZ8 hZl
          go_upto_region 13 with fail
          apply wp_region_lit
          refine gw_val (by kernel_rfl) (some 62) rfl (.slice (some ⟨gz, 0, none⟩) Z.length (4095 + s % 3)) (by kernel_rfl) ?_
          simp only [Act.put, List.setIfInBounds_toArray, List.set_cons_succ, List.set_cons_zero]
          refine gw_callE (by kernel_rfl) (some 63) rfl 22 #[.slice (some ⟨gz, 0, none⟩) Z.length (4095 + s % 3)] (fun v w' => ∃ a c, v = .tuple #[.agg (txA X1 a c), .int .i64 e1] ∧ Below V5.heap.size V5 w') (by kernel_rfl) ((CD).mono fun e w' q => by obtain ⟨a, c, h1, -, h3⟩ := q; exact ⟨_, h1, a, c, rfl, h3⟩) (fun vv V6 hq => ?_)
          obtain ⟨a3, c3, rfl, hb3⟩ := hq
          obtain ⟨V7, hst3, hbs3, -⟩ := new_txv V6 X1 a3 c3
          simp only [Act.put, List.setIfInBounds_toArray, List.set_cons_succ, List.set_cons_zero]
          refine gw_val (by kernel_rfl) (some 61) rfl (.tuple #[.agg (txA X1 a3 c3), .int .i64 e1]) (by kernel_rfl) ?_
          simp only [Act.put, List.setIfInBounds_toArray, List.set_cons_succ, List.set_cons_zero]
          refine gw_val (by kernel_rfl) (some 64) rfl (.agg (txA X1 a3 c3)) (by kernel_rfl) ?_
          simp only [Act.put, List.setIfInBounds_toArray, List.set_cons_succ, List.set_cons_zero]
          refine gw_val (by kernel_rfl) (some 65) rfl (.int .i64 e1) (by kernel_rfl) ?_
          simp only [Act.put, List.setIfInBounds_toArray, List.set_cons_succ, List.set_cons_zero]
          refine run_to rfl (some 15) rfl (.pointer (some ⟨V6.heap.size, 0, none⟩)) (V6.alloc (.cells (txA zX none 0) 29)) (by kernel_rfl) ?_
          simp only [Act.put, List.setIfInBounds_toArray, List.set_cons_succ, List.set_cons_zero]
          refine gw_store (by kernel_rfl) rfl 29 (.tmp 15) (.tmp 64) rfl (.pointer (some ⟨V6.heap.size, 0, none⟩)) (.agg (txA X1 a3 c3)) (by kernel_rfl) (by kernel_rfl) (V7) (hst3) ?_
          refine gw_val (by kernel_rfl) (some 16) rfl (.int .i64 e1) (by kernel_rfl) ?_
          simp only [Act.put, List.setIfInBounds_toArray, List.set_cons_succ, List.set_cons_zero]
          apply wpList_nil
          have hb7 := hb3.trans (hbs3.mono hb3.size)
          have hbV7 := hbV5.trans (hb7.mono hbV5.size)
          have hs17 := sl_below hs15 hb7
          have hs27 := sl_below hs25 hb7
          have CD7 := CRD V7 (sl_below hsZ hb7)
          clear hst3 hbs3 hb3 hb7 hbV5 hs15 hs25 hsZ CD CRD
          go_upto_region 14 with fail
          apply wp_region_lit
          refine gw_val (by kernel_rfl) (some 67) rfl (.slice (some ⟨gz, 0, none⟩) Z.length (4095 + s % 3)) (by kernel_rfl) ?_
          simp only [Act.put, List.setIfInBounds_toArray, List.set_cons_succ, List.set_cons_zero]
          refine gw_callE (by kernel_rfl) (some 68) rfl 25 #[.slice (some ⟨gz, 0, none⟩) Z.length (4095 + s % 3)] (fun v w' => ∃ a c, v = .tuple #[.agg (txA X1 a c), .int .i64 e1] ∧ Below V7.heap.size V7 w') (by kernel_rfl) ((CD7).mono fun e w' q => by obtain ⟨a, c, h1, -, h3⟩ := q; exact ⟨_, h1, a, c, rfl, h3⟩) (fun vv V8 hq => ?_)
          obtain ⟨a4, c4, rfl, hb4⟩ := hq
          obtain ⟨V9, hst4, hbs4, -⟩ := new_txv V8 X1 a4 c4
          simp only [Act.put, List.setIfInBounds_toArray, List.set_cons_succ, List.set_cons_zero]
          refine gw_val (by kernel_rfl) (some 66) rfl (.tuple #[.agg (txA X1 a4 c4), .int .i64 e1]) (by kernel_rfl) ?_
          simp only [Act.put, List.setIfInBounds_toArray, List.set_cons_succ, List.set_cons_zero]
          refine gw_val (by kernel_rfl) (some 69) rfl (.agg (txA X1 a4 c4)) (by kernel_rfl) ?_
          simp only [Act.put, List.setIfInBounds_toArray, List.set_cons_succ, List.set_cons_zero]
          refine gw_val (by kernel_rfl) (some 70) rfl (.int .i64 e1) (by kernel_rfl) ?_
          simp only [Act.put, List.setIfInBounds_toArray, List.set_cons_succ, List.set_cons_zero]
          refine run_to rfl (some 17) rfl (.pointer (some ⟨V8.heap.size, 0, none⟩)) (V8.alloc (.cells (txA zX none 0) 29)) (by kernel_rfl) ?_
          simp only [Act.put, List.setIfInBounds_toArray, List.set_cons_succ, List.set_cons_zero]
          refine gw_store (by kernel_rfl) rfl 29 (.tmp 17) (.tmp 69) rfl (.pointer (some ⟨V8.heap.size, 0, none⟩)) (.agg (txA X1 a4 c4)) (by kernel_rfl) (by kernel_rfl) (V9) (hst4) ?_
          refine gw_val (by kernel_rfl) (some 18) rfl (.int .i64 e1) (by kernel_rfl) ?_
          simp only [Act.put, List.setIfInBounds_toArray, List.set_cons_succ, List.set_cons_zero]
          apply wpList_nil
          have hb9 := hb4.trans (hbs4.mono hb4.size)
          have hbV9 := hbV7.trans (hb9.mono hbV7.size)
          have CS := ref_same b1 d1 E b2 d2 E V9 (sl_below hs17 hb9) (sl_below hs27 hb9) HW8.out HW8.out
          rw [show decide (E = E) = true from decide_eq_true rfl] at CS
          have CK := HK.out V9 hbV9
          have hen := HEN.out
          have hk := HKN.out
          clear hst4 hbs4 hb4 hb9 hbV7 hs17 hs27 CD7 HW8 HEN
          by_cases hA : n % 3 < 2 <;> by_cases hC : m % 3 < 2
          · skip
            have hen2 : decide (ee = 0) = true := by rw [hen, decide_eq_true (by omega : k < 17), decide_eq_true (by omega : 63 + m % 3 < 65)]; rfl
            go_upto_region 15 with fail
            apply wp_region_lit
            refine gw_val (by kernel_rfl) (some 71) rfl (.int .i64 ee) (by kernel_rfl) ?_
            simp only [Act.put, List.setIfInBounds_toArray, List.set_cons_succ, List.set_cons_zero]
            refine gw_val (by kernel_rfl) (some 72) rfl (.int .i64 ee) (by kernel_rfl) ?_
            simp only [Act.put, List.setIfInBounds_toArray, List.set_cons_succ, List.set_cons_zero]
            refine gw_val (by kernel_rfl) (some 73) rfl (.bool true) (eql_e rfl (ee) (ee) (decide_eq_true (rfl)) (by kernel_rfl) (by kernel_rfl) _) ?_
            simp only [Act.put, List.setIfInBounds_toArray, List.set_cons_succ, List.set_cons_zero]
            refine gw_val (by kernel_rfl) (some 74) rfl (.bool true) (by kernel_rfl) ?_
            simp only [Act.put, List.setIfInBounds_toArray, List.set_cons_succ, List.set_cons_zero]
            refine gw_val (by kernel_rfl) (some 75) rfl (.slice b1 E.length d1) (by kernel_rfl) ?_
            simp only [Act.put, List.setIfInBounds_toArray, List.set_cons_succ, List.set_cons_zero]
            refine gw_val (by kernel_rfl) (some 76) rfl (.slice b2 E.length d2) (by kernel_rfl) ?_
            simp only [Act.put, List.setIfInBounds_toArray, List.set_cons_succ, List.set_cons_zero]
            refine gw_call (by kernel_rfl) (some 77) rfl 21 #[.slice b1 E.length d1, .slice b2 E.length d2] (.bool true) (fun w' => V9 = w') (by kernel_rfl) (CS) (fun V9 hV9 => ?_)
            subst hV9
            simp only [Act.put, List.setIfInBounds_toArray, List.set_cons_succ, List.set_cons_zero]
            refine gw_val (by kernel_rfl) (some 78) rfl (.bool true) (by kernel_rfl) ?_
            simp only [Act.put, List.setIfInBounds_toArray, List.set_cons_succ, List.set_cons_zero]
            refine gw_val (by kernel_rfl) (some 79) rfl (.bool true) (by kernel_rfl) ?_
            simp only [Act.put, List.setIfInBounds_toArray, List.set_cons_succ, List.set_cons_zero]
            refine gw_val (by kernel_rfl) (some 80) rfl (.int .i64 e1) (by kernel_rfl) ?_
            simp only [Act.put, List.setIfInBounds_toArray, List.set_cons_succ, List.set_cons_zero]
            refine gw_val (by kernel_rfl) (some 81) rfl (.int .i64 e1) (by kernel_rfl) ?_
            simp only [Act.put, List.setIfInBounds_toArray, List.set_cons_succ, List.set_cons_zero]
            refine gw_val (by kernel_rfl) (some 82) rfl (.bool true) (eql_e rfl (e1) (e1) (decide_eq_true (rfl)) (by kernel_rfl) (by kernel_rfl) _) ?_
            simp only [Act.put, List.setIfInBounds_toArray, List.set_cons_succ, List.set_cons_zero]
            refine gw_val (by kernel_rfl) (some 83) rfl (.bool true) (by kernel_rfl) ?_
            simp only [Act.put, List.setIfInBounds_toArray, List.set_cons_succ, List.set_cons_zero]
            refine gw_val (by kernel_rfl) (some 84) rfl (.bool true) (by kernel_rfl) ?_
            simp only [Act.put, List.setIfInBounds_toArray, List.set_cons_succ, List.set_cons_zero]
            refine gw_val (by kernel_rfl) (some 85) rfl (.int .i64 ee) (by kernel_rfl) ?_
            simp only [Act.put, List.setIfInBounds_toArray, List.set_cons_succ, List.set_cons_zero]
            refine gw_val (by kernel_rfl) (some 86) rfl (.bool true) (eql_e rfl ee 0 hen2 (by kernel_rfl) (by kernel_rfl) _) ?_
            simp only [Act.put, List.setIfInBounds_toArray, List.set_cons_succ, List.set_cons_zero]
            refine gw_val (by kernel_rfl) (some 87) rfl (.int .u8 n) (by kernel_rfl) ?_
            simp only [Act.put, List.setIfInBounds_toArray, List.set_cons_succ, List.set_cons_zero]
            refine gw_val (by kernel_rfl) (some 88) rfl (.int .u8 (n % 3 : Nat)) (rem_u8 rfl n 3 (by decide) (by kernel_rfl) (by kernel_rfl) _) ?_
            simp only [Act.put, List.setIfInBounds_toArray, List.set_cons_succ, List.set_cons_zero]
            refine gw_val (by kernel_rfl) (some 89) rfl (.bool true) (lss_8 rfl ((n % 3 : Nat)) (2) (decide_eq_true (by omega)) (by kernel_rfl) (by kernel_rfl) _) ?_
            simp only [Act.put, List.setIfInBounds_toArray, List.set_cons_succ, List.set_cons_zero]
            refine gw_val (by kernel_rfl) (some 90) rfl (.bool true) (by kernel_rfl) ?_
            simp only [Act.put, List.setIfInBounds_toArray, List.set_cons_succ, List.set_cons_zero]
            refine gw_val (by kernel_rfl) (some 91) rfl (.int .u8 m) (by kernel_rfl) ?_
            simp only [Act.put, List.setIfInBounds_toArray, List.set_cons_succ, List.set_cons_zero]
            refine gw_val (by kernel_rfl) (some 92) rfl (.int .u8 (m % 3 : Nat)) (rem_u8 rfl m 3 (by decide) (by kernel_rfl) (by kernel_rfl) _) ?_
            simp only [Act.put, List.setIfInBounds_toArray, List.set_cons_succ, List.set_cons_zero]
            refine gw_val (by kernel_rfl) (some 93) rfl (.bool true) (lss_8 rfl ((m % 3 : Nat)) (2) (decide_eq_true (by omega)) (by kernel_rfl) (by kernel_rfl) _) ?_
            simp only [Act.put, List.setIfInBounds_toArray, List.set_cons_succ, List.set_cons_zero]
            refine gw_val (by kernel_rfl) (some 94) rfl (.bool true) (by kernel_rfl) ?_
            simp only [Act.put, List.setIfInBounds_toArray, List.set_cons_succ, List.set_cons_zero]
            refine gw_val (by kernel_rfl) (some 95) rfl (.bool true) (eql_b0 rfl true (by kernel_rfl) (by kernel_rfl) _) ?_
            simp only [Act.put, List.setIfInBounds_toArray, List.set_cons_succ, List.set_cons_zero]
            refine gw_val (by kernel_rfl) (some 96) rfl (.bool true) (by kernel_rfl) ?_
            simp only [Act.put, List.setIfInBounds_toArray, List.set_cons_succ, List.set_cons_zero]
            refine gw_val (by kernel_rfl) (some 97) rfl (.bool true) (by kernel_rfl) ?_
            simp only [Act.put, List.setIfInBounds_toArray, List.set_cons_succ, List.set_cons_zero]
            refine gw_call (by kernel_rfl) (some 98) rfl 9 #[] (.bool true) (fun w' => Below w.heap.size w w') (by kernel_rfl) (CK) (fun VK hVK => ?_)
            simp only [Act.put, List.setIfInBounds_toArray, List.set_cons_succ, List.set_cons_zero]
            refine gw_val (by kernel_rfl) (some 99) rfl (.bool true) (by kernel_rfl) ?_
            simp only [Act.put, List.setIfInBounds_toArray, List.set_cons_succ, List.set_cons_zero]
            refine gw_val (by kernel_rfl) (some 6) rfl (.bool true) (by kernel_rfl) ?_
            simp only [Act.put, List.setIfInBounds_toArray, List.set_cons_succ, List.set_cons_zero]
            apply wpList_nil
            have HE := Lib.hid hVK
            clear hVK CS CK hbV9
            go_wp2_with fail
            go_ret
            exact ⟨rfl, HE.out⟩
          · skip
            have hen2 : decide (ee = 0) = false := by rw [hen, decide_eq_true (by omega : k < 17), decide_eq_false (by omega : ¬ 63 + m % 3 < 65)]; rfl
            go_upto_region 15 with fail
            apply wp_region_lit
            refine gw_val (by kernel_rfl) (some 71) rfl (.int .i64 ee) (by kernel_rfl) ?_
            simp only [Act.put, List.setIfInBounds_toArray, List.set_cons_succ, List.set_cons_zero]
            refine gw_val (by kernel_rfl) (some 72) rfl (.int .i64 ee) (by kernel_rfl) ?_
            simp only [Act.put, List.setIfInBounds_toArray, List.set_cons_succ, List.set_cons_zero]
            refine gw_val (by kernel_rfl) (some 73) rfl (.bool true) (eql_e rfl (ee) (ee) (decide_eq_true (rfl)) (by kernel_rfl) (by kernel_rfl) _) ?_
            simp only [Act.put, List.setIfInBounds_toArray, List.set_cons_succ, List.set_cons_zero]
            refine gw_val (by kernel_rfl) (some 74) rfl (.bool true) (by kernel_rfl) ?_
            simp only [Act.put, List.setIfInBounds_toArray, List.set_cons_succ, List.set_cons_zero]
            refine gw_val (by kernel_rfl) (some 75) rfl (.slice b1 E.length d1) (by kernel_rfl) ?_
            simp only [Act.put, List.setIfInBounds_toArray, List.set_cons_succ, List.set_cons_zero]
            refine gw_val (by kernel_rfl) (some 76) rfl (.slice b2 E.length d2) (by kernel_rfl) ?_
            simp only [Act.put, List.setIfInBounds_toArray, List.set_cons_succ, List.set_cons_zero]
            refine gw_call (by kernel_rfl) (some 77) rfl 21 #[.slice b1 E.length d1, .slice b2 E.length d2] (.bool true) (fun w' => V9 = w') (by kernel_rfl) (CS) (fun V9 hV9 => ?_)
            subst hV9
            simp only [Act.put, List.setIfInBounds_toArray, List.set_cons_succ, List.set_cons_zero]
            refine gw_val (by kernel_rfl) (some 78) rfl (.bool true) (by kernel_rfl) ?_
            simp only [Act.put, List.setIfInBounds_toArray, List.set_cons_succ, List.set_cons_zero]
            refine gw_val (by kernel_rfl) (some 79) rfl (.bool true) (by kernel_rfl) ?_
            simp only [Act.put, List.setIfInBounds_toArray, List.set_cons_succ, List.set_cons_zero]
            refine gw_val (by kernel_rfl) (some 80) rfl (.int .i64 e1) (by kernel_rfl) ?_
            simp only [Act.put, List.setIfInBounds_toArray, List.set_cons_succ, List.set_cons_zero]
            refine gw_val (by kernel_rfl) (some 81) rfl (.int .i64 e1) (by kernel_rfl) ?_
            simp only [Act.put, List.setIfInBounds_toArray, List.set_cons_succ, List.set_cons_zero]
            refine gw_val (by kernel_rfl) (some 82) rfl (.bool true) (eql_e rfl (e1) (e1) (decide_eq_true (rfl)) (by kernel_rfl) (by kernel_rfl) _) ?_
            simp only [Act.put, List.setIfInBounds_toArray, List.set_cons_succ, List.set_cons_zero]
            refine gw_val (by kernel_rfl) (some 83) rfl (.bool true) (by kernel_rfl) ?_
            simp only [Act.put, List.setIfInBounds_toArray, List.set_cons_succ, List.set_cons_zero]
            refine gw_val (by kernel_rfl) (some 84) rfl (.bool true) (by kernel_rfl) ?_
            simp only [Act.put, List.setIfInBounds_toArray, List.set_cons_succ, List.set_cons_zero]
            refine gw_val (by kernel_rfl) (some 85) rfl (.int .i64 ee) (by kernel_rfl) ?_
            simp only [Act.put, List.setIfInBounds_toArray, List.set_cons_succ, List.set_cons_zero]
            refine gw_val (by kernel_rfl) (some 86) rfl (.bool false) (eql_e rfl ee 0 hen2 (by kernel_rfl) (by kernel_rfl) _) ?_
            simp only [Act.put, List.setIfInBounds_toArray, List.set_cons_succ, List.set_cons_zero]
            refine gw_val (by kernel_rfl) (some 87) rfl (.int .u8 n) (by kernel_rfl) ?_
            simp only [Act.put, List.setIfInBounds_toArray, List.set_cons_succ, List.set_cons_zero]
            refine gw_val (by kernel_rfl) (some 88) rfl (.int .u8 (n % 3 : Nat)) (rem_u8 rfl n 3 (by decide) (by kernel_rfl) (by kernel_rfl) _) ?_
            simp only [Act.put, List.setIfInBounds_toArray, List.set_cons_succ, List.set_cons_zero]
            refine gw_val (by kernel_rfl) (some 89) rfl (.bool true) (lss_8 rfl ((n % 3 : Nat)) (2) (decide_eq_true (by omega)) (by kernel_rfl) (by kernel_rfl) _) ?_
            simp only [Act.put, List.setIfInBounds_toArray, List.set_cons_succ, List.set_cons_zero]
            refine gw_val (by kernel_rfl) (some 90) rfl (.bool true) (by kernel_rfl) ?_
            simp only [Act.put, List.setIfInBounds_toArray, List.set_cons_succ, List.set_cons_zero]
            refine gw_val (by kernel_rfl) (some 91) rfl (.int .u8 m) (by kernel_rfl) ?_
            simp only [Act.put, List.setIfInBounds_toArray, List.set_cons_succ, List.set_cons_zero]
            refine gw_val (by kernel_rfl) (some 92) rfl (.int .u8 (m % 3 : Nat)) (rem_u8 rfl m 3 (by decide) (by kernel_rfl) (by kernel_rfl) _) ?_
            simp only [Act.put, List.setIfInBounds_toArray, List.set_cons_succ, List.set_cons_zero]
            refine gw_val (by kernel_rfl) (some 93) rfl (.bool false) (lss_8 rfl ((m % 3 : Nat)) (2) (decide_eq_false (by omega)) (by kernel_rfl) (by kernel_rfl) _) ?_
            simp only [Act.put, List.setIfInBounds_toArray, List.set_cons_succ, List.set_cons_zero]
            refine gw_val (by kernel_rfl) (some 94) rfl (.bool false) (by kernel_rfl) ?_
            simp only [Act.put, List.setIfInBounds_toArray, List.set_cons_succ, List.set_cons_zero]
            refine gw_val (by kernel_rfl) (some 95) rfl (.bool true) (eql_b0 rfl false (by kernel_rfl) (by kernel_rfl) _) ?_
            simp only [Act.put, List.setIfInBounds_toArray, List.set_cons_succ, List.set_cons_zero]
            refine gw_val (by kernel_rfl) (some 96) rfl (.bool true) (by kernel_rfl) ?_
            simp only [Act.put, List.setIfInBounds_toArray, List.set_cons_succ, List.set_cons_zero]
            refine gw_val (by kernel_rfl) (some 97) rfl (.bool true) (by kernel_rfl) ?_
            simp only [Act.put, List.setIfInBounds_toArray, List.set_cons_succ, List.set_cons_zero]
            refine gw_call (by kernel_rfl) (some 98) rfl 9 #[] (.bool true) (fun w' => Below w.heap.size w w') (by kernel_rfl) (CK) (fun VK hVK => ?_)
            simp only [Act.put, List.setIfInBounds_toArray, List.set_cons_succ, List.set_cons_zero]
            refine gw_val (by kernel_rfl) (some 99) rfl (.bool true) (by kernel_rfl) ?_
            simp only [Act.put, List.setIfInBounds_toArray, List.set_cons_succ, List.set_cons_zero]
            refine gw_val (by kernel_rfl) (some 6) rfl (.bool true) (by kernel_rfl) ?_
            simp only [Act.put, List.setIfInBounds_toArray, List.set_cons_succ, List.set_cons_zero]
            apply wpList_nil
            have HE := Lib.hid hVK
            clear hVK CS CK hbV9
            go_wp2_with fail
            go_ret
            exact ⟨rfl, HE.out⟩
          · skip
            have hen2 : decide (ee = 0) = false := by rw [hen, decide_eq_false (by omega : ¬ k < 17), decide_eq_true (by omega : 63 + m % 3 < 65)]; rfl
            go_upto_region 15 with fail
            apply wp_region_lit
            refine gw_val (by kernel_rfl) (some 71) rfl (.int .i64 ee) (by kernel_rfl) ?_
            simp only [Act.put, List.setIfInBounds_toArray, List.set_cons_succ, List.set_cons_zero]
            refine gw_val (by kernel_rfl) (some 72) rfl (.int .i64 ee) (by kernel_rfl) ?_
            simp only [Act.put, List.setIfInBounds_toArray, List.set_cons_succ, List.set_cons_zero]
            refine gw_val (by kernel_rfl) (some 73) rfl (.bool true) (eql_e rfl (ee) (ee) (decide_eq_true (rfl)) (by kernel_rfl) (by kernel_rfl) _) ?_
            simp only [Act.put, List.setIfInBounds_toArray, List.set_cons_succ, List.set_cons_zero]
            refine gw_val (by kernel_rfl) (some 74) rfl (.bool true) (by kernel_rfl) ?_
            simp only [Act.put, List.setIfInBounds_toArray, List.set_cons_succ, List.set_cons_zero]
            refine gw_val (by kernel_rfl) (some 75) rfl (.slice b1 E.length d1) (by kernel_rfl) ?_
            simp only [Act.put, List.setIfInBounds_toArray, List.set_cons_succ, List.set_cons_zero]
            refine gw_val (by kernel_rfl) (some 76) rfl (.slice b2 E.length d2) (by kernel_rfl) ?_
            simp only [Act.put, List.setIfInBounds_toArray, List.set_cons_succ, List.set_cons_zero]
            refine gw_call (by kernel_rfl) (some 77) rfl 21 #[.slice b1 E.length d1, .slice b2 E.length d2] (.bool true) (fun w' => V9 = w') (by kernel_rfl) (CS) (fun V9 hV9 => ?_)
            subst hV9
            simp only [Act.put, List.setIfInBounds_toArray, List.set_cons_succ, List.set_cons_zero]
            refine gw_val (by kernel_rfl) (some 78) rfl (.bool true) (by kernel_rfl) ?_
            simp only [Act.put, List.setIfInBounds_toArray, List.set_cons_succ, List.set_cons_zero]
            refine gw_val (by kernel_rfl) (some 79) rfl (.bool true) (by kernel_rfl) ?_
            simp only [Act.put, List.setIfInBounds_toArray, List.set_cons_succ, List.set_cons_zero]
            refine gw_val (by kernel_rfl) (some 80) rfl (.int .i64 e1) (by kernel_rfl) ?_
            simp only [Act.put, List.setIfInBounds_toArray, List.set_cons_succ, List.set_cons_zero]
            refine gw_val (by kernel_rfl) (some 81) rfl (.int .i64 e1) (by kernel_rfl) ?_
            simp only [Act.put, List.setIfInBounds_toArray, List.set_cons_succ, List.set_cons_zero]
            refine gw_val (by kernel_rfl) (some 82) rfl (.bool true) (eql_e rfl (e1) (e1) (decide_eq_true (rfl)) (by kernel_rfl) (by kernel_rfl) _) ?_
            simp only [Act.put, List.setIfInBounds_toArray, List.set_cons_succ, List.set_cons_zero]
            refine gw_val (by kernel_rfl) (some 83) rfl (.bool true) (by kernel_rfl) ?_
            simp only [Act.put, List.setIfInBounds_toArray, List.set_cons_succ, List.set_cons_zero]
            refine gw_val (by kernel_rfl) (some 84) rfl (.bool true) (by kernel_rfl) ?_
            simp only [Act.put, List.setIfInBounds_toArray, List.set_cons_succ, List.set_cons_zero]
            refine gw_val (by kernel_rfl) (some 85) rfl (.int .i64 ee) (by kernel_rfl) ?_
            simp only [Act.put, List.setIfInBounds_toArray, List.set_cons_succ, List.set_cons_zero]
            refine gw_val (by kernel_rfl) (some 86) rfl (.bool false) (eql_e rfl ee 0 hen2 (by kernel_rfl) (by kernel_rfl) _) ?_
            simp only [Act.put, List.setIfInBounds_toArray, List.set_cons_succ, List.set_cons_zero]
            refine gw_val (by kernel_rfl) (some 87) rfl (.int .u8 n) (by kernel_rfl) ?_
            simp only [Act.put, List.setIfInBounds_toArray, List.set_cons_succ, List.set_cons_zero]
            refine gw_val (by kernel_rfl) (some 88) rfl (.int .u8 (n % 3 : Nat)) (rem_u8 rfl n 3 (by decide) (by kernel_rfl) (by kernel_rfl) _) ?_
            simp only [Act.put, List.setIfInBounds_toArray, List.set_cons_succ, List.set_cons_zero]
            refine gw_val (by kernel_rfl) (some 89) rfl (.bool false) (lss_8 rfl ((n % 3 : Nat)) (2) (decide_eq_false (by omega)) (by kernel_rfl) (by kernel_rfl) _) ?_
            simp only [Act.put, List.setIfInBounds_toArray, List.set_cons_succ, List.set_cons_zero]
            refine gw_val (by kernel_rfl) (some 90) rfl (.bool false) (by kernel_rfl) ?_
            simp only [Act.put, List.setIfInBounds_toArray, List.set_cons_succ, List.set_cons_zero]
            with_reducible refine gw_not (by kernel_rfl) (some 91) rfl ?_
            simp only [Act.put, List.setIfInBounds_toArray, List.set_cons_succ, List.set_cons_zero]
            with_reducible refine gw_not (by kernel_rfl) (some 92) rfl ?_
            simp only [Act.put, List.setIfInBounds_toArray, List.set_cons_succ, List.set_cons_zero]
            with_reducible refine gw_not (by kernel_rfl) (some 93) rfl ?_
            simp only [Act.put, List.setIfInBounds_toArray, List.set_cons_succ, List.set_cons_zero]
            refine gw_val (by kernel_rfl) (some 94) rfl (.bool false) (by kernel_rfl) ?_
            simp only [Act.put, List.setIfInBounds_toArray, List.set_cons_succ, List.set_cons_zero]
            refine gw_val (by kernel_rfl) (some 95) rfl (.bool true) (eql_b0 rfl false (by kernel_rfl) (by kernel_rfl) _) ?_
            simp only [Act.put, List.setIfInBounds_toArray, List.set_cons_succ, List.set_cons_zero]
            refine gw_val (by kernel_rfl) (some 96) rfl (.bool true) (by kernel_rfl) ?_
            simp only [Act.put, List.setIfInBounds_toArray, List.set_cons_succ, List.set_cons_zero]
            refine gw_val (by kernel_rfl) (some 97) rfl (.bool true) (by kernel_rfl) ?_
            simp only [Act.put, List.setIfInBounds_toArray, List.set_cons_succ, List.set_cons_zero]
            refine gw_call (by kernel_rfl) (some 98) rfl 9 #[] (.bool true) (fun w' => Below w.heap.size w w') (by kernel_rfl) (CK) (fun VK hVK => ?_)
            simp only [Act.put, List.setIfInBounds_toArray, List.set_cons_succ, List.set_cons_zero]
            refine gw_val (by kernel_rfl) (some 99) rfl (.bool true) (by kernel_rfl) ?_
            simp only [Act.put, List.setIfInBounds_toArray, List.set_cons_succ, List.set_cons_zero]
            refine gw_val (by kernel_rfl) (some 6) rfl (.bool true) (by kernel_rfl) ?_
            simp only [Act.put, List.setIfInBounds_toArray, List.set_cons_succ, List.set_cons_zero]
            apply wpList_nil
            have HE := Lib.hid hVK
            clear hVK CS CK hbV9
            go_wp2_with fail
            go_ret
            exact ⟨rfl, HE.out⟩
          · skip
            have hen2 : decide (ee = 0) = false := by rw [hen, decide_eq_false (by omega : ¬ k < 17), decide_eq_false (by omega : ¬ 63 + m % 3 < 65)]; rfl
            go_upto_region 15 with fail
            apply wp_region_lit
            refine gw_val (by kernel_rfl) (some 71) rfl (.int .i64 ee) (by kernel_rfl) ?_
            simp only [Act.put, List.setIfInBounds_toArray, List.set_cons_succ, List.set_cons_zero]
            refine gw_val (by kernel_rfl) (some 72) rfl (.int .i64 ee) (by kernel_rfl) ?_
            simp only [Act.put, List.setIfInBounds_toArray, List.set_cons_succ, List.set_cons_zero]
            refine gw_val (by kernel_rfl) (some 73) rfl (.bool true) (eql_e rfl (ee) (ee) (decide_eq_true (rfl)) (by kernel_rfl) (by kernel_rfl) _) ?_
            simp only [Act.put, List.setIfInBounds_toArray, List.set_cons_succ, List.set_cons_zero]
            refine gw_val (by kernel_rfl) (some 74) rfl (.bool true) (by kernel_rfl) ?_
            simp only [Act.put, List.setIfInBounds_toArray, List.set_cons_succ, List.set_cons_zero]
            refine gw_val (by kernel_rfl) (some 75) rfl (.slice b1 E.length d1) (by kernel_rfl) ?_
            simp only [Act.put, List.setIfInBounds_toArray, List.set_cons_succ, List.set_cons_zero]
            refine gw_val (by kernel_rfl) (some 76) rfl (.slice b2 E.length d2) (by kernel_rfl) ?_
            simp only [Act.put, List.setIfInBounds_toArray, List.set_cons_succ, List.set_cons_zero]
            refine gw_call (by kernel_rfl) (some 77) rfl 21 #[.slice b1 E.length d1, .slice b2 E.length d2] (.bool true) (fun w' => V9 = w') (by kernel_rfl) (CS) (fun V9 hV9 => ?_)
            subst hV9
            simp only [Act.put, List.setIfInBounds_toArray, List.set_cons_succ, List.set_cons_zero]
            refine gw_val (by kernel_rfl) (some 78) rfl (.bool true) (by kernel_rfl) ?_
            simp only [Act.put, List.setIfInBounds_toArray, List.set_cons_succ, List.set_cons_zero]
            refine gw_val (by kernel_rfl) (some 79) rfl (.bool true) (by kernel_rfl) ?_
            simp only [Act.put, List.setIfInBounds_toArray, List.set_cons_succ, List.set_cons_zero]
            refine gw_val (by kernel_rfl) (some 80) rfl (.int .i64 e1) (by kernel_rfl) ?_
            simp only [Act.put, List.setIfInBounds_toArray, List.set_cons_succ, List.set_cons_zero]
            refine gw_val (by kernel_rfl) (some 81) rfl (.int .i64 e1) (by kernel_rfl) ?_
            simp only [Act.put, List.setIfInBounds_toArray, List.set_cons_succ, List.set_cons_zero]
            refine gw_val (by kernel_rfl) (some 82) rfl (.bool true) (eql_e rfl (e1) (e1) (decide_eq_true (rfl)) (by kernel_rfl) (by kernel_rfl) _) ?_
            simp only [Act.put, List.setIfInBounds_toArray, List.set_cons_succ, List.set_cons_zero]
            refine gw_val (by kernel_rfl) (some 83) rfl (.bool true) (by kernel_rfl) ?_
            simp only [Act.put, List.setIfInBounds_toArray, List.set_cons_succ, List.set_cons_zero]
            refine gw_val (by kernel_rfl) (some 84) rfl (.bool true) (by kernel_rfl) ?_
            simp only [Act.put, List.setIfInBounds_toArray, List.set_cons_succ, List.set_cons_zero]
            refine gw_val (by kernel_rfl) (some 85) rfl (.int .i64 ee) (by kernel_rfl) ?_
            simp only [Act.put, List.setIfInBounds_toArray, List.set_cons_succ, List.set_cons_zero]
            refine gw_val (by kernel_rfl) (some 86) rfl (.bool false) (eql_e rfl ee 0 hen2 (by kernel_rfl) (by kernel_rfl) _) ?_
            simp only [Act.put, List.setIfInBounds_toArray, List.set_cons_succ, List.set_cons_zero]
            refine gw_val (by kernel_rfl) (some 87) rfl (.int .u8 n) (by kernel_rfl) ?_
            simp only [Act.put, List.setIfInBounds_toArray, List.set_cons_succ, List.set_cons_zero]
            refine gw_val (by kernel_rfl) (some 88) rfl (.int .u8 (n % 3 : Nat)) (rem_u8 rfl n 3 (by decide) (by kernel_rfl) (by kernel_rfl) _) ?_
            simp only [Act.put, List.setIfInBounds_toArray, List.set_cons_succ, List.set_cons_zero]
            refine gw_val (by kernel_rfl) (some 89) rfl (.bool false) (lss_8 rfl ((n % 3 : Nat)) (2) (decide_eq_false (by omega)) (by kernel_rfl) (by kernel_rfl) _) ?_
            simp only [Act.put, List.setIfInBounds_toArray, List.set_cons_succ, List.set_cons_zero]
            refine gw_val (by kernel_rfl) (some 90) rfl (.bool false) (by kernel_rfl) ?_
            simp only [Act.put, List.setIfInBounds_toArray, List.set_cons_succ, List.set_cons_zero]
            with_reducible refine gw_not (by kernel_rfl) (some 91) rfl ?_
            simp only [Act.put, List.setIfInBounds_toArray, List.set_cons_succ, List.set_cons_zero]
            with_reducible refine gw_not (by kernel_rfl) (some 92) rfl ?_
            simp only [Act.put, List.setIfInBounds_toArray, List.set_cons_succ, List.set_cons_zero]
            with_reducible refine gw_not (by kernel_rfl) (some 93) rfl ?_
            simp only [Act.put, List.setIfInBounds_toArray, List.set_cons_succ, List.set_cons_zero]
            refine gw_val (by kernel_rfl) (some 94) rfl (.bool false) (by kernel_rfl) ?_
            simp only [Act.put, List.setIfInBounds_toArray, List.set_cons_succ, List.set_cons_zero]
            refine gw_val (by kernel_rfl) (some 95) rfl (.bool true) (eql_b0 rfl false (by kernel_rfl) (by kernel_rfl) _) ?_
            simp only [Act.put, List.setIfInBounds_toArray, List.set_cons_succ, List.set_cons_zero]
            refine gw_val (by kernel_rfl) (some 96) rfl (.bool true) (by kernel_rfl) ?_
            simp only [Act.put, List.setIfInBounds_toArray, List.set_cons_succ, List.set_cons_zero]
            refine gw_val (by kernel_rfl) (some 97) rfl (.bool true) (by kernel_rfl) ?_
            simp only [Act.put, List.setIfInBounds_toArray, List.set_cons_succ, List.set_cons_zero]
            refine gw_call (by kernel_rfl) (some 98) rfl 9 #[] (.bool true) (fun w' => Below w.heap.size w w') (by kernel_rfl) (CK) (fun VK hVK => ?_)
            simp only [Act.put, List.setIfInBounds_toArray, List.set_cons_succ, List.set_cons_zero]
            refine gw_val (by kernel_rfl) (some 99) rfl (.bool true) (by kernel_rfl) ?_
            simp only [Act.put, List.setIfInBounds_toArray, List.set_cons_succ, List.set_cons_zero]
            refine gw_val (by kernel_rfl) (some 6) rfl (.bool true) (by kernel_rfl) ?_
            simp only [Act.put, List.setIfInBounds_toArray, List.set_cons_succ, List.set_cons_zero]
            apply wpList_nil
            have HE := Lib.hid hVK
            clear hVK CS CK hbV9
            go_wp2_with fail
            go_ret
            exact ⟨rfl, HE.out⟩
end Go.Proofs.Ytaaeepanelmgnaa
