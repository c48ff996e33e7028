/-
  The walk of the statement on a nil heap.
-/
import Derived.Test.YtepdibnbnhkpnaaMH
namespace Go.Proofs.Ytepdibnbnhkpnaa
open Go.RowKit
set_option linter.unusedSimpArgs false
set_option linter.unusedVariables false

theorem eq_zz {ρ : Operand → Value} {o : Oper} {X Y : Operand} (ho : o.op = .binOp .eql 24 X Y 24) (x : It) (hx : ρ X = .agg (itA x)) (hy : ρ Y = .agg (itA x)) (w : World) : (execOp ρ o).run Try.prog w = .ok (.value (.bool true)) w := by
  have := eq_it ho x x hx hy w
  simpa using this
set_option maxRecDepth 100000 in
set_option maxHeartbeats 8000000 in
theorem nil_core {R : HRep} (hC : HeapC R 13 15 17 20 19 23 21 11) (hN : NilHC 15 17 20 19 23 21) (x : It) (w : World) : Calls Try.prog 6 #[.agg (itA x)] w fun e w' => e = .returned (.bool true) ∧ Below w.heap.size w w' := by
  obtain ⟨hb0, hX0⟩ := (⟨(Gd.alloc w _).1, heap_alloc_last w _⟩ : Below w.heap.size w (w.alloc (.cells (itA x) 24)) ∧ Bx (w.alloc (.cells (itA x) 24)) w.heap.size (itA x) 24)
  have HN := Lib.hid hN
  have HK := Lib.hid (fun V => known_true hC V)
  obtain ⟨g1, hg1⟩ : ∃ g1, w.heap.size = g1 := ⟨_, rfl⟩
  rw [hg1] at hX0
  have HB0 := Lib.hid hb0
  clear hb0 hC hN
  go_enter Try.func6, Try.ntmps6
  go_upto_region 1 with fail
  change Code.wp _ _ _ _ (w.alloc (.cells (itA x) 24))
  generalize w.alloc (.cells (itA x) 24) = W at *
  have HG1 := Lib.hid hg1
  clear hg1
  apply wp_region_lit
  refine gw_val (by kernel_rfl) (some 3) rfl (.pointer none) (by kernel_rfl) ?_
  simp only [Act.put, List.setIfInBounds_toArray, List.set_cons_succ, List.set_cons_zero]
  apply wpList_nil
  go_upto_region 2 with fail
  apply wp_region_lit
  refine gw_val (by kernel_rfl) (some 9) rfl (.pointer none) (by kernel_rfl) ?_
  simp only [Act.put, List.setIfInBounds_toArray, List.set_cons_succ, List.set_cons_zero]
  refine gw_call (by kernel_rfl) (some 10) rfl 17 #[.pointer none] (.tuple #[.agg (itA zIt), .bool false]) (fun w' => Below W.heap.size W w') (by kernel_rfl) (HN.out.pop W) (fun V1 hb => ?_)
  simp only [Act.put, List.setIfInBounds_toArray, List.set_cons_succ, List.set_cons_zero]
  obtain ⟨V2, hst, hgd, hbxg4⟩ := new_box V1 zIt
  have hbbg4 := hb.trans (hgd.1.mono hb.size)
  refine gw_val (by kernel_rfl) (some 8) rfl (.tuple #[.agg (itA zIt), .bool false]) (by kernel_rfl) ?_
  simp only [Act.put, List.setIfInBounds_toArray, List.set_cons_succ, List.set_cons_zero]
  refine gw_val (by kernel_rfl) (some 11) rfl (.agg (itA zIt)) (by kernel_rfl) ?_
  simp only [Act.put, List.setIfInBounds_toArray, List.set_cons_succ, List.set_cons_zero]
  refine gw_val (by kernel_rfl) (some 12) rfl (.bool false) (by kernel_rfl) ?_
  simp only [Act.put, List.setIfInBounds_toArray, List.set_cons_succ, List.set_cons_zero]
  refine run_to rfl (some 4) rfl (.pointer (some ⟨V1.heap.size, 0, none⟩)) (V1.alloc (.cells (itA zIt) 24)) (by kernel_rfl) ?_
  simp only [Act.put, List.setIfInBounds_toArray, List.set_cons_succ, List.set_cons_zero]
  refine gw_store (by kernel_rfl) rfl 24 (.tmp 4) (.tmp 11) rfl (.pointer (some ⟨V1.heap.size, 0, none⟩)) (.agg (itA zIt)) (by kernel_rfl) (by kernel_rfl) V2 hst ?_
  refine gw_val (by kernel_rfl) (some 5) rfl (.bool false) (by kernel_rfl) ?_
  simp only [Act.put, List.setIfInBounds_toArray, List.set_cons_succ, List.set_cons_zero]
  apply wpList_nil
  obtain ⟨g4, hg4⟩ : ∃ g4, V1.heap.size = g4 := ⟨_, rfl⟩
  rw [hg4] at hbxg4 ⊢
  clear hst hb hgd hg4
  have HX2 := Lib.hid (hX0.below hX0.lt hbbg4)
  have HB2 := Lib.hid (HB0.out.trans (hbbg4.mono HB0.out.size))
  clear hX0 hbbg4
  go_upto_region 3 with fail
  apply wp_region_lit
  refine gw_val (by kernel_rfl) (some 14) rfl (.pointer none) (by kernel_rfl) ?_
  simp only [Act.put, List.setIfInBounds_toArray, List.set_cons_succ, List.set_cons_zero]
  refine gw_call (by kernel_rfl) (some 15) rfl 20 #[.pointer none] (.tuple #[.agg (itA zIt), .bool false]) (fun w' => Below V2.heap.size V2 w') (by kernel_rfl) (HN.out.peek V2) (fun V3 hb => ?_)
  simp only [Act.put, List.setIfInBounds_toArray, List.set_cons_succ, List.set_cons_zero]
  obtain ⟨V4, hst, hgd, hbxg6⟩ := new_box V3 zIt
  have hbbg6 := hb.trans (hgd.1.mono hb.size)
  refine gw_val (by kernel_rfl) (some 13) rfl (.tuple #[.agg (itA zIt), .bool false]) (by kernel_rfl) ?_
  simp only [Act.put, List.setIfInBounds_toArray, List.set_cons_succ, List.set_cons_zero]
  refine gw_val (by kernel_rfl) (some 16) rfl (.agg (itA zIt)) (by kernel_rfl) ?_
  simp only [Act.put, List.setIfInBounds_toArray, List.set_cons_succ, List.set_cons_zero]
  refine gw_val (by kernel_rfl) (some 17) rfl (.bool false) (by kernel_rfl) ?_
  simp only [Act.put, List.setIfInBounds_toArray, List.set_cons_succ, List.set_cons_zero]
  refine run_to rfl (some 6) rfl (.pointer (some ⟨V3.heap.size, 0, none⟩)) (V3.alloc (.cells (itA zIt) 24)) (by kernel_rfl) ?_
  simp only [Act.put, List.setIfInBounds_toArray, List.set_cons_succ, List.set_cons_zero]
  refine gw_store (by kernel_rfl) rfl 24 (.tmp 6) (.tmp 16) rfl (.pointer (some ⟨V3.heap.size, 0, none⟩)) (.agg (itA zIt)) (by kernel_rfl) (by kernel_rfl) V4 hst ?_
  refine gw_val (by kernel_rfl) (some 7) rfl (.bool false) (by kernel_rfl) ?_
  simp only [Act.put, List.setIfInBounds_toArray, List.set_cons_succ, List.set_cons_zero]
  apply wpList_nil
  obtain ⟨g6, hg6⟩ : ∃ g6, V3.heap.size = g6 := ⟨_, rfl⟩
  rw [hg6] at hbxg6 ⊢
  clear hst hb hgd hg6
  have HX4 := Lib.hid (HX2.out.below HX2.out.lt hbbg6)
  have HY4 := Lib.hid (hbxg4.below hbxg4.lt hbbg6)
  have HZ4 := Lib.hid hbxg6
  have HB4 := Lib.hid (HB2.out.trans (hbbg6.mono HB2.out.size))
  clear hbbg6 hbxg4 hbxg6 HX2 HB2 HB0
  go_upto_region 4 with fail
  apply wp_region_lit
  refine gw_val (by kernel_rfl) (some 18) rfl (.pointer none) (by kernel_rfl) ?_
  simp only [Act.put, List.setIfInBounds_toArray, List.set_cons_succ, List.set_cons_zero]
  refine gw_load (by kernel_rfl) (some 19) rfl 24 (.tmp 1) rfl ⟨g1, 0, none⟩ (.agg (itA x)) (by kernel_rfl) (load_box HX4.out) ?_
  simp only [Act.put, List.setIfInBounds_toArray, List.set_cons_succ, List.set_cons_zero]
  refine gw_call (by kernel_rfl) (some 20) rfl 15 #[.pointer none, .agg (itA x)] (.bool false) (fun w' => Below V4.heap.size V4 w') (by kernel_rfl) (HN.out.push V4 x) (fun V5 hb5 => ?_)
  have HX5 := Lib.hid (HX4.out.below HX4.out.lt hb5)
  have HY5 := Lib.hid (HY4.out.below HY4.out.lt hb5)
  have HZ5 := Lib.hid (HZ4.out.below HZ4.out.lt hb5)
  have HB5 := Lib.hid (HB4.out.trans (hb5.mono HB4.out.size))
  clear hb5 HX4 HY4 HZ4 HB4
  simp only [Act.put, List.setIfInBounds_toArray, List.set_cons_succ, List.set_cons_zero]
  refine gw_val (by kernel_rfl) (some 21) rfl (.bool true) (by kernel_rfl) ?_
  simp only [Act.put, List.setIfInBounds_toArray, List.set_cons_succ, List.set_cons_zero]
  refine gw_val (by kernel_rfl) (some 22) rfl (.bool true) (by kernel_rfl) ?_
  simp only [Act.put, List.setIfInBounds_toArray, List.set_cons_succ, List.set_cons_zero]
  refine gw_val (by kernel_rfl) (some 23) rfl (.bool false) (by kernel_rfl) ?_
  simp only [Act.put, List.setIfInBounds_toArray, List.set_cons_succ, List.set_cons_zero]
  refine gw_val (by kernel_rfl) (some 24) rfl (.bool true) (by kernel_rfl) ?_
  simp only [Act.put, List.setIfInBounds_toArray, List.set_cons_succ, List.set_cons_zero]
  refine gw_val (by kernel_rfl) (some 25) rfl (.bool true) (by kernel_rfl) ?_
  simp only [Act.put, List.setIfInBounds_toArray, List.set_cons_succ, List.set_cons_zero]
  refine gw_val (by kernel_rfl) (some 26) rfl (.bool true) (by kernel_rfl) ?_
  simp only [Act.put, List.setIfInBounds_toArray, List.set_cons_succ, List.set_cons_zero]
  refine gw_val (by kernel_rfl) (some 27) rfl (.bool false) (by kernel_rfl) ?_
  simp only [Act.put, List.setIfInBounds_toArray, List.set_cons_succ, List.set_cons_zero]
  refine gw_val (by kernel_rfl) (some 28) rfl (.bool true) (by kernel_rfl) ?_
  simp only [Act.put, List.setIfInBounds_toArray, List.set_cons_succ, List.set_cons_zero]
  refine gw_val (by kernel_rfl) (some 29) rfl (.bool true) (by kernel_rfl) ?_
  simp only [Act.put, List.setIfInBounds_toArray, List.set_cons_succ, List.set_cons_zero]
  refine gw_val (by kernel_rfl) (some 30) rfl (.bool true) (by kernel_rfl) ?_
  simp only [Act.put, List.setIfInBounds_toArray, List.set_cons_succ, List.set_cons_zero]
  refine gw_load (by kernel_rfl) (some 31) rfl 24 (.tmp 4) rfl ⟨g4, 0, none⟩ (.agg (itA zIt)) (by kernel_rfl) (load_box HY5.out) ?_
  simp only [Act.put, List.setIfInBounds_toArray, List.set_cons_succ, List.set_cons_zero]
  refine gw_val (by kernel_rfl) (some 32) rfl (.agg (itA zIt)) (by kernel_rfl) ?_
  simp only [Act.put, List.setIfInBounds_toArray, List.set_cons_succ, List.set_cons_zero]
  refine gw_val (by kernel_rfl) (some 33) rfl (.bool true) (eq_zz rfl zIt (by kernel_rfl) (by kernel_rfl) _) ?_
  simp only [Act.put, List.setIfInBounds_toArray, List.set_cons_succ, List.set_cons_zero]
  refine gw_val (by kernel_rfl) (some 34) rfl (.bool true) (by kernel_rfl) ?_
  simp only [Act.put, List.setIfInBounds_toArray, List.set_cons_succ, List.set_cons_zero]
  refine gw_val (by kernel_rfl) (some 35) rfl (.bool true) (by kernel_rfl) ?_
  simp only [Act.put, List.setIfInBounds_toArray, List.set_cons_succ, List.set_cons_zero]
  refine gw_load (by kernel_rfl) (some 36) rfl 24 (.tmp 6) rfl ⟨g6, 0, none⟩ (.agg (itA zIt)) (by kernel_rfl) (load_box HZ5.out) ?_
  simp only [Act.put, List.setIfInBounds_toArray, List.set_cons_succ, List.set_cons_zero]
  refine gw_val (by kernel_rfl) (some 37) rfl (.agg (itA zIt)) (by kernel_rfl) ?_
  simp only [Act.put, List.setIfInBounds_toArray, List.set_cons_succ, List.set_cons_zero]
  refine gw_val (by kernel_rfl) (some 38) rfl (.bool true) (eq_zz rfl zIt (by kernel_rfl) (by kernel_rfl) _) ?_
  simp only [Act.put, List.setIfInBounds_toArray, List.set_cons_succ, List.set_cons_zero]
  refine gw_val (by kernel_rfl) (some 39) rfl (.bool true) (by kernel_rfl) ?_
  simp only [Act.put, List.setIfInBounds_toArray, List.set_cons_succ, List.set_cons_zero]
  refine gw_val (by kernel_rfl) (some 40) rfl (.bool true) (by kernel_rfl) ?_
  simp only [Act.put, List.setIfInBounds_toArray, List.set_cons_succ, List.set_cons_zero]
  refine gw_val (by kernel_rfl) (some 41) rfl (.pointer none) (by kernel_rfl) ?_
  simp only [Act.put, List.setIfInBounds_toArray, List.set_cons_succ, List.set_cons_zero]
  refine gw_val (by kernel_rfl) (some 42) rfl (.pointer (some ⟨g1, 0, none⟩)) (by kernel_rfl) ?_
  simp only [Act.put, List.setIfInBounds_toArray, List.set_cons_succ, List.set_cons_zero]
  refine gw_load (by kernel_rfl) (some 43) rfl 3 (.tmp 42) rfl ⟨g1, 0, none⟩ (.int .i64 x.1) (by kernel_rfl) (ld_f0 HX5.out) ?_
  simp only [Act.put, List.setIfInBounds_toArray, List.set_cons_succ, List.set_cons_zero]
  refine gw_call (by kernel_rfl) (some 44) rfl 19 #[.pointer none, .int .i64 x.1] (.bool false) (fun w' => Below V5.heap.size V5 w') (by kernel_rfl) (HN.out.remove V5 x.1) (fun V6 hb6 => ?_)
  have HB6 := Lib.hid (HB5.out.trans (hb6.mono HB5.out.size))
  clear hb6 HX5 HY5 HZ5 HB5
  simp only [Act.put, List.setIfInBounds_toArray, List.set_cons_succ, List.set_cons_zero]
  refine gw_val (by kernel_rfl) (some 45) rfl (.bool true) (by kernel_rfl) ?_
  simp only [Act.put, List.setIfInBounds_toArray, List.set_cons_succ, List.set_cons_zero]
  refine gw_val (by kernel_rfl) (some 46) rfl (.bool true) (by kernel_rfl) ?_
  simp only [Act.put, List.setIfInBounds_toArray, List.set_cons_succ, List.set_cons_zero]
  refine gw_val (by kernel_rfl) (some 47) rfl (.bool true) (by kernel_rfl) ?_
  simp only [Act.put, List.setIfInBounds_toArray, List.set_cons_succ, List.set_cons_zero]
  refine gw_val (by kernel_rfl) (some 48) rfl (.pointer none) (by kernel_rfl) ?_
  simp only [Act.put, List.setIfInBounds_toArray, List.set_cons_succ, List.set_cons_zero]
  refine gw_callE (by kernel_rfl) (some 49) rfl 23 #[.pointer none] (fun v w' => ∃ a c, v = .slice a 0 c ∧ Below V6.heap.size V6 w') (by kernel_rfl) ((HN.out.sorted V6).mono fun e w' q => by obtain ⟨a, c, he, h⟩ := q; exact ⟨_, he, a, c, rfl, h⟩) (fun v V7 hq => ?_)
  obtain ⟨aq, cq, rfl, hb7⟩ := hq
  have HB7 := Lib.hid (HB6.out.trans (hb7.mono HB6.out.size))
  clear hb7 HB6
  simp only [Act.put, List.setIfInBounds_toArray, List.set_cons_succ, List.set_cons_zero]
  refine gw_val (by kernel_rfl) (some 50) rfl (.int .i64 0) (by kernel_rfl) ?_
  simp only [Act.put, List.setIfInBounds_toArray, List.set_cons_succ, List.set_cons_zero]
  refine gw_val (by kernel_rfl) (some 51) rfl (.bool true) (by kernel_rfl) ?_
  simp only [Act.put, List.setIfInBounds_toArray, List.set_cons_succ, List.set_cons_zero]
  refine gw_val (by kernel_rfl) (some 52) rfl (.bool true) (by kernel_rfl) ?_
  simp only [Act.put, List.setIfInBounds_toArray, List.set_cons_succ, List.set_cons_zero]
  refine gw_val (by kernel_rfl) (some 53) rfl (.bool true) (by kernel_rfl) ?_
  simp only [Act.put, List.setIfInBounds_toArray, List.set_cons_succ, List.set_cons_zero]
  refine gw_val (by kernel_rfl) (some 54) rfl (.pointer none) (by kernel_rfl) ?_
  simp only [Act.put, List.setIfInBounds_toArray, List.set_cons_succ, List.set_cons_zero]
  refine gw_call (by kernel_rfl) (some 55) rfl 21 #[.pointer none] (.int .i64 0) (fun w' => Below V7.heap.size V7 w') (by kernel_rfl) (HN.out.len V7) (fun V8 hb8 => ?_)
  have HB8 := Lib.hid (HB7.out.trans (hb8.mono HB7.out.size))
  clear hb8 HB7
  simp only [Act.put, List.setIfInBounds_toArray, List.set_cons_succ, List.set_cons_zero]
  refine gw_val (by kernel_rfl) (some 56) rfl (.bool true) (by kernel_rfl) ?_
  simp only [Act.put, List.setIfInBounds_toArray, List.set_cons_succ, List.set_cons_zero]
  refine gw_val (by kernel_rfl) (some 57) rfl (.bool true) (by kernel_rfl) ?_
  simp only [Act.put, List.setIfInBounds_toArray, List.set_cons_succ, List.set_cons_zero]
  refine gw_val (by kernel_rfl) (some 58) rfl (.bool true) (by kernel_rfl) ?_
  simp only [Act.put, List.setIfInBounds_toArray, List.set_cons_succ, List.set_cons_zero]
  refine gw_call (by kernel_rfl) (some 59) rfl 8 #[] (.bool true) (fun w' => Below V8.heap.size V8 w') (by kernel_rfl) (HK.out V8) (fun V9 hb9 => ?_)
  have HB9 := Lib.hid (HB8.out.trans (hb9.mono HB8.out.size))
  clear hb9 HB8 HK
  simp only [Act.put, List.setIfInBounds_toArray, List.set_cons_succ, List.set_cons_zero]
  refine gw_val (by kernel_rfl) (some 60) rfl (.bool true) (by kernel_rfl) ?_
  simp only [Act.put, List.setIfInBounds_toArray, List.set_cons_succ, List.set_cons_zero]
  refine gw_val (by kernel_rfl) (some 2) rfl (.bool true) (by kernel_rfl) ?_
  simp only [Act.put, List.setIfInBounds_toArray, List.set_cons_succ, List.set_cons_zero]
  apply wpList_nil
  go_wp2_with fail
  go_ret
  exact ⟨rfl, HB9.out⟩
end Go.Proofs.Ytepdibnbnhkpnaa
