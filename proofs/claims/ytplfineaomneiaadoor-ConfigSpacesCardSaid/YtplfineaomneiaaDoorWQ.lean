/-
 Long of two rows; rows of texts cut; what the drawn regions of ConfigSpaces keep.
-/
import Derived.Test.YtplfineaomneiaaDoorWS1
namespace Go.Proofs.YtplfineaomneiaaDoor
open Go.RowKit
set_option maxRecDepth 100000
set_option linter.unusedSimpArgs false
set_option linter.unusedVariables false

set_option maxRecDepth 100000 in
set_option maxHeartbeats 8000000 in
theorem long_two (g : Nat) (a : Option Addr) (n c : Nat) (a2 : Option Addr) (n2 c2 : Nat) (w : World) (hX : Bx w g #[.slice a n c, .slice a2 n2 c2] 25) (hn : n + n2 ≤ 9223372036854775807) : Calls Tryd.prog 9 #[.slice (some ⟨g, 0, none⟩) 2 2] w fun e w' => e = .returned (.bool (decide (160 < n + n2))) ∧ w = w' := by
 have hl0 : (Instr.loadAt 25 (.pointer (some ⟨g, 0, none⟩))).run Tryd.prog w = .ok (.slice a n c) w := hX.load (i := 0) rfl (by kernel_rfl)
 have hl1 : (Instr.loadAt 25 (.pointer (some ⟨g, 1, none⟩))).run Tryd.prog w = .ok (.slice a2 n2 c2) w := hX.load (i := 1) rfl (by kernel_rfl)
 obtain ⟨q, hq⟩ : ∃ q, decide (160 < n + n2) = q := ⟨_, rfl⟩
 rw [hq]
 clear hX
 go_enter Tryd.func9, Tryd.ntmps9
 go_upto_region 1 with fail
 refine wl <| gz1 (.int .i64 0) <| wn ?_
 simp only [pu]
 go_upto_region 2 with fail
 refine wl <| gz3 (.slice (some ⟨g, 0, none⟩) 2 2) (.int .i64 2) (.int .i64 0) <| wn ?_
 simp only [pu]
 go_wp2_with fail
 go_loopg [3, 8] 2 (fun gg s3 s8 wx => ((s3 = .int .i64 (0 : Nat) ∧ s8 = .int .i64 (0 : Nat) ∧ gg = 2) ∨ (s3 = .int .i64 (0 + n : Nat) ∧ s8 = .int .i64 (1 : Nat) ∧ gg = 1) ∨ (s3 = .int .i64 (0 + n + n2 : Nat) ∧ s8 = .int .i64 (2 : Nat) ∧ gg = 0)) ∧ w = wx)
 case atStart => exact ⟨.inl ⟨rfl, rfl, rfl⟩, rfl⟩
 case round =>
  obtain ⟨⟨rfl, rfl, rfl⟩ | ⟨rfl, rfl, rfl⟩ | ⟨rfl, rfl, rfl⟩, rfl⟩ := hrel
  ·skip
   go_upto_region 3 with fail
   refine wl <| gzb (lss_n rfl ((0 : Nat)) (2) dT) <| wn ?_
   simp only [pu]
   go_upto_region 4 with fail
   refine wl <| gzv (.pointer (some ⟨g, 0, none⟩)) (idx_row g 0 2 2 0 (by omega) _ _ _ rfl (by kernel_rfl) (by kernel_rfl)) <| gzl rfl ⟨g, 0, none⟩ (.slice a n c) (hl0) <| gz1 (.slice a n c) <| wn ?_
   simp only [pu]
   go_upto_region 5 with fail
   refine wl <| gz3 (.int .i64 (0 : Nat)) (.slice a n c) (.int .i64 n) <| gzw (.int .i64 (0 + n : Nat)) (add_nat rfl 0 n (by omega)) <| gz1 (.int .i64 (0 + n : Nat)) <| wn ?_
   simp only [pu]
   go_upto_region 6 with fail
   refine wl <| gzv (.int .i64 (1 : Nat)) (add_one rfl 0 (by omega) (by kernel_rfl) _) <| gz1 (.int .i64 (1 : Nat)) <| wn ?_
   simp only [pu]
   go_wp2_with fail
   go_roundg 1
   case measure => omega
   case rel => exact ⟨.inr (.inl ⟨rfl, rfl, rfl⟩), rfl⟩
  ·skip
   go_upto_region 3 with fail
   refine wl <| gzb (lss_n rfl ((1 : Nat)) (2) dT) <| wn ?_
   simp only [pu]
   go_upto_region 4 with fail
   refine wl <| gzv (.pointer (some ⟨g, 1, none⟩)) (idx_row g 0 2 2 1 (by omega) _ _ _ rfl (by kernel_rfl) (by kernel_rfl)) <| gzl rfl ⟨g, 1, none⟩ (.slice a2 n2 c2) (hl1) <| gz1 (.slice a2 n2 c2) <| wn ?_
   simp only [pu]
   go_upto_region 5 with fail
   refine wl <| gz3 (.int .i64 (0 + n : Nat)) (.slice a2 n2 c2) (.int .i64 n2) <| gzw (.int .i64 (0 + n + n2 : Nat)) (add_nat rfl (0 + n) n2 (by omega)) <| gz1 (.int .i64 (0 + n + n2 : Nat)) <| wn ?_
   simp only [pu]
   go_upto_region 6 with fail
   refine wl <| gzv (.int .i64 (2 : Nat)) (add_one rfl 1 (by omega) (by kernel_rfl) _) <| gz1 (.int .i64 (2 : Nat)) <| wn ?_
   simp only [pu]
   go_wp2_with fail
   go_roundg 0
   case measure => omega
   case rel => exact ⟨.inr (.inr ⟨rfl, rfl, rfl⟩), rfl⟩
  ·skip
   go_upto_region 3 with fail
   refine wl <| gzb (lss_n rfl ((2 : Nat)) (2) dF) <| wn ?_
   simp only [pu]
   have hq2 : decide ((160 : Int) < ((0 + n + n2 : Nat) : Int)) = q := by rw [← hq]; exact decide_eq_decide.2 (by omega)
   go_upto_region 7 with fail
   refine wl <| gz1 (.int .i64 (0 + n + n2 : Nat)) <| gzw (.bool q) (gtr_n rfl (0 + n + n2 : Nat) 160 hq2) <| gz1 (.bool q) <| wn ?_
   simp only [pu]
   go_wp2_with fail
   go_ret
   exact ⟨rfl, rfl⟩
theorem two_row (a : Option Addr) (n c : Nat) (a2 : Option Addr) (n2 c2 : Nat) (w : World) : (Instr.buildSlice 54 2 #[(0, .slice a n c), (1, .slice a2 n2 c2)]).run Tryd.prog w = .ok (.slice (some ⟨w.heap.size, 0, none⟩) 2 2) (w.alloc (.cells #[.slice a n c, .slice a2 n2 c2] 25)) := by
 obtain ⟨i0, hi, hz0, hz1, hz2⟩ := info_parts infoS
 refine run_buildSlice w 54 25 2 _ #[.slice a n c, .slice a2 n2 c2] i0 _ Tryd.underlying54 hi hz0 (by rw [hz1]; omega) (by rw [hz1]; omega) ?_
 rw [hz1]
 kernel_rfl
section
variable {ρ : Operand → Value} {o : Oper} {x y : Operand}
theorem ex_to (ho : o.op = .slice 39 x none (some y) none) (a : Option Addr) (n c k : Nat) (hk : k ≤ c) (hx : ρ x = .slice a n c) (hy : ρ y = .int .i64 k) (w : World) : (execOp ρ o).run Tryd.prog w = .ok (.value (.slice a k c)) w := by
 have h := cut_to (P := Tryd.prog) (t := 39) (s := 1) (by kernel_rfl) (fun w => by kernel_rfl) a n c k w hk
 unfold execOp
 simp only [ho, hx, hy, Option.map_some, Option.map_none, Sem.run_bind, run_sliceAt_slice _ _ _ _ _ _ Tryd.underlying39, h]
 rfl
theorem ex_from (ho : o.op = .slice 39 x (some y) none none) (a : Option Addr) (n c k : Nat) (hk : k ≤ n) (hx : ρ x = .slice a n c) (hy : ρ y = .int .i64 k) (w : World) : (execOp ρ o).run Tryd.prog w = .ok (.value (.slice (fromS 1 a c k) (n - k) (c - k))) w := by
 have h := cut_from (P := Tryd.prog) (t := 39) (s := 1) (by kernel_rfl) (fun w => by kernel_rfl) a n c k w hk
 unfold execOp
 simp only [ho, hx, hy, Option.map_some, Option.map_none, Sem.run_bind, run_sliceAt_slice _ _ _ _ _ _ Tryd.underlying39, h]
 rfl
end
theorem strs_take (S : List ByteArray) (k : Nat) : (strs S).take k = strs (S.take k) := by unfold strs; rw [List.map_take]
theorem strs_drop (S : List ByteArray) (k : Nat) : (strs S).drop (k * 1) = strs (S.drop k) := by unfold strs; rw [List.map_drop, Nat.mul_one]
theorem nil_str (w : World) : (Instr.buildSlice 39 0 #[]).run Tryd.prog w = .ok (.slice (some ⟨w.heap.size, 0, none⟩) 0 0) (w.alloc (.cells #[] 9)) := build_nil Tryd.underlying39 infoSt w
theorem row_new (w : World) (B : Nat) (hB : B ≤ w.heap.size) : RowS (w.alloc (.cells #[] 9)) B (.slice (some ⟨w.heap.size, 0, none⟩) 0 0) [] := by
 refine ⟨rfl, .inr ⟨w.heap.size, 0, #[], rfl, hB, heap_alloc_last w _, Nat.le_refl _, ?_, ?_⟩⟩ <;> simp [strs]
end Go.Proofs.YtplfineaomneiaaDoor
