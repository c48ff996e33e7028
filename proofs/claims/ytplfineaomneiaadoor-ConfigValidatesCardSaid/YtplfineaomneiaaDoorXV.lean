/-
 The program's value, set, settings: contracts.
-/
import Derived.Test.YtplfineaomneiaaDoorXW
import Derived.Test.YtplfineaomneiaaDoorSQC
namespace Go.Proofs.YtplfineaomneiaaDoor
attribute [local irreducible] wpList wpQuiet
open Go.RowKit
set_option maxRecDepth 100000
set_option linter.unusedSimpArgs false
set_option linter.unusedVariables false

/-- The greatest values in the program's table. -/
def grP : List Int := [512, 1048576, 4096, 1024, 1073741824, 1073741824, 1, 1048576, 1125899906842624, 18446744073709551615, 7, 8]
def tyN (j : Nat) : Nat := if j = 6 then 81 else if j = 9 then 82 else 80
/-- The setting of a key, over a configuration at block g. -/
abbrev sgA (g j : Nat) : Array Value := #[.string (keysB.getD j ⟨#[]⟩), .iface (tyN j) (.pointer (some ⟨g, j, none⟩)), .int .i64 (leastL.getD j 0), .int .u64 (grP.getD j 0)]
def sgL (g j : Nat) : List Value := (sgA g j).toList
def stC (g : Nat) : List Value := (List.range 12).flatMap (sgL g)
theorem sg_len (g j : Nat) : (sgL g j).length = 4 := rfl
theorem infoG : (Tryd.prog.info? 59).map (fun i => (i.zero, i.size, i.bytes)) = some (some (.agg #[.string ByteArray.empty, .nilIface, .int .i64 0, .int .u64 0]), 4, 48) := by kernel_rfl
theorem build_st (g : Nat) (V : World) : (Instr.buildSlice 55 12 #[(0, .agg #[.string ⟨#[109, 97, 120, 45, 116, 120, 115]⟩, .iface 80 (.pointer (some ⟨g, 0, none⟩)), .int .i64 1, .int .u64 512]), (1, .agg #[.string ⟨#[109, 97, 120, 45, 98, 121, 116, 101, 115]⟩, .iface 80 (.pointer (some ⟨g, 1, none⟩)), .int .i64 1, .int .u64 1048576]), (2, .agg #[.string ⟨#[109, 97, 120, 45, 116, 120, 45, 98, 121, 116, 101, 115]⟩, .iface 80 (.pointer (some ⟨g, 2, none⟩)), .int .i64 1, .int .u64 4096]), (3, .agg #[.string ⟨#[99, 97, 99, 104, 101, 45, 115, 105, 122, 101]⟩, .iface 80 (.pointer (some ⟨g, 3, none⟩)), .int .i64 0, .int .u64 1024]), (4, .agg #[.string ⟨#[116, 116, 108, 45, 98, 108, 111, 99, 107, 115]⟩, .iface 80 (.pointer (some ⟨g, 4, none⟩)), .int .i64 0, .int .u64 1073741824]), (5, .agg #[.string ⟨#[116, 116, 108, 45, 116, 105, 109, 101]⟩, .iface 80 (.pointer (some ⟨g, 5, none⟩)), .int .i64 0, .int .u64 1073741824]), (6, .agg #[.string ⟨#[107, 101, 101, 112, 45, 105, 110, 118, 97, 108, 105, 100]⟩, .iface 81 (.pointer (some ⟨g, 6, none⟩)), .int .i64 0, .int .u64 1]), (7, .agg #[.string ⟨#[98, 108, 111, 99, 107, 45, 98, 121, 116, 101, 115]⟩, .iface 80 (.pointer (some ⟨g, 7, none⟩)), .int .i64 1, .int .u64 1048576]), (8, .agg #[.string ⟨#[98, 108, 111, 99, 107, 45, 103, 97, 115]⟩, .iface 80 (.pointer (some ⟨g, 8, none⟩)), .int .i64 (-1), .int .u64 1125899906842624]), (9, .agg #[.string ⟨#[112, 114, 105, 99, 101]⟩, .iface 82 (.pointer (some ⟨g, 9, none⟩)), .int .i64 0, .int .u64 18446744073709551615]), (10, .agg #[.string ⟨#[115, 101, 108, 102]⟩, .iface 80 (.pointer (some ⟨g, 10, none⟩)), .int .i64 0, .int .u64 7]), (11, .agg #[.string ⟨#[110, 111, 100, 101, 115]⟩, .iface 80 (.pointer (some ⟨g, 11, none⟩)), .int .i64 1, .int .u64 8])]).run Tryd.prog V = .ok (.slice (some ⟨V.heap.size, 0, none⟩) 12 12) (V.alloc (.cells (stC g).toArray 59)) := by
 obtain ⟨i0, hi, hz0, hz1, hz2⟩ := info_parts infoG
 refine run_buildSlice V 55 59 12 _ (stC g).toArray i0 _ Tryd.underlying55 hi hz0 (by rw [hz1]; omega) (by rw [hz1]; omega) ?_
 rw [hz1]
 kernel_rfl
theorem cf_get {c : List Int} {j : Nat} (hj : j < 12) : (cfA c)[j]? = some (if j = 6 then .bool (decide (c.getD 6 0 = 1)) else if j = 9 then .int .u64 (c.getD 9 0) else .int .i64 (c.getD j 0)) := by
 match j, hj with
 | 0, _ => rfl
 | 1, _ => rfl
 | 2, _ => rfl
 | 3, _ => rfl
 | 4, _ => rfl
 | 5, _ => rfl
 | 6, _ => rfl
 | 7, _ => rfl
 | 8, _ => rfl
 | 9, _ => rfl
 | 10, _ => rfl
 | 11, _ => rfl
section
variable {ρ : Operand → Value} {o : Oper} {x y : Operand}
theorem gtr_w0 (ho : o.op = .binOp .gtr 22 x y 22) (a b : Int) {t : Bool} (ht : decide (b < a) = t) (hx : ρ x = .int .u64 a) (hy : ρ y = .int .u64 b) (w : World) : (execOp ρ o).run Tryd.prog w = .ok (.value (.bool t)) w := gtr_w ho a b ht hx hy w
theorem conv_ui (ho : o.op = .convert 22 3 x) (a b : Int) (hb : IntKind.i64.wrap a = b) (hx : ρ x = .int .u64 a) (w : World) : (execOp ρ o).run Tryd.prog w = .ok (.value (.int .i64 b)) w := by
 unfold execOp
 simp only [ho, hx]
 go_simp
theorem neg_i2 (ho : o.op = .unOp .neg 3 x) (a b : Int) (hb : IntKind.i64.wrap (-a) = b) (hx : ρ x = .int .i64 a) (w : World) : (execOp ρ o).run Tryd.prog w = .ok (.value (.int .i64 b)) w := by
 subst hb
 exact neg_i ho a hx w
end
set_option maxRecDepth 100000 in
set_option maxHeartbeats 8000000 in
theorem p_settings (g : Nat) (w : World) : Calls Tryd.prog 26 #[.pointer (some ⟨g, 0, none⟩)] w fun e w' => ∃ v, e = .returned v ∧ ∃ gs, v = .slice (some ⟨gs, 0, none⟩) 12 12 ∧ Bx w' gs (stC g).toArray 59 ∧ w.heap.size ≤ gs ∧ Below w.heap.size w w' := by
 have HF : Hid (∀ V, Below w.heap.size w V → ∃ gs, (.slice (some ⟨V.heap.size, 0, none⟩) 12 12 : Value) = .slice (some ⟨gs, 0, none⟩) 12 12 ∧ Bx (V.alloc (.cells (stC g).toArray 59)) gs (stC g).toArray 59 ∧ w.heap.size ≤ gs ∧ Below w.heap.size w (V.alloc (.cells (stC g).toArray 59))) := Lib.hid fun V h => ⟨_, rfl, heap_alloc_last V _, h.size, h.alloc h.size _⟩
 have HBU := Lib.hid (build_st g)
 go_enter Tryd.func26, Tryd.ntmps26
 go_upto_region 0 with fail
 refine wl <| gz1 (.slice none 0 0) <| wn ?_
 simp only [pu]
 go_upto_region 1 with fail
 refine wp_region_class_tail (C := fun U => Below w.heap.size w U) 60 (by kernel_rfl) (by kernel_rfl) ((Below.refl _ w).drew) ?_
 simp only [List.take_succ_cons, List.take_zero, List.drop_succ_cons, List.drop_zero]
 refine gy (.pointer (some ⟨g, 0, none⟩)) <| gy (.pointer (some ⟨g, 0, none⟩)) <| gy (.pointer (some ⟨g, 0, none⟩)) <| gy (.iface 80 (.pointer (some ⟨g, 0, none⟩))) <| gy (.agg #[.string ⟨#[109, 97, 120, 45, 116, 120, 115]⟩, .iface 80 (.pointer (some ⟨g, 0, none⟩)), .int .i64 1, .int .u64 512]) <|
   gy (.pointer (some ⟨g, 0, none⟩)) <| gy (.pointer (some ⟨g, 0, none⟩)) <| gy (.pointer (some ⟨g, 1, none⟩)) <| gy (.iface 80 (.pointer (some ⟨g, 1, none⟩))) <|
   gy (.agg #[.string ⟨#[109, 97, 120, 45, 98, 121, 116, 101, 115]⟩, .iface 80 (.pointer (some ⟨g, 1, none⟩)), .int .i64 1, .int .u64 1048576]) <| gy (.pointer (some ⟨g, 0, none⟩)) <| gy (.pointer (some ⟨g, 0, none⟩)) <| gy (.pointer (some ⟨g, 2, none⟩)) <|
   gy (.iface 80 (.pointer (some ⟨g, 2, none⟩))) <| gy (.agg #[.string ⟨#[109, 97, 120, 45, 116, 120, 45, 98, 121, 116, 101, 115]⟩, .iface 80 (.pointer (some ⟨g, 2, none⟩)), .int .i64 1, .int .u64 4096]) <| gy (.pointer (some ⟨g, 0, none⟩)) <| gy (.pointer (some ⟨g, 0, none⟩)) <|
   gy (.pointer (some ⟨g, 3, none⟩)) <| gy (.iface 80 (.pointer (some ⟨g, 3, none⟩))) <| gy (.agg #[.string ⟨#[99, 97, 99, 104, 101, 45, 115, 105, 122, 101]⟩, .iface 80 (.pointer (some ⟨g, 3, none⟩)), .int .i64 0, .int .u64 1024]) <| gy (.pointer (some ⟨g, 0, none⟩)) <|
   gy (.pointer (some ⟨g, 0, none⟩)) <| gy (.pointer (some ⟨g, 4, none⟩)) <| gy (.iface 80 (.pointer (some ⟨g, 4, none⟩))) <| gy (.agg #[.string ⟨#[116, 116, 108, 45, 98, 108, 111, 99, 107, 115]⟩, .iface 80 (.pointer (some ⟨g, 4, none⟩)), .int .i64 0, .int .u64 1073741824]) <|
   gy (.pointer (some ⟨g, 0, none⟩)) <| gy (.pointer (some ⟨g, 0, none⟩)) <| gy (.pointer (some ⟨g, 5, none⟩)) <| gy (.iface 80 (.pointer (some ⟨g, 5, none⟩))) <|
   gy (.agg #[.string ⟨#[116, 116, 108, 45, 116, 105, 109, 101]⟩, .iface 80 (.pointer (some ⟨g, 5, none⟩)), .int .i64 0, .int .u64 1073741824]) <| gy (.pointer (some ⟨g, 0, none⟩)) <| gy (.pointer (some ⟨g, 0, none⟩)) <| gy (.pointer (some ⟨g, 6, none⟩)) <|
   gy (.iface 81 (.pointer (some ⟨g, 6, none⟩))) <| gy (.agg #[.string ⟨#[107, 101, 101, 112, 45, 105, 110, 118, 97, 108, 105, 100]⟩, .iface 81 (.pointer (some ⟨g, 6, none⟩)), .int .i64 0, .int .u64 1]) <| gy (.pointer (some ⟨g, 0, none⟩)) <| gy (.pointer (some ⟨g, 0, none⟩)) <|
   gy (.pointer (some ⟨g, 7, none⟩)) <| gy (.iface 80 (.pointer (some ⟨g, 7, none⟩))) <| gy (.agg #[.string ⟨#[98, 108, 111, 99, 107, 45, 98, 121, 116, 101, 115]⟩, .iface 80 (.pointer (some ⟨g, 7, none⟩)), .int .i64 1, .int .u64 1048576]) <| gy (.pointer (some ⟨g, 0, none⟩)) <|
   gy (.pointer (some ⟨g, 0, none⟩)) <| gy (.pointer (some ⟨g, 8, none⟩)) <| gy (.iface 80 (.pointer (some ⟨g, 8, none⟩))) <| gy (.agg #[.string ⟨#[98, 108, 111, 99, 107, 45, 103, 97, 115]⟩, .iface 80 (.pointer (some ⟨g, 8, none⟩)), .int .i64 (-1), .int .u64 1125899906842624]) <|
   gy (.pointer (some ⟨g, 0, none⟩)) <| gy (.pointer (some ⟨g, 0, none⟩)) <| gy (.pointer (some ⟨g, 9, none⟩)) <| gy (.iface 82 (.pointer (some ⟨g, 9, none⟩))) <| gy (.agg #[.string ⟨#[112, 114, 105, 99, 101]⟩, .iface 82 (.pointer (some ⟨g, 9, none⟩)), .int .i64 0, .int .u64 18446744073709551615]) <|
   gy (.pointer (some ⟨g, 0, none⟩)) <| gy (.pointer (some ⟨g, 0, none⟩)) <| gy (.pointer (some ⟨g, 10, none⟩)) <| gy (.iface 80 (.pointer (some ⟨g, 10, none⟩))) <| gy (.agg #[.string ⟨#[115, 101, 108, 102]⟩, .iface 80 (.pointer (some ⟨g, 10, none⟩)), .int .i64 0, .int .u64 7]) <|
   gy (.pointer (some ⟨g, 0, none⟩)) <| gy (.pointer (some ⟨g, 0, none⟩)) <| gy (.pointer (some ⟨g, 11, none⟩)) <| gy (.iface 80 (.pointer (some ⟨g, 11, none⟩))) <| gy (.agg #[.string ⟨#[110, 111, 100, 101, 115]⟩, .iface 80 (.pointer (some ⟨g, 11, none⟩)), .int .i64 1, .int .u64 8]) ?_
 simp only [pu]
 apply wpQuiet_nil
 intro V hV
 have hf := HF.out V hV
 refine gw_build (by kernel_rfl) (some 63) rfl 55 12 #[(0, .tmp 7), (1, .tmp 12), (2, .tmp 17), (3, .tmp 22), (4, .tmp 27), (5, .tmp 32), (6, .tmp 37), (7, .tmp 42), (8, .tmp 47), (9, .tmp 52), (10, .tmp 57), (11, .tmp 62)] rfl #[(0, (.agg #[.string ⟨#[109, 97, 120, 45, 116, 120, 115]⟩, .iface 80 (.pointer (some ⟨g, 0, none⟩)), .int .i64 1, .int .u64 512])), (1, (.agg #[.string ⟨#[109, 97, 120, 45, 98, 121, 116, 101, 115]⟩, .iface 80 (.pointer (some ⟨g, 1, none⟩)), .int .i64 1, .int .u64 1048576])), (2, (.agg #[.string ⟨#[109, 97, 120, 45, 116, 120, 45, 98, 121, 116, 101, 115]⟩, .iface 80 (.pointer (some ⟨g, 2, none⟩)), .int .i64 1, .int .u64 4096])), (3, (.agg #[.string ⟨#[99, 97, 99, 104, 101, 45, 115, 105, 122, 101]⟩, .iface 80 (.pointer (some ⟨g, 3, none⟩)), .int .i64 0, .int .u64 1024])), (4, (.agg #[.string ⟨#[116, 116, 108, 45, 98, 108, 111, 99, 107, 115]⟩, .iface 80 (.pointer (some ⟨g, 4, none⟩)), .int .i64 0, .int .u64 1073741824])), (5, (.agg #[.string ⟨#[116, 116, 108, 45, 116, 105, 109, 101]⟩, .iface 80 (.pointer (some ⟨g, 5, none⟩)), .int .i64 0, .int .u64 1073741824])), (6, (.agg #[.string ⟨#[107, 101, 101, 112, 45, 105, 110, 118, 97, 108, 105, 100]⟩, .iface 81 (.pointer (some ⟨g, 6, none⟩)), .int .i64 0, .int .u64 1])), (7, (.agg #[.string ⟨#[98, 108, 111, 99, 107, 45, 98, 121, 116, 101, 115]⟩, .iface 80 (.pointer (some ⟨g, 7, none⟩)), .int .i64 1, .int .u64 1048576])), (8, (.agg #[.string ⟨#[98, 108, 111, 99, 107, 45, 103, 97, 115]⟩, .iface 80 (.pointer (some ⟨g, 8, none⟩)), .int .i64 (-1), .int .u64 1125899906842624])), (9, (.agg #[.string ⟨#[112, 114, 105, 99, 101]⟩, .iface 82 (.pointer (some ⟨g, 9, none⟩)), .int .i64 0, .int .u64 18446744073709551615])), (10, (.agg #[.string ⟨#[115, 101, 108, 102]⟩, .iface 80 (.pointer (some ⟨g, 10, none⟩)), .int .i64 0, .int .u64 7])), (11, (.agg #[.string ⟨#[110, 111, 100, 101, 115]⟩, .iface 80 (.pointer (some ⟨g, 11, none⟩)), .int .i64 1, .int .u64 8]))] (by kernel_rfl) (.slice (some ⟨V.heap.size, 0, none⟩) 12 12) _ (HBU.out V) ?_
 simp only [pu]
 refine gz1 (.slice (some ⟨V.heap.size, 0, none⟩) 12 12) <| wn ?_
 simp only [pu]
 go_wp2_with fail
 go_ret
 exact ⟨_, rfl, hf⟩
set_option maxRecDepth 100000 in
set_option maxHeartbeats 8000000 in
theorem pv_int (k : Value) (hk : k.oneCell' = true) (lo hi : Int) {n : Int} (hn : -9223372036854775808 ≤ n ∧ n < 9223372036854775808) (g j : Nat) (w : World) (hg : g < w.heap.size) (hl : ∀ V, Below w.heap.size w V → (Instr.loadAt 3 (.pointer (some ⟨g, j, none⟩))).run Tryd.prog V = .ok (.int .i64 n) V) : Calls Tryd.prog 28 #[.agg #[k, .iface 80 (.pointer (some ⟨g, j, none⟩)), .int .i64 lo, .int .u64 hi]] w fun e w' => e = .returned (.agg (nuA (decide (n < 0)) (absI n))) ∧ Below w.heap.size w w' := by
 have CW := fun V => p_whole hn V
 generalize decide (n < 0) = b at *
 generalize absI n = z at *
 clear hn
 go_enter Tryd.func28, Tryd.ntmps28
 go_upto_region 1 with fail
 change Code.wp _ _ _ _ ((w.alloc (.cells #[k, .iface 80 (.pointer (some ⟨g, j, none⟩)), .int .i64 lo, .int .u64 hi] 59)).alloc (.cells #[.bool false, .int .u64 0] 62))
 have hb_0 : Below w.heap.size w (w.alloc (.cells #[k, .iface 80 (.pointer (some ⟨g, j, none⟩)), .int .i64 lo, .int .u64 hi] 59)) := (Below.refl _ w).alloc (Nat.le_refl _) _
 have hX1 : Bx (w.alloc (.cells #[k, .iface 80 (.pointer (some ⟨g, j, none⟩)), .int .i64 lo, .int .u64 hi] 59)) w.heap.size #[k, .iface 80 (.pointer (some ⟨g, j, none⟩)), .int .i64 lo, .int .u64 hi] 59 := heap_alloc_last w _
 have hs_0 : (w.alloc (.cells #[k, .iface 80 (.pointer (some ⟨g, j, none⟩)), .int .i64 lo, .int .u64 hi] 59)).heap.size = w.heap.size + 1 := by simp
 generalize w.alloc (.cells #[k, .iface 80 (.pointer (some ⟨g, j, none⟩)), .int .i64 lo, .int .u64 hi] 59) = W0_ at *
 have hb_1 : Below w.heap.size w (W0_.alloc (.cells #[.bool false, .int .u64 0] 62)) := hb_0.alloc hb_0.size _
 have hX1 := hX1.below hX1.lt ((Below.refl _ W0_).alloc (Nat.le_refl _) (.cells #[.bool false, .int .u64 0] 62))
 have hX2 : Bx (W0_.alloc (.cells #[.bool false, .int .u64 0] 62)) W0_.heap.size #[.bool false, .int .u64 0] 62 := heap_alloc_last W0_ _
 have hs_1 : (W0_.alloc (.cells #[.bool false, .int .u64 0] 62)).heap.size = W0_.heap.size + 1 := by simp
 generalize W0_.alloc (.cells #[.bool false, .int .u64 0] 62) = W at *
 obtain ⟨g1, hg1⟩ : ∃ g, w.heap.size = g := ⟨_, rfl⟩
 rw [hg1] at hX1
 obtain ⟨g2, hg2⟩ : ∃ g, W0_.heap.size = g := ⟨_, rfl⟩
 rw [hg2] at hX2
 have hq1 : w.heap.size + 1 = g2 := by omega
 have HGE : Hid (g1 = w.heap.size + 0 ∧ g2 = w.heap.size + 1 ∧ W.heap.size = w.heap.size + 2) := Lib.hid ⟨by omega, by omega, by omega⟩
 have HB := Lib.hid hb_1
 simp only [hg1]
 try simp only [show g1 + 1 = g2 by omega]
 clear hb_0 hs_0 hg1 hb_1 hs_1 hg2 hq1
 refine wl <| gz1 (.pointer (some ⟨g1, 1, none⟩)) <| gzl rfl ⟨g1, 1, none⟩ (.iface 80 (.pointer (some ⟨g, j, none⟩))) (hX1.load (i := 1) rfl (by kernel_rfl)) <| wn ?_
 simp only [pu]
 go_upto_region 2 with fail
 refine wl <| gz3 (.tuple #[.pointer (some ⟨g, j, none⟩), .bool true]) (.bool true) (.pointer (some ⟨g, j, none⟩)) <| wn ?_
 simp only [pu]
 go_upto_region 3 with fail
 refine wl <| gz1 (.pointer (some ⟨g, j, none⟩)) <| wn ?_
 simp only [pu]
 have hld := hl W HB.out
 go_upto_region 4 with fail
 refine wl <| gz2 (.pointer (some ⟨g, j, none⟩)) (.pointer (some ⟨g, j, none⟩)) <| gzl rfl ⟨g, j, none⟩ (.int .i64 n) (hld) <| gzc (.agg #[.bool b, .int .u64 z]) (fun w' => Below W.heap.size W w') (CW W) (fun V1 hb1 => ?_)
 obtain ⟨V2, hst, hY, hbt⟩ := st_all (cs' := #[.bool b, .int .u64 z]) (ty := 62) (hX2.below hX2.lt hb1) rfl (by kernel_rfl) (by kernel_rfl)
 simp only [pu]
 refine gzs rfl (hst) <| wn ?_
 have HE : Hid (Below w.heap.size w V2) := Lib.hid ((HB.out.trans (hb1.mono HB.out.size)).trans (hbt.1.mono (by have := HGE.out; omega)))
 have HLD := Lib.hid (load_nu hY)
 clear hX1 hX2 hb1 hbt hY hld hl
 go_wp2_with fail
 exact bodyPost_ret (results_1c (p := 2) rfl (by kernel_rfl) HLD.out) rfl ⟨rfl, HE.out⟩
set_option maxRecDepth 100000 in
set_option maxHeartbeats 8000000 in
theorem pv_bool (k : Value) (hk : k.oneCell' = true) (lo hi : Int) (q : Bool) (g j : Nat) (w : World) (hg : g < w.heap.size) (hl : ∀ V, Below w.heap.size w V → (Instr.loadAt 4 (.pointer (some ⟨g, j, none⟩))).run Tryd.prog V = .ok (.bool q) V) : Calls Tryd.prog 28 #[.agg #[k, .iface 81 (.pointer (some ⟨g, j, none⟩)), .int .i64 lo, .int .u64 hi]] w fun e w' => e = .returned (.agg (nuA false (if q = true then 1 else 0))) ∧ Below w.heap.size w w' := by
 have CW : ∀ V, Calls Tryd.prog 43 #[.int .i64 1] V fun e w' => e = .returned (.agg #[.bool false, .int .u64 1]) ∧ Below V.heap.size V w' := fun V => p_whole (n := 1) (by omega) V
 go_enter Tryd.func28, Tryd.ntmps28
 go_upto_region 1 with fail
 change Code.wp _ _ _ _ ((w.alloc (.cells #[k, .iface 81 (.pointer (some ⟨g, j, none⟩)), .int .i64 lo, .int .u64 hi] 59)).alloc (.cells #[.bool false, .int .u64 0] 62))
 have hb_0 : Below w.heap.size w (w.alloc (.cells #[k, .iface 81 (.pointer (some ⟨g, j, none⟩)), .int .i64 lo, .int .u64 hi] 59)) := (Below.refl _ w).alloc (Nat.le_refl _) _
 have hX1 : Bx (w.alloc (.cells #[k, .iface 81 (.pointer (some ⟨g, j, none⟩)), .int .i64 lo, .int .u64 hi] 59)) w.heap.size #[k, .iface 81 (.pointer (some ⟨g, j, none⟩)), .int .i64 lo, .int .u64 hi] 59 := heap_alloc_last w _
 have hs_0 : (w.alloc (.cells #[k, .iface 81 (.pointer (some ⟨g, j, none⟩)), .int .i64 lo, .int .u64 hi] 59)).heap.size = w.heap.size + 1 := by simp
 generalize w.alloc (.cells #[k, .iface 81 (.pointer (some ⟨g, j, none⟩)), .int .i64 lo, .int .u64 hi] 59) = W0_ at *
 have hb_1 : Below w.heap.size w (W0_.alloc (.cells #[.bool false, .int .u64 0] 62)) := hb_0.alloc hb_0.size _
 have hX1 := hX1.below hX1.lt ((Below.refl _ W0_).alloc (Nat.le_refl _) (.cells #[.bool false, .int .u64 0] 62))
 have hX2 : Bx (W0_.alloc (.cells #[.bool false, .int .u64 0] 62)) W0_.heap.size #[.bool false, .int .u64 0] 62 := heap_alloc_last W0_ _
 have hs_1 : (W0_.alloc (.cells #[.bool false, .int .u64 0] 62)).heap.size = W0_.heap.size + 1 := by simp
 generalize W0_.alloc (.cells #[.bool false, .int .u64 0] 62) = W at *
 obtain ⟨g1, hg1⟩ : ∃ g, w.heap.size = g := ⟨_, rfl⟩
 rw [hg1] at hX1
 obtain ⟨g2, hg2⟩ : ∃ g, W0_.heap.size = g := ⟨_, rfl⟩
 rw [hg2] at hX2
 have hq1 : w.heap.size + 1 = g2 := by omega
 have HGE : Hid (g1 = w.heap.size + 0 ∧ g2 = w.heap.size + 1 ∧ W.heap.size = w.heap.size + 2) := Lib.hid ⟨by omega, by omega, by omega⟩
 have HB := Lib.hid hb_1
 simp only [hg1]
 try simp only [show g1 + 1 = g2 by omega]
 clear hb_0 hs_0 hg1 hb_1 hs_1 hg2 hq1
 refine wl <| gz1 (.pointer (some ⟨g1, 1, none⟩)) <| gzl rfl ⟨g1, 1, none⟩ (.iface 81 (.pointer (some ⟨g, j, none⟩))) (hX1.load (i := 1) rfl (by kernel_rfl)) <| wn ?_
 simp only [pu]
 go_upto_region 2 with fail
 refine wl <| gz3 (.tuple #[.pointer none, .bool false]) (.bool false) (.pointer none) <| wn ?_
 simp only [pu]
 go_upto_region 5 with fail
 refine wl <| gz3 (.tuple #[.pointer (some ⟨g, j, none⟩), .bool true]) (.bool true) (.pointer (some ⟨g, j, none⟩)) <| wn ?_
 simp only [pu]
 go_upto_region 6 with fail
 refine wl <| gz1 (.pointer (some ⟨g, j, none⟩)) <| wn ?_
 simp only [pu]
 have hld := hl W HB.out
 cases q
 ·skip
  go_upto_region 7 with fail
  refine wl <| gz2 (.pointer (some ⟨g, j, none⟩)) (.pointer (some ⟨g, j, none⟩)) <| gzl rfl ⟨g, j, none⟩ (.bool false) (hld) <| wn ?_
  simp only [pu]
  obtain ⟨V2, hst, hY, hbt⟩ := st_all (cs' := #[.bool false, .int .u64 0]) (ty := 62) hX2 rfl (by kernel_rfl) (by kernel_rfl)
  go_upto_region 12 with fail
  refine wl <| gz1 (.agg #[.bool false, .int .u64 0]) <| gzs rfl (hst) <| wn ?_
  simp only [pu]
  have HE : Hid (Below w.heap.size w V2) := Lib.hid (HB.out.trans (hbt.1.mono (by have := HGE.out; omega)))
  have HLD := Lib.hid (load_nu hY)
  clear hX1 hX2 hbt hY hld hl
  go_wp2_with fail
  exact bodyPost_ret (results_1c (p := 2) rfl (by kernel_rfl) HLD.out) rfl ⟨rfl, HE.out⟩
 ·skip
  go_upto_region 7 with fail
  refine wl <| gz2 (.pointer (some ⟨g, j, none⟩)) (.pointer (some ⟨g, j, none⟩)) <| gzl rfl ⟨g, j, none⟩ (.bool true) (hld) <| wn ?_
  simp only [pu]
  go_upto_region 8 with fail
  refine wl <| gzc (.agg #[.bool false, .int .u64 1]) (fun w' => Below W.heap.size W w') (CW W) (fun V1 hb1 => ?_)
  obtain ⟨V2, hst, hY, hbt⟩ := st_all (cs' := #[.bool false, .int .u64 1]) (ty := 62) (hX2.below hX2.lt hb1) rfl (by kernel_rfl) (by kernel_rfl)
  simp only [pu]
  refine gzs rfl (hst) <| wn ?_
  have HE : Hid (Below w.heap.size w V2) := Lib.hid ((HB.out.trans (hb1.mono HB.out.size)).trans (hbt.1.mono (by have := HGE.out; omega)))
  have HLD := Lib.hid (load_nu hY)
  clear hX1 hX2 hbt hY hld hl
  go_wp2_with fail
  exact bodyPost_ret (results_1c (p := 2) rfl (by kernel_rfl) HLD.out) rfl ⟨rfl, HE.out⟩
set_option maxRecDepth 100000 in
set_option maxHeartbeats 8000000 in
theorem pv_uint (k : Value) (hk : k.oneCell' = true) (lo hi : Int) (n : Int) (g j : Nat) (w : World) (hg : g < w.heap.size) (hl : ∀ V, Below w.heap.size w V → (Instr.loadAt 22 (.pointer (some ⟨g, j, none⟩))).run Tryd.prog V = .ok (.int .u64 n) V) : Calls Tryd.prog 28 #[.agg #[k, .iface 82 (.pointer (some ⟨g, j, none⟩)), .int .i64 lo, .int .u64 hi]] w fun e w' => e = .returned (.agg (nuA false n)) ∧ Below w.heap.size w w' := by
 go_enter Tryd.func28, Tryd.ntmps28
 go_upto_region 1 with fail
 change Code.wp _ _ _ _ ((w.alloc (.cells #[k, .iface 82 (.pointer (some ⟨g, j, none⟩)), .int .i64 lo, .int .u64 hi] 59)).alloc (.cells #[.bool false, .int .u64 0] 62))
 have hb_0 : Below w.heap.size w (w.alloc (.cells #[k, .iface 82 (.pointer (some ⟨g, j, none⟩)), .int .i64 lo, .int .u64 hi] 59)) := (Below.refl _ w).alloc (Nat.le_refl _) _
 have hX1 : Bx (w.alloc (.cells #[k, .iface 82 (.pointer (some ⟨g, j, none⟩)), .int .i64 lo, .int .u64 hi] 59)) w.heap.size #[k, .iface 82 (.pointer (some ⟨g, j, none⟩)), .int .i64 lo, .int .u64 hi] 59 := heap_alloc_last w _
 have hs_0 : (w.alloc (.cells #[k, .iface 82 (.pointer (some ⟨g, j, none⟩)), .int .i64 lo, .int .u64 hi] 59)).heap.size = w.heap.size + 1 := by simp
 generalize w.alloc (.cells #[k, .iface 82 (.pointer (some ⟨g, j, none⟩)), .int .i64 lo, .int .u64 hi] 59) = W0_ at *
 have hb_1 : Below w.heap.size w (W0_.alloc (.cells #[.bool false, .int .u64 0] 62)) := hb_0.alloc hb_0.size _
 have hX1 := hX1.below hX1.lt ((Below.refl _ W0_).alloc (Nat.le_refl _) (.cells #[.bool false, .int .u64 0] 62))
 have hX2 : Bx (W0_.alloc (.cells #[.bool false, .int .u64 0] 62)) W0_.heap.size #[.bool false, .int .u64 0] 62 := heap_alloc_last W0_ _
 have hs_1 : (W0_.alloc (.cells #[.bool false, .int .u64 0] 62)).heap.size = W0_.heap.size + 1 := by simp
 generalize W0_.alloc (.cells #[.bool false, .int .u64 0] 62) = W at *
 obtain ⟨g1, hg1⟩ : ∃ g, w.heap.size = g := ⟨_, rfl⟩
 rw [hg1] at hX1
 obtain ⟨g2, hg2⟩ : ∃ g, W0_.heap.size = g := ⟨_, rfl⟩
 rw [hg2] at hX2
 have hq1 : w.heap.size + 1 = g2 := by omega
 have HGE : Hid (g1 = w.heap.size + 0 ∧ g2 = w.heap.size + 1 ∧ W.heap.size = w.heap.size + 2) := Lib.hid ⟨by omega, by omega, by omega⟩
 have HB := Lib.hid hb_1
 simp only [hg1]
 try simp only [show g1 + 1 = g2 by omega]
 clear hb_0 hs_0 hg1 hb_1 hs_1 hg2 hq1
 refine wl <| gz1 (.pointer (some ⟨g1, 1, none⟩)) <| gzl rfl ⟨g1, 1, none⟩ (.iface 82 (.pointer (some ⟨g, j, none⟩))) (hX1.load (i := 1) rfl (by kernel_rfl)) <| wn ?_
 simp only [pu]
 go_upto_region 2 with fail
 refine wl <| gz3 (.tuple #[.pointer none, .bool false]) (.bool false) (.pointer none) <| wn ?_
 simp only [pu]
 go_upto_region 5 with fail
 refine wl <| gz3 (.tuple #[.pointer none, .bool false]) (.bool false) (.pointer none) <| wn ?_
 simp only [pu]
 go_upto_region 9 with fail
 refine wl <| gz3 (.tuple #[.pointer (some ⟨g, j, none⟩), .bool true]) (.bool true) (.pointer (some ⟨g, j, none⟩)) <| wn ?_
 simp only [pu]
 go_upto_region 10 with fail
 refine wl <| gz1 (.pointer (some ⟨g, j, none⟩)) <| wn ?_
 simp only [pu]
 have hld := hl W HB.out
 obtain ⟨V2, hst, hY, hbt⟩ := st_all (cs' := #[.bool false, .int .u64 n]) (ty := 62) hX2 rfl (by kernel_rfl) (by kernel_rfl)
 go_upto_region 11 with fail
 refine wl <| gz2 (.pointer (some ⟨g, j, none⟩)) (.pointer (some ⟨g, j, none⟩)) <| gzl rfl ⟨g, j, none⟩ (.int .u64 n) (hld) <| gz1 (.agg #[.bool false, .int .u64 n]) <| gzs rfl (hst) <| wn ?_
 simp only [pu]
 have HE : Hid (Below w.heap.size w V2) := Lib.hid (HB.out.trans (hbt.1.mono (by have := HGE.out; omega)))
 have HLD := Lib.hid (load_nu hY)
 clear hX1 hX2 hbt hY hld hl
 go_wp2_with fail
 exact bodyPost_ret (results_1c (p := 2) rfl (by kernel_rfl) HLD.out) rfl ⟨rfl, HE.out⟩
theorem tyN_int {j : Nat} (h6 : j ≠ 6) (h9 : j ≠ 9) : tyN j = 80 := by
 unfold tyN
 rw [if_neg h6, if_neg h9]
/-- The value of a setting over a configuration in memory. -/
theorem p_value {c : List Int} (hc : CfOk c) {g k : Nat} (j : Nat) (hj : j < 12) (w : World) (hX : Bx w g (cfA c) k) : Calls Tryd.prog 28 #[.agg (sgA g j)] w fun e w' => e = .returned (.agg (nuA (decide (c.getD j 0 < 0)) (absI (c.getD j 0)))) ∧ Below w.heap.size w w' := by
 have hlt := hX.lt
 have HB := fun V (h : Below w.heap.size w V) => hX.below hlt h
 obtain ⟨-, h6, h90, h91, hn⟩ := hc
 by_cases e6 : j = 6
 ·subst e6
  refine (pv_bool _ rfl _ _ (decide (c.getD 6 0 = 1)) g 6 w hlt fun V h => (HB V h).load (i := 6) rfl (by kernel_rfl)).mono fun e w' z => ⟨?_, z.2⟩
  rw [z.1]
  rcases h6 with h | h <;> rw [h] <;> rfl
 ·by_cases e9 : j = 9
  ·subst e9
   refine (pv_uint _ rfl _ _ (c.getD 9 0) g 9 w hlt fun V h => (HB V h).load (i := 9) rfl (by kernel_rfl)).mono fun e w' z => ⟨?_, z.2⟩
   rw [z.1, decide_eq_false (by omega)]
   unfold absI
   rw [if_neg (by omega)]
  ·have e := tyN_int e6 e9
   unfold sgA
   rw [e]
   exact pv_int _ rfl _ _ (hn j hj e9) g j w hlt fun V h => (HB V h).load (i := j) (by rw [cf_get hj, if_neg e6, if_neg e9]) (by kernel_rfl)
end Go.Proofs.YtplfineaomneiaaDoor
