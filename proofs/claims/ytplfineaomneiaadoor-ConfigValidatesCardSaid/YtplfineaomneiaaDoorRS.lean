/-
 The reference's Default, keys, greatest, least, value, with, space, index: contracts.
-/
import Derived.Test.YtplfineaomneiaaDoorBA
namespace Go.Proofs.YtplfineaomneiaaDoor
attribute [local irreducible] wpList wpQuiet
open Go.RowKit
set_option maxRecDepth 100000
set_option linter.unusedSimpArgs false
set_option linter.unusedVariables false

theorem load_i {w : World} {g t : Nat} {S : List Int} (h : Bx w g (icells S).toArray t) {k : Nat} (hk : k < S.length) : (Instr.loadAt 3 (.pointer (some ⟨g, 0 + k, none⟩))).run Tryd.prog w = .ok (.int .i64 (S.getD k 0)) w := by
 rw [Nat.zero_add]
 exact Bx.load h (i := k) (by rw [List.getElem?_toArray]; exact icells_at S k hk) (by kernel_rfl)
/-- The keys in a new row. -/
def KsO (w : World) (e : Ending) (w' : World) : Prop := ∃ g, e = .returned (.slice (some ⟨g, 0, none⟩) 12 12) ∧ Bx w' g (strs keysB).toArray 9 ∧ Below w.heap.size w w'
set_option maxRecDepth 100000 in
set_option maxHeartbeats 8000000 in
theorem r_keys (w : World) : Calls Tryd.prog 29 #[] w (KsO w) := by
 have hbd := build_k12 w
 have hbx : Bx (w.alloc (.cells (strs keysB).toArray 9)) w.heap.size (strs keysB).toArray 9 := heap_alloc_last w _
 have hbw : Below w.heap.size w (w.alloc (.cells (strs keysB).toArray 9)) := (Below.refl _ w).alloc (Nat.le_refl _) _
 generalize w.alloc (.cells (strs keysB).toArray 9) = V1 at *
 have HB := Lib.hid hbw
 obtain ⟨g1, hg1⟩ : ∃ g1, w.heap.size = g1 := ⟨_, rfl⟩
 rw [hg1] at hbx hbd
 clear hbw hg1
 go_enter Tryd.func29, Tryd.ntmps29
 go_upto_region 1 with fail
 apply wp_region_lit
 refine gw_build (by kernel_rfl) (some 1) rfl 39 12 #[(0, .const (.string ⟨#[109, 97, 120, 45, 116, 120, 115]⟩)), (1, .const (.string ⟨#[109, 97, 120, 45, 98, 121, 116, 101, 115]⟩)), (2, .const (.string ⟨#[109, 97, 120, 45, 116, 120, 45, 98, 121, 116, 101, 115]⟩)), (3, .const (.string ⟨#[99, 97, 99, 104, 101, 45, 115, 105, 122, 101]⟩)), (4, .const (.string ⟨#[116, 116, 108, 45, 98, 108, 111, 99, 107, 115]⟩)), (5, .const (.string ⟨#[116, 116, 108, 45, 116, 105, 109, 101]⟩)), (6, .const (.string ⟨#[107, 101, 101, 112, 45, 105, 110, 118, 97, 108, 105, 100]⟩)), (7, .const (.string ⟨#[98, 108, 111, 99, 107, 45, 98, 121, 116, 101, 115]⟩)), (8, .const (.string ⟨#[98, 108, 111, 99, 107, 45, 103, 97, 115]⟩)), (9, .const (.string ⟨#[112, 114, 105, 99, 101]⟩)), (10, .const (.string ⟨#[115, 101, 108, 102]⟩)), (11, .const (.string ⟨#[110, 111, 100, 101, 115]⟩))] rfl #[(0, .string ⟨#[109, 97, 120, 45, 116, 120, 115]⟩), (1, .string ⟨#[109, 97, 120, 45, 98, 121, 116, 101, 115]⟩), (2, .string ⟨#[109, 97, 120, 45, 116, 120, 45, 98, 121, 116, 101, 115]⟩), (3, .string ⟨#[99, 97, 99, 104, 101, 45, 115, 105, 122, 101]⟩), (4, .string ⟨#[116, 116, 108, 45, 98, 108, 111, 99, 107, 115]⟩), (5, .string ⟨#[116, 116, 108, 45, 116, 105, 109, 101]⟩), (6, .string ⟨#[107, 101, 101, 112, 45, 105, 110, 118, 97, 108, 105, 100]⟩), (7, .string ⟨#[98, 108, 111, 99, 107, 45, 98, 121, 116, 101, 115]⟩), (8, .string ⟨#[98, 108, 111, 99, 107, 45, 103, 97, 115]⟩), (9, .string ⟨#[112, 114, 105, 99, 101]⟩), (10, .string ⟨#[115, 101, 108, 102]⟩), (11, .string ⟨#[110, 111, 100, 101, 115]⟩)] (by kernel_rfl) (.slice (some ⟨g1, 0, none⟩) 12 12) _ hbd ?_
 simp only [pu]
 refine gz1 (.slice (some ⟨g1, 0, none⟩) 12 12) <| wn ?_
 simp only [pu]
 go_wp2_with fail
 go_ret
 exact ⟨g1, rfl, hbx, HB.out⟩
set_option maxRecDepth 100000 in
set_option maxHeartbeats 8000000 in
theorem r_least (i : Nat) (hi : i < 12) (w : World) : Calls Tryd.prog 31 #[.int .i64 i] w fun e w' => e = .returned (.int .i64 (leastL.getD i 0)) ∧ Below w.heap.size w w' := by
 have hL : leastL = [1, 1, 1, 0, 0, 0, 0, 1, -1, 0, 0, 1] := rfl
 have hbd := build_i12 1 1 1 0 0 0 0 1 (-1) 0 0 1 w
 have hbx : Bx (w.alloc (.cells (icells [1, 1, 1, 0, 0, 0, 0, 1, -1, 0, 0, 1]).toArray 3)) w.heap.size (icells [1, 1, 1, 0, 0, 0, 0, 1, -1, 0, 0, 1]).toArray 3 := heap_alloc_last w _
 have hbw : Below w.heap.size w (w.alloc (.cells (icells [1, 1, 1, 0, 0, 0, 0, 1, -1, 0, 0, 1]).toArray 3)) := (Below.refl _ w).alloc (Nat.le_refl _) _
 rw [← hL] at hbd hbx hbw
 generalize w.alloc (.cells (icells leastL).toArray 3) = V1 at *
 have HB := Lib.hid hbw
 obtain ⟨g1, hg1⟩ : ∃ g1, w.heap.size = g1 := ⟨_, rfl⟩
 rw [hg1] at hbx hbd
 clear hbw hg1
 have HLE : Hid (leastL.length = 12) := Lib.hid rfl
 clear hL
 generalize leastL = S at *
 go_enter Tryd.func31, Tryd.ntmps31
 go_upto_region 1 with fail
 apply wp_region_lit
 refine gw_build (by kernel_rfl) (some 3) rfl 25 12 #[(0, .const (.int .i64 1)), (1, .const (.int .i64 1)), (2, .const (.int .i64 1)), (3, .const (.int .i64 0)), (4, .const (.int .i64 0)), (5, .const (.int .i64 0)), (6, .const (.int .i64 0)), (7, .const (.int .i64 1)), (8, .const (.int .i64 (-1))), (9, .const (.int .i64 0)), (10, .const (.int .i64 0)), (11, .const (.int .i64 1))] rfl #[(0, .int .i64 1), (1, .int .i64 1), (2, .int .i64 1), (3, .int .i64 0), (4, .int .i64 0), (5, .int .i64 0), (6, .int .i64 0), (7, .int .i64 1), (8, .int .i64 (-1)), (9, .int .i64 0), (10, .int .i64 0), (11, .int .i64 1)] (by kernel_rfl) (.slice (some ⟨g1, 0, none⟩) 12 12) _ hbd ?_
 simp only [pu]
 refine gz1 (.int .i64 i) <| gzv (.pointer (some ⟨g1, 0 + i, none⟩)) (idx_int g1 0 12 12 i hi _ _ _ rfl (by kernel_rfl) (by kernel_rfl)) <| gzl rfl ⟨g1, 0 + i, none⟩ (.int .i64 (S.getD i 0)) (load_i hbx (k := i) (by rw [HLE.out]; exact hi)) <| gz1 (.int .i64 (S.getD i 0)) <| wn ?_
 simp only [pu]
 go_wp2_with fail
 go_ret
 exact ⟨rfl, HB.out⟩
set_option maxRecDepth 100000 in
set_option maxHeartbeats 8000000 in
theorem r_great (i : Nat) (hi : i < 12) (w : World) : Calls Tryd.prog 32 #[.int .i64 i] w fun e w' => e = .returned (.int .i64 (greatL.getD i 0)) ∧ Below w.heap.size w w' := by
 have hL : greatL = [512, 1048576, 4096, 1024, 1073741824, 1073741824, 1, 1048576, 1125899906842624, 0, 7, 8] := rfl
 have hbd := build_i12 512 1048576 4096 1024 1073741824 1073741824 1 1048576 1125899906842624 0 7 8 w
 have hbx : Bx (w.alloc (.cells (icells [512, 1048576, 4096, 1024, 1073741824, 1073741824, 1, 1048576, 1125899906842624, 0, 7, 8]).toArray 3)) w.heap.size (icells [512, 1048576, 4096, 1024, 1073741824, 1073741824, 1, 1048576, 1125899906842624, 0, 7, 8]).toArray 3 := heap_alloc_last w _
 have hbw : Below w.heap.size w (w.alloc (.cells (icells [512, 1048576, 4096, 1024, 1073741824, 1073741824, 1, 1048576, 1125899906842624, 0, 7, 8]).toArray 3)) := (Below.refl _ w).alloc (Nat.le_refl _) _
 rw [← hL] at hbd hbx hbw
 generalize w.alloc (.cells (icells greatL).toArray 3) = V1 at *
 have HB := Lib.hid hbw
 obtain ⟨g1, hg1⟩ : ∃ g1, w.heap.size = g1 := ⟨_, rfl⟩
 rw [hg1] at hbx hbd
 clear hbw hg1
 have HLE : Hid (greatL.length = 12) := Lib.hid rfl
 clear hL
 generalize greatL = S at *
 go_enter Tryd.func32, Tryd.ntmps32
 go_upto_region 1 with fail
 apply wp_region_lit
 refine gw_build (by kernel_rfl) (some 3) rfl 25 12 #[(0, .const (.int .i64 512)), (1, .const (.int .i64 1048576)), (2, .const (.int .i64 4096)), (3, .const (.int .i64 1024)), (4, .const (.int .i64 1073741824)), (5, .const (.int .i64 1073741824)), (6, .const (.int .i64 1)), (7, .const (.int .i64 1048576)), (8, .const (.int .i64 1125899906842624)), (9, .const (.int .i64 0)), (10, .const (.int .i64 7)), (11, .const (.int .i64 8))] rfl #[(0, .int .i64 512), (1, .int .i64 1048576), (2, .int .i64 4096), (3, .int .i64 1024), (4, .int .i64 1073741824), (5, .int .i64 1073741824), (6, .int .i64 1), (7, .int .i64 1048576), (8, .int .i64 1125899906842624), (9, .int .i64 0), (10, .int .i64 7), (11, .int .i64 8)] (by kernel_rfl) (.slice (some ⟨g1, 0, none⟩) 12 12) _ hbd ?_
 simp only [pu]
 refine gz1 (.int .i64 i) <| gzv (.pointer (some ⟨g1, 0 + i, none⟩)) (idx_int g1 0 12 12 i hi _ _ _ rfl (by kernel_rfl) (by kernel_rfl)) <| gzl rfl ⟨g1, 0 + i, none⟩ (.int .i64 (S.getD i 0)) (load_i hbx (k := i) (by rw [HLE.out]; exact hi)) <| gz1 (.int .i64 (S.getD i 0)) <| wn ?_
 simp only [pu]
 go_wp2_with fail
 go_ret
 exact ⟨rfl, HB.out⟩
/-- What 'value' tells of a configuration. -/
def valsL (c : List Int) : List Int := [c.getD 0 0, c.getD 1 0, c.getD 2 0, c.getD 3 0, c.getD 4 0, c.getD 5 0, c.getD 6 0, c.getD 7 0, c.getD 8 0, 0, c.getD 10 0, c.getD 11 0]
theorem vals_at {c : List Int} : ∀ i, i < 12 → i ≠ 9 → (valsL c).getD i 0 = c.getD i 0 := by
 intro i hi h9
 match i, hi, h9 with
 | 0, _, _ => rfl
 | 1, _, _ => rfl
 | 2, _, _ => rfl
 | 3, _, _ => rfl
 | 4, _, _ => rfl
 | 5, _, _ => rfl
 | 6, _, _ => rfl
 | 7, _, _ => rfl
 | 8, _, _ => rfl
 | 10, _, _ => rfl
 | 11, _, _ => rfl
set_option maxRecDepth 100000 in
set_option maxHeartbeats 8000000 in
theorem r_value_raw (x0 x1 x2 x3 x4 x5 x6 x7 x8 x9 x10 x11 : Int) (q : Bool) (k : Int) (hq : (if q then 1 else 0) = k) (i : Nat) (hi : i < 12) (w : World) : Calls Tryd.prog 30 #[.agg #[.int .i64 x0, .int .i64 x1, .int .i64 x2, .int .i64 x3, .int .i64 x4, .int .i64 x5, .bool q, .int .i64 x7, .int .i64 x8, .int .u64 x9, .int .i64 x10, .int .i64 x11], .int .i64 i] w fun e w' => e = .returned (.int .i64 ([x0, x1, x2, x3, x4, x5, k, x7, x8, 0, x10, x11].getD i 0)) ∧ Below w.heap.size w w' := by
 have hb0 : Below w.heap.size w (w.alloc (.cells #[.int .i64 x0, .int .i64 x1, .int .i64 x2, .int .i64 x3, .int .i64 x4, .int .i64 x5, .bool q, .int .i64 x7, .int .i64 x8, .int .u64 x9, .int .i64 x10, .int .i64 x11] 24)) := (Below.refl _ w).alloc (Nat.le_refl _) _
 have hX0 : Bx (w.alloc (.cells #[.int .i64 x0, .int .i64 x1, .int .i64 x2, .int .i64 x3, .int .i64 x4, .int .i64 x5, .bool q, .int .i64 x7, .int .i64 x8, .int .u64 x9, .int .i64 x10, .int .i64 x11] 24)) w.heap.size #[.int .i64 x0, .int .i64 x1, .int .i64 x2, .int .i64 x3, .int .i64 x4, .int .i64 x5, .bool q, .int .i64 x7, .int .i64 x8, .int .u64 x9, .int .i64 x10, .int .i64 x11] 24 := heap_alloc_last w _
 obtain ⟨W, hW⟩ : ∃ W, w.alloc (.cells #[.int .i64 x0, .int .i64 x1, .int .i64 x2, .int .i64 x3, .int .i64 x4, .int .i64 x5, .bool q, .int .i64 x7, .int .i64 x8, .int .u64 x9, .int .i64 x10, .int .i64 x11] 24) = W := ⟨_, rfl⟩
 rw [hW] at hb0 hX0
 have hbd := build_i12 x0 x1 x2 x3 x4 x5 k x7 x8 0 x10 x11 W
 have hbx : Bx (W.alloc (.cells (icells [x0, x1, x2, x3, x4, x5, k, x7, x8, 0, x10, x11]).toArray 3)) W.heap.size (icells [x0, x1, x2, x3, x4, x5, k, x7, x8, 0, x10, x11]).toArray 3 := heap_alloc_last W _
 have hbw : Below W.heap.size W (W.alloc (.cells (icells [x0, x1, x2, x3, x4, x5, k, x7, x8, 0, x10, x11]).toArray 3)) := (Below.refl _ W).alloc (Nat.le_refl _) _
 have HLE : Hid ([x0, x1, x2, x3, x4, x5, k, x7, x8, 0, x10, x11].length = 12) := Lib.hid rfl
 generalize [x0, x1, x2, x3, x4, x5, k, x7, x8, 0, x10, x11] = S at *
 generalize W.alloc (.cells (icells S).toArray 3) = V1 at *
 have HB := Lib.hid (hb0.trans (hbw.mono hb0.size))
 have HB0 := Lib.hid hb0
 obtain ⟨g1, hg1⟩ : ∃ g1, W.heap.size = g1 := ⟨_, rfl⟩
 rw [hg1] at hbx hbd
 clear hbw hg1 hb0
 go_enter Tryd.func30, Tryd.ntmps30
 go_upto_region 1 with fail
 obtain ⟨g3, hg3⟩ : ∃ g3, w.heap.size = g3 := ⟨_, rfl⟩
 rw [hg3] at hX0
 simp only [hg3]
 clear hW hg3
 refine wl <| gz1 (.int .i64 0) <| wn ?_
 simp only [pu]
 go_upto_region 2 with fail
 refine wl <| gz1 (.pointer (some ⟨g3, 6, none⟩)) <| gzl rfl ⟨g3, 6, none⟩ (.bool q) (hX0.load (i := 6) rfl (by kernel_rfl)) <| wn ?_
 simp only [pu]
 cases q
 ·skip
  obtain rfl : (0 : Int) = k := hq
  go_upto_region 4 with fail
  refine wl <| gz1 (.pointer (some ⟨g3, 0, none⟩)) <| gzl rfl ⟨g3, 0, none⟩ (.int .i64 x0) (hX0.load (i := 0) rfl (by kernel_rfl)) <| gz1 (.pointer (some ⟨g3, 1, none⟩)) <| gzl rfl ⟨g3, 1, none⟩ (.int .i64 x1) (hX0.load (i := 1) rfl (by kernel_rfl)) <|
   gz1 (.pointer (some ⟨g3, 2, none⟩)) <| gzl rfl ⟨g3, 2, none⟩ (.int .i64 x2) (hX0.load (i := 2) rfl (by kernel_rfl)) <| gz1 (.pointer (some ⟨g3, 3, none⟩)) <| gzl rfl ⟨g3, 3, none⟩ (.int .i64 x3) (hX0.load (i := 3) rfl (by kernel_rfl)) <| gz1 (.pointer (some ⟨g3, 4, none⟩)) <|
   gzl rfl ⟨g3, 4, none⟩ (.int .i64 x4) (hX0.load (i := 4) rfl (by kernel_rfl)) <| gz1 (.pointer (some ⟨g3, 5, none⟩)) <| gzl rfl ⟨g3, 5, none⟩ (.int .i64 x5) (hX0.load (i := 5) rfl (by kernel_rfl)) <| gz2 (.int .i64 0) (.pointer (some ⟨g3, 7, none⟩)) <|
   gzl rfl ⟨g3, 7, none⟩ (.int .i64 x7) (hX0.load (i := 7) rfl (by kernel_rfl)) <| gz1 (.pointer (some ⟨g3, 8, none⟩)) <| gzl rfl ⟨g3, 8, none⟩ (.int .i64 x8) (hX0.load (i := 8) rfl (by kernel_rfl)) <| gz1 (.pointer (some ⟨g3, 10, none⟩)) <|
   gzl rfl ⟨g3, 10, none⟩ (.int .i64 x10) (hX0.load (i := 10) rfl (by kernel_rfl)) <| gz1 (.pointer (some ⟨g3, 11, none⟩)) <| gzl rfl ⟨g3, 11, none⟩ (.int .i64 x11) (hX0.load (i := 11) rfl (by kernel_rfl)) ?_
  simp only [pu]
  refine gw_build (by kernel_rfl) (some 29) rfl 25 12 #[(0, .tmp 9), (1, .tmp 11), (2, .tmp 13), (3, .tmp 15), (4, .tmp 17), (5, .tmp 19), (6, .tmp 20), (7, .tmp 22), (8, .tmp 24), (9, .const (.int .i64 0)), (10, .tmp 26), (11, .tmp 28)] rfl #[(0, .int .i64 x0), (1, .int .i64 x1), (2, .int .i64 x2), (3, .int .i64 x3), (4, .int .i64 x4), (5, .int .i64 x5), (6, .int .i64 0), (7, .int .i64 x7), (8, .int .i64 x8), (9, .int .i64 0), (10, .int .i64 x10), (11, .int .i64 x11)] (by kernel_rfl) (.slice (some ⟨g1, 0, none⟩) 12 12) _ hbd ?_
  simp only [pu]
  refine gz1 (.int .i64 i) <| gzv (.pointer (some ⟨g1, 0 + i, none⟩)) (idx_int g1 0 12 12 i hi _ _ _ rfl (by kernel_rfl) (by kernel_rfl)) <| gzl rfl ⟨g1, 0 + i, none⟩ (.int .i64 (S.getD i 0)) (load_i hbx (k := i) (by rw [HLE.out]; exact hi)) <| gz1 (.int .i64 (S.getD i 0)) <| wn ?_
  simp only [pu]
  go_wp2_with fail
  go_ret
  exact ⟨rfl, HB.out⟩
 ·skip
  obtain rfl : (1 : Int) = k := hq
  go_upto_region 3 with fail
  refine wl <| gz1 (.int .i64 1) <| wn ?_
  simp only [pu]
  go_upto_region 4 with fail
  refine wl <| gz1 (.pointer (some ⟨g3, 0, none⟩)) <| gzl rfl ⟨g3, 0, none⟩ (.int .i64 x0) (hX0.load (i := 0) rfl (by kernel_rfl)) <| gz1 (.pointer (some ⟨g3, 1, none⟩)) <| gzl rfl ⟨g3, 1, none⟩ (.int .i64 x1) (hX0.load (i := 1) rfl (by kernel_rfl)) <|
   gz1 (.pointer (some ⟨g3, 2, none⟩)) <| gzl rfl ⟨g3, 2, none⟩ (.int .i64 x2) (hX0.load (i := 2) rfl (by kernel_rfl)) <| gz1 (.pointer (some ⟨g3, 3, none⟩)) <| gzl rfl ⟨g3, 3, none⟩ (.int .i64 x3) (hX0.load (i := 3) rfl (by kernel_rfl)) <| gz1 (.pointer (some ⟨g3, 4, none⟩)) <|
   gzl rfl ⟨g3, 4, none⟩ (.int .i64 x4) (hX0.load (i := 4) rfl (by kernel_rfl)) <| gz1 (.pointer (some ⟨g3, 5, none⟩)) <| gzl rfl ⟨g3, 5, none⟩ (.int .i64 x5) (hX0.load (i := 5) rfl (by kernel_rfl)) <| gz2 (.int .i64 1) (.pointer (some ⟨g3, 7, none⟩)) <|
   gzl rfl ⟨g3, 7, none⟩ (.int .i64 x7) (hX0.load (i := 7) rfl (by kernel_rfl)) <| gz1 (.pointer (some ⟨g3, 8, none⟩)) <| gzl rfl ⟨g3, 8, none⟩ (.int .i64 x8) (hX0.load (i := 8) rfl (by kernel_rfl)) <| gz1 (.pointer (some ⟨g3, 10, none⟩)) <|
   gzl rfl ⟨g3, 10, none⟩ (.int .i64 x10) (hX0.load (i := 10) rfl (by kernel_rfl)) <| gz1 (.pointer (some ⟨g3, 11, none⟩)) <| gzl rfl ⟨g3, 11, none⟩ (.int .i64 x11) (hX0.load (i := 11) rfl (by kernel_rfl)) ?_
  simp only [pu]
  refine gw_build (by kernel_rfl) (some 29) rfl 25 12 #[(0, .tmp 9), (1, .tmp 11), (2, .tmp 13), (3, .tmp 15), (4, .tmp 17), (5, .tmp 19), (6, .tmp 20), (7, .tmp 22), (8, .tmp 24), (9, .const (.int .i64 0)), (10, .tmp 26), (11, .tmp 28)] rfl #[(0, .int .i64 x0), (1, .int .i64 x1), (2, .int .i64 x2), (3, .int .i64 x3), (4, .int .i64 x4), (5, .int .i64 x5), (6, .int .i64 1), (7, .int .i64 x7), (8, .int .i64 x8), (9, .int .i64 0), (10, .int .i64 x10), (11, .int .i64 x11)] (by kernel_rfl) (.slice (some ⟨g1, 0, none⟩) 12 12) _ hbd ?_
  simp only [pu]
  refine gz1 (.int .i64 i) <| gzv (.pointer (some ⟨g1, 0 + i, none⟩)) (idx_int g1 0 12 12 i hi _ _ _ rfl (by kernel_rfl) (by kernel_rfl)) <| gzl rfl ⟨g1, 0 + i, none⟩ (.int .i64 (S.getD i 0)) (load_i hbx (k := i) (by rw [HLE.out]; exact hi)) <| gz1 (.int .i64 (S.getD i 0)) <| wn ?_
  simp only [pu]
  go_wp2_with fail
  go_ret
  exact ⟨rfl, HB.out⟩
theorem r_value {c : List Int} (h6 : c.getD 6 0 = 0 ∨ c.getD 6 0 = 1) (i : Nat) (hi : i < 12) (w : World) : Calls Tryd.prog 30 #[.agg (cfA c), .int .i64 i] w fun e w' => e = .returned (.int .i64 ((valsL c).getD i 0)) ∧ Below w.heap.size w w' :=
 r_value_raw _ _ _ _ _ _ (c.getD 6 0) _ _ _ _ _ _ (c.getD 6 0) (by rcases h6 with h | h <;> rw [h] <;> rfl) i hi w
theorem dflt_ok : CfOk dfltL := ⟨rfl, .inl rfl, by decide, by decide, by decide⟩
end Go.Proofs.YtplfineaomneiaaDoor
