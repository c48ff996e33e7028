/-
 The walk of ConfigNumbers.
-/
import Derived.Test.YtplfineaomneiaaDoorPZ
namespace Go.Proofs.YtplfineaomneiaaDoor
attribute [local irreducible] wpList wpQuiet
open Go.RowKit
set_option maxRecDepth 100000
set_option linter.unusedSimpArgs false
set_option linter.unusedVariables false

theorem shr_w {ρ : Operand → Value} {o : Oper} {x y : Operand} (ho : o.op = .binOp .shr 22 x y 49) (a k q : Nat) (hq : a / 2 ^ k = q) (hk : k < 64) (ha : a < 18446744073709551616) (hx : ρ x = .int .u64 a) (hy : ρ y = .int .u64 k) (w : World) : (execOp ρ o).run Tryd.prog w = .ok (.value (.int .u64 q)) w := by
 have hc2 : (a : Int) / 2 ^ k = (q : Int) := by rw [← hq]; simp
 have hqa : q ≤ a := by rw [← hq]; exact Nat.div_le_self _ _
 have hw : IntKind.u64.wrap (q : Int) = q := by rw [IntKind.wrap_u64]; omega
 unfold execOp
 simp only [ho, hx, hy]
 go_simp
theorem cut_to_s8 {ρ : Operand → Value} {o : Oper} {x z : Operand} (ho : o.op = .slice 9 x none (some z) none) (s : ByteArray) (j : Nat) (hj : j ≤ s.size) (hx : ρ x = .string s) (hz : ρ z = .int .u8 j) (w : World) : (execOp ρ o).run Tryd.prog w = .ok (.value (.string (s.extract 0 j))) w := by
 unfold execOp
 simp only [ho, hx, hz]
 go_simp
/-- Numbers in a row. -/
def ucs (L : List Nat) : List Value := L.map fun (x : Nat) => Value.int .u64 (x : Int)
theorem ucs_at (L : List Nat) (k : Nat) (h : k < L.length) : (ucs L)[k]? = some (.int .u64 (L.getD k 0 : Nat)) := by
 unfold ucs
 rw [List.getElem?_map, List.getElem?_eq_getElem h, List.getD_eq_getElem?_getD, List.getElem?_eq_getElem h]
 rfl
theorem infoU : (Tryd.prog.info? 22).map (fun i => (i.zero, i.size, i.bytes)) = some (some (.int .u64 0), 1, 8) := by kernel_rfl
theorem build_u6 (x0 x1 x2 x3 x4 x5 : Nat) (V : World) : (Instr.buildSlice 50 6 #[(0, .int .u64 x0), (1, .int .u64 x1), (2, .int .u64 x2), (3, .int .u64 x3), (4, .int .u64 x4), (5, .int .u64 x5)]).run Tryd.prog V = .ok (.slice (some ⟨V.heap.size, 0, none⟩) 6 6) (V.alloc (.cells (ucs [x0, x1, x2, x3, x4, x5]).toArray 22)) := by
 obtain ⟨i0, hi, hz0, hz1, hz2⟩ := info_parts infoU
 refine run_buildSlice V 50 22 6 _ (ucs [x0, x1, x2, x3, x4, x5]).toArray i0 _ Tryd.underlying50 hi hz0 (by rw [hz1]; omega) (by rw [hz1]; omega) ?_
 rw [hz1]
 kernel_rfl
theorem idx_u6 (b off n c k : Nat) (hk : k < n) (V : World) (ρ : Operand → Value) (o : Oper) {x y : Operand} (ho : o.op = .indexAddr 50 x y) (hx : ρ x = .slice (some ⟨b, off, none⟩) n c) (hy : ρ y = .int .i64 k) : (execOp ρ o).run Tryd.prog V = .ok (.value (.pointer (some ⟨b, off + k, none⟩))) V := by
 have hs : (sizeOf (Tryd.prog.elem 50)).run Tryd.prog V = .ok 1 V := by kernel_rfl
 have hlm : (k : Int) < (n : Int) := by omega
 unfold execOp
 simp only [ho, hx, hy]
 go_simp
theorem load_u {w : World} {g t : Nat} {S : List Nat} (h : Bx w g (ucs S).toArray t) {k : Nat} (hk : k < S.length) : (Instr.loadAt 22 (.pointer (some ⟨g, 0 + k, none⟩))).run Tryd.prog w = .ok (.int .u64 (S.getD k 0 : Nat)) w := by
 rw [Nat.zero_add]
 exact Bx.load h (i := k) (by rw [List.getElem?_toArray]; exact ucs_at S k hk) (by kernel_rfl)
def n6 (n : Nat) : List Nat := [n, n % 3, n / 2 ^ 50, n / 2 ^ 43, n / 2 ^ 33, n / 2 ^ 13]
theorem n6_le (n : Nat) : ∀ k, k < 6 → (n6 n).getD k 0 ≤ n := fun k hk => by
 match k, hk with
 | 0, _ => exact Nat.le_refl _
 | 1, _ => exact Nat.mod_le _ _
 | 2, _ => exact Nat.div_le_self _ _
 | 3, _ => exact Nat.div_le_self _ _
 | 4, _ => exact Nat.div_le_self _ _
 | 5, _ => exact Nat.div_le_self _ _
set_option maxRecDepth 100000 in
set_option maxHeartbeats 8000000 in
theorem numbers_core {w : World} (HQ : Prg w) (n : Nat) (hn : n < 18446744073709551616) (wh : Int) (zr : Nat) (tl : ByteArray) : Calls Tryd.prog 7 #[.int .u64 n, .int .i64 wh, .int .u8 zr, .string tl] w fun e w' => e = .returned (.bool true) ∧ Below w.heap.size w w' := by
 have HN6 := Lib.hid (n6_le n)
 have hpr := pl_range wh 12 (by omega)
 have CP := Lib.hid fun V => mk_place wh 12 V (by omega) (by omega)
 obtain ⟨p, hp⟩ : ∃ p : Nat, pl wh 12 = (p : Int) := ⟨(pl wh 12).toNat, by omega⟩
 simp only [hp] at CP hpr
 have hp12 : p < 12 := by omega
 have HKS := Lib.hid (kS_size p hp12)
 have HBD := Lib.hid build_k12
 have H6 : Hid ((n6 n).length = 6) := Lib.hid rfl
 have hbu := Lib.hid (build_u6 n (n % 3) (n / 2 ^ 50) (n / 2 ^ 43) (n / 2 ^ 33) (n / 2 ^ 13))
 have hk0 : keysB.getD p (⟨#[]⟩ : ByteArray) = kS p := rfl
 have HKL : Hid (keysB.length = 12) := Lib.hid rfl
 clear hp hpr
 obtain ⟨m, hm⟩ : ∃ m, tl.size = m := ⟨_, rfl⟩
 go_enter Tryd.func7, Tryd.ntmps7
 go_upto_region 1 with fail
 by_cases h1 : 40 < m
 ·skip
  go_upto_region 1 with fail
  refine wl <| gz1 (.string tl) <| gzv (.int .i64 m) (by rw [← hm]; kernel_rfl) <| gzb (gtr_n rfl (m) (40) dT) <| wn ?_
  simp only [pu]
  go_upto_region 2 with fail
  refine wl <| gzc (.bool true) (fun w' => Below w.heap.size w w') (known_true HQ w (Below.refl _ _)) (fun V2 hb2 => ?_)
  simp only [pu]
  refine gz1 (.bool true) <| wn ?_
  simp only [pu]
  go_wp2_with fail
  go_ret
  exact ⟨rfl, hb2⟩
 ·skip
  go_upto_region 1 with fail
  refine wl <| gz1 (.string tl) <| gzv (.int .i64 m) (by rw [← hm]; kernel_rfl) <| gzb (gtr_n rfl (m) (40) dF) <| wn ?_
  simp only [pu]
  have hbd := HBD.out w
  have hbx : Bx (w.alloc (.cells (strs keysB).toArray 9)) w.heap.size (strs keysB).toArray 9 := heap_alloc_last w _
  have hbw : Below w.heap.size w (w.alloc (.cells (strs keysB).toArray 9)) := (Below.refl _ w).alloc (Nat.le_refl _) _
  generalize w.alloc (.cells (strs keysB).toArray 9) = W1 at *
  have HB1 := Lib.hid hbw
  obtain ⟨g9, hg9⟩ : ∃ g, w.heap.size = g := ⟨_, rfl⟩
  rw [hg9] at hbx hbd
  have hl24 : (Instr.loadAt 9 (.pointer (some ⟨g9, 0 + p, none⟩))).run Tryd.prog W1 = .ok (.string (kS p)) W1 := by rw [← hk0]; exact load_str hbx (k := p) (by rw [HKL.out]; exact hp12)
  clear hbw hg9 hbx hk0
  generalize kS p = K at *
  go_upto_region 3 with fail
  apply wp_region_lit
  refine gw_build (by kernel_rfl) (some 17) rfl 39 12 #[(0, .const (.string ⟨#[109, 97, 120, 45, 116, 120, 115]⟩)), (1, .const (.string ⟨#[109, 97, 120, 45, 98, 121, 116, 101, 115]⟩)), (2, .const (.string ⟨#[109, 97, 120, 45, 116, 120, 45, 98, 121, 116, 101, 115]⟩)), (3, .const (.string ⟨#[99, 97, 99, 104, 101, 45, 115, 105, 122, 101]⟩)), (4, .const (.string ⟨#[116, 116, 108, 45, 98, 108, 111, 99, 107, 115]⟩)), (5, .const (.string ⟨#[116, 116, 108, 45, 116, 105, 109, 101]⟩)), (6, .const (.string ⟨#[107, 101, 101, 112, 45, 105, 110, 118, 97, 108, 105, 100]⟩)), (7, .const (.string ⟨#[98, 108, 111, 99, 107, 45, 98, 121, 116, 101, 115]⟩)), (8, .const (.string ⟨#[98, 108, 111, 99, 107, 45, 103, 97, 115]⟩)), (9, .const (.string ⟨#[112, 114, 105, 99, 101]⟩)), (10, .const (.string ⟨#[115, 101, 108, 102]⟩)), (11, .const (.string ⟨#[110, 111, 100, 101, 115]⟩))] rfl #[(0, .string ⟨#[109, 97, 120, 45, 116, 120, 115]⟩), (1, .string ⟨#[109, 97, 120, 45, 98, 121, 116, 101, 115]⟩), (2, .string ⟨#[109, 97, 120, 45, 116, 120, 45, 98, 121, 116, 101, 115]⟩), (3, .string ⟨#[99, 97, 99, 104, 101, 45, 115, 105, 122, 101]⟩), (4, .string ⟨#[116, 116, 108, 45, 98, 108, 111, 99, 107, 115]⟩), (5, .string ⟨#[116, 116, 108, 45, 116, 105, 109, 101]⟩), (6, .string ⟨#[107, 101, 101, 112, 45, 105, 110, 118, 97, 108, 105, 100]⟩), (7, .string ⟨#[98, 108, 111, 99, 107, 45, 98, 121, 116, 101, 115]⟩), (8, .string ⟨#[98, 108, 111, 99, 107, 45, 103, 97, 115]⟩), (9, .string ⟨#[112, 114, 105, 99, 101]⟩), (10, .string ⟨#[115, 101, 108, 102]⟩), (11, .string ⟨#[110, 111, 100, 101, 115]⟩)] (by kernel_rfl) (.slice (some ⟨g9, 0, none⟩) 12 12) _ hbd ?_
  simp only [pu]
  refine gz1 (.slice (some ⟨g9, 0, none⟩) 12 12) <| wn ?_
  simp only [pu]
  clear hbd
  have cp := CP.out W1
  go_upto_region 4 with fail
  refine wl <| gz4 (.slice (some ⟨g9, 0, none⟩) 12 12) (.int .i64 wh) (.slice (some ⟨g9, 0, none⟩) 12 12) (.int .i64 12) <| gzc (.int .i64 p) (fun w' => W1 = w') (cp) (fun V9 hV9 => ?_)
  subst hV9
  simp only [pu]
  refine gzv (.pointer (some ⟨g9, 0 + p, none⟩)) (idx_str g9 0 12 12 p hp12 _ _ _ rfl (by kernel_rfl) (by kernel_rfl)) <| gzl rfl ⟨g9, 0 + p, none⟩ (.string K) (hl24) <| gz1 (.string K) <| wn ?_
  simp only [pu]
  clear cp hl24
  have hbu1 := hbu.out W1
  have hXu : Bx (W1.alloc (.cells (ucs (n6 n)).toArray 22)) W1.heap.size (ucs (n6 n)).toArray 22 := heap_alloc_last W1 _
  have hbw2 : Below W1.heap.size W1 (W1.alloc (.cells (ucs (n6 n)).toArray 22)) := (Below.refl _ W1).alloc (Nat.le_refl _) _
  have hw6 : W1.alloc (.cells (ucs [n, n % 3, n / 2 ^ 50, n / 2 ^ 43, n / 2 ^ 33, n / 2 ^ 13]).toArray 22) = W1.alloc (.cells (ucs (n6 n)).toArray 22) := rfl
  rw [hw6] at hbu1
  obtain ⟨q1, hq1⟩ : ∃ q, n / 2 ^ 50 = q := ⟨_, rfl⟩
  obtain ⟨q2, hq2⟩ : ∃ q, n / 2 ^ 43 = q := ⟨_, rfl⟩
  obtain ⟨q3, hq3⟩ : ∃ q, n / 2 ^ 33 = q := ⟨_, rfl⟩
  obtain ⟨q4, hq4⟩ : ∃ q, n / 2 ^ 13 = q := ⟨_, rfl⟩
  rw [hq1, hq2, hq3, hq4] at hbu1
  generalize W1.alloc (.cells (ucs (n6 n)).toArray 22) = W2 at *
  have HB2 := Lib.hid (HB1.out.trans (hbw2.mono HB1.out.size))
  obtain ⟨g36, hg36⟩ : ∃ g, W1.heap.size = g := ⟨_, rfl⟩
  rw [hg36] at hXu hbu1
  have HXU := Lib.hid hXu
  clear hw6 hbw2 hg36 hXu HB1 hbu HBD CP
  generalize n6 n = N6 at *
  go_upto_region 5 with fail
  refine wl <| gz2 (.int .u64 n) (.int .u64 n) <| gzw (.int .u64 (n % 3 : Nat)) (rem_w rfl n 3 (by omega)) <| gz1 (.int .u64 n) <| gzw (.int .u64 q1) (shr_w rfl n 50 q1 hq1 (by omega) hn) <| gz1 (.int .u64 n) <|
   gzw (.int .u64 q2) (shr_w rfl n 43 q2 hq2 (by omega) hn) <| gz1 (.int .u64 n) <| gzw (.int .u64 q3) (shr_w rfl n 33 q3 hq3 (by omega) hn) <| gz1 (.int .u64 n) <|
   gzw (.int .u64 q4) (shr_w rfl n 13 q4 hq4 (by omega) hn) ?_
  simp only [pu]
  refine gw_build (by kernel_rfl) (some 36) rfl 50 6 #[(0, .tmp 25), (1, .tmp 27), (2, .tmp 29), (3, .tmp 31), (4, .tmp 33), (5, .tmp 35)] rfl #[(0, .int .u64 n), (1, .int .u64 (n % 3 : Nat)), (2, .int .u64 q1), (3, .int .u64 q2), (4, .int .u64 q3), (5, .int .u64 q4)] (by kernel_rfl) (.slice (some ⟨g36, 0, none⟩) 6 6) _ hbu1 ?_
  simp only [pu]
  refine gz2 (.int .i64 6) (.int .i64 0) <| wn ?_
  simp only [pu]
  clear hbu1 hq1 hq2 hq3 hq4
  go_wp2_with fail
  go_loopg [38] 6 (fun gg s38 wx => ∃ (i : Nat), s38 = .int .i64 i ∧ i ≤ 6 ∧ gg + i = 6 ∧ Hid (Below W2.heap.size W2 wx))
  case atStart => exact ⟨0, rfl, by omega, by omega, Lib.hid (Below.refl _ _)⟩
  case round =>
   obtain ⟨i, hs38, hin, hg, HRW⟩ := hrel
   obtain rfl := hs38
   have HGK : Hid (gk + i = 6) := Lib.hid hg
   clear hg
   by_cases hlt : i < 6
   ·skip
    have hXu := HXU.out.below HXU.out.lt HRW.out
    have hl41 := load_u hXu (k := i) (by rw [H6.out]; exact hlt)
    have hle := HN6.out i hlt
    generalize N6.getD i 0 = v at *
    have CU := fun V => r_uns v (by omega) V
    have hds : (strOfNums (decN v)).size ≤ 20 := by rw [strOfNums_size]; exact dec_len 19 v (by omega)
    generalize strOfNums (decN v) = D at *
    have hks := HKS.out
    have hz4 : zr % 4 ≤ (⟨#[48, 48, 48]⟩ : ByteArray).size := by show zr % 4 ≤ 3; omega
    obtain ⟨z3, hz3⟩ : ∃ z, (⟨#[48, 48, 48]⟩ : ByteArray).extract 0 (zr % 4) = z := ⟨_, rfl⟩
    have hz3s : z3.size ≤ 3 := by rw [← hz3, ByteArray.size_extract]; show min _ 3 - 0 ≤ 3; omega
    obtain ⟨a1, ha1⟩ : ∃ z, K ++ (⟨#[32]⟩ : ByteArray) = z := ⟨_, rfl⟩
    have hsa1 : a1.size = K.size + 1 := by rw [← ha1, ByteArray.size_append]; rfl
    have hla1 : K.size + (⟨#[32]⟩ : ByteArray).size ≤ 9223372036854775807 := by show K.size + 1 ≤ _; omega
    obtain ⟨a2, ha2⟩ : ∃ z, a1 ++ D = z := ⟨_, rfl⟩
    have hsa2 : a2.size = a1.size + D.size := by rw [← ha2, ByteArray.size_append]
    have hla2 : a1.size + D.size ≤ 9223372036854775807 := by omega
    obtain ⟨a3, ha3⟩ : ∃ z, a2 ++ (⟨#[10, 110, 111, 100, 101, 115, 32, 56]⟩ : ByteArray) = z := ⟨_, rfl⟩
    have hsa3 : a3.size = a2.size + 8 := by rw [← ha3, ByteArray.size_append]; rfl
    have hla3 : a2.size + (⟨#[10, 110, 111, 100, 101, 115, 32, 56]⟩ : ByteArray).size ≤ 9223372036854775807 := by show a2.size + 8 ≤ _; omega
    obtain ⟨a4, ha4⟩ : ∃ z, a1 ++ z3 = z := ⟨_, rfl⟩
    have hsa4 : a4.size = a1.size + z3.size := by rw [← ha4, ByteArray.size_append]
    have hla4 : a1.size + z3.size ≤ 9223372036854775807 := by omega
    obtain ⟨a5, ha5⟩ : ∃ z, a4 ++ D = z := ⟨_, rfl⟩
    have hsa5 : a5.size = a4.size + D.size := by rw [← ha5, ByteArray.size_append]
    have hla5 : a4.size + D.size ≤ 9223372036854775807 := by omega
    obtain ⟨a6, ha6⟩ : ∃ z, a2 ++ tl = z := ⟨_, rfl⟩
    have hsa6 : a6.size = a2.size + tl.size := by rw [← ha6, ByteArray.size_append]
    have hla6 : a2.size + tl.size ≤ 9223372036854775807 := by omega
    obtain ⟨a7, ha7⟩ : ∃ z, K ++ (⟨#[32, 45]⟩ : ByteArray) = z := ⟨_, rfl⟩
    have hsa7 : a7.size = K.size + 2 := by rw [← ha7, ByteArray.size_append]; rfl
    have hla7 : K.size + (⟨#[32, 45]⟩ : ByteArray).size ≤ 9223372036854775807 := by show K.size + 2 ≤ _; omega
    obtain ⟨a8, ha8⟩ : ∃ z, a7 ++ D = z := ⟨_, rfl⟩
    have hsa8 : a8.size = a7.size + D.size := by rw [← ha8, ByteArray.size_append]
    have hla8 : a7.size + D.size ≤ 9223372036854775807 := by omega
    have CP0 := fun V (hV : Below wr.heap.size wr V) => r_parses HQ a3 (by omega) V ((HB2.out.trans (HRW.out.mono HB2.out.size)).trans (hV.mono (HB2.out.trans (HRW.out.mono HB2.out.size)).size))
    have CP1 := fun V (hV : Below wr.heap.size wr V) => r_parses HQ a5 (by omega) V ((HB2.out.trans (HRW.out.mono HB2.out.size)).trans (hV.mono (HB2.out.trans (HRW.out.mono HB2.out.size)).size))
    have CP2 := fun V (hV : Below wr.heap.size wr V) => r_parses HQ a6 (by omega) V ((HB2.out.trans (HRW.out.mono HB2.out.size)).trans (hV.mono (HB2.out.trans (HRW.out.mono HB2.out.size)).size))
    have CP3 := fun V (hV : Below wr.heap.size wr V) => r_parses HQ a8 (by omega) V ((HB2.out.trans (HRW.out.mono HB2.out.size)).trans (hV.mono (HB2.out.trans (HRW.out.mono HB2.out.size)).size))
    go_upto_region 6 with fail
    refine wl <| gzb (lss_n rfl (i) (6) dT) <| wn ?_
    simp only [pu]
    go_upto_region 7 with fail
    refine wl <| gzv (.pointer (some ⟨g36, 0 + i, none⟩)) (idx_u6 g36 0 6 6 i hlt _ _ _ rfl (by kernel_rfl) (by kernel_rfl)) <| gzl rfl ⟨g36, 0 + i, none⟩ (.int .u64 v) (hl41) <| gz1 (.int .u64 v) <| wn ?_
    simp only [pu]
    clear hl41 hXu
    go_upto_region 8 with fail
    refine wp_region_class (C := fun U => Below wr.heap.size wr U) (by kernel_rfl) (by kernel_rfl) ((Below.refl _ wr).drew) ?_
    refine gy (.string K) <| gyv (.string a1) (fun U hU => add_s rfl _ _ _ ha1 hla1 (by kernel_rfl) (by kernel_rfl) U) <| gy (.int .u64 v) ?_
    simp only [pu]
    refine gq_call (by kernel_rfl) (some 45) rfl 25 #[.int .u64 v] (.string D) (fun U hU => by kernel_rfl) (fun U hU => (CU U).mono fun e w2 z => ⟨z.1, hU.trans (z.2.mono hU.size)⟩) ?_
    simp only [pu]
    refine gyv (.string a2) (fun U hU => add_s rfl _ _ _ ha2 hla2 (by kernel_rfl) (by kernel_rfl) U) <| gyv (.string a3) (fun U hU => add_s rfl _ _ _ ha3 hla3 (by kernel_rfl) (by kernel_rfl) U) ?_
    simp only [pu]
    refine gq_call (by kernel_rfl) (some 48) rfl 19 #[.string a3] (.bool true) (fun U hU => by kernel_rfl) (fun U hU => (CP0 U hU).mono fun e w2 z => ⟨z.1, hU.trans (z.2.mono hU.size)⟩) ?_
    simp only [pu]
    refine gy (.bool false) <| gy (.bool false) <| gy (.string K) <| gyv (.string a1) (fun U hU => add_s rfl _ _ _ ha1 hla1 (by kernel_rfl) (by kernel_rfl) U) <| gy (.int .u8 zr) <| gyv (.int .u8 (zr % 4 : Nat)) (fun U hU => rem_8 rfl zr 4 (by omega) (by kernel_rfl) (by kernel_rfl) U) <|
      gyv (.string z3) (fun U hU => (by rw [← hz3]; exact cut_to_s8 rfl ⟨#[48, 48, 48]⟩ (zr % 4) hz4 (by kernel_rfl) (by kernel_rfl) U)) <| gyv (.string a4) (fun U hU => add_s rfl _ _ _ ha4 hla4 (by kernel_rfl) (by kernel_rfl) U) <| gy (.int .u64 v) ?_
    simp only [pu]
    refine gq_call (by kernel_rfl) (some 58) rfl 25 #[.int .u64 v] (.string D) (fun U hU => by kernel_rfl) (fun U hU => (CU U).mono fun e w2 z => ⟨z.1, hU.trans (z.2.mono hU.size)⟩) ?_
    simp only [pu]
    refine gyv (.string a5) (fun U hU => add_s rfl _ _ _ ha5 hla5 (by kernel_rfl) (by kernel_rfl) U) ?_
    simp only [pu]
    refine gq_call (by kernel_rfl) (some 60) rfl 19 #[.string a5] (.bool true) (fun U hU => by kernel_rfl) (fun U hU => (CP1 U hU).mono fun e w2 z => ⟨z.1, hU.trans (z.2.mono hU.size)⟩) ?_
    simp only [pu]
    refine gy (.bool false) <| gy (.bool false) <| gy (.bool false) <| gy (.string K) <| gyv (.string a1) (fun U hU => add_s rfl _ _ _ ha1 hla1 (by kernel_rfl) (by kernel_rfl) U) <| gy (.int .u64 v) ?_
    simp only [pu]
    refine gq_call (by kernel_rfl) (some 67) rfl 25 #[.int .u64 v] (.string D) (fun U hU => by kernel_rfl) (fun U hU => (CU U).mono fun e w2 z => ⟨z.1, hU.trans (z.2.mono hU.size)⟩) ?_
    simp only [pu]
    refine gyv (.string a2) (fun U hU => add_s rfl _ _ _ ha2 hla2 (by kernel_rfl) (by kernel_rfl) U) <| gy (.string tl) <| gyv (.string a6) (fun U hU => add_s rfl _ _ _ ha6 hla6 (by kernel_rfl) (by kernel_rfl) U) ?_
    simp only [pu]
    refine gq_call (by kernel_rfl) (some 71) rfl 19 #[.string a6] (.bool true) (fun U hU => by kernel_rfl) (fun U hU => (CP2 U hU).mono fun e w2 z => ⟨z.1, hU.trans (z.2.mono hU.size)⟩) ?_
    simp only [pu]
    refine gy (.bool false) <| gy (.bool false) <| gy (.bool false) <| gy (.string K) <| gyv (.string a7) (fun U hU => add_s rfl _ _ _ ha7 hla7 (by kernel_rfl) (by kernel_rfl) U) <| gy (.int .u64 v) ?_
    simp only [pu]
    refine gq_call (by kernel_rfl) (some 78) rfl 25 #[.int .u64 v] (.string D) (fun U hU => by kernel_rfl) (fun U hU => (CU U).mono fun e w2 z => ⟨z.1, hU.trans (z.2.mono hU.size)⟩) ?_
    simp only [pu]
    refine gyv (.string a8) (fun U hU => add_s rfl _ _ _ ha8 hla8 (by kernel_rfl) (by kernel_rfl) U) ?_
    simp only [pu]
    refine gq_call (by kernel_rfl) (some 80) rfl 19 #[.string a8] (.bool true) (fun U hU => by kernel_rfl) (fun U hU => (CP3 U hU).mono fun e w2 z => ⟨z.1, hU.trans (z.2.mono hU.size)⟩) ?_
    simp only [pu]
    refine gy (.bool false) <| gy (.bool false) ?_
    simp only [pu]
    apply wpQuiet_nil
    intro V4 hV4
    have HR4 := Lib.hid (HRW.out.trans (hV4.mono HRW.out.size))
    clear hV4 CU CP0 CP1 CP2 CP3 ha1 hsa1 hla1 ha2 hsa2 hla2 ha3 hsa3 hla3 ha4 hsa4 hla4 ha5 hsa5 hla5 ha6 hsa6 hla6 ha7 hsa7 hla7 ha8 hsa8 hla8 hz3 hz4 hz3s
    go_upto_region 10 with fail
    refine wl <| gzv (.int .i64 (i + 1 : Nat)) (add_one rfl i (by omega) (by kernel_rfl) _) <| gz1 (.int .i64 (i + 1 : Nat)) <| wn ?_
    simp only [pu]
    go_wp2_with fail
    go_roundg (6 - (i + 1))
    case measure => have := HGK.out; omega
    case rel => exact ⟨i + 1, rfl, by omega, by omega, HR4⟩
   ·skip
    obtain rfl : i = 6 := by omega
    go_upto_region 6 with fail
    refine wl <| gzb (lss_n rfl ((6 : Nat)) (6) dF) <| wn ?_
    simp only [pu]
    go_upto_region 11 with fail
    refine wl <| gzc (.bool true) (fun w' => Below wr.heap.size wr w') (known_true HQ wr (HB2.out.trans (HRW.out.mono HB2.out.size))) (fun V6 hb6 => ?_)
    simp only [pu]
    refine gz1 (.bool true) <| wn ?_
    simp only [pu]
    have HE := Lib.hid (HB2.out.trans ((HRW.out.trans (hb6.mono HRW.out.size)).mono HB2.out.size))
    go_wp2_with fail
    go_ret
    exact ⟨rfl, HE.out⟩
end Go.Proofs.YtplfineaomneiaaDoor
