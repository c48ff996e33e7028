/-
 The reference's GetEntry, SameInts, SameEntry: contracts.
-/
import Derived.Test.YtmpajgaanghpoaaRB
namespace Go.Proofs.Ytmpajgaanghpoaa
attribute [local irreducible] wpList wpQuiet
open Go.RowKit
set_option maxRecDepth 100000
set_option linter.unusedSimpArgs false
set_option linter.unusedVariables false

theorem all_same : ∀ (A B : List Int), A.length = B.length → ((List.range A.length).all fun i => A.getD i 0 == B.getD i 0) = (A == B)
 | [], [], _ => rfl
 | x :: xs, y :: ys, h => by
  have ih := all_same xs ys (by simpa using h)
  rw [List.length_cons, List.range_succ_eq_map, List.all_cons, List.all_map]
  simp only [List.getD_cons_zero, Function.comp_def, List.getD_cons_succ, ih]
  simp [List.cons_beq_cons]
 | [], _ :: _, h => by simp at h
 | _ :: _, [], h => by simp at h

theorem keys_cmp {P : Program} (w : World) (d t e n : Nat) (ht : P.underlying t = some (.array n e)) (he : P.underlying e = some (.int .u8)) (hsz : ∀ w, (sizeOf e).run P w = .ok 1 w) (A B : List Int) (hx : A.length = n) (hy : B.length = n) :
  (Op.equalIn (d + 2) t (.agg (w8s A)) (.agg (w8s B))).run P w = .ok (A == B) w := by
 rw [← all_same A B (hx.trans hy.symm), hx, List.range_eq_range', Op.equalIn]
 simp only [Sem.run_bind, run_underlying ht, Result.andThen_ok, hsz, Std.Legacy.Range.forIn_eq_forIn_range', Std.Legacy.Range.size, Nat.sub_zero, Nat.add_sub_cancel, Nat.div_one]
 have hl : ∀ i ∈ List.range' 0 n 1, i < n := fun i hi => by simpa using (List.mem_range'_1.1 hi).2
 generalize List.range' 0 n 1 = l at hl ⊢
 induction l with
 | nil => simp
 | cons i l ih =>
  have hi : i < n := hl i (by simp)
  have px : (part e (w8s A) (i * 1)).run P w = .ok (.int .u8 (A.getD i 0)) w := by
   simp [part, isAgg, run_underlying he, List.getD, List.getElem?_eq_getElem (show i < A.length by omega)]
  have py : (part e (w8s B) (i * 1)).run P w = .ok (.int .u8 (B.getD i 0)) w := by
   simp [part, isAgg, run_underlying he, List.getD, List.getElem?_eq_getElem (show i < B.length by omega)]
  have pe : (Op.equalIn (d + 1) e (.int .u8 (A.getD i 0)) (.int .u8 (B.getD i 0))).run P w = .ok (A.getD i 0 == B.getD i 0) w := run_equalIn_int w d e .u8 .u8 _ _ he
  simp only [List.forIn_cons, Sem.run_bind, px, py, pe, Result.andThen_ok, List.all_cons]
  cases hb : (A.getD i 0 == B.getD i 0)
  ·simp
  ·simp only [Bool.not_true, Bool.false_eq_true, if_false, Sem.run_pure, Result.andThen_ok, Bool.true_and]
   exact ih fun j hj => hl j (by simp [hj])
theorem key_cmp (A B : List Int) (hA : A.length = 32) (hB : B.length = 32) (w : World) : (Op.equalIn 10000 40 (.agg (w8s A)) (.agg (w8s B))).run Try.prog w = .ok (A == B) w :=
 keys_cmp w 9998 40 5 32 (by kernel_rfl) Try.underlying5 (fun w => by kernel_rfl) A B hA hB
theorem key_guard25 : Try.prog.eqGuardType Try.prog.depth 40 = false := by kernel_rfl
theorem eq_key {ρ : Operand → Value} {o : Oper} {x y : Operand} (ho : o.op = .binOp .eql 40 x y 40) (A B : List Int) (hA : A.length = 32) (hB : B.length = 32) (hx : ρ x = .agg (w8s A)) (hy : ρ y = .agg (w8s B)) (w : World) :
  (execOp ρ o).run Try.prog w = .ok (.value (.bool (A == B))) w := by
 have h1 := key_cmp A B hA hB w
 have h2 := key_guard25
 unfold execOp
 simp only [ho, hx, hy]
 simp [h1, h2, go_sem]
theorem str_self (s : ByteArray) : (s == s) = true := by
 rw [beq_toListBytes]
 exact beq_self_eq_true _
theorem eql_ky {ρ : Operand → Value} {o : Oper} {x y : Operand} (ho : o.op = .binOp .eql 40 x y 40) (k : Nat → Int) (hx : ρ x = .agg (kcA k)) (hy : ρ y = .agg (kcA k)) (w : World) : (execOp ρ o).run Try.prog w = .ok (.value (.bool true)) w := by
 have e : kcA k = w8s ((List.range 32).map k) := rfl
 rw [e] at hx hy
 have := eq_key ho ((List.range 32).map k) ((List.range 32).map k) (by simp) (by simp) hx hy w
 rwa [beq_self_eq_true] at this
set_option maxRecDepth 100000 in
set_option maxHeartbeats 8000000 in
theorem get_neg {w : World} {ap af : Option Addr} {n cp nf cf : Nat} {mo : Int} (x y : Int) (hx : x < 0) : Calls Try.prog 18 #[.agg (rsA mo ap n cp af nf cf), .agg #[.int .i64 x, .int .i64 y]] w fun r w' => r = .returned (.tuple #[.agg (enA zEn zAd), .bool false]) ∧ Below w.heap.size w w' := by
 go_enter Try.func18, Try.ntmps18
 go_upto_region 1 with fail
 change Code.wp _ _ _ _ (((w.alloc (.cells (rsA mo ap n cp af nf cf) 28)).alloc (.cells #[.int .i64 x, .int .i64 y] 33)).alloc (.cells (enA zEn zAd) 44))
 have hb1 : Below w.heap.size w (w.alloc (.cells (rsA mo ap n cp af nf cf) 28)) := (Below.refl _ w).alloc (Nat.le_refl _) _
 have hX2 : Bx (w.alloc (.cells (rsA mo ap n cp af nf cf) 28)) w.heap.size (rsA mo ap n cp af nf cf) 28 := heap_alloc_last w _
 have hs1 : (w.alloc (.cells (rsA mo ap n cp af nf cf) 28)).heap.size = w.heap.size + 1 := by simp
 generalize (w.alloc (.cells (rsA mo ap n cp af nf cf) 28)) = W1 at *
 have hb2 : Below w.heap.size w (W1.alloc (.cells #[.int .i64 x, .int .i64 y] 33)) := hb1.alloc hb1.size _
 have hX2 : Bx (W1.alloc (.cells #[.int .i64 x, .int .i64 y] 33)) w.heap.size (rsA mo ap n cp af nf cf) 28 := hX2.below hX2.lt ((Below.refl _ W1).alloc (Nat.le_refl _) _)
 have hX3 : Bx (W1.alloc (.cells #[.int .i64 x, .int .i64 y] 33)) W1.heap.size #[.int .i64 x, .int .i64 y] 33 := heap_alloc_last W1 _
 have hs2 : (W1.alloc (.cells #[.int .i64 x, .int .i64 y] 33)).heap.size = W1.heap.size + 1 := by simp
 generalize (W1.alloc (.cells #[.int .i64 x, .int .i64 y] 33)) = W2 at *
 have hb0 : Below w.heap.size w (W2.alloc (.cells (enA zEn zAd) 44)) := hb2.alloc hb2.size _
 have hX2 : Bx (W2.alloc (.cells (enA zEn zAd) 44)) w.heap.size (rsA mo ap n cp af nf cf) 28 := hX2.below hX2.lt ((Below.refl _ W2).alloc (Nat.le_refl _) _)
 have hX3 : Bx (W2.alloc (.cells (enA zEn zAd) 44)) W1.heap.size #[.int .i64 x, .int .i64 y] 33 := hX3.below hX3.lt ((Below.refl _ W2).alloc (Nat.le_refl _) _)
 have hX4 : Bx (W2.alloc (.cells (enA zEn zAd) 44)) W2.heap.size (enA zEn zAd) 44 := heap_alloc_last W2 _
 generalize (W2.alloc (.cells (enA zEn zAd) 44)) = W at *
 rw [hs2, hs1] at hX4
 rw [hs1] at hX3
 obtain ⟨g2, hg2⟩ : ∃ g, w.heap.size = g := ⟨_, rfl⟩
 obtain ⟨g3, hg3⟩ : ∃ g, g2 + 1 = g := ⟨_, rfl⟩
 obtain ⟨g4, hg4⟩ : ∃ g, g3 + 1 = g := ⟨_, rfl⟩
 rw [show w.heap.size + 1 = g3 by omega] at hX3
 rw [show w.heap.size + 1 + 1 = g4 by omega] at hX4
 have HG : Hid (w.heap.size ≤ g2 ∧ w.heap.size ≤ g3 ∧ w.heap.size ≤ g4 ∧ g2 ≠ g4 ∧ g3 ≠ g4) := Lib.hid ⟨by omega, by omega, by omega, by omega, by omega⟩
 rw [hg2] at hX2
 simp only [hg2]
 simp only [hg3]
 simp only [hg4]
 have HB := Lib.hid hb0
 have HBW : Hid (w.heap.size < W.heap.size) := Lib.hid (by have := hX4.lt; omega)
 clear hb1 hb2 hs1 hs2 hb0 hg2 hg3 hg4
 go_upto_region 1 with fail
 refine wp_region_class (C := fun U => Below W.heap.size W U) (by kernel_rfl) (by kernel_rfl) ((Below.refl _ W).drew) ?_
 refine gy (.pointer (some ⟨g3, 0, none⟩)) <| gyl rfl ⟨g3, 0, none⟩ (.int .i64 x) (fun U hU => (hX3.below hX3.lt hU).load (i := 0) rfl (by kernel_rfl)) <| gyv (.bool true) (fun U hU => lss_n rfl (x) (0) dT (by kernel_rfl) (by kernel_rfl) U) <| gy (.bool true) <| gyn <| gyn <| gyn <| gyn <| gyn <|
   gyn <| gy (.bool true) <| gy (.bool true) <| gyn <| gyn <| gyn <| gyn <| gyn <| gyn <| gyn <| gyn <| gy (.bool true) <| gy (.bool true) <| gyn <| gyn <| gyn <| gyn <| gyn <| gyn <| gyn <| gyn <| gyn <| gyn <| gyn <| gy (.bool true) ?_
 simp only [pu]
 apply wpQuiet_nil
 intro V hV
 have hX4V := hX4.below hX4.lt hV
 obtain ⟨V2, hst, hY, hbt⟩ := st_all (cs' := enA zEn zAd) (ty := 44) hX4V rfl (enA_one _ _) (by kernel_rfl)
 have HE := Lib.hid ((HB.out.trans (hV.mono HB.out.size)).trans (hbt.1.mono HG.out.2.2.1))
 clear hX2 hX3 hX4 hX4V hV hbt
 go_upto_region 2 with fail
 refine wl <| gz1 (.agg (enA zEn zAd)) <| gzs rfl (hst) <| gz1 (.bool false) <| wn ?_
 simp only [pu]
 clear hst
 go_wp2_with fail
 exact bodyPost_ret (results_c rfl (by kernel_rfl) (load_en (bx_range hY)) (by kernel_rfl)) rfl ⟨rfl, HE.out⟩
set_option maxRecDepth 100000 in
set_option maxHeartbeats 8000000 in
theorem get_big {w : World} {ap af : Option Addr} {n cp nf cf : Nat} {mo : Int} (x y : Int) (hx : 0 ≤ x) (hx2 : (n : Int) ≤ x) : Calls Try.prog 18 #[.agg (rsA mo ap n cp af nf cf), .agg #[.int .i64 x, .int .i64 y]] w fun r w' => r = .returned (.tuple #[.agg (enA zEn zAd), .bool false]) ∧ Below w.heap.size w w' := by
 go_enter Try.func18, Try.ntmps18
 go_upto_region 1 with fail
 change Code.wp _ _ _ _ (((w.alloc (.cells (rsA mo ap n cp af nf cf) 28)).alloc (.cells #[.int .i64 x, .int .i64 y] 33)).alloc (.cells (enA zEn zAd) 44))
 have hb1 : Below w.heap.size w (w.alloc (.cells (rsA mo ap n cp af nf cf) 28)) := (Below.refl _ w).alloc (Nat.le_refl _) _
 have hX2 : Bx (w.alloc (.cells (rsA mo ap n cp af nf cf) 28)) w.heap.size (rsA mo ap n cp af nf cf) 28 := heap_alloc_last w _
 have hs1 : (w.alloc (.cells (rsA mo ap n cp af nf cf) 28)).heap.size = w.heap.size + 1 := by simp
 generalize (w.alloc (.cells (rsA mo ap n cp af nf cf) 28)) = W1 at *
 have hb2 : Below w.heap.size w (W1.alloc (.cells #[.int .i64 x, .int .i64 y] 33)) := hb1.alloc hb1.size _
 have hX2 : Bx (W1.alloc (.cells #[.int .i64 x, .int .i64 y] 33)) w.heap.size (rsA mo ap n cp af nf cf) 28 := hX2.below hX2.lt ((Below.refl _ W1).alloc (Nat.le_refl _) _)
 have hX3 : Bx (W1.alloc (.cells #[.int .i64 x, .int .i64 y] 33)) W1.heap.size #[.int .i64 x, .int .i64 y] 33 := heap_alloc_last W1 _
 have hs2 : (W1.alloc (.cells #[.int .i64 x, .int .i64 y] 33)).heap.size = W1.heap.size + 1 := by simp
 generalize (W1.alloc (.cells #[.int .i64 x, .int .i64 y] 33)) = W2 at *
 have hb0 : Below w.heap.size w (W2.alloc (.cells (enA zEn zAd) 44)) := hb2.alloc hb2.size _
 have hX2 : Bx (W2.alloc (.cells (enA zEn zAd) 44)) w.heap.size (rsA mo ap n cp af nf cf) 28 := hX2.below hX2.lt ((Below.refl _ W2).alloc (Nat.le_refl _) _)
 have hX3 : Bx (W2.alloc (.cells (enA zEn zAd) 44)) W1.heap.size #[.int .i64 x, .int .i64 y] 33 := hX3.below hX3.lt ((Below.refl _ W2).alloc (Nat.le_refl _) _)
 have hX4 : Bx (W2.alloc (.cells (enA zEn zAd) 44)) W2.heap.size (enA zEn zAd) 44 := heap_alloc_last W2 _
 generalize (W2.alloc (.cells (enA zEn zAd) 44)) = W at *
 rw [hs2, hs1] at hX4
 rw [hs1] at hX3
 obtain ⟨g2, hg2⟩ : ∃ g, w.heap.size = g := ⟨_, rfl⟩
 obtain ⟨g3, hg3⟩ : ∃ g, g2 + 1 = g := ⟨_, rfl⟩
 obtain ⟨g4, hg4⟩ : ∃ g, g3 + 1 = g := ⟨_, rfl⟩
 rw [show w.heap.size + 1 = g3 by omega] at hX3
 rw [show w.heap.size + 1 + 1 = g4 by omega] at hX4
 have HG : Hid (w.heap.size ≤ g2 ∧ w.heap.size ≤ g3 ∧ w.heap.size ≤ g4 ∧ g2 ≠ g4 ∧ g3 ≠ g4) := Lib.hid ⟨by omega, by omega, by omega, by omega, by omega⟩
 rw [hg2] at hX2
 simp only [hg2]
 simp only [hg3]
 simp only [hg4]
 have HB := Lib.hid hb0
 have HBW : Hid (w.heap.size < W.heap.size) := Lib.hid (by have := hX4.lt; omega)
 clear hb1 hb2 hs1 hs2 hb0 hg2 hg3 hg4
 go_upto_region 1 with fail
 refine wp_region_class (C := fun U => Below W.heap.size W U) (by kernel_rfl) (by kernel_rfl) ((Below.refl _ W).drew) ?_
 refine gy (.pointer (some ⟨g3, 0, none⟩)) <| gyl rfl ⟨g3, 0, none⟩ (.int .i64 x) (fun U hU => (hX3.below hX3.lt hU).load (i := 0) rfl (by kernel_rfl)) <| gyv (.bool false) (fun U hU => lss_n rfl (x) (0) dF (by kernel_rfl) (by kernel_rfl) U) <| gy (.bool false) <| gy (.pointer (some ⟨g3, 0, none⟩)) <|
   gyl rfl ⟨g3, 0, none⟩ (.int .i64 x) (fun U hU => (hX3.below hX3.lt hU).load (i := 0) rfl (by kernel_rfl)) <| gy (.pointer (some ⟨g2, 1, none⟩)) <| gyl rfl ⟨g2, 1, none⟩ (.slice ap n cp) (fun U hU => (hX2.below hX2.lt hU).load (i := 1) rfl (by kernel_rfl)) <| gy (.int .i64 n) <|
   gyv (.bool true) (fun U hU => geq_n rfl (x) (n) dT (by kernel_rfl) (by kernel_rfl) U) <| gy (.bool true) <| gy (.bool true) <| gyn <| gyn <| gyn <| gyn <| gyn <| gyn <| gyn <| gyn <| gy (.bool true) <| gy (.bool true) <| gyn <| gyn <| gyn <| gyn <| gyn <| gyn <| gyn <| gyn <| gyn <| gyn <| gyn <|
   gy (.bool true) ?_
 simp only [pu]
 apply wpQuiet_nil
 intro V hV
 have hX4V := hX4.below hX4.lt hV
 obtain ⟨V2, hst, hY, hbt⟩ := st_all (cs' := enA zEn zAd) (ty := 44) hX4V rfl (enA_one _ _) (by kernel_rfl)
 have HE := Lib.hid ((HB.out.trans (hV.mono HB.out.size)).trans (hbt.1.mono HG.out.2.2.1))
 clear hX2 hX3 hX4 hX4V hV hbt
 go_upto_region 2 with fail
 refine wl <| gz1 (.agg (enA zEn zAd)) <| gzs rfl (hst) <| gz1 (.bool false) <| wn ?_
 simp only [pu]
 clear hst
 go_wp2_with fail
 exact bodyPost_ret (results_c rfl (by kernel_rfl) (load_en (bx_range hY)) (by kernel_rfl)) rfl ⟨rfl, HE.out⟩
set_option maxRecDepth 100000 in
set_option maxHeartbeats 8000000 in
theorem get_nf {w : World} {b off n cp nf cf : Nat} {af : Option Addr} {mo : Int} (x y : Int) {i : Nat} (hxi : x = i) (hin : i < n) (hbl : b < w.heap.size) {z9 : Pn × Ad} (hr : w.rangeAt b (off + i * 43) (pll z9)) (hus : z9.1.us ≤ 1000000) (hfu : z9.1.full = false) : Calls Try.prog 18 #[.agg (rsA mo (some ⟨b, off, none⟩) n cp af nf cf), .agg #[.int .i64 x, .int .i64 y]] w fun r w' => r = .returned (.tuple #[.agg (enA zEn zAd), .bool false]) ∧ Below w.heap.size w w' := by
 subst hxi
 go_enter Try.func18, Try.ntmps18
 go_upto_region 1 with fail
 change Code.wp _ _ _ _ (((w.alloc (.cells (rsA mo (some ⟨b, off, none⟩) n cp af nf cf) 28)).alloc (.cells #[.int .i64 i, .int .i64 y] 33)).alloc (.cells (enA zEn zAd) 44))
 have hb1 : Below w.heap.size w (w.alloc (.cells (rsA mo (some ⟨b, off, none⟩) n cp af nf cf) 28)) := (Below.refl _ w).alloc (Nat.le_refl _) _
 have hX2 : Bx (w.alloc (.cells (rsA mo (some ⟨b, off, none⟩) n cp af nf cf) 28)) w.heap.size (rsA mo (some ⟨b, off, none⟩) n cp af nf cf) 28 := heap_alloc_last w _
 have hs1 : (w.alloc (.cells (rsA mo (some ⟨b, off, none⟩) n cp af nf cf) 28)).heap.size = w.heap.size + 1 := by simp
 generalize (w.alloc (.cells (rsA mo (some ⟨b, off, none⟩) n cp af nf cf) 28)) = W1 at *
 have hb2 : Below w.heap.size w (W1.alloc (.cells #[.int .i64 i, .int .i64 y] 33)) := hb1.alloc hb1.size _
 have hX2 : Bx (W1.alloc (.cells #[.int .i64 i, .int .i64 y] 33)) w.heap.size (rsA mo (some ⟨b, off, none⟩) n cp af nf cf) 28 := hX2.below hX2.lt ((Below.refl _ W1).alloc (Nat.le_refl _) _)
 have hX3 : Bx (W1.alloc (.cells #[.int .i64 i, .int .i64 y] 33)) W1.heap.size #[.int .i64 i, .int .i64 y] 33 := heap_alloc_last W1 _
 have hs2 : (W1.alloc (.cells #[.int .i64 i, .int .i64 y] 33)).heap.size = W1.heap.size + 1 := by simp
 generalize (W1.alloc (.cells #[.int .i64 i, .int .i64 y] 33)) = W2 at *
 have hb0 : Below w.heap.size w (W2.alloc (.cells (enA zEn zAd) 44)) := hb2.alloc hb2.size _
 have hX2 : Bx (W2.alloc (.cells (enA zEn zAd) 44)) w.heap.size (rsA mo (some ⟨b, off, none⟩) n cp af nf cf) 28 := hX2.below hX2.lt ((Below.refl _ W2).alloc (Nat.le_refl _) _)
 have hX3 : Bx (W2.alloc (.cells (enA zEn zAd) 44)) W1.heap.size #[.int .i64 i, .int .i64 y] 33 := hX3.below hX3.lt ((Below.refl _ W2).alloc (Nat.le_refl _) _)
 have hX4 : Bx (W2.alloc (.cells (enA zEn zAd) 44)) W2.heap.size (enA zEn zAd) 44 := heap_alloc_last W2 _
 generalize (W2.alloc (.cells (enA zEn zAd) 44)) = W at *
 rw [hs2, hs1] at hX4
 rw [hs1] at hX3
 obtain ⟨g2, hg2⟩ : ∃ g, w.heap.size = g := ⟨_, rfl⟩
 obtain ⟨g3, hg3⟩ : ∃ g, g2 + 1 = g := ⟨_, rfl⟩
 obtain ⟨g4, hg4⟩ : ∃ g, g3 + 1 = g := ⟨_, rfl⟩
 rw [show w.heap.size + 1 = g3 by omega] at hX3
 rw [show w.heap.size + 1 + 1 = g4 by omega] at hX4
 have HG : Hid (w.heap.size ≤ g2 ∧ w.heap.size ≤ g3 ∧ w.heap.size ≤ g4 ∧ g2 ≠ g4 ∧ g3 ≠ g4) := Lib.hid ⟨by omega, by omega, by omega, by omega, by omega⟩
 rw [hg2] at hX2
 simp only [hg2]
 simp only [hg3]
 simp only [hg4]
 have HB := Lib.hid hb0
 have HBW : Hid (w.heap.size < W.heap.size) := Lib.hid (by have := hX4.lt; omega)
 clear hb1 hb2 hs1 hs2 hb0 hg2 hg3 hg4
 have hrW := rg_below hr HB.out
 have HBL : Hid (b < g4) := Lib.hid (by have := HG.out; omega)
 clear hr hbl
 go_upto_region 1 with fail
 refine wp_region_class (C := fun U => Below W.heap.size W U) (by kernel_rfl) (by kernel_rfl) ((Below.refl _ W).drew) ?_
 refine gy (.pointer (some ⟨g3, 0, none⟩)) <| gyl rfl ⟨g3, 0, none⟩ (.int .i64 i) (fun U hU => (hX3.below hX3.lt hU).load (i := 0) rfl (by kernel_rfl)) <| gyv (.bool false) (fun U hU => lss_n rfl (i) (0) dF (by kernel_rfl) (by kernel_rfl) U) <| gy (.bool false) <| gy (.pointer (some ⟨g3, 0, none⟩)) <|
   gyl rfl ⟨g3, 0, none⟩ (.int .i64 i) (fun U hU => (hX3.below hX3.lt hU).load (i := 0) rfl (by kernel_rfl)) <| gy (.pointer (some ⟨g2, 1, none⟩)) <| gyl rfl ⟨g2, 1, none⟩ (.slice (some ⟨b, off, none⟩) n cp) (fun U hU => (hX2.below hX2.lt hU).load (i := 1) rfl (by kernel_rfl)) <| gy (.int .i64 n) <|
   gyv (.bool false) (fun U hU => geq_n rfl (i) (n) dF (by kernel_rfl) (by kernel_rfl) U) <| gy (.bool false) <| gy (.bool false) <| gy (.pointer (some ⟨g2, 1, none⟩)) <| gyl rfl ⟨g2, 1, none⟩ (.slice (some ⟨b, off, none⟩) n cp) (fun U hU => (hX2.below hX2.lt hU).load (i := 1) rfl (by kernel_rfl)) <|
   gy (.pointer (some ⟨g3, 0, none⟩)) <| gyl rfl ⟨g3, 0, none⟩ (.int .i64 i) (fun U hU => (hX3.below hX3.lt hU).load (i := 0) rfl (by kernel_rfl)) <| gyv (.pointer (some ⟨b, off + i * 43, none⟩)) (fun U hU => idx_pl b off n cp i hin U _ _ rfl (by kernel_rfl) (by kernel_rfl)) <|
   gy (.pointer (some ⟨b, off + i * 43, none⟩)) <| gyl rfl ⟨b, off + i * 43, none⟩ (.bool false) (fun U hU => rg_cell (rg_below hrW hU) (j := 0) (by rw [← hfu]; rfl) (by kernel_rfl)) <| gy (.bool true) <| gy (.bool true) <| gy (.bool true) <| gyn <| gyn <| gyn <| gyn <| gyn <| gyn <| gyn <| gyn <|
   gyn <| gyn <| gyn <| gy (.bool true) ?_
 simp only [pu]
 apply wpQuiet_nil
 intro V hV
 have hX4V := hX4.below hX4.lt hV
 obtain ⟨V2, hst, hY, hbt⟩ := st_all (cs' := enA zEn zAd) (ty := 44) hX4V rfl (enA_one _ _) (by kernel_rfl)
 have HE := Lib.hid ((HB.out.trans (hV.mono HB.out.size)).trans (hbt.1.mono HG.out.2.2.1))
 clear hX2 hX3 hX4 hX4V hV hbt
 go_upto_region 2 with fail
 refine wl <| gz1 (.agg (enA zEn zAd)) <| gzs rfl (hst) <| gz1 (.bool false) <| wn ?_
 simp only [pu]
 clear hst
 go_wp2_with fail
 exact bodyPost_ret (results_c rfl (by kernel_rfl) (load_en (bx_range hY)) (by kernel_rfl)) rfl ⟨rfl, HE.out⟩
set_option maxRecDepth 100000 in
set_option maxHeartbeats 8000000 in
theorem get_ne {w : World} {b off n cp nf cf : Nat} {af : Option Addr} {mo : Int} (x y : Int) {i : Nat} (hxi : x = i) (hin : i < n) (hbl : b < w.heap.size) {z9 : Pn × Ad} (hr : w.rangeAt b (off + i * 43) (pll z9)) (hus : z9.1.us ≤ 1000000) (hfu : z9.1.full = true) (hne : (z9.1.us : Int) - 1 ≠ y) : Calls Try.prog 18 #[.agg (rsA mo (some ⟨b, off, none⟩) n cp af nf cf), .agg #[.int .i64 x, .int .i64 y]] w fun r w' => r = .returned (.tuple #[.agg (enA zEn zAd), .bool false]) ∧ Below w.heap.size w w' := by
 subst hxi
 go_enter Try.func18, Try.ntmps18
 go_upto_region 1 with fail
 change Code.wp _ _ _ _ (((w.alloc (.cells (rsA mo (some ⟨b, off, none⟩) n cp af nf cf) 28)).alloc (.cells #[.int .i64 i, .int .i64 y] 33)).alloc (.cells (enA zEn zAd) 44))
 have hb1 : Below w.heap.size w (w.alloc (.cells (rsA mo (some ⟨b, off, none⟩) n cp af nf cf) 28)) := (Below.refl _ w).alloc (Nat.le_refl _) _
 have hX2 : Bx (w.alloc (.cells (rsA mo (some ⟨b, off, none⟩) n cp af nf cf) 28)) w.heap.size (rsA mo (some ⟨b, off, none⟩) n cp af nf cf) 28 := heap_alloc_last w _
 have hs1 : (w.alloc (.cells (rsA mo (some ⟨b, off, none⟩) n cp af nf cf) 28)).heap.size = w.heap.size + 1 := by simp
 generalize (w.alloc (.cells (rsA mo (some ⟨b, off, none⟩) n cp af nf cf) 28)) = W1 at *
 have hb2 : Below w.heap.size w (W1.alloc (.cells #[.int .i64 i, .int .i64 y] 33)) := hb1.alloc hb1.size _
 have hX2 : Bx (W1.alloc (.cells #[.int .i64 i, .int .i64 y] 33)) w.heap.size (rsA mo (some ⟨b, off, none⟩) n cp af nf cf) 28 := hX2.below hX2.lt ((Below.refl _ W1).alloc (Nat.le_refl _) _)
 have hX3 : Bx (W1.alloc (.cells #[.int .i64 i, .int .i64 y] 33)) W1.heap.size #[.int .i64 i, .int .i64 y] 33 := heap_alloc_last W1 _
 have hs2 : (W1.alloc (.cells #[.int .i64 i, .int .i64 y] 33)).heap.size = W1.heap.size + 1 := by simp
 generalize (W1.alloc (.cells #[.int .i64 i, .int .i64 y] 33)) = W2 at *
 have hb0 : Below w.heap.size w (W2.alloc (.cells (enA zEn zAd) 44)) := hb2.alloc hb2.size _
 have hX2 : Bx (W2.alloc (.cells (enA zEn zAd) 44)) w.heap.size (rsA mo (some ⟨b, off, none⟩) n cp af nf cf) 28 := hX2.below hX2.lt ((Below.refl _ W2).alloc (Nat.le_refl _) _)
 have hX3 : Bx (W2.alloc (.cells (enA zEn zAd) 44)) W1.heap.size #[.int .i64 i, .int .i64 y] 33 := hX3.below hX3.lt ((Below.refl _ W2).alloc (Nat.le_refl _) _)
 have hX4 : Bx (W2.alloc (.cells (enA zEn zAd) 44)) W2.heap.size (enA zEn zAd) 44 := heap_alloc_last W2 _
 generalize (W2.alloc (.cells (enA zEn zAd) 44)) = W at *
 rw [hs2, hs1] at hX4
 rw [hs1] at hX3
 obtain ⟨g2, hg2⟩ : ∃ g, w.heap.size = g := ⟨_, rfl⟩
 obtain ⟨g3, hg3⟩ : ∃ g, g2 + 1 = g := ⟨_, rfl⟩
 obtain ⟨g4, hg4⟩ : ∃ g, g3 + 1 = g := ⟨_, rfl⟩
 rw [show w.heap.size + 1 = g3 by omega] at hX3
 rw [show w.heap.size + 1 + 1 = g4 by omega] at hX4
 have HG : Hid (w.heap.size ≤ g2 ∧ w.heap.size ≤ g3 ∧ w.heap.size ≤ g4 ∧ g2 ≠ g4 ∧ g3 ≠ g4) := Lib.hid ⟨by omega, by omega, by omega, by omega, by omega⟩
 rw [hg2] at hX2
 simp only [hg2]
 simp only [hg3]
 simp only [hg4]
 have HB := Lib.hid hb0
 have HBW : Hid (w.heap.size < W.heap.size) := Lib.hid (by have := hX4.lt; omega)
 clear hb1 hb2 hs1 hs2 hb0 hg2 hg3 hg4
 have hrW := rg_below hr HB.out
 have HBL : Hid (b < g4) := Lib.hid (by have := HG.out; omega)
 clear hr hbl
 go_upto_region 1 with fail
 refine wp_region_class (C := fun U => Below W.heap.size W U) (by kernel_rfl) (by kernel_rfl) ((Below.refl _ W).drew) ?_
 refine gy (.pointer (some ⟨g3, 0, none⟩)) <| gyl rfl ⟨g3, 0, none⟩ (.int .i64 i) (fun U hU => (hX3.below hX3.lt hU).load (i := 0) rfl (by kernel_rfl)) <| gyv (.bool false) (fun U hU => lss_n rfl (i) (0) dF (by kernel_rfl) (by kernel_rfl) U) <| gy (.bool false) <| gy (.pointer (some ⟨g3, 0, none⟩)) <|
   gyl rfl ⟨g3, 0, none⟩ (.int .i64 i) (fun U hU => (hX3.below hX3.lt hU).load (i := 0) rfl (by kernel_rfl)) <| gy (.pointer (some ⟨g2, 1, none⟩)) <| gyl rfl ⟨g2, 1, none⟩ (.slice (some ⟨b, off, none⟩) n cp) (fun U hU => (hX2.below hX2.lt hU).load (i := 1) rfl (by kernel_rfl)) <| gy (.int .i64 n) <|
   gyv (.bool false) (fun U hU => geq_n rfl (i) (n) dF (by kernel_rfl) (by kernel_rfl) U) <| gy (.bool false) <| gy (.bool false) <| gy (.pointer (some ⟨g2, 1, none⟩)) <| gyl rfl ⟨g2, 1, none⟩ (.slice (some ⟨b, off, none⟩) n cp) (fun U hU => (hX2.below hX2.lt hU).load (i := 1) rfl (by kernel_rfl)) <|
   gy (.pointer (some ⟨g3, 0, none⟩)) <| gyl rfl ⟨g3, 0, none⟩ (.int .i64 i) (fun U hU => (hX3.below hX3.lt hU).load (i := 0) rfl (by kernel_rfl)) <| gyv (.pointer (some ⟨b, off + i * 43, none⟩)) (fun U hU => idx_pl b off n cp i hin U _ _ rfl (by kernel_rfl) (by kernel_rfl)) <|
   gy (.pointer (some ⟨b, off + i * 43, none⟩)) <| gyl rfl ⟨b, off + i * 43, none⟩ (.bool true) (fun U hU => rg_cell (rg_below hrW hU) (j := 0) (by rw [← hfu]; rfl) (by kernel_rfl)) <| gy (.bool false) <| gy (.bool false) <| gy (.bool false) <| gy (.pointer (some ⟨g2, 1, none⟩)) <|
   gyl rfl ⟨g2, 1, none⟩ (.slice (some ⟨b, off, none⟩) n cp) (fun U hU => (hX2.below hX2.lt hU).load (i := 1) rfl (by kernel_rfl)) <| gy (.pointer (some ⟨g3, 0, none⟩)) <| gyl rfl ⟨g3, 0, none⟩ (.int .i64 i) (fun U hU => (hX3.below hX3.lt hU).load (i := 0) rfl (by kernel_rfl)) <|
   gyv (.pointer (some ⟨b, off + i * 43, none⟩)) (fun U hU => idx_pl b off n cp i hin U _ _ rfl (by kernel_rfl) (by kernel_rfl)) <| gy (.pointer (some ⟨b, off + i * 43 + 1, none⟩)) <|
   gyl rfl ⟨b, off + i * 43 + 1, none⟩ (.int .i64 z9.1.us) (fun U hU => rg_cell (rg_below hrW hU) (j := 1) rfl (by kernel_rfl)) <| gyv (.int .i64 ((z9.1.us : Int) - 1)) (fun U hU => sub_i rfl z9.1.us 1 (by omega) (by kernel_rfl) (by kernel_rfl) U) <| gy (.pointer (some ⟨g3, 1, none⟩)) <|
   gyl rfl ⟨g3, 1, none⟩ (.int .i64 y) (fun U hU => (hX3.below hX3.lt hU).load (i := 1) rfl (by kernel_rfl)) <| gyv (.bool true) (fun U hU => neq_n rfl (((z9.1.us : Int) - 1)) (y) (decide_eq_true (hne)) (by kernel_rfl) (by kernel_rfl) U) <| gy (.bool true) ?_
 simp only [pu]
 apply wpQuiet_nil
 intro V hV
 have hX4V := hX4.below hX4.lt hV
 obtain ⟨V2, hst, hY, hbt⟩ := st_all (cs' := enA zEn zAd) (ty := 44) hX4V rfl (enA_one _ _) (by kernel_rfl)
 have HE := Lib.hid ((HB.out.trans (hV.mono HB.out.size)).trans (hbt.1.mono HG.out.2.2.1))
 clear hX2 hX3 hX4 hX4V hV hbt
 go_upto_region 2 with fail
 refine wl <| gz1 (.agg (enA zEn zAd)) <| gzs rfl (hst) <| gz1 (.bool false) <| wn ?_
 simp only [pu]
 clear hst
 go_wp2_with fail
 exact bodyPost_ret (results_c rfl (by kernel_rfl) (load_en (bx_range hY)) (by kernel_rfl)) rfl ⟨rfl, HE.out⟩
set_option maxRecDepth 100000 in
set_option maxHeartbeats 8000000 in
theorem get_ok {w : World} {b off n cp nf cf : Nat} {af : Option Addr} {mo : Int} (x y : Int) {i : Nat} (hxi : x = i) (hin : i < n) (hbl : b < w.heap.size) {z9 : Pn × Ad} (hr : w.rangeAt b (off + i * 43) (pll z9)) (hus : z9.1.us ≤ 1000000) (hfu : z9.1.full = true) (hne : ¬ ((z9.1.us : Int) - 1 ≠ y)) : Calls Try.prog 18 #[.agg (rsA mo (some ⟨b, off, none⟩) n cp af nf cf), .agg #[.int .i64 x, .int .i64 y]] w fun r w' => r = .returned (.tuple #[.agg (enA z9.1.e z9.2), .bool true]) ∧ Below w.heap.size w w' := by
 subst hxi
 go_enter Try.func18, Try.ntmps18
 go_upto_region 1 with fail
 change Code.wp _ _ _ _ (((w.alloc (.cells (rsA mo (some ⟨b, off, none⟩) n cp af nf cf) 28)).alloc (.cells #[.int .i64 i, .int .i64 y] 33)).alloc (.cells (enA zEn zAd) 44))
 have hb1 : Below w.heap.size w (w.alloc (.cells (rsA mo (some ⟨b, off, none⟩) n cp af nf cf) 28)) := (Below.refl _ w).alloc (Nat.le_refl _) _
 have hX2 : Bx (w.alloc (.cells (rsA mo (some ⟨b, off, none⟩) n cp af nf cf) 28)) w.heap.size (rsA mo (some ⟨b, off, none⟩) n cp af nf cf) 28 := heap_alloc_last w _
 have hs1 : (w.alloc (.cells (rsA mo (some ⟨b, off, none⟩) n cp af nf cf) 28)).heap.size = w.heap.size + 1 := by simp
 generalize (w.alloc (.cells (rsA mo (some ⟨b, off, none⟩) n cp af nf cf) 28)) = W1 at *
 have hb2 : Below w.heap.size w (W1.alloc (.cells #[.int .i64 i, .int .i64 y] 33)) := hb1.alloc hb1.size _
 have hX2 : Bx (W1.alloc (.cells #[.int .i64 i, .int .i64 y] 33)) w.heap.size (rsA mo (some ⟨b, off, none⟩) n cp af nf cf) 28 := hX2.below hX2.lt ((Below.refl _ W1).alloc (Nat.le_refl _) _)
 have hX3 : Bx (W1.alloc (.cells #[.int .i64 i, .int .i64 y] 33)) W1.heap.size #[.int .i64 i, .int .i64 y] 33 := heap_alloc_last W1 _
 have hs2 : (W1.alloc (.cells #[.int .i64 i, .int .i64 y] 33)).heap.size = W1.heap.size + 1 := by simp
 generalize (W1.alloc (.cells #[.int .i64 i, .int .i64 y] 33)) = W2 at *
 have hb0 : Below w.heap.size w (W2.alloc (.cells (enA zEn zAd) 44)) := hb2.alloc hb2.size _
 have hX2 : Bx (W2.alloc (.cells (enA zEn zAd) 44)) w.heap.size (rsA mo (some ⟨b, off, none⟩) n cp af nf cf) 28 := hX2.below hX2.lt ((Below.refl _ W2).alloc (Nat.le_refl _) _)
 have hX3 : Bx (W2.alloc (.cells (enA zEn zAd) 44)) W1.heap.size #[.int .i64 i, .int .i64 y] 33 := hX3.below hX3.lt ((Below.refl _ W2).alloc (Nat.le_refl _) _)
 have hX4 : Bx (W2.alloc (.cells (enA zEn zAd) 44)) W2.heap.size (enA zEn zAd) 44 := heap_alloc_last W2 _
 generalize (W2.alloc (.cells (enA zEn zAd) 44)) = W at *
 rw [hs2, hs1] at hX4
 rw [hs1] at hX3
 obtain ⟨g2, hg2⟩ : ∃ g, w.heap.size = g := ⟨_, rfl⟩
 obtain ⟨g3, hg3⟩ : ∃ g, g2 + 1 = g := ⟨_, rfl⟩
 obtain ⟨g4, hg4⟩ : ∃ g, g3 + 1 = g := ⟨_, rfl⟩
 rw [show w.heap.size + 1 = g3 by omega] at hX3
 rw [show w.heap.size + 1 + 1 = g4 by omega] at hX4
 have HG : Hid (w.heap.size ≤ g2 ∧ w.heap.size ≤ g3 ∧ w.heap.size ≤ g4 ∧ g2 ≠ g4 ∧ g3 ≠ g4) := Lib.hid ⟨by omega, by omega, by omega, by omega, by omega⟩
 rw [hg2] at hX2
 simp only [hg2]
 simp only [hg3]
 simp only [hg4]
 have HB := Lib.hid hb0
 have HBW : Hid (w.heap.size < W.heap.size) := Lib.hid (by have := hX4.lt; omega)
 clear hb1 hb2 hs1 hs2 hb0 hg2 hg3 hg4
 have hrW := rg_below hr HB.out
 have HBL : Hid (b < g4) := Lib.hid (by have := HG.out; omega)
 clear hr hbl
 go_upto_region 1 with fail
 refine wp_region_class (C := fun U => Below W.heap.size W U) (by kernel_rfl) (by kernel_rfl) ((Below.refl _ W).drew) ?_
 refine gy (.pointer (some ⟨g3, 0, none⟩)) <| gyl rfl ⟨g3, 0, none⟩ (.int .i64 i) (fun U hU => (hX3.below hX3.lt hU).load (i := 0) rfl (by kernel_rfl)) <| gyv (.bool false) (fun U hU => lss_n rfl (i) (0) dF (by kernel_rfl) (by kernel_rfl) U) <| gy (.bool false) <| gy (.pointer (some ⟨g3, 0, none⟩)) <|
   gyl rfl ⟨g3, 0, none⟩ (.int .i64 i) (fun U hU => (hX3.below hX3.lt hU).load (i := 0) rfl (by kernel_rfl)) <| gy (.pointer (some ⟨g2, 1, none⟩)) <| gyl rfl ⟨g2, 1, none⟩ (.slice (some ⟨b, off, none⟩) n cp) (fun U hU => (hX2.below hX2.lt hU).load (i := 1) rfl (by kernel_rfl)) <| gy (.int .i64 n) <|
   gyv (.bool false) (fun U hU => geq_n rfl (i) (n) dF (by kernel_rfl) (by kernel_rfl) U) <| gy (.bool false) <| gy (.bool false) <| gy (.pointer (some ⟨g2, 1, none⟩)) <| gyl rfl ⟨g2, 1, none⟩ (.slice (some ⟨b, off, none⟩) n cp) (fun U hU => (hX2.below hX2.lt hU).load (i := 1) rfl (by kernel_rfl)) <|
   gy (.pointer (some ⟨g3, 0, none⟩)) <| gyl rfl ⟨g3, 0, none⟩ (.int .i64 i) (fun U hU => (hX3.below hX3.lt hU).load (i := 0) rfl (by kernel_rfl)) <| gyv (.pointer (some ⟨b, off + i * 43, none⟩)) (fun U hU => idx_pl b off n cp i hin U _ _ rfl (by kernel_rfl) (by kernel_rfl)) <|
   gy (.pointer (some ⟨b, off + i * 43, none⟩)) <| gyl rfl ⟨b, off + i * 43, none⟩ (.bool true) (fun U hU => rg_cell (rg_below hrW hU) (j := 0) (by rw [← hfu]; rfl) (by kernel_rfl)) <| gy (.bool false) <| gy (.bool false) <| gy (.bool false) <| gy (.pointer (some ⟨g2, 1, none⟩)) <|
   gyl rfl ⟨g2, 1, none⟩ (.slice (some ⟨b, off, none⟩) n cp) (fun U hU => (hX2.below hX2.lt hU).load (i := 1) rfl (by kernel_rfl)) <| gy (.pointer (some ⟨g3, 0, none⟩)) <| gyl rfl ⟨g3, 0, none⟩ (.int .i64 i) (fun U hU => (hX3.below hX3.lt hU).load (i := 0) rfl (by kernel_rfl)) <|
   gyv (.pointer (some ⟨b, off + i * 43, none⟩)) (fun U hU => idx_pl b off n cp i hin U _ _ rfl (by kernel_rfl) (by kernel_rfl)) <| gy (.pointer (some ⟨b, off + i * 43 + 1, none⟩)) <|
   gyl rfl ⟨b, off + i * 43 + 1, none⟩ (.int .i64 z9.1.us) (fun U hU => rg_cell (rg_below hrW hU) (j := 1) rfl (by kernel_rfl)) <| gyv (.int .i64 ((z9.1.us : Int) - 1)) (fun U hU => sub_i rfl z9.1.us 1 (by omega) (by kernel_rfl) (by kernel_rfl) U) <| gy (.pointer (some ⟨g3, 1, none⟩)) <|
   gyl rfl ⟨g3, 1, none⟩ (.int .i64 y) (fun U hU => (hX3.below hX3.lt hU).load (i := 1) rfl (by kernel_rfl)) <| gyv (.bool false) (fun U hU => neq_n rfl (((z9.1.us : Int) - 1)) (y) (decide_eq_false (hne)) (by kernel_rfl) (by kernel_rfl) U) <| gy (.bool false) ?_
 simp only [pu]
 apply wpQuiet_nil
 intro V hV
 have hX4V := hX4.below hX4.lt hV
 obtain ⟨V2, hst, hY, hbt⟩ := st_all (cs' := enA z9.1.e z9.2) (ty := 44) hX4V rfl (enA_one _ _) (by kernel_rfl)
 have HE := Lib.hid ((HB.out.trans (hV.mono HB.out.size)).trans (hbt.1.mono HG.out.2.2.1))
 have hX2V := hX2.below hX2.lt hV
 have hX3V := hX3.below hX3.lt hV
 have hrV := rg_below hrW hV
 clear hX2 hX3 hX4 hX4V hV hrW hbt
 go_upto_region 3 with fail
 refine wl <| gz1 (.pointer (some ⟨g2, 1, none⟩)) <| gzl rfl ⟨g2, 1, none⟩ (.slice (some ⟨b, off, none⟩) n cp) (hX2V.load (i := 1) rfl (by kernel_rfl)) <| gz1 (.pointer (some ⟨g3, 0, none⟩)) <| gzl rfl ⟨g3, 0, none⟩ (.int .i64 i) (hX3V.load (i := 0) rfl (by kernel_rfl)) <|
  gzv (.pointer (some ⟨b, off + i * 43, none⟩)) (idx_pl b off n cp i hin _ _ _ rfl (by kernel_rfl) (by kernel_rfl)) <| gz1 (.pointer (some ⟨b, off + i * 43 + 2, none⟩)) <| gzl rfl ⟨b, off + i * 43 + 2, none⟩ (.agg (enA z9.1.e z9.2)) (load_en (pl_en hrV)) <| gzs rfl (hst) <| gz1 (.bool true) <|
  wpList_nil ?_
 simp only [pu]
 clear hst
 go_wp2_with fail
 exact bodyPost_ret (results_c rfl (by kernel_rfl) (load_en (bx_range hY)) (by kernel_rfl)) rfl ⟨rfl, HE.out⟩
theorem r_get {w : World} {m : Sm} {L : List (Pn × Ad)} {ap af : Option Addr} {cp cf u : Nat} (q : Int × Int) (hR : Rm w m L ap cp af cf) (hm : Wm m u) (hu : u ≤ 1000000) : Calls Try.prog 18 #[.agg (rsA m.mo ap L.length cp af m.F.length cf), .agg #[.int .i64 q.1, .int .i64 q.2]] w fun r w' => ∃ d, r = .returned (.tuple #[.agg (enA (getS m q) d), .bool (valS m q)]) ∧ EnI w' (getS m q) d ∧ (∀ k, EB (getS m q) d k → RmB m L ap af k) ∧ Below w.heap.size w w' := by
 have hz : ∀ {w' : World}, Below w.heap.size w w' → ∃ d, Ending.returned (.tuple #[.agg (enA zEn zAd), .bool false]) = .returned (.tuple #[.agg (enA zEn d), .bool false]) ∧ EnI w' zEn d ∧ (∀ k, EB zEn d k → RmB m L ap af k) ∧ Below w.heap.size w w' := fun h => ⟨zAd, rfl, EnI.z _, fun k hk => (EB.z hk).elim, h⟩
 have hlen := hR.len
 by_cases h0 : q.1 < 0
 ·have hv := val_neg (m := m) h0
  rw [get_no hv, hv]
  exact (get_neg _ _ h0).mono fun r w' z => by rw [z.1]; exact hz z.2
 ·by_cases h1 : (L.length : Int) ≤ q.1
  ·have hv := val_big (m := m) (h := q) (by rw [← hlen]; exact h1)
   rw [get_no hv, hv]
   exact (get_big _ _ (by omega) h1).mono fun r w' z => by rw [z.1]; exact hz z.2
  ·obtain ⟨i, hi⟩ : ∃ i : Nat, q.1 = i := ⟨q.1.toNat, by omega⟩
   have hil : i < L.length := by omega
   obtain ⟨b, off, rfl, hbl, hr⟩ := hR.rg hil
   have hat := hR.at hil
   have hus := hm.us i (by omega)
   rw [← hat] at hus
   have hv := val_in (m := m) (h := q) hi (by omega)
   rw [← hat] at hv
   cases hf : (L.getD i zPA).1.full with
   | false =>
    rw [hf, Bool.false_and] at hv
    rw [get_no hv, hv]
    exact (get_nf _ _ hi hil hbl hr (by omega) hf).mono fun r w' z => by rw [z.1]; exact hz z.2
   | true =>
    rw [hf, Bool.true_and] at hv
    by_cases he : ((L.getD i zPA).1.us : Int) - 1 = q.2
    ·rw [decide_eq_true he] at hv
     rw [get_yes hv hi, hv, ← hat]
     exact (get_ok _ _ hi hil hbl hr (by omega) hf (fun h => h he)).mono fun r w' z => ⟨(L.getD i zPA).2, z.1, (hR.en i hil).below z.2, fun k hk => .inr (.inr ⟨i, hil, hk⟩), z.2⟩
    ·rw [decide_eq_false he] at hv
     rw [get_no hv, hv]
     exact (get_ne _ _ hi hil hbl hr (by omega) hf he).mono fun r w' z => by rw [z.1]; exact hz z.2
set_option maxRecDepth 100000 in
set_option maxHeartbeats 8000000 in
theorem same_ints {w : World} {a a2 : Option Addr} {c c2 : Nat} {L : List Int} (h1 : Cs w a (icells L)) (h2 : Cs w a2 (icells L)) (hl : L.length ≤ 100000) : Calls Try.prog 33 #[.slice a L.length c, .slice a2 L.length c2] w fun e w' => e = .returned (.bool true) ∧ Below w.heap.size w w' := by
 have HA : Hid (∀ V, Below w.heap.size w V → ∀ i, i < L.length → ∃ b off b2 off2, a = some ⟨b, off, none⟩ ∧ a2 = some ⟨b2, off2, none⟩ ∧ V.cell? ⟨b, off + i, none⟩ = some (.int .i64 (L.getD i 0)) ∧ V.cell? ⟨b2, off2 + i, none⟩ = some (.int .i64 (L.getD i 0))) := Lib.hid fun V hV i hi => by
  obtain ⟨b, off, e1, -, c1⟩ := int_at (h1.below hV) hi
  obtain ⟨b2, off2, e2, -, c2⟩ := int_at (h2.below hV) hi
  exact ⟨b, off, b2, off2, e1, e2, c1, c2⟩
 obtain ⟨n, hn⟩ : ∃ n, L.length = n := ⟨_, rfl⟩
 rw [hn] at HA hl ⊢
 have HL := Lib.hid hl
 clear h1 h2 hn hl
 go_enter Try.func33, Try.ntmps33
 go_upto_region 1 with fail
 refine wl <| gz4 (.slice a n c) (.int .i64 n) (.slice a2 n c2) (.int .i64 n) <| gzb (neq_n rfl (n) (n) (decide_eq_false (fun h => h rfl))) <| wn ?_
 simp only [pu]
 go_upto_region 3 with fail
 refine wl <| gz3 (.slice a n c) (.int .i64 n) (.int .i64 0) <| wn ?_
 simp only [pu]
 go_wp2_with fail
 go_loopg [13] n (fun gg s13 wx => ∃ (i : Nat), s13 = .int .i64 i ∧ i ≤ n ∧ gg + i = n ∧ Hid (Below w.heap.size w wx))
 case atStart => exact ⟨0, rfl, by omega, by omega, Lib.hid (Below.refl _ _)⟩
 case round =>
  obtain ⟨i, rfl, hin, hg, HR⟩ := hrel
  have HGK : Hid (gk + i = n) := Lib.hid hg
  clear hg
  by_cases hlt : i < n
  ·skip
   obtain ⟨b, off, b2, off2, hq1, hq2, hc1, hc2⟩ := HA.out wr HR.out i hlt
   obtain rfl := hq1
   obtain rfl := hq2
   generalize L.getD i 0 = v at *
   go_upto_region 4 with fail
   refine wl <| gzb (lss_n rfl (i) (n) dT) <| wn ?_
   simp only [pu]
   go_upto_region 5 with fail
   refine wl <| gz2 (.int .i64 i) (.int .i64 i) <| wn ?_
   simp only [pu]
   go_upto_region 6 with fail
   refine wp_region_class (C := fun U => Below wr.heap.size wr U) (by kernel_rfl) (by kernel_rfl) ((Below.refl _ wr).drew) ?_
   refine gy (.slice (some ⟨b, off, none⟩) n c) <| gy (.int .i64 i) <| gyv (.pointer (some ⟨b, off + i, none⟩)) (fun U hU => idx_int b off n c i hlt U _ _ rfl (by kernel_rfl) (by kernel_rfl)) <|
     gyl rfl ⟨b, off + i, none⟩ (.int .i64 v) (fun U hU => load_cell ((hU.cell (p := ⟨b, off + i, none⟩) (World.block_lt_of_cell? wr _ hc1)).trans hc1) (by kernel_rfl)) <| gy (.slice (some ⟨b2, off2, none⟩) n c2) <| gy (.int .i64 i) <|
     gyv (.pointer (some ⟨b2, off2 + i, none⟩)) (fun U hU => idx_int b2 off2 n c2 i hlt U _ _ rfl (by kernel_rfl) (by kernel_rfl)) <|
     gyl rfl ⟨b2, off2 + i, none⟩ (.int .i64 v) (fun U hU => load_cell ((hU.cell (p := ⟨b2, off2 + i, none⟩) (World.block_lt_of_cell? wr _ hc2)).trans hc2) (by kernel_rfl)) <| gyv (.bool false) (fun U hU => neq_n rfl (v) (v) (decide_eq_false (fun h => h rfl)) (by kernel_rfl) (by kernel_rfl) U) ?_
   simp only [pu]
   apply wpQuiet_nil
   intro V3 hV3
   have HR2 := Lib.hid (HR.out.trans (hV3.mono HR.out.size))
   clear hV3 hc1 hc2 HR
   go_upto_region 8 with fail
   refine wl <| gzv (.int .i64 (i + 1 : Nat)) (add_one rfl i (by have := HL.out; omega) (by kernel_rfl) _) <| gz1 (.int .i64 (i + 1 : Nat)) <| wn ?_
   simp only [pu]
   go_wp2_with fail
   go_roundg (n - (i + 1))
   case measure => have := HGK.out; omega
   case rel => exact ⟨i + 1, rfl, by omega, by omega, HR2⟩
  ·skip
   obtain rfl : i = n := by omega
   go_upto_region 4 with fail
   refine wl <| gzb (lss_n rfl (i) (i) dF) <| wn ?_
   simp only [pu]
   go_wp2_with fail
   go_ret
   exact ⟨rfl, HR.out⟩
set_option maxRecDepth 100000 in
set_option maxHeartbeats 8000000 in
theorem r_same {w : World} {e : En} {d d2 : Ad} (h1 : EnI w e d) (h2 : EnI w e d2) (hE : EnB e) : Calls Try.prog 19 #[.agg (enA e d), .agg (enA e d2)] w fun r w' => r = .returned (.bool true) ∧ Below w.heap.size w w' := by
 have hX2 : Bx (w.alloc (.cells (enA e d) 44)) w.heap.size (enA e d) 44 := heap_alloc_last w _
 have hs1 : (w.alloc (.cells (enA e d) 44)).heap.size = w.heap.size + 1 := by simp
 have hb1 : Below w.heap.size w (w.alloc (.cells (enA e d) 44)) := (Below.refl _ w).alloc (Nat.le_refl _) _
 obtain ⟨W1, hW1⟩ : ∃ V, w.alloc (.cells (enA e d) 44) = V := ⟨_, rfl⟩
 rw [hW1] at hX2 hs1 hb1
 have hb0 : Below w.heap.size w (W1.alloc (.cells (enA e d2) 44)) := hb1.alloc hb1.size _
 have hX20 : Bx (W1.alloc (.cells (enA e d2) 44)) w.heap.size (enA e d) 44 := hX2.below hX2.lt ((Below.refl _ W1).alloc (Nat.le_refl _) _)
 have hX30 : Bx (W1.alloc (.cells (enA e d2) 44)) W1.heap.size (enA e d2) 44 := heap_alloc_last W1 _
 obtain ⟨W, hW⟩ : ∃ V, W1.alloc (.cells (enA e d2) 44) = V := ⟨_, rfl⟩
 rw [hW] at hX20 hX30 hb0
 rw [hs1] at hX30
 obtain ⟨g2, hg2⟩ : ∃ g, w.heap.size = g := ⟨_, rfl⟩
 obtain ⟨g3, hg3⟩ : ∃ g, g2 + 1 = g := ⟨_, rfl⟩
 rw [show w.heap.size + 1 = g3 by omega] at hX30
 rw [hg2] at hX20
 have hg4 : W1.heap.size = g3 := by omega
 have HB := Lib.hid hb0
 have hI1 := h1.below hb0
 have hI2 := h2.below hb0
 have CB := same_true d.ra d.rc d2.ra d2.rc e.raw W hI1.r hI2.r
 have CI := same_ints (c := d.pc) (c2 := d2.pc) hI1.p hI2.p (by have := hE.2; omega)
 have HW1 := Lib.hid hW1
 have HW := Lib.hid hW
 have HG2 := Lib.hid hg2
 have HG3 := Lib.hid hg3
 clear h1 h2 hE hX2 hs1 hb1 hb0 hg2 hg3 hI1 hI2 hW1 hW hg4
 go_enter Try.func19, Try.ntmps19
 go_upto_region 1 with fail
 rw [HW1.out, HW.out]
 rw [HG2.out, HG3.out]
 refine wl <| gz1 (.pointer (some ⟨g2, 0, none⟩)) <| gzl rfl ⟨g2, 0, none⟩ (.agg (kcA e.k)) (load_ky (bx_range hX20)) <| gz1 (.pointer (some ⟨g3, 0, none⟩)) <| gzl rfl ⟨g3, 0, none⟩ (.agg (kcA e.k)) (load_ky (bx_range hX30)) <|
  gzw (.bool true) (eql_ky rfl e.k) <| gz2 (.bool true) (.pointer (some ⟨g2, 32, none⟩)) <| gzl rfl ⟨g2, 32, none⟩ (.slice d.ra e.raw.length d.rc) (rg_cell (bx_range hX20) (j := 32) rfl (by kernel_rfl)) <| gz1 (.pointer (some ⟨g3, 32, none⟩)) <|
  gzl rfl ⟨g3, 32, none⟩ (.slice d2.ra e.raw.length d2.rc) (rg_cell (bx_range hX30) (j := 32) rfl (by kernel_rfl)) <| gzc (.bool true) (fun w' => W = w') (CB) (fun V9 hV9 => ?_)
 subst hV9
 simp only [pu]
 refine gz3 (.bool true) (.bool true) (.pointer (some ⟨g2, 33, none⟩)) <| gzl rfl ⟨g2, 33, none⟩ (.string e.snd) (rg_cell (bx_range hX20) (j := 33) rfl (by kernel_rfl)) <| gz1 (.pointer (some ⟨g3, 33, none⟩)) <|
  gzl rfl ⟨g3, 33, none⟩ (.string e.snd) (rg_cell (bx_range hX30) (j := 33) rfl (by kernel_rfl)) <| gzw (.bool true) (eql_s rfl e.snd e.snd (str_self _)) <| gz3 (.bool true) (.bool true) (.pointer (some ⟨g2, 34, none⟩)) <|
  gzl rfl ⟨g2, 34, none⟩ (.int .u64 e.sq) (rg_cell (bx_range hX20) (j := 34) rfl (by kernel_rfl)) <| gz1 (.pointer (some ⟨g3, 34, none⟩)) <| gzl rfl ⟨g3, 34, none⟩ (.int .u64 e.sq) (rg_cell (bx_range hX30) (j := 34) rfl (by kernel_rfl)) <|
  gzb (eql_w rfl e.sq e.sq (decide_eq_true rfl)) <| gz3 (.bool true) (.bool true) (.pointer (some ⟨g2, 35, none⟩)) <| gzl rfl ⟨g2, 35, none⟩ (.int .u64 e.gas) (rg_cell (bx_range hX20) (j := 35) rfl (by kernel_rfl)) <|
  gz1 (.pointer (some ⟨g3, 35, none⟩)) <| gzl rfl ⟨g3, 35, none⟩ (.int .u64 e.gas) (rg_cell (bx_range hX30) (j := 35) rfl (by kernel_rfl)) <| gzb (eql_w rfl e.gas e.gas (decide_eq_true rfl)) <|
  gz3 (.bool true) (.bool true) (.pointer (some ⟨g2, 36, none⟩)) <| gzl rfl ⟨g2, 36, none⟩ (.int .u64 e.pri) (rg_cell (bx_range hX20) (j := 36) rfl (by kernel_rfl)) <| gz1 (.pointer (some ⟨g3, 36, none⟩)) <|
  gzl rfl ⟨g3, 36, none⟩ (.int .u64 e.pri) (rg_cell (bx_range hX30) (j := 36) rfl (by kernel_rfl)) <| gzb (eql_w rfl e.pri e.pri (decide_eq_true rfl)) <| gz3 (.bool true) (.bool true) (.pointer (some ⟨g2, 37, none⟩)) <|
  gzl rfl ⟨g2, 37, none⟩ (.int .i64 e.ht) (rg_cell (bx_range hX20) (j := 37) rfl (by kernel_rfl)) <| gz1 (.pointer (some ⟨g3, 37, none⟩)) <| gzl rfl ⟨g3, 37, none⟩ (.int .i64 e.ht) (rg_cell (bx_range hX30) (j := 37) rfl (by kernel_rfl)) <|
  gzb (eql_n rfl e.ht e.ht (decide_eq_true rfl)) <| gz3 (.bool true) (.bool true) (.pointer (some ⟨g2, 38, none⟩)) <| gzl rfl ⟨g2, 38, none⟩ (.int .i64 e.tm) (rg_cell (bx_range hX20) (j := 38) rfl (by kernel_rfl)) <|
  gz1 (.pointer (some ⟨g3, 38, none⟩)) <| gzl rfl ⟨g3, 38, none⟩ (.int .i64 e.tm) (rg_cell (bx_range hX30) (j := 38) rfl (by kernel_rfl)) <| gzb (eql_n rfl e.tm e.tm (decide_eq_true rfl)) <|
  gz3 (.bool true) (.bool true) (.pointer (some ⟨g2, 39, none⟩)) <| gzl rfl ⟨g2, 39, none⟩ (.int .i64 e.od) (rg_cell (bx_range hX20) (j := 39) rfl (by kernel_rfl)) <| gz1 (.pointer (some ⟨g3, 39, none⟩)) <|
  gzl rfl ⟨g3, 39, none⟩ (.int .i64 e.od) (rg_cell (bx_range hX30) (j := 39) rfl (by kernel_rfl)) <| gzb (eql_n rfl e.od e.od (decide_eq_true rfl)) <| gz3 (.bool true) (.bool true) (.pointer (some ⟨g2, 40, none⟩)) <|
  gzl rfl ⟨g2, 40, none⟩ (.slice d.pa e.prs.length d.pc) (rg_cell (bx_range hX20) (j := 40) rfl (by kernel_rfl)) <| gz1 (.pointer (some ⟨g3, 40, none⟩)) <| gzl rfl ⟨g3, 40, none⟩ (.slice d2.pa e.prs.length d2.pc) (rg_cell (bx_range hX30) (j := 40) rfl (by kernel_rfl)) <|
  gzc (.bool true) (fun w' => Below W.heap.size W w') (CI) (fun V2 hV2 => ?_)
 simp only [pu]
 refine gz2 (.bool true) (.bool true) <| wn ?_
 simp only [pu]
 have HE := HB.out.trans (hV2.mono HB.out.size)
 go_wp2_with fail
 go_ret
 exact ⟨rfl, HE⟩
end Go.Proofs.Ytmpajgaanghpoaa
