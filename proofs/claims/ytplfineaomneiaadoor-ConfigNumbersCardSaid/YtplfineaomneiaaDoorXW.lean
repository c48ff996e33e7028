/-
 The program's whole, less, allows: contracts.
-/
import Derived.Test.YtplfineaomneiaaDoorRQ
namespace Go.Proofs.YtplfineaomneiaaDoor
attribute [local irreducible] wpList wpQuiet
open Go.RowKit
set_option maxRecDepth 100000
set_option linter.unusedSimpArgs false
set_option linter.unusedVariables false

/-- A number of the program: whether it is below zero, and its size. -/
abbrev nuA (m : Bool) (s : Int) : Array Value := #[.bool m, .int .u64 s]
def absI (n : Int) : Int := if n < 0 then -n else n
def lessB (m1 : Bool) (s1 : Int) (m2 : Bool) (s2 : Int) : Bool := match m1, m2 with
 | true, true => decide (s2 < s1)
 | false, false => decide (s1 < s2)
 | true, false => true
 | false, true => false
def alwB (lo hi : Int) (m : Bool) (s : Int) : Bool := !(lessB m s (decide (lo < 0)) (absI lo)) && !(lessB false hi m s)
theorem alw_num {lo hi v : Int} (hh : 0 ≤ hi) : alwB lo hi (decide (v < 0)) (absI v) = (decide (lo ≤ v) && decide (v ≤ hi)) := by
 unfold alwB absI
 by_cases h1 : v < 0 <;> by_cases h2 : lo < 0 <;> simp only [h1, h2, decide_true, decide_false, if_true, if_false, lessB, Bool.not_true, Bool.not_false, Bool.true_and, Bool.false_and]
 ·rw [show decide (v ≤ hi) = true from decide_eq_true (by omega), Bool.and_true, Bool.and_true]
  by_cases h3 : lo ≤ v
  ·rw [decide_eq_true h3, decide_eq_false (by omega)]; rfl
  ·rw [decide_eq_false h3, decide_eq_true (by omega)]; rfl
 ·rw [show decide (lo ≤ v) = false from decide_eq_false (by omega), Bool.false_and]
 ·rw [show decide (lo ≤ v) = true from decide_eq_true (by omega), Bool.true_and]
  by_cases h3 : v ≤ hi
  ·rw [decide_eq_true h3, decide_eq_false (by omega)]; rfl
  ·rw [decide_eq_false h3, decide_eq_true (by omega)]; rfl
 ·by_cases h3 : v ≤ hi <;> by_cases h4 : lo ≤ v
  ·rw [decide_eq_true h3, decide_eq_true h4, decide_eq_false (show ¬ v < lo by omega), decide_eq_false (show ¬ hi < v by omega)]; rfl
  ·rw [decide_eq_true h3, decide_eq_false h4, decide_eq_true (show v < lo by omega)]; rfl
  ·rw [decide_eq_false h3, decide_eq_true h4, decide_eq_false (show ¬ v < lo by omega), decide_eq_true (show hi < v by omega)]; rfl
  ·rw [decide_eq_false h3, decide_eq_false h4, decide_eq_true (show v < lo by omega)]; rfl
theorem load_nu {w : World} {g k : Nat} {m : Bool} {s : Int} (h : Bx w g (nuA m s) k) : (Instr.loadAt 62 (.pointer (some ⟨g, 0, none⟩))).run Tryd.prog w = .ok (.agg (nuA m s)) w := run_loadAt_mid w g 0 62 (nuA m s).toList _ (bx_range (cs := (nuA m s).toList) h) Tryd.underlying62 rfl (by kernel_rfl)
theorem absI_rng {n : Int} (h : -9223372036854775808 ≤ n ∧ n < 9223372036854775808) : 0 ≤ absI n ∧ absI n ≤ 9223372036854775808 := by
 unfold absI
 split <;> omega
theorem absI_whole {n : Int} (h : -9223372036854775808 ≤ n ∧ n < 9223372036854775808) : IntKind.u64.wrap (if IntKind.i64.wrap (-n) > n then IntKind.i64.wrap (-n) else n) = absI n := by
 unfold absI
 by_cases h0 : n = -9223372036854775808
 ·subst h0; decide +kernel
 ·have e : IntKind.i64.wrap (-n) = -n := by
   rw [show IntKind.i64.wrap (-n) = (-n + 9223372036854775808) % 18446744073709551616 - 9223372036854775808 by simp [IntKind.wrap, IntKind.signed, IntKind.bits]; omega]
   omega
  rw [e, IntKind.wrap_u64]
  split <;> split <;> omega
section
variable {ρ : Operand → Value} {o : Oper} {x y : Operand}
theorem max_i (ho : o.op = .call { callee := .builtin .max, args := #[x, y], argTypes := #[3, 3] }) (a b : Int) (hx : ρ x = .int .i64 a) (hy : ρ y = .int .i64 b) (w : World) : (execOp ρ o).run Tryd.prog w = .ok (.value (.int .i64 (if b > a then b else a))) w := by
 unfold execOp
 simp only [ho, hx, hy]
 go_simp
theorem neg_i (ho : o.op = .unOp .neg 3 x) (a : Int) (hx : ρ x = .int .i64 a) (w : World) : (execOp ρ o).run Tryd.prog w = .ok (.value (.int .i64 (IntKind.i64.wrap (-a)))) w := by
 unfold execOp
 simp only [ho, hx]
 go_simp
theorem conv_iu2 (ho : o.op = .convert 3 22 x) (a b : Int) (hb : IntKind.u64.wrap a = b) (hx : ρ x = .int .i64 a) (w : World) : (execOp ρ o).run Tryd.prog w = .ok (.value (.int .u64 b)) w := by
 unfold execOp
 simp only [ho, hx]
 go_simp
theorem neq_bb (ho : o.op = .binOp .neq 4 x y 4) (a b : Bool) {t : Bool} (ht : (a != b) = t) (hx : ρ x = .bool a) (hy : ρ y = .bool b) (w : World) : (execOp ρ o).run Tryd.prog w = .ok (.value (.bool t)) w := by
 subst ht
 unfold execOp
 simp only [ho, hx, hy]
 cases a <;> cases b <;> go_simp
end
set_option maxRecDepth 100000 in
set_option maxHeartbeats 8000000 in
theorem p_whole {n : Int} (hn : -9223372036854775808 ≤ n ∧ n < 9223372036854775808) (w : World) : Calls Tryd.prog 43 #[.int .i64 n] w fun e w' => e = .returned (.agg (nuA (decide (n < 0)) (absI n))) ∧ Below w.heap.size w w' := by
 have HA := absI_whole hn
 obtain ⟨V2, hst, hb, hY⟩ := new_bx (c := #[.bool false, .int .u64 0]) (c' := nuA (decide (n < 0)) (absI n)) (ty := 62) w rfl (by kernel_rfl) (by kernel_rfl)
 have HLD := Lib.hid (load_nu hY)
 have HE := Lib.hid hb
 clear hb hY
 obtain ⟨y, hy⟩ : ∃ y, IntKind.i64.wrap (-n) = y := ⟨_, rfl⟩
 have HY := Lib.hid hy
 rw [hy] at HA
 obtain ⟨x8, h8⟩ : ∃ x, (if y > n then y else n) = x := ⟨_, rfl⟩
 have H8 := Lib.hid h8
 rw [h8] at HA
 clear hy h8
 generalize hA : absI n = A at *
 clear hA
 go_enter Tryd.func43, Tryd.ntmps43
 go_upto_region 1 with fail
 change Code.wp _ _ _ _ (w.alloc (.cells #[.bool false, .int .u64 0] 62))
 generalize w.alloc (.cells #[.bool false, .int .u64 0] 62) = W at *
 obtain ⟨g0, hg0⟩ : ∃ g, w.heap.size = g := ⟨_, rfl⟩
 simp only [hg0] at hst HLD ⊢
 refine wl <| gz1 (.int .i64 n) <| gzw (.bool (decide (n < 0))) (lss_n rfl n 0 rfl) <| gz2 (.int .i64 n) (.int .i64 n) <| gzv (.int .i64 y) ((by rw [← HY.out]; exact neg_i rfl n (by kernel_rfl) _)) <|
  gzv (.int .i64 x8) ((by rw [← H8.out]; exact max_i rfl n y (by kernel_rfl) (by kernel_rfl) _)) <| gzv (.int .u64 A) (conv_iu2 rfl x8 A HA (by kernel_rfl) _) <| gz1 (.agg #[.bool (decide (n < 0)), .int .u64 A]) <| gzs rfl (hst) <| wn ?_
 simp only [pu]
 go_wp2_with fail
 exact bodyPost_ret (results_1c rfl (by kernel_rfl) HLD.out) rfl ⟨rfl, HE.out⟩
set_option maxRecDepth 100000 in
set_option maxHeartbeats 8000000 in
theorem p_less (m1 m2 : Bool) (s1 s2 : Int) (w : World) : Calls Tryd.prog 42 #[.agg (nuA m1 s1), .agg (nuA m2 s2)] w fun e w' => e = .returned (.bool (lessB m1 s1 m2 s2)) ∧ Below w.heap.size w w' := by
 go_enter Tryd.func42, Tryd.ntmps42
 go_upto_region 1 with fail
 change Code.wp _ _ _ _ ((w.alloc (.cells #[.bool m1, .int .u64 s1] 62)).alloc (.cells #[.bool m2, .int .u64 s2] 62))
 have hb_0 : Below w.heap.size w (w.alloc (.cells #[.bool m1, .int .u64 s1] 62)) := (Below.refl _ w).alloc (Nat.le_refl _) _
 have hX2 : Bx (w.alloc (.cells #[.bool m1, .int .u64 s1] 62)) w.heap.size #[.bool m1, .int .u64 s1] 62 := heap_alloc_last w _
 have hs_0 : (w.alloc (.cells #[.bool m1, .int .u64 s1] 62)).heap.size = w.heap.size + 1 := by simp
 generalize w.alloc (.cells #[.bool m1, .int .u64 s1] 62) = W0_ at *
 have hb_1 : Below w.heap.size w (W0_.alloc (.cells #[.bool m2, .int .u64 s2] 62)) := hb_0.alloc hb_0.size _
 have hX2 := hX2.below hX2.lt ((Below.refl _ W0_).alloc (Nat.le_refl _) (.cells #[.bool m2, .int .u64 s2] 62))
 have hX3 : Bx (W0_.alloc (.cells #[.bool m2, .int .u64 s2] 62)) W0_.heap.size #[.bool m2, .int .u64 s2] 62 := heap_alloc_last W0_ _
 have hs_1 : (W0_.alloc (.cells #[.bool m2, .int .u64 s2] 62)).heap.size = W0_.heap.size + 1 := by simp
 generalize W0_.alloc (.cells #[.bool m2, .int .u64 s2] 62) = W at *
 obtain ⟨g2, hg2⟩ : ∃ g, w.heap.size = g := ⟨_, rfl⟩
 rw [hg2] at hX2
 obtain ⟨g3, hg3⟩ : ∃ g, W0_.heap.size = g := ⟨_, rfl⟩
 rw [hg3] at hX3
 have hq1 : w.heap.size + 1 = g3 := by omega
 have HGE : Hid (g2 = w.heap.size + 0 ∧ g3 = w.heap.size + 1 ∧ W.heap.size = w.heap.size + 2) := Lib.hid ⟨by omega, by omega, by omega⟩
 have HB := Lib.hid hb_1
 simp only [hg2]
 try simp only [show g2 + 1 = g3 by omega]
 clear hb_0 hs_0 hg2 hb_1 hs_1 hg3 hq1
 have HE := Lib.hid HB.out
 clear HGE HB
 cases m1 <;> cases m2
 ·skip
  refine wl <| gz1 (.pointer (some ⟨g2, 0, none⟩)) <| gzl rfl ⟨g2, 0, none⟩ (.bool false) (hX2.load (i := 0) rfl (by kernel_rfl)) <| gz1 (.pointer (some ⟨g3, 0, none⟩)) <| gzl rfl ⟨g3, 0, none⟩ (.bool false) (hX3.load (i := 0) rfl (by kernel_rfl)) <|
   gzw (.bool false) (neq_bb rfl false false rfl) <| wn ?_
  simp only [pu]
  go_upto_region 3 with fail
  refine wl <| gz1 (.pointer (some ⟨g2, 0, none⟩)) <| gzl rfl ⟨g2, 0, none⟩ (.bool false) (hX2.load (i := 0) rfl (by kernel_rfl)) <| wn ?_
  simp only [pu]
  go_upto_region 5 with fail
  refine wl <| gz1 (.pointer (some ⟨g2, 1, none⟩)) <| gzl rfl ⟨g2, 1, none⟩ (.int .u64 s1) (hX2.load (i := 1) rfl (by kernel_rfl)) <| gz1 (.pointer (some ⟨g3, 1, none⟩)) <| gzl rfl ⟨g3, 1, none⟩ (.int .u64 s2) (hX3.load (i := 1) rfl (by kernel_rfl)) <|
   gzw (.bool (decide (s1 < s2))) (lss_w rfl s1 s2 rfl) <| gz1 (.bool (decide (s1 < s2))) <| wn ?_
  simp only [pu]
  go_wp2_with fail
  go_ret
  exact ⟨rfl, HE.out⟩
 ·skip
  refine wl <| gz1 (.pointer (some ⟨g2, 0, none⟩)) <| gzl rfl ⟨g2, 0, none⟩ (.bool false) (hX2.load (i := 0) rfl (by kernel_rfl)) <| gz1 (.pointer (some ⟨g3, 0, none⟩)) <| gzl rfl ⟨g3, 0, none⟩ (.bool true) (hX3.load (i := 0) rfl (by kernel_rfl)) <|
   gzw (.bool true) (neq_bb rfl false true rfl) <| wn ?_
  simp only [pu]
  go_upto_region 2 with fail
  refine wl <| gz1 (.pointer (some ⟨g2, 0, none⟩)) <| gzl rfl ⟨g2, 0, none⟩ (.bool false) (hX2.load (i := 0) rfl (by kernel_rfl)) <| gz1 (.bool false) <| wn ?_
  simp only [pu]
  go_wp2_with fail
  go_ret
  exact ⟨rfl, HE.out⟩
 ·skip
  refine wl <| gz1 (.pointer (some ⟨g2, 0, none⟩)) <| gzl rfl ⟨g2, 0, none⟩ (.bool true) (hX2.load (i := 0) rfl (by kernel_rfl)) <| gz1 (.pointer (some ⟨g3, 0, none⟩)) <| gzl rfl ⟨g3, 0, none⟩ (.bool false) (hX3.load (i := 0) rfl (by kernel_rfl)) <|
   gzw (.bool true) (neq_bb rfl true false rfl) <| wn ?_
  simp only [pu]
  go_upto_region 2 with fail
  refine wl <| gz1 (.pointer (some ⟨g2, 0, none⟩)) <| gzl rfl ⟨g2, 0, none⟩ (.bool true) (hX2.load (i := 0) rfl (by kernel_rfl)) <| gz1 (.bool true) <| wn ?_
  simp only [pu]
  go_wp2_with fail
  go_ret
  exact ⟨rfl, HE.out⟩
 ·skip
  refine wl <| gz1 (.pointer (some ⟨g2, 0, none⟩)) <| gzl rfl ⟨g2, 0, none⟩ (.bool true) (hX2.load (i := 0) rfl (by kernel_rfl)) <| gz1 (.pointer (some ⟨g3, 0, none⟩)) <| gzl rfl ⟨g3, 0, none⟩ (.bool true) (hX3.load (i := 0) rfl (by kernel_rfl)) <|
   gzw (.bool false) (neq_bb rfl true true rfl) <| wn ?_
  simp only [pu]
  go_upto_region 3 with fail
  refine wl <| gz1 (.pointer (some ⟨g2, 0, none⟩)) <| gzl rfl ⟨g2, 0, none⟩ (.bool true) (hX2.load (i := 0) rfl (by kernel_rfl)) <| wn ?_
  simp only [pu]
  go_upto_region 4 with fail
  refine wl <| gz1 (.pointer (some ⟨g2, 1, none⟩)) <| gzl rfl ⟨g2, 1, none⟩ (.int .u64 s1) (hX2.load (i := 1) rfl (by kernel_rfl)) <| gz1 (.pointer (some ⟨g3, 1, none⟩)) <| gzl rfl ⟨g3, 1, none⟩ (.int .u64 s2) (hX3.load (i := 1) rfl (by kernel_rfl)) <|
   gzw (.bool (decide (s2 < s1))) (gtr_w rfl s1 s2 rfl) <| gz1 (.bool (decide (s2 < s1))) <| wn ?_
  simp only [pu]
  go_wp2_with fail
  go_ret
  exact ⟨rfl, HE.out⟩
set_option maxRecDepth 100000 in
set_option maxHeartbeats 8000000 in
theorem p_allows (k fv : Value) (hk1 : k.oneCell' = true) (hk2 : fv.oneCell' = true) {lo hi : Int} (hlo : -9223372036854775808 ≤ lo ∧ lo < 9223372036854775808) (m : Bool) (s : Int) (w : World) : Calls Tryd.prog 27 #[.agg #[k, fv, .int .i64 lo, .int .u64 hi], .agg (nuA m s)] w fun e w' => e = .returned (.bool (alwB lo hi m s)) ∧ Below w.heap.size w w' := by
 have CW := fun V => p_whole hlo V
 have C1 := fun V => p_less m (decide (lo < 0)) s (absI lo) V
 have C2 := fun V => p_less false m hi s V
 unfold alwB
 generalize lessB m s (decide (lo < 0)) (absI lo) = q1 at *
 generalize lessB false hi m s = q2 at *
 generalize decide (lo < 0) = b at *
 generalize absI lo = z at *
 clear hlo
 go_enter Tryd.func27, Tryd.ntmps27
 go_upto_region 1 with fail
 change Code.wp _ _ _ _ ((w.alloc (.cells #[k, fv, .int .i64 lo, .int .u64 hi] 59)).alloc (.cells #[.bool m, .int .u64 s] 62))
 have hb_0 : Below w.heap.size w (w.alloc (.cells #[k, fv, .int .i64 lo, .int .u64 hi] 59)) := (Below.refl _ w).alloc (Nat.le_refl _) _
 have hX2 : Bx (w.alloc (.cells #[k, fv, .int .i64 lo, .int .u64 hi] 59)) w.heap.size #[k, fv, .int .i64 lo, .int .u64 hi] 59 := heap_alloc_last w _
 have hs_0 : (w.alloc (.cells #[k, fv, .int .i64 lo, .int .u64 hi] 59)).heap.size = w.heap.size + 1 := by simp
 generalize w.alloc (.cells #[k, fv, .int .i64 lo, .int .u64 hi] 59) = W0_ at *
 have hb_1 : Below w.heap.size w (W0_.alloc (.cells #[.bool m, .int .u64 s] 62)) := hb_0.alloc hb_0.size _
 have hX2 := hX2.below hX2.lt ((Below.refl _ W0_).alloc (Nat.le_refl _) (.cells #[.bool m, .int .u64 s] 62))
 have hX3 : Bx (W0_.alloc (.cells #[.bool m, .int .u64 s] 62)) W0_.heap.size #[.bool m, .int .u64 s] 62 := heap_alloc_last W0_ _
 have hs_1 : (W0_.alloc (.cells #[.bool m, .int .u64 s] 62)).heap.size = W0_.heap.size + 1 := by simp
 generalize W0_.alloc (.cells #[.bool m, .int .u64 s] 62) = W at *
 obtain ⟨g2, hg2⟩ : ∃ g, w.heap.size = g := ⟨_, rfl⟩
 rw [hg2] at hX2
 obtain ⟨g3, hg3⟩ : ∃ g, W0_.heap.size = g := ⟨_, rfl⟩
 rw [hg3] at hX3
 have hq1 : w.heap.size + 1 = g3 := by omega
 have HGE : Hid (g2 = w.heap.size + 0 ∧ g3 = w.heap.size + 1 ∧ W.heap.size = w.heap.size + 2) := Lib.hid ⟨by omega, by omega, by omega⟩
 have HB := Lib.hid hb_1
 simp only [hg2]
 try simp only [show g2 + 1 = g3 by omega]
 clear hb_0 hs_0 hg2 hb_1 hs_1 hg3 hq1
 clear HGE
 cases q1
 ·skip
  cases q2
  ·skip
   refine wp_region_class (C := fun U => Below W.heap.size W U) (by kernel_rfl) (by kernel_rfl) ((Below.refl _ W).drew) ?_
   refine gyl rfl ⟨g3, 0, none⟩ (.agg #[.bool m, .int .u64 s]) (fun U hU => load_nu (hX3.below hX3.lt hU)) <| gy (.pointer (some ⟨g2, 2, none⟩)) <| gyl rfl ⟨g2, 2, none⟩ (.int .i64 lo) (fun U hU => (hX2.below hX2.lt hU).load (i := 2) rfl (by kernel_rfl)) ?_
   simp only [pu]
   refine gq_call (by kernel_rfl) (some 8) rfl 43 #[.int .i64 lo] (.agg #[.bool b, .int .u64 z]) (fun U hU => by kernel_rfl) (fun U hU => (CW U).mono fun e w2 z => ⟨z.1, hU.trans (z.2.mono hU.size)⟩) ?_
   simp only [pu]
   refine gq_call (by kernel_rfl) (some 9) rfl 42 #[.agg #[.bool m, .int .u64 s], .agg #[.bool b, .int .u64 z]] (.bool false) (fun U hU => by kernel_rfl) (fun U hU => (C1 U).mono fun e w2 z => ⟨z.1, hU.trans (z.2.mono hU.size)⟩) ?_
   simp only [pu]
   refine gy (.bool true) <| gy (.bool true) <| gy (.pointer (some ⟨g2, 3, none⟩)) <| gyl rfl ⟨g2, 3, none⟩ (.int .u64 hi) (fun U hU => (hX2.below hX2.lt hU).load (i := 3) rfl (by kernel_rfl)) <| gy (.agg #[.bool false, .int .u64 hi]) <|
     gyl rfl ⟨g3, 0, none⟩ (.agg #[.bool m, .int .u64 s]) (fun U hU => load_nu (hX3.below hX3.lt hU)) ?_
   simp only [pu]
   refine gq_call (by kernel_rfl) (some 16) rfl 42 #[.agg #[.bool false, .int .u64 hi], .agg #[.bool m, .int .u64 s]] (.bool false) (fun U hU => by kernel_rfl) (fun U hU => (C2 U).mono fun e w2 z => ⟨z.1, hU.trans (z.2.mono hU.size)⟩) ?_
   simp only [pu]
   refine gy (.bool true) <| gy (.bool true) <| gy (.bool true) ?_
   simp only [pu]
   apply wpQuiet_nil
   intro V hV
   go_wp2_with fail
   go_ret
   exact ⟨rfl, HB.out.trans (hV.mono HB.out.size)⟩
  ·skip
   refine wp_region_class (C := fun U => Below W.heap.size W U) (by kernel_rfl) (by kernel_rfl) ((Below.refl _ W).drew) ?_
   refine gyl rfl ⟨g3, 0, none⟩ (.agg #[.bool m, .int .u64 s]) (fun U hU => load_nu (hX3.below hX3.lt hU)) <| gy (.pointer (some ⟨g2, 2, none⟩)) <| gyl rfl ⟨g2, 2, none⟩ (.int .i64 lo) (fun U hU => (hX2.below hX2.lt hU).load (i := 2) rfl (by kernel_rfl)) ?_
   simp only [pu]
   refine gq_call (by kernel_rfl) (some 8) rfl 43 #[.int .i64 lo] (.agg #[.bool b, .int .u64 z]) (fun U hU => by kernel_rfl) (fun U hU => (CW U).mono fun e w2 z => ⟨z.1, hU.trans (z.2.mono hU.size)⟩) ?_
   simp only [pu]
   refine gq_call (by kernel_rfl) (some 9) rfl 42 #[.agg #[.bool m, .int .u64 s], .agg #[.bool b, .int .u64 z]] (.bool false) (fun U hU => by kernel_rfl) (fun U hU => (C1 U).mono fun e w2 z => ⟨z.1, hU.trans (z.2.mono hU.size)⟩) ?_
   simp only [pu]
   refine gy (.bool true) <| gy (.bool true) <| gy (.pointer (some ⟨g2, 3, none⟩)) <| gyl rfl ⟨g2, 3, none⟩ (.int .u64 hi) (fun U hU => (hX2.below hX2.lt hU).load (i := 3) rfl (by kernel_rfl)) <| gy (.agg #[.bool false, .int .u64 hi]) <|
     gyl rfl ⟨g3, 0, none⟩ (.agg #[.bool m, .int .u64 s]) (fun U hU => load_nu (hX3.below hX3.lt hU)) ?_
   simp only [pu]
   refine gq_call (by kernel_rfl) (some 16) rfl 42 #[.agg #[.bool false, .int .u64 hi], .agg #[.bool m, .int .u64 s]] (.bool true) (fun U hU => by kernel_rfl) (fun U hU => (C2 U).mono fun e w2 z => ⟨z.1, hU.trans (z.2.mono hU.size)⟩) ?_
   simp only [pu]
   refine gy (.bool false) <| gy (.bool false) <| gy (.bool false) ?_
   simp only [pu]
   apply wpQuiet_nil
   intro V hV
   go_wp2_with fail
   go_ret
   exact ⟨rfl, HB.out.trans (hV.mono HB.out.size)⟩
 ·skip
  refine wp_region_class (C := fun U => Below W.heap.size W U) (by kernel_rfl) (by kernel_rfl) ((Below.refl _ W).drew) ?_
  refine gyl rfl ⟨g3, 0, none⟩ (.agg #[.bool m, .int .u64 s]) (fun U hU => load_nu (hX3.below hX3.lt hU)) <| gy (.pointer (some ⟨g2, 2, none⟩)) <| gyl rfl ⟨g2, 2, none⟩ (.int .i64 lo) (fun U hU => (hX2.below hX2.lt hU).load (i := 2) rfl (by kernel_rfl)) ?_
  simp only [pu]
  refine gq_call (by kernel_rfl) (some 8) rfl 43 #[.int .i64 lo] (.agg #[.bool b, .int .u64 z]) (fun U hU => by kernel_rfl) (fun U hU => (CW U).mono fun e w2 z => ⟨z.1, hU.trans (z.2.mono hU.size)⟩) ?_
  simp only [pu]
  refine gq_call (by kernel_rfl) (some 9) rfl 42 #[.agg #[.bool m, .int .u64 s], .agg #[.bool b, .int .u64 z]] (.bool true) (fun U hU => by kernel_rfl) (fun U hU => (C1 U).mono fun e w2 z => ⟨z.1, hU.trans (z.2.mono hU.size)⟩) ?_
  simp only [pu]
  refine gy (.bool false) <| gy (.bool false) <| gyn <| gyn <| gyn <| gyn <| gyn <| gyn <| gy (.bool false) <| gy (.bool false) ?_
  simp only [pu]
  apply wpQuiet_nil
  intro V hV
  go_wp2_with fail
  go_ret
  exact ⟨rfl, HB.out.trans (hV.mono HB.out.size)⟩
end Go.Proofs.YtplfineaomneiaaDoor
