/-
 The reference's SameInts, SameEntry: contracts.
-/
import Derived.Test.YtgkckblcekbafaaQA
namespace Go.Proofs.Ytgkckblcekbafaa
attribute [local irreducible] wpList wpQuiet
open Go.RowKit
set_option maxRecDepth 100000
set_option linter.unusedSimpArgs false
set_option linter.unusedVariables false

theorem all_same : ∀ (A B : List Int), A.length = B.length → ((List.range A.length).all fun i => A.getD i 0 == B.getD i 0) = (A == B)
 | [], [], _ => rfl
 | x :: xs, y :: ys, h => by
  have ih := all_same xs ys (by simpa using h)
  rw [List.length_cons, List.range_succ_eq_map, List.all_cons, List.all_map]
  simp only [List.getD_cons_zero, Function.comp_def, List.getD_cons_succ, ih]
  simp [List.cons_beq_cons]
 | [], _ :: _, h => by simp at h
 | _ :: _, [], h => by simp at h

theorem keys_cmp {P : Program} (w : World) (d t e n : Nat) (ht : P.underlying t = some (.array n e)) (he : P.underlying e = some (.int .u8)) (hsz : ∀ w, (sizeOf e).run P w = .ok 1 w) (A B : List Int) (hx : A.length = n) (hy : B.length = n) :
  (Op.equalIn (d + 2) t (.agg (w8s A)) (.agg (w8s B))).run P w = .ok (A == B) w := by
 rw [← all_same A B (hx.trans hy.symm), hx, List.range_eq_range', Op.equalIn]
 simp only [Sem.run_bind, run_underlying ht, Result.andThen_ok, hsz, Std.Legacy.Range.forIn_eq_forIn_range', Std.Legacy.Range.size, Nat.sub_zero, Nat.add_sub_cancel, Nat.div_one]
 have hl : ∀ i ∈ List.range' 0 n 1, i < n := fun i hi => by simpa using (List.mem_range'_1.1 hi).2
 generalize List.range' 0 n 1 = l at hl ⊢
 induction l with
 | nil => simp
 | cons i l ih =>
  have hi : i < n := hl i (by simp)
  have px : (part e (w8s A) (i * 1)).run P w = .ok (.int .u8 (A.getD i 0)) w := by
   simp [part, isAgg, run_underlying he, List.getD, List.getElem?_eq_getElem (show i < A.length by omega)]
  have py : (part e (w8s B) (i * 1)).run P w = .ok (.int .u8 (B.getD i 0)) w := by
   simp [part, isAgg, run_underlying he, List.getD, List.getElem?_eq_getElem (show i < B.length by omega)]
  have pe : (Op.equalIn (d + 1) e (.int .u8 (A.getD i 0)) (.int .u8 (B.getD i 0))).run P w = .ok (A.getD i 0 == B.getD i 0) w := run_equalIn_int w d e .u8 .u8 _ _ he
  simp only [List.forIn_cons, Sem.run_bind, px, py, pe, Result.andThen_ok, List.all_cons]
  cases hb : (A.getD i 0 == B.getD i 0)
  ·simp
  ·simp only [Bool.not_true, Bool.false_eq_true, if_false, Sem.run_pure, Result.andThen_ok, Bool.true_and]
   exact ih fun j hj => hl j (by simp [hj])
theorem key_cmp (A B : List Int) (hA : A.length = 32) (hB : B.length = 32) (w : World) : (Op.equalIn 10000 47 (.agg (w8s A)) (.agg (w8s B))).run Try.prog w = .ok (A == B) w :=
 keys_cmp w 9998 47 5 32 (by kernel_rfl) Try.underlying5 (fun w => by kernel_rfl) A B hA hB
theorem key_guard25 : Try.prog.eqGuardType Try.prog.depth 47 = false := by kernel_rfl
theorem eq_key {ρ : Operand → Value} {o : Oper} {x y : Operand} (ho : o.op = .binOp .eql 47 x y 47) (A B : List Int) (hA : A.length = 32) (hB : B.length = 32) (hx : ρ x = .agg (w8s A)) (hy : ρ y = .agg (w8s B)) (w : World) :
  (execOp ρ o).run Try.prog w = .ok (.value (.bool (A == B))) w := by
 have h1 := key_cmp A B hA hB w
 have h2 := key_guard25
 unfold execOp
 simp only [ho, hx, hy]
 simp [h1, h2, go_sem]
theorem str_self (s : ByteArray) : (s == s) = true := by
 rw [beq_toListBytes]
 exact beq_self_eq_true _
theorem eql_ky {ρ : Operand → Value} {o : Oper} {x y : Operand} (ho : o.op = .binOp .eql 47 x y 47) (k : Nat → Int) (hx : ρ x = .agg (kcA k)) (hy : ρ y = .agg (kcA k)) (w : World) : (execOp ρ o).run Try.prog w = .ok (.value (.bool true)) w := by
 have e : kcA k = w8s ((List.range 32).map k) := rfl
 rw [e] at hx hy
 have := eq_key ho ((List.range 32).map k) ((List.range 32).map k) (by simp) (by simp) hx hy w
 rwa [beq_self_eq_true] at this
set_option maxRecDepth 100000 in
set_option maxHeartbeats 8000000 in
theorem same_ints {w : World} {a a2 : Option Addr} {c c2 : Nat} {L : List Int} (h1 : Cs w a (icells L)) (h2 : Cs w a2 (icells L)) (hl : L.length ≤ 100000) : Calls Try.prog 31 #[.slice a L.length c, .slice a2 L.length c2] w fun e w' => e = .returned (.bool true) ∧ Below w.heap.size w w' := by
 have HA : Hid (∀ V, Below w.heap.size w V → ∀ i, i < L.length → ∃ b off b2 off2, a = some ⟨b, off, none⟩ ∧ a2 = some ⟨b2, off2, none⟩ ∧ V.cell? ⟨b, off + i, none⟩ = some (.int .i64 (L.getD i 0)) ∧ V.cell? ⟨b2, off2 + i, none⟩ = some (.int .i64 (L.getD i 0))) := Lib.hid fun V hV i hi => by
  obtain ⟨b, off, e1, -, c1⟩ := int_at (h1.below hV) hi
  obtain ⟨b2, off2, e2, -, c2⟩ := int_at (h2.below hV) hi
  exact ⟨b, off, b2, off2, e1, e2, c1, c2⟩
 obtain ⟨n, hn⟩ : ∃ n, L.length = n := ⟨_, rfl⟩
 rw [hn] at HA hl ⊢
 have HL := Lib.hid hl
 clear h1 h2 hn hl
 go_enter Try.func31, Try.ntmps31
 go_upto_region 1 with fail
 refine wl <| gz4 (.slice a n c) (.int .i64 n) (.slice a2 n c2) (.int .i64 n) <| gzb (neq_n rfl (n) (n) (decide_eq_false (fun h => h rfl))) <| wn ?_
 simp only [pu]
 go_upto_region 3 with fail
 refine wl <| gz3 (.slice a n c) (.int .i64 n) (.int .i64 0) <| wn ?_
 simp only [pu]
 go_wp2_with fail
 go_loopg [13] n (fun gg s13 wx => ∃ (i : Nat), s13 = .int .i64 i ∧ i ≤ n ∧ gg + i = n ∧ Hid (Below w.heap.size w wx))
 case atStart => exact ⟨0, rfl, by omega, by omega, Lib.hid (Below.refl _ _)⟩
 case round =>
  obtain ⟨i, rfl, hin, hg, HR⟩ := hrel
  have HGK : Hid (gk + i = n) := Lib.hid hg
  clear hg
  by_cases hlt : i < n
  ·skip
   obtain ⟨b, off, b2, off2, hq1, hq2, hc1, hc2⟩ := HA.out wr HR.out i hlt
   obtain rfl := hq1
   obtain rfl := hq2
   generalize L.getD i 0 = v at *
   go_upto_region 4 with fail
   refine wl <| gzb (lss_n rfl (i) (n) dT) <| wn ?_
   simp only [pu]
   go_upto_region 5 with fail
   refine wl <| gz2 (.int .i64 i) (.int .i64 i) <| wn ?_
   simp only [pu]
   go_upto_region 6 with fail
   refine wp_region_class (C := fun U => Below wr.heap.size wr U) (by kernel_rfl) (by kernel_rfl) ((Below.refl _ wr).drew) ?_
   refine gy (.slice (some ⟨b, off, none⟩) n c) <| gy (.int .i64 i) <| gyv (.pointer (some ⟨b, off + i, none⟩)) (fun U hU => idx_int b off n c i hlt U _ _ rfl (by kernel_rfl) (by kernel_rfl)) <|
     gyl rfl ⟨b, off + i, none⟩ (.int .i64 v) (fun U hU => load_cell ((hU.cell (p := ⟨b, off + i, none⟩) (World.block_lt_of_cell? wr _ hc1)).trans hc1) (by kernel_rfl)) <| gy (.slice (some ⟨b2, off2, none⟩) n c2) <| gy (.int .i64 i) <|
     gyv (.pointer (some ⟨b2, off2 + i, none⟩)) (fun U hU => idx_int b2 off2 n c2 i hlt U _ _ rfl (by kernel_rfl) (by kernel_rfl)) <|
     gyl rfl ⟨b2, off2 + i, none⟩ (.int .i64 v) (fun U hU => load_cell ((hU.cell (p := ⟨b2, off2 + i, none⟩) (World.block_lt_of_cell? wr _ hc2)).trans hc2) (by kernel_rfl)) <| gyv (.bool false) (fun U hU => neq_n rfl (v) (v) (decide_eq_false (fun h => h rfl)) (by kernel_rfl) (by kernel_rfl) U) ?_
   simp only [pu]
   apply wpQuiet_nil
   intro V3 hV3
   have HR2 := Lib.hid (HR.out.trans (hV3.mono HR.out.size))
   clear hV3 hc1 hc2 HR
   go_upto_region 8 with fail
   refine wl <| gzv (.int .i64 (i + 1 : Nat)) (add_one rfl i (by have := HL.out; omega) (by kernel_rfl) _) <| gz1 (.int .i64 (i + 1 : Nat)) <| wn ?_
   simp only [pu]
   go_wp2_with fail
   go_roundg (n - (i + 1))
   case measure => have := HGK.out; omega
   case rel => exact ⟨i + 1, rfl, by omega, by omega, HR2⟩
  ·skip
   obtain rfl : i = n := by omega
   go_upto_region 4 with fail
   refine wl <| gzb (lss_n rfl (i) (i) dF) <| wn ?_
   simp only [pu]
   go_wp2_with fail
   go_ret
   exact ⟨rfl, HR.out⟩
set_option maxRecDepth 100000 in
set_option maxHeartbeats 8000000 in
theorem r_same {w : World} {e : En} {d d2 : Ad} (h1 : EnI w e d) (h2 : EnI w e d2) (hE : EnB e) : Calls Try.prog 23 #[.agg (enA e d), .agg (enA e d2)] w fun r w' => r = .returned (.bool true) ∧ Below w.heap.size w w' := by
 have hX2 : Bx (w.alloc (.cells (enA e d) 50)) w.heap.size (enA e d) 50 := heap_alloc_last w _
 have hs1 : (w.alloc (.cells (enA e d) 50)).heap.size = w.heap.size + 1 := by simp
 have hb1 : Below w.heap.size w (w.alloc (.cells (enA e d) 50)) := (Below.refl _ w).alloc (Nat.le_refl _) _
 obtain ⟨W1, hW1⟩ : ∃ V, w.alloc (.cells (enA e d) 50) = V := ⟨_, rfl⟩
 rw [hW1] at hX2 hs1 hb1
 have hb0 : Below w.heap.size w (W1.alloc (.cells (enA e d2) 50)) := hb1.alloc hb1.size _
 have hX20 : Bx (W1.alloc (.cells (enA e d2) 50)) w.heap.size (enA e d) 50 := hX2.below hX2.lt ((Below.refl _ W1).alloc (Nat.le_refl _) _)
 have hX30 : Bx (W1.alloc (.cells (enA e d2) 50)) W1.heap.size (enA e d2) 50 := heap_alloc_last W1 _
 obtain ⟨W, hW⟩ : ∃ V, W1.alloc (.cells (enA e d2) 50) = V := ⟨_, rfl⟩
 rw [hW] at hX20 hX30 hb0
 rw [hs1] at hX30
 obtain ⟨g2, hg2⟩ : ∃ g, w.heap.size = g := ⟨_, rfl⟩
 obtain ⟨g3, hg3⟩ : ∃ g, g2 + 1 = g := ⟨_, rfl⟩
 rw [show w.heap.size + 1 = g3 by omega] at hX30
 rw [hg2] at hX20
 have hg4 : W1.heap.size = g3 := by omega
 have HB := Lib.hid hb0
 have hI1 := h1.below hb0
 have hI2 := h2.below hb0
 have CB := same_true d.ra d.rc d2.ra d2.rc e.raw W hI1.r hI2.r
 have CI := same_ints (c := d.pc) (c2 := d2.pc) hI1.p hI2.p (by have := hE.2; omega)
 have HW1 := Lib.hid hW1
 have HW := Lib.hid hW
 have HG2 := Lib.hid hg2
 have HG3 := Lib.hid hg3
 clear h1 h2 hE hX2 hs1 hb1 hb0 hg2 hg3 hI1 hI2 hW1 hW hg4
 go_enter Try.func23, Try.ntmps23
 go_upto_region 1 with fail
 rw [HW1.out, HW.out]
 rw [HG2.out, HG3.out]
 refine wl <| gz1 (.pointer (some ⟨g2, 0, none⟩)) <| gzl rfl ⟨g2, 0, none⟩ (.agg (kcA e.k)) (load_ky (bx_range hX20)) <| gz1 (.pointer (some ⟨g3, 0, none⟩)) <| gzl rfl ⟨g3, 0, none⟩ (.agg (kcA e.k)) (load_ky (bx_range hX30)) <|
  gzw (.bool true) (eql_ky rfl e.k) <| gz2 (.bool true) (.pointer (some ⟨g2, 32, none⟩)) <| gzl rfl ⟨g2, 32, none⟩ (.slice d.ra e.raw.length d.rc) (rg_cell (bx_range hX20) (j := 32) rfl (by kernel_rfl)) <| gz1 (.pointer (some ⟨g3, 32, none⟩)) <|
  gzl rfl ⟨g3, 32, none⟩ (.slice d2.ra e.raw.length d2.rc) (rg_cell (bx_range hX30) (j := 32) rfl (by kernel_rfl)) <| gzc (.bool true) (fun w' => W = w') (CB) (fun V9 hV9 => ?_)
 subst hV9
 simp only [pu]
 refine gz3 (.bool true) (.bool true) (.pointer (some ⟨g2, 33, none⟩)) <| gzl rfl ⟨g2, 33, none⟩ (.string e.snd) (rg_cell (bx_range hX20) (j := 33) rfl (by kernel_rfl)) <| gz1 (.pointer (some ⟨g3, 33, none⟩)) <|
  gzl rfl ⟨g3, 33, none⟩ (.string e.snd) (rg_cell (bx_range hX30) (j := 33) rfl (by kernel_rfl)) <| gzw (.bool true) (eql_s rfl e.snd e.snd (str_self _)) <| gz3 (.bool true) (.bool true) (.pointer (some ⟨g2, 34, none⟩)) <|
  gzl rfl ⟨g2, 34, none⟩ (.int .u64 e.sq) (rg_cell (bx_range hX20) (j := 34) rfl (by kernel_rfl)) <| gz1 (.pointer (some ⟨g3, 34, none⟩)) <| gzl rfl ⟨g3, 34, none⟩ (.int .u64 e.sq) (rg_cell (bx_range hX30) (j := 34) rfl (by kernel_rfl)) <|
  gzb (eql_w rfl e.sq e.sq (decide_eq_true rfl)) <| gz3 (.bool true) (.bool true) (.pointer (some ⟨g2, 35, none⟩)) <| gzl rfl ⟨g2, 35, none⟩ (.int .u64 e.gas) (rg_cell (bx_range hX20) (j := 35) rfl (by kernel_rfl)) <|
  gz1 (.pointer (some ⟨g3, 35, none⟩)) <| gzl rfl ⟨g3, 35, none⟩ (.int .u64 e.gas) (rg_cell (bx_range hX30) (j := 35) rfl (by kernel_rfl)) <| gzb (eql_w rfl e.gas e.gas (decide_eq_true rfl)) <|
  gz3 (.bool true) (.bool true) (.pointer (some ⟨g2, 36, none⟩)) <| gzl rfl ⟨g2, 36, none⟩ (.int .u64 e.pri) (rg_cell (bx_range hX20) (j := 36) rfl (by kernel_rfl)) <| gz1 (.pointer (some ⟨g3, 36, none⟩)) <|
  gzl rfl ⟨g3, 36, none⟩ (.int .u64 e.pri) (rg_cell (bx_range hX30) (j := 36) rfl (by kernel_rfl)) <| gzb (eql_w rfl e.pri e.pri (decide_eq_true rfl)) <| gz3 (.bool true) (.bool true) (.pointer (some ⟨g2, 37, none⟩)) <|
  gzl rfl ⟨g2, 37, none⟩ (.int .i64 e.ht) (rg_cell (bx_range hX20) (j := 37) rfl (by kernel_rfl)) <| gz1 (.pointer (some ⟨g3, 37, none⟩)) <| gzl rfl ⟨g3, 37, none⟩ (.int .i64 e.ht) (rg_cell (bx_range hX30) (j := 37) rfl (by kernel_rfl)) <|
  gzb (eql_n rfl e.ht e.ht (decide_eq_true rfl)) <| gz3 (.bool true) (.bool true) (.pointer (some ⟨g2, 38, none⟩)) <| gzl rfl ⟨g2, 38, none⟩ (.int .i64 e.tm) (rg_cell (bx_range hX20) (j := 38) rfl (by kernel_rfl)) <|
  gz1 (.pointer (some ⟨g3, 38, none⟩)) <| gzl rfl ⟨g3, 38, none⟩ (.int .i64 e.tm) (rg_cell (bx_range hX30) (j := 38) rfl (by kernel_rfl)) <| gzb (eql_n rfl e.tm e.tm (decide_eq_true rfl)) <|
  gz3 (.bool true) (.bool true) (.pointer (some ⟨g2, 39, none⟩)) <| gzl rfl ⟨g2, 39, none⟩ (.int .i64 e.od) (rg_cell (bx_range hX20) (j := 39) rfl (by kernel_rfl)) <| gz1 (.pointer (some ⟨g3, 39, none⟩)) <|
  gzl rfl ⟨g3, 39, none⟩ (.int .i64 e.od) (rg_cell (bx_range hX30) (j := 39) rfl (by kernel_rfl)) <| gzb (eql_n rfl e.od e.od (decide_eq_true rfl)) <| gz3 (.bool true) (.bool true) (.pointer (some ⟨g2, 40, none⟩)) <|
  gzl rfl ⟨g2, 40, none⟩ (.slice d.pa e.prs.length d.pc) (rg_cell (bx_range hX20) (j := 40) rfl (by kernel_rfl)) <| gz1 (.pointer (some ⟨g3, 40, none⟩)) <| gzl rfl ⟨g3, 40, none⟩ (.slice d2.pa e.prs.length d2.pc) (rg_cell (bx_range hX30) (j := 40) rfl (by kernel_rfl)) <|
  gzc (.bool true) (fun w' => Below W.heap.size W w') (CI) (fun V2 hV2 => ?_)
 simp only [pu]
 refine gz2 (.bool true) (.bool true) <| wn ?_
 simp only [pu]
 have HE := HB.out.trans (hV2.mono HB.out.size)
 go_wp2_with fail
 go_ret
 exact ⟨rfl, HE⟩
end Go.Proofs.Ytgkckblcekbafaa
