/-
  slices.Clone, the program's insert, the reference's Put: contracts. Get and Genesis, the program's and the reference's: contracts. Genesis, the program's and the reference's: contracts.
-/
import Derived.Test.YtglglhcnofbagaaJ16
import Derived.Deep.DeepCutAuto
import Derived.Laws.Cover3
namespace Go.Proofs.Ytglglhcnofbagaa.Lg
attribute [local irreducible] wpList wpQuiet
set_option maxRecDepth 100000
open Go.RowKit
set_option linter.unusedSimpArgs false
set_option linter.unusedVariables false

theorem row_nil (w : World) (B : Nat) : RowA w B (.slice none 0 0) [] := World.ownsRow_nil _ _ _ _
theorem cs_none {w : World} {A : List Ac} (h : Cs w none (acc A)) : A = [] := by
 cases A with
 | nil => rfl
 | cons x r =>
  obtain ⟨b, off, e, -⟩ := h 0 (.string x.1) rfl
  cases e
/-- 'append' of a part to a row of the call's own, in full. -/
theorem app_ac {w : World} {B : Nat} {v : Value} {A : List Ac} (h : RowA w B v A) (hB : B ≤ w.heap.size) (pa : Option Addr) (cp : Nat) (L : List Ac) (hP : Cs w pa (acc L)) (hl : (A.length + L.length) * 32 ≤ 140737488355328) :
  ∃ a c V2, (Builtin.append_ #[25, 25] 25 #[v, .slice pa L.length cp]).run Try.prog w = .ok (.slice a (A.length + L.length) c) V2 ∧ RowA V2 B (.slice a (A.length + L.length) c) (A ++ L) ∧ Below B w V2 ∧ w.grownBy V2 v.ownBlock ∧ ((Value.slice a (A.length + L.length) c).ownBlock = v.ownBlock ∨ (Value.slice a (A.length + L.length) c).ownBlock = some w.heap.size) := by
 obtain ⟨v2, V2, hr, hO, hb, hg, hat⟩ := append_big (P := Try.prog) (t := 25) (e := 24) (m := L.length) Try.underlying25 infoAc (by kernel_rfl) (by omega) h pa cp (acc L) hP (acc_len L) (acc_one L) hB (by omega) hl
 have hO2 : RowA V2 B v2 (A ++ L) := by unfold RowA; rw [List.length_append, acc_app]; exact hO
 obtain ⟨a, c, rfl, -, -⟩ := hO2.cs
 rw [List.length_append] at hr hO2 hat
 exact ⟨a, c, V2, hr, hO2, hb, hg, hat⟩
theorem eql_nil {ρ : Operand → Value} {o : Oper} {x y : Operand} (ho : o.op = .binOp .eql 25 x y 25) (a : Option Addr) (n c : Nat) (hx : ρ x = .slice a n c) (hy : ρ y = .slice none 0 0) (w : World) : (execOp ρ o).run Try.prog w = .ok (.value (.bool a.isNone)) w := by
 have h := run_equal_slice_nil (P := Try.prog) w 25 24 a n c Try.underlying25
 have e : (binOp .eql 25 (.slice a n c) (.slice none 0 0)).run Try.prog w = .ok (.bool a.isNone) w := by
  show Sem.run Try.prog (do pure (Value.bool (← Op.equal 25 (.slice a n c) (.slice none 0 0))) : Sem Value) w = _
  simp only [Sem.run_bind, h, Result.andThen_ok]
  rfl
 unfold execOp
 simp only [ho, hx, hy]
 go_simp
set_option maxRecDepth 100000 in
set_option maxHeartbeats 8000000 in
theorem q_clone (a : Option Addr) (k : Nat) (A : List Ac) (w : World) (hR : Cs w a (acc A)) (hn : A.length ≤ 4398046511104) :
  Calls Try.prog 29 #[.slice a A.length k] w fun e w' => ∃ v, e = .returned v ∧ RowA w' w.heap.size v A ∧ Below w.heap.size w w' := by
 cases a with
 | none =>
  obtain rfl := cs_none hR
  go_enter Try.func29, Try.ntmps29
  go_upto_region 1 with fail
  refine wl <| gz1 (.slice none ([] : List Ac).length k) <| gzw (.bool true) (eql_nil rfl none 0 k) <| wn ?_
  simp only [pu]
  go_upto_region 2 with fail
  refine wl <| gz1 (.slice none 0 0) <| wn ?_
  simp only [pu]
  go_wp2_with fail
  go_ret
  exact ⟨_, rfl, row_nil _ _, Below.refl _ _⟩
 | some ad =>
  have hnl := nil_ac w
  have hb1 : Below w.heap.size w (w.alloc (.cells #[] 24)) := (Below.refl _ w).alloc (Nat.le_refl _) _
  have hr1 : RowA (w.alloc (.cells #[] 24)) w.heap.size (.slice (some ⟨w.heap.size, 0, none⟩) 0 0) [] := own_nil w 24 3
  obtain ⟨a2, c2, V2, hap, hr2, hb2, -, -⟩ := app_ac hr1 hb1.size (some ad) k A (hR.below hb1) (by simp only [List.length_nil]; omega)
  rw [List.nil_append] at hr2
  simp only [List.length_nil, Nat.zero_add] at hap hr2
  have HE : Hid (RowA V2 w.heap.size (.slice a2 A.length c2) A ∧ Below w.heap.size w V2) := Lib.hid ⟨hr2, hb1.trans hb2⟩
  generalize w.alloc (.cells #[] 24) = W1 at *
  generalize A.length = n at *
  clear hb1 hr1 hr2 hb2 hR hn
  go_enter Try.func29, Try.ntmps29
  go_upto_region 1 with fail
  refine wl <| gz1 (.slice (some ad) n k) <| gzw (.bool false) (eql_nil rfl (some ad) n k) <| wn ?_
  simp only [pu]
  go_upto_region 3 with fail
  apply wp_region_lit
  refine gw_build (by kernel_rfl) (some 5) rfl 25 0 #[] rfl #[] (by kernel_rfl) (.slice (some ⟨w.heap.size, 0, none⟩) 0 0) _ hnl ?_
  simp only [pu]
  refine gz1 (.slice (some ad) n k) ?_
  simp only [pu]
  refine append_step rfl (some 7) rfl 25 rfl (.tmp 5) (.tmp 6) 25 rfl (.slice (some ⟨w.heap.size, 0, none⟩) 0 0) (.slice (some ad) n k) (.slice a2 n c2) V2 (by kernel_rfl) (by kernel_rfl) hap ?_
  simp only [pu]
  refine gz1 (.slice a2 n c2) <| wn ?_
  simp only [pu]
  clear hap hnl
  go_wp2_with fail
  go_ret
  exact ⟨_, rfl, HE.out⟩
set_option maxRecDepth 100000 in
set_option maxHeartbeats 8000000 in
theorem q_insert (v : Value) (A : List Ac) (x : Ac) (i B : Nat) (w : World) (hR : RowA w B v A) (hB : B ≤ w.heap.size) (hi : i ≤ A.length) (hn : A.length ≤ 1000) :
  Calls Try.prog 81 #[v, .int .i64 i, .agg (acA x)] w fun e w' => ∃ v', e = .returned v' ∧ RowA w' B v' (A.take i ++ x :: A.drop i) ∧ Below B w w' := by
 have hb0 : Below w.heap.size w (w.alloc (.cells (acA x) 24)) := (Below.refl _ w).alloc (Nat.le_refl _) _
 have hX0 : Bx (w.alloc (.cells (acA x) 24)) w.heap.size (acA x) 24 := heap_alloc_last w _
 have hsz : (w.alloc (.cells (acA x) 24)).heap.size = w.heap.size + 1 := by simp
 have hr0 := own_below hR hb0
 have hne : v.ownBlock ≠ some w.heap.size := fun e => by have := (World.ownsRow.lt hR _ e).2; omega
 have HROT := Lib.hid (ins_rot A x i hi)
 have HBB := Lib.hid hB
 go_enter Try.func81, Try.ntmps81
 go_upto_region 1 with fail
 change Code.wp _ _ _ _ (w.alloc (.cells (acA x) 24))
 generalize w.alloc (.cells (acA x) 24) = W at *
 have hbu := build_ac x W
 have hb1 : Below W.heap.size W (W.alloc (.cells (acA x) 24)) := (Below.refl _ W).alloc (Nat.le_refl _) _
 have hr1 : RowA (W.alloc (.cells (acA x) 24)) B v A := own_below hr0 hb1
 have hc1 : Cs (W.alloc (.cells (acA x) 24)) (some ⟨W.heap.size, 0, none⟩) (acc [x]) := Cs.block (t := 24) (fr := (0, 0)) (cs := acl x) (heap_alloc_last W (.cells (acA x) 24))
 have hX1 := hX0.below hX0.lt hb1
 obtain ⟨a2, c2, V2, hap, hr2, hb2, hg2, hat2⟩ := app_ac hr1 (by have := hb0.size; have := hb1.size; omega) (some ⟨W.heap.size, 0, none⟩) 1 [x] hc1 (by simp only [List.length_cons, List.length_nil]; omega)
 simp only [List.length_cons, List.length_nil, Nat.zero_add] at hap hr2 hat2
 have hX2 : Bx V2 w.heap.size (acA x) 24 := (hg2.block _ hX1.lt (Ne.symm hne)).trans hX1
 have hs1 : (W.alloc (.cells (acA x) 24)).heap.size = w.heap.size + 2 := by simp [hsz]
 have hnm := own_cs hr2
 obtain ⟨g2, e2, hg3, -⟩ := own_at (show V2.ownsRow B 24 3 (.slice a2 (A.length + 1) c2) (A.length + 1) (acc (A ++ [x])) by have := hr2; unfold RowA at this; rw [List.length_append] at this; exact this) (by omega)
 subst e2
 have hgn : g2 ≠ w.heap.size := fun e => by
  subst e
  rcases hat2 with h | h
  ·exact hne h.symm
  ·simp only [Value.ownBlock, Option.some.injEq] at h
   omega
 have hbb2 := (hb0.mono hB).trans ((hb1.mono (by have := hb0.size; omega)).trans hb2)
 have HBW := Lib.hid hbb2
 have HN := Lib.hid hn
 have HI := Lib.hid hi
 obtain ⟨g5, hg5⟩ : ∃ g5, w.heap.size = g5 := ⟨_, rfl⟩
 have HX2 := Lib.hid hX2
 have HR2 := Lib.hid hr2
 have HGN := Lib.hid hgn
 rw [hg5] at HX2 HGN hX0
 simp only [hg5]
 generalize W.alloc (.cells (acA x) 24) = W1 at *
 obtain ⟨g6, hg6⟩ : ∃ g6, W.heap.size = g6 := ⟨_, rfl⟩
 rw [hg6] at hap hbu
 obtain ⟨n, hnn⟩ : ∃ n, A.length = n := ⟨_, rfl⟩
 have HNN := Lib.hid hnn
 rw [hnn] at hap HR2 HN HI HROT
 clear hnm hat2 hg2 hX2 hX1 hc1 hr1 hb1 hr0 hne hb0 hbb2 hg5 hg6 hs1 hsz hb2 hr2 hg3 hgn hnn hn hi hR hB
 refine wl <| gz1 (v) <| gzl rfl ⟨g5, 0, none⟩ (.agg (acA x)) (load_acb hX0) ?_
 simp only [pu]
 refine gw_build (by kernel_rfl) (some 9) rfl 25 1 #[(0, .tmp 8)] rfl #[(0, .agg (acA x))] (by kernel_rfl) (.slice (some ⟨g6, 0, none⟩) 1 1) _ hbu ?_
 simp only [pu]
 refine append_step rfl (some 10) rfl 25 rfl (.tmp 7) (.tmp 9) 25 rfl (v) (.slice (some ⟨g6, 0, none⟩) 1 1) (.slice (some ⟨g2, 0, none⟩) (n + 1) c2) V2 (by kernel_rfl) (by kernel_rfl) hap ?_
 simp only [pu]
 refine gz1 (.slice (some ⟨g2, 0, none⟩) (n + 1) c2) <| wn ?_
 simp only [pu]
 clear hap hbu hX0
 go_upto_region 2 with fail
 have hlx : (A ++ [x]).length = n + 1 := by rw [List.length_append, HNN.out]; rfl
 have HLX := Lib.hid hlx
 have h0 : (false = false → RowA V2.drew B (.slice (some ⟨g2, 0, none⟩) (n + 1) c2) (A ++ [x]) ∧ Below B V2 V2.drew ∧ But g2 V2 V2.drew) ∧ (false = true → RowA V2.drew B (.slice (some ⟨g2, 0, none⟩) (n + 1) c2) ((A ++ [x]).take (i + 1) ++ ((A ++ [x]).drop i).take (n + 1 - (i + 1))) ∧ Below B V2 V2.drew ∧ But g2 V2 V2.drew) := ⟨fun _ => ⟨own_below HR2.out ((Below.refl _ V2).drew), (Below.refl _ V2).drew, ⟨(Below.refl _ V2).drew, fun k hk _ => rfl⟩⟩, fun h => (by cases h)⟩
 clear hlx
 refine wp_region_inv (fun listed act9 V => ∃ b0 b1 b2 b3 b4 b5 b6 b7 : Bool, ∃ x18 : Value, listed = #[b0, b1, b2, b3, b4, b5, b6, b7] ∧ act9 = { tmps := #[.slice (some ⟨g2, 0, none⟩) (n + 1) c2, .int .i64 i, .agg (acA x), undef, undef, .pointer (some ⟨g5, 0, none⟩), .slice none 0 0, v, .agg (acA x), .slice (some ⟨g6, 0, none⟩) 1 1, .slice (some ⟨g2, 0, none⟩) (n + 1) c2, (cond b0 (.slice (some ⟨g2, 0, none⟩) (n + 1) c2) undef), (cond b1 (.int .i64 i) undef), (cond b2 (.int .i64 (i + 1 : Nat)) undef), (cond b3 (.slice (fromS 3 (some ⟨g2, 0, none⟩) c2 (i + 1)) (n + 1 - (i + 1)) (c2 - (i + 1))) undef), (cond b4 (.slice (some ⟨g2, 0, none⟩) (n + 1) c2) undef), (cond b5 (.int .i64 i) undef), (cond b6 (.slice (fromS 3 (some ⟨g2, 0, none⟩) c2 i) (n + 1 - i) (c2 - i)) undef), x18, undef, undef, undef, undef, undef], defers := [] } ∧ (b7 = false → RowA V B (.slice (some ⟨g2, 0, none⟩) (n + 1) c2) (A ++ [x]) ∧ Below B V2 V ∧ But g2 V2 V) ∧ (b7 = true → RowA V B (.slice (some ⟨g2, 0, none⟩) (n + 1) c2) ((A ++ [x]).take (i + 1) ++ ((A ++ [x]).drop i).take (n + 1 - (i + 1))) ∧ Below B V2 V ∧ But g2 V2 V)) (by kernel_rfl) (by kernel_rfl) ?_ ?_ ?_
 ·exact ⟨false, false, false, false, false, false, false, false, undef, rfl, rfl, h0⟩
 ·intro i9 listed act9 V hi9 hr hJ
  obtain ⟨b0, b1, b2, b3, b4, b5, b6, b7, x18, rfl, rfl, hF⟩ := hJ
  have hi2 : i9 < 8 := hi9
  have hi3 : i9 = 0 ∨ i9 = 1 ∨ i9 = 2 ∨ i9 = 3 ∨ i9 = 4 ∨ i9 = 5 ∨ i9 = 6 ∨ i9 = 7 := by omega
  rcases hi3 with rfl | rfl | rfl | rfl | rfl | rfl | rfl | rfl
  ·obtain rfl : b0 = false := ready_self hr
   refine st_val rfl (by kernel_rfl) (some 11) rfl (.slice (some ⟨g2, 0, none⟩) (n + 1) c2) V (by kernel_rfl) ?_
   exact ⟨true, b1, b2, b3, b4, b5, b6, b7, x18, rfl, rfl, hF⟩
  ·obtain rfl : b1 = false := ready_self hr
   refine st_val rfl (by kernel_rfl) (some 12) rfl (.int .i64 i) V (by kernel_rfl) ?_
   exact ⟨b0, true, b2, b3, b4, b5, b6, b7, x18, rfl, rfl, hF⟩
  ·obtain rfl : b2 = false := ready_self hr
   obtain rfl : b1 = true := ready_dep hr 1 (by kernel_rfl)
   refine st_val rfl (by kernel_rfl) (some 13) rfl (.int .i64 (i + 1 : Nat)) V (add_nat rfl i 1 (by have := HI.out; have := HN.out; omega) (by kernel_rfl) (by kernel_rfl) _) ?_
   exact ⟨b0, true, true, b3, b4, b5, b6, b7, x18, rfl, rfl, hF⟩
  ·obtain rfl : b3 = false := ready_self hr
   obtain rfl : b0 = true := ready_dep hr 0 (by kernel_rfl)
   obtain rfl : b2 = true := ready_dep hr 2 (by kernel_rfl)
   refine st_slice_from rfl (by kernel_rfl) (some 14) rfl 25 (.tmp 11) (.tmp 13) rfl (.slice (some ⟨g2, 0, none⟩) (n + 1) c2) (.int .i64 (i + 1 : Nat)) (.slice (fromS 3 (some ⟨g2, 0, none⟩) c2 (i + 1)) (n + 1 - (i + 1)) (c2 - (i + 1))) (by kernel_rfl) (by kernel_rfl) (cut_ac_from (some ⟨g2, 0, none⟩) (n + 1) c2 (i + 1) V (by have := HI.out; omega)) ?_
   exact ⟨true, b1, true, true, b4, b5, b6, b7, x18, rfl, rfl, hF⟩
  ·obtain rfl : b4 = false := ready_self hr
   refine st_val rfl (by kernel_rfl) (some 15) rfl (.slice (some ⟨g2, 0, none⟩) (n + 1) c2) V (by kernel_rfl) ?_
   exact ⟨b0, b1, b2, b3, true, b5, b6, b7, x18, rfl, rfl, hF⟩
  ·obtain rfl : b5 = false := ready_self hr
   refine st_val rfl (by kernel_rfl) (some 16) rfl (.int .i64 i) V (by kernel_rfl) ?_
   exact ⟨b0, b1, b2, b3, b4, true, b6, b7, x18, rfl, rfl, hF⟩
  ·obtain rfl : b6 = false := ready_self hr
   obtain rfl : b4 = true := ready_dep hr 4 (by kernel_rfl)
   obtain rfl : b5 = true := ready_dep hr 5 (by kernel_rfl)
   refine st_slice_from rfl (by kernel_rfl) (some 17) rfl 25 (.tmp 15) (.tmp 16) rfl (.slice (some ⟨g2, 0, none⟩) (n + 1) c2) (.int .i64 i) (.slice (fromS 3 (some ⟨g2, 0, none⟩) c2 i) (n + 1 - i) (c2 - i)) (by kernel_rfl) (by kernel_rfl) (cut_ac_from (some ⟨g2, 0, none⟩) (n + 1) c2 i V (by have := HI.out; omega)) ?_
   exact ⟨b0, b1, b2, b3, true, true, true, b7, x18, rfl, rfl, hF⟩
  ·obtain rfl : b7 = false := ready_self hr
   obtain rfl : b3 = true := ready_dep hr 3 (by kernel_rfl)
   obtain rfl : b6 = true := ready_dep hr 6 (by kernel_rfl)
   obtain ⟨hr, hb, hbt⟩ := hF.1 rfl
   obtain ⟨v, V3, hcp, hr3, hb3, hbt3⟩ := copy_ac (n := n + 1) (i := i) hr HLX.out.symm (by have := HI.out; omega) 3
   refine st_copy rfl (by kernel_rfl) (some 18) rfl 3 rfl (.tmp 14) (.tmp 17) 25 rfl (.slice (fromS 3 (some ⟨g2, 0, none⟩) c2 (i + 1)) (n + 1 - (i + 1)) (c2 - (i + 1))) (.slice (fromS 3 (some ⟨g2, 0, none⟩) c2 i) (n + 1 - i) (c2 - i)) v V3 (by kernel_rfl) (by kernel_rfl) hcp ?_
   exact ⟨b0, b1, b2, true, b4, b5, true, true, v, rfl, rfl, fun h => (by cases h), fun _ => ⟨hr3, hb.trans hb3, hbt.trans hbt3⟩⟩
 ·intro act9 V hJ
  obtain ⟨b0, b1, b2, b3, b4, b5, b6, b7, x18, he, rfl, hF⟩ := hJ
  have he : (#[true, true, true, true, true, true, true, true] : Array Bool) = #[b0, b1, b2, b3, b4, b5, b6, b7] := he
  simp only [Array.mk.injEq, List.cons.injEq, and_true] at he
  obtain ⟨rfl, rfl, rfl, rfl, rfl, rfl, rfl, rfl⟩ := he
  simp only [cond_true]
  obtain ⟨hr, hb, hbt⟩ := hF.2 rfl
  have hl4 : ((A ++ [x]).take (i + 1) ++ ((A ++ [x]).drop i).take (n + 1 - (i + 1))).length = n + 1 := by
   have := HLX.out
   have := HI.out
   rw [List.length_append, List.length_take, List.length_take, List.length_drop]
   omega
  obtain ⟨V4, hst, hr4, hb4, hbt4⟩ := set_ac hr hl4.symm (i := i) (by rw [hl4]; have := HI.out; omega) x
  rw [HROT.out] at hr4
  have HX4 := Lib.hid (HX2.out.but hbt (Ne.symm HGN.out))
  have HE : Hid (RowA V4 B (.slice (some ⟨g2, 0, none⟩) (n + 1) c2) (A.take i ++ x :: A.drop i) ∧ Below B w V4) := Lib.hid ⟨hr4, HBW.out.trans (hb.trans hb4)⟩
  clear hF h0 hr hb hbt hr4 hb4 hbt4 hl4 HX2 HR2
  go_upto_region 3 with fail
  refine wl <| gz2 (.slice (some ⟨g2, 0, none⟩) (n + 1) c2) (.int .i64 i) <| gzl rfl ⟨g5, 0, none⟩ (.agg (acA x)) (load_acb HX4.out) <| gzv (.pointer (some ⟨g2, 0 + i * 3, none⟩)) (idx_ac g2 0 (n + 1) c2 i (by have := HI.out; omega) _ _ _ rfl (by kernel_rfl) (by kernel_rfl)) <|
   gzs rfl (hst) <| wn ?_
  simp only [pu]
  clear hst HX4
  go_upto_region 4 with fail
  refine wl <| gz2 (.slice (some ⟨g2, 0, none⟩) (n + 1) c2) (.slice (some ⟨g2, 0, none⟩) (n + 1) c2) <| wn ?_
  simp only [pu]
  go_wp2_with fail
  go_ret
  exact ⟨_, rfl, HE.out⟩
set_option maxRecDepth 100000 in
set_option maxHeartbeats 8000000 in
theorem ref_put (al : Option Addr) (c : Nat) (M : List Ac) (x : Ac) (w : World) (hR : Cs w al (acc M)) (hcc : M.length ≤ c) (hl : M.length ≤ 1000) :
  Calls Try.prog 44 #[.slice al M.length c, .agg (acA x)] w fun e w' => ∃ v, e = .returned v ∧ RowA w' w.heap.size v (putL M x) ∧ Below w.heap.size w w' := by
 have hb0 : Below w.heap.size w (w.alloc (.cells (acA x) 24)) := (Below.refl _ w).alloc (Nat.le_refl _) _
 have hX0 : Bx (w.alloc (.cells (acA x) 24)) w.heap.size (acA x) 24 := heap_alloc_last w _
 have HA := Lib.hid (hR.below hb0)
 have CF := ref_find al c M x.1 (w.alloc (.cells (acA x) 24)) (hR.below hb0) (by omega)
 have HPF := Lib.hid (@put_found M x)
 have HPN : Hid (¬ fndL M x.1 < M.length → ∀ k, k ≤ M.length → (∀ t, t < k → ltS (aca M t).1 x.1 = true) → (k < M.length → ltS (aca M k).1 x.1 = false) → putL M x = M.take k ++ [x] ++ M.drop k) := Lib.hid fun h k h1 h2 h3 => by
  rw [put_new h, les_is h1 h2 h3, List.append_assoc, List.singleton_append]
 obtain ⟨P, hP⟩ : ∃ P, putL M x = P := ⟨_, rfl⟩
 rw [hP] at HPF HPN
 rw [hP]
 obtain ⟨r, hr⟩ : ∃ r, fndI M x.1 = r := ⟨_, rfl⟩
 rw [hr] at CF
 have HFR : Hid ((fndL M x.1 < M.length → r = (fndL M x.1 : Nat)) ∧ (¬ fndL M x.1 < M.length → r = -1)) := Lib.hid ⟨fun h => by rw [← hr]; exact if_pos h, fun h => by rw [← hr]; exact if_neg h⟩
 obtain ⟨n, hn⟩ : ∃ n, M.length = n := ⟨_, rfl⟩
 have HN := Lib.hid hn
 rw [hn] at hl hcc HPF HPN HFR CF ⊢
 generalize fndL M x.1 = fl at *
 clear hR hn hP hr
 go_enter Try.func44, Try.ntmps44
 go_upto_region 1 with fail
 change Code.wp _ _ _ _ (w.alloc (.cells (acA x) 24))
 generalize w.alloc (.cells (acA x) 24) = W at *
 obtain ⟨g0, hg0⟩ : ∃ g0, w.heap.size = g0 := ⟨_, rfl⟩
 have HB0 := Lib.hid hb0
 rw [hg0] at hX0
 simp only [hg0]
 have HX0 := Lib.hid hX0
 clear hb0 hg0 hX0
 refine wl <| gz2 (.slice al n c) (.pointer (some ⟨g0, 0, none⟩)) <| gzl rfl ⟨g0, 0, none⟩ (.string x.1) (HX0.out.load (i := 0) rfl (by kernel_rfl)) <| gzc (.int .i64 r) (fun w' => Below W.heap.size W w') (CF) (fun W1 hW1 => ?_)
 have HB1 := Lib.hid (HB0.out.trans (hW1.mono HB0.out.size))
 have HX1 := Lib.hid (HX0.out.below HX0.out.lt hW1)
 have HA1 := Lib.hid (HA.out.below hW1)
 simp only [pu]
 refine gz1 (.int .i64 r) <| wn ?_
 simp only [pu]
 clear CF hW1 HX0 HA HB0
 by_cases hf : fl < n
 ·skip
  obtain rfl := HFR.out.1 hf
  obtain rfl := HPF.out hf
  have hnl := nil_ac W1
  have hb1 : Below W1.heap.size W1 (W1.alloc (.cells #[] 24)) := (Below.refl _ W1).alloc (Nat.le_refl _) _
  have hr1 : RowA (W1.alloc (.cells #[] 24)) W1.heap.size (.slice (some ⟨W1.heap.size, 0, none⟩) 0 0) [] := own_nil W1 24 3
  obtain ⟨a2, c2, V2, hap, hr2, hb2, -, -⟩ := app_ac hr1 hb1.size al c M (HA1.out.below hb1) (by rw [HN.out]; simp only [List.length_nil]; omega)
  rw [List.nil_append] at hr2
  rw [HN.out] at hap hr2
  simp only [List.length_nil, Nat.zero_add] at hap hr2
  obtain ⟨g2, e2, hg2, -⟩ := own_at (show V2.ownsRow W1.heap.size 24 3 (.slice a2 n c2) n (acc M) by have := hr2; unfold RowA at this; rw [HN.out] at this; exact this) (by omega)
  subst e2
  obtain ⟨V3, hst, hr3, hb3, -⟩ := set_ac hr2 HN.out.symm (i := fl) (by rw [HN.out]; exact hf) x
  have HX2 := Lib.hid (HX1.out.below HX1.out.lt (hb1.trans hb2))
  have HE : Hid (RowA V3 w.heap.size (.slice (some ⟨g2, 0, none⟩) n c2) (M.set fl x) ∧ Below w.heap.size w V3) := Lib.hid ⟨own_base hr3 HB1.out.size, HB1.out.trans (((hb1.trans hb2).trans hb3).mono HB1.out.size)⟩
  generalize W1.alloc (.cells #[] 24) = W2 at *
  clear hb1 hr1 hr2 hb2 hr3 hb3 hg2 HFR HPF HPN
  go_upto_region 2 with fail
  refine wl <| gz1 (.int .i64 (fl : Nat)) <| gzb (geq_n rfl (fl : Nat) 0 dT) <| wn ?_
  simp only [pu]
  go_upto_region 3 with fail
  apply wp_region_lit
  refine gw_build (by kernel_rfl) (some 14) rfl 25 0 #[] rfl #[] (by kernel_rfl) (.slice (some ⟨W1.heap.size, 0, none⟩) 0 0) _ hnl ?_
  simp only [pu]
  refine gz1 (.slice al n c) ?_
  simp only [pu]
  refine append_step rfl (some 16) rfl 25 rfl (.tmp 14) (.tmp 15) 25 rfl (.slice (some ⟨W1.heap.size, 0, none⟩) 0 0) (.slice al n c) (.slice (some ⟨g2, 0, none⟩) n c2) V2 (by kernel_rfl) (by kernel_rfl) hap ?_
  simp only [pu]
  refine gz1 (.slice (some ⟨g2, 0, none⟩) n c2) <| wn ?_
  simp only [pu]
  clear hap hnl
  go_upto_region 4 with fail
  refine wl <| gz2 (.slice (some ⟨g2, 0, none⟩) n c2) (.int .i64 (fl : Nat)) <| gzl rfl ⟨g0, 0, none⟩ (.agg (acA x)) (load_acb HX2.out) <| gzv (.pointer (some ⟨g2, 0 + fl * 3, none⟩)) (idx_ac g2 0 n c2 fl hf _ _ _ rfl (by kernel_rfl) (by kernel_rfl)) <| gzs rfl (hst) <| wn ?_
  simp only [pu]
  clear hst HX2
  go_upto_region 5 with fail
  refine wl <| gz2 (.slice (some ⟨g2, 0, none⟩) n c2) (.slice (some ⟨g2, 0, none⟩) n c2) <| wn ?_
  simp only [pu]
  go_wp2_with fail
  go_ret
  exact ⟨_, rfl, HE.out⟩
 ·skip
  obtain rfl := HFR.out.2 hf
  have HPP := Lib.hid (HPN.out hf)
  clear HFR HPF HPN
  go_upto_region 2 with fail
  refine wl <| gz1 (.int .i64 (-1)) <| gzb (geq_n rfl (-1) 0 dF) <| wn ?_
  simp only [pu]
  go_upto_region 6 with fail
  refine wl <| gz1 (.int .i64 0) <| wn ?_
  simp only [pu]
  go_wp2_with fail
  go_loopg [7] n (fun gg s7 wx => ∃ i : Nat, s7 = .int .i64 i ∧ i ≤ n ∧ Hid (∀ t, t < i → ltS (aca M t).1 x.1 = true) ∧ Hid (Below W1.heap.size W1 wx) ∧ n - i = gg)
  case atStart => exact ⟨0, rfl, by omega, Lib.hid (fun t h => by omega), Lib.hid (Below.refl _ _), by omega⟩
  case round =>
   obtain ⟨i, rfl, hi, HO, HB, hg⟩ := hrel
   have HG := Lib.hid hg
   have HBD := Lib.hid HB.out.drew
   have HXD := Lib.hid (HX1.out.below HX1.out.lt HBD.out)
   clear hg
   by_cases hlt : i < n
   ·skip
    obtain ⟨b, off, ea, -, hrx⟩ := ac_range (HA1.out.below HBD.out) (k := i) (by rw [HN.out]; exact hlt)
    subst ea
    have HLX := Lib.hid (nm_at hrx)
    generalize hy : aca M i = y at *
    clear hrx
    generalize hl9 : ltS y.1 x.1 = lt9 at *
    cases lt9
    ·skip
     go_upto_region 7 with fail
     refine wp_region_class (C := fun U => U = wr.drew) (by kernel_rfl) (by kernel_rfl) (rfl) ?_
     refine gy (.int .i64 i) <| gy (.slice (some ⟨b, off, none⟩) n c) <| gy (.int .i64 n) <| gyv (.bool true) (fun U hU => lss_n rfl (i) (n) dT (by kernel_rfl) (by kernel_rfl) _) <| gy (.bool true) <| gy (.slice (some ⟨b, off, none⟩) n c) <| gy (.int .i64 i) <|
       gyv (.pointer (some ⟨b, off + i * 3, none⟩)) (fun U hU => idx_ac b off n c i hlt _ _ _ rfl (by kernel_rfl) (by kernel_rfl)) <| gy (.pointer (some ⟨b, off + i * 3, none⟩)) <| gyl rfl ⟨b, off + i * 3, none⟩ (.string y.1) (fun U hU => by rw [hU]; exact HLX.out.load) <|
       gy (.pointer (some ⟨g0, 0, none⟩)) <| gyl rfl ⟨g0, 0, none⟩ (.string x.1) (fun U hU => by rw [hU]; exact HXD.out.load (i := 0) rfl (by kernel_rfl)) <| gyv (.bool false) (fun U hU => lss_s rfl y.1 x.1 hl9 (by kernel_rfl) (by kernel_rfl) _) <| gy (.bool false) ?_
     simp only [pu]
     apply wpQuiet_nil
     intro U hU
     subst hU
     have HDE := Lib.hid (HPP.out i hi HO.out (fun _ => by rw [hy]; exact hl9))
     have HB7 := HBD
     clear HLX HXD HO HPP hl9 hy HBD
     generalize wr.drew = V7 at *
     have HX3 := Lib.hid (HX1.out.below HX1.out.lt HB7.out)
     have HA3 := Lib.hid (HA1.out.below HB7.out)
     have HBW := Lib.hid (HB1.out.trans (HB7.out.mono HB1.out.size))
     have HTL : Hid ((M.take i).length = i) := Lib.hid (by rw [List.length_take, HN.out]; omega)
     have HDL : Hid ((M.drop i).length = n - i) := Lib.hid (by rw [List.length_drop, HN.out])
     have h0 := CH.start V7 x (M.take i) (M.take i ++ [x]) (M.take i ++ [x] ++ M.drop i) undef undef undef undef undef
     clear HX1 HA1 HB1 HB HB7
     go_upto_region 9 with fail
     refine wp_region_inv (fun listed act9 V => ∃ b0 b1 b2 b3 b4 b5 b6 b7 b8 b9 b10 b11 b12 : Bool, ∃ x38 x42 x44 x45 x49 : Value, listed = #[b0, b1, b2, b3, b4, b5, b6, b7, b8, b9, b10, b11, b12] ∧ act9 = { tmps := #[.slice (some ⟨b, off, none⟩) n c, .agg (acA x), undef, .pointer (some ⟨g0, 0, none⟩), (cond b12 (x49) (.slice none 0 0)), .int .i64 (-1), undef, .int .i64 i, .slice (some ⟨b, off, none⟩) n c, .pointer (some ⟨g0, 0, none⟩), .string x.1, .int .i64 (-1), .int .i64 (-1), .bool false, undef, undef, undef, undef, undef, undef, undef, undef, .int .i64 i, .slice (some ⟨b, off, none⟩) n c, .int .i64 n, .bool true, .bool true, .slice (some ⟨b, off, none⟩) n c, .int .i64 i, .pointer (some ⟨b, off + i * 3, none⟩), .pointer (some ⟨b, off + i * 3, none⟩), .string y.1, .pointer (some ⟨g0, 0, none⟩), .string x.1, .bool false, .bool false, u36, u37, x38, (cond b1 (.slice (some ⟨b, off, none⟩) n c) undef), (cond b2 (.int .i64 i) undef), (cond b3 (.slice (some ⟨b, off, none⟩) i c) undef), x42, (cond b5 (.agg (acA x)) undef), x44, x45, (cond b8 (.slice (some ⟨b, off, none⟩) n c) undef), (cond b9 (.int .i64 i) undef), (cond b10 (.slice (fromS 3 (some ⟨b, off, none⟩) c i) (n - i) (c - i)) undef), x49], defers := [] } ∧ CH V7 x (M.take i) (M.take i ++ [x]) (M.take i ++ [x] ++ M.drop i) b0 b4 b7 b11 b6 x38 x42 x45 x49 x44 V ∧ (b12 = true → b11 = true)) (by kernel_rfl) (by kernel_rfl) ?_ ?_ ?_
     ·exact ⟨false, false, false, false, false, false, false, false, false, false, false, false, false, undef, undef, undef, undef, undef, rfl, rfl, h0, fun h => (by cases h)⟩
     ·intro i9 listed act9 V hi9 hr hJ
      obtain ⟨b0, b1, b2, b3, b4, b5, b6, b7, b8, b9, b10, b11, b12, x38, x42, x44, x45, x49, rfl, rfl, hF, hA⟩ := hJ
      have hi2 : i9 < 13 := hi9
      have hi3 : i9 = 0 ∨ i9 = 1 ∨ i9 = 2 ∨ i9 = 3 ∨ i9 = 4 ∨ i9 = 5 ∨ i9 = 6 ∨ i9 = 7 ∨ i9 = 8 ∨ i9 = 9 ∨ i9 = 10 ∨ i9 = 11 ∨ i9 = 12 := by omega
      rcases hi3 with rfl | rfl | rfl | rfl | rfl | rfl | rfl | rfl | rfl | rfl | rfl | rfl | rfl
      ·obtain rfl : b0 = false := ready_self hr
       obtain rfl : b4 = false := by cases b4; rfl; exact absurd (hF.c1 rfl) (by decide)
       obtain rfl : b7 = false := by cases b7; rfl; exact absurd (hF.c2 rfl) (by decide)
       obtain rfl : b11 = false := by cases b11; rfl; exact absurd (hF.c3 rfl) (by decide)
       refine st_build rfl (by kernel_rfl) (some 38) rfl 25 0 #[] rfl #[] (by kernel_rfl) (.slice (some ⟨V.heap.size, 0, none⟩) 0 0) _ (nil_ac V) ?_
       exact ⟨true, b1, b2, b3, false, b5, b6, false, b8, b9, b10, false, b12, _, x42, x44, x45, x49, rfl, rfl, hF.nil, hA⟩
      ·obtain rfl : b1 = false := ready_self hr
       refine st_val rfl (by kernel_rfl) (some 39) rfl (.slice (some ⟨b, off, none⟩) n c) V (by kernel_rfl) ?_
       exact ⟨b0, true, b2, b3, b4, b5, b6, b7, b8, b9, b10, b11, b12, x38, x42, x44, x45, x49, rfl, rfl, hF, hA⟩
      ·obtain rfl : b2 = false := ready_self hr
       refine st_val rfl (by kernel_rfl) (some 40) rfl (.int .i64 i) V (by kernel_rfl) ?_
       exact ⟨b0, b1, true, b3, b4, b5, b6, b7, b8, b9, b10, b11, b12, x38, x42, x44, x45, x49, rfl, rfl, hF, hA⟩
      ·obtain rfl : b3 = false := ready_self hr
       obtain rfl : b1 = true := ready_dep hr 1 (by kernel_rfl)
       obtain rfl : b2 = true := ready_dep hr 2 (by kernel_rfl)
       refine st_slice_to rfl (by kernel_rfl) (some 41) rfl 25 (.tmp 39) (.tmp 40) rfl (.slice (some ⟨b, off, none⟩) n c) (.int .i64 (i : Int)) (.slice (some ⟨b, off, none⟩) i c) (by kernel_rfl) (by kernel_rfl) (cut_ac_to (some ⟨b, off, none⟩) n c i V (by omega)) ?_
       exact ⟨b0, true, true, true, b4, b5, b6, b7, b8, b9, b10, b11, b12, x38, x42, x44, x45, x49, rfl, rfl, hF, hA⟩
      ·obtain rfl : b4 = false := ready_self hr
       obtain rfl : b0 = true := ready_dep hr 0 (by kernel_rfl)
       obtain rfl : b3 = true := ready_dep hr 3 (by kernel_rfl)
       obtain rfl : b7 = false := by cases b7; rfl; exact absurd (hF.c2 rfl) (by decide)
       obtain rfl : b11 = false := by cases b11; rfl; exact absurd (hF.c3 rfl) (by decide)
       have hO := hF.r0 rfl rfl
       obtain ⟨v, V2, hap, hO2, hb2, hg2, hat2⟩ := hO.app hF.bel.size (some ⟨b, off, none⟩) i c (M.take i) (by rw [← acc_take]; exact (HA3.out.below hF.bel).take _) HTL.out (by simp) (by omega)
       refine st_append rfl (by kernel_rfl) (some 42) rfl 25 rfl (.tmp 38) (.tmp 41) 25 rfl x38 (.slice (some ⟨b, off, none⟩) i c) v V2 (by kernel_rfl) (by kernel_rfl) hap ?_
       exact ⟨true, b1, b2, true, true, b5, b6, false, b8, b9, b10, false, b12, x38, v, x44, x45, x49, rfl, rfl, hF.one (by rw [List.nil_append] at hO2; exact hO2) hb2 hg2 hat2, hA⟩
      ·obtain rfl : b5 = false := ready_self hr
       refine st_load rfl (by kernel_rfl) (some 43) rfl 24 (.tmp 3) rfl ⟨g0, 0, none⟩ (.agg (acA x)) (by kernel_rfl) (load_acb (HX3.out.below HX3.out.lt hF.bel)) ?_
       exact ⟨b0, b1, b2, b3, b4, true, b6, b7, b8, b9, b10, b11, b12, x38, x42, x44, x45, x49, rfl, rfl, hF, hA⟩
      ·obtain rfl : b6 = false := ready_self hr
       obtain rfl : b5 = true := ready_dep hr 5 (by kernel_rfl)
       refine st_build rfl (by kernel_rfl) (some 44) rfl 25 1 #[(0, .tmp 43)] rfl #[(0, .agg (acA x))] (by kernel_rfl) (.slice (some ⟨V.heap.size, 0, none⟩) 1 1) _ (build_ac x V) ?_
       exact ⟨b0, b1, b2, b3, b4, true, true, b7, b8, b9, b10, b11, b12, x38, x42, _, x45, x49, rfl, rfl, hF.key, hA⟩
      ·obtain rfl : b7 = false := ready_self hr
       obtain rfl : b4 = true := ready_dep hr 4 (by kernel_rfl)
       obtain rfl : b6 = true := ready_dep hr 6 (by kernel_rfl)
       obtain rfl : b11 = false := by cases b11; rfl; exact absurd (hF.c3 rfl) (by decide)
       have hO := hF.r1 rfl rfl
       obtain ⟨gq, rfl, hgx, -⟩ := hF.kx rfl
       have hgc : Cs V (some ⟨gq, 0, none⟩) (acc [x]) := Cs.block (cs := acl x) hgx
       obtain ⟨v, V2, hap, hO2, hb2, hg2, hat2⟩ := hO.app hF.bel.size (some ⟨gq, 0, none⟩) 1 1 [x] hgc rfl (by rw [HTL.out]; omega) (by omega)
       refine st_append rfl (by kernel_rfl) (some 45) rfl 25 rfl (.tmp 42) (.tmp 44) 25 rfl x42 (.slice (some ⟨gq, 0, none⟩) 1 1) v V2 (by kernel_rfl) (by kernel_rfl) hap ?_
       exact ⟨b0, b1, b2, b3, true, b5, true, true, b8, b9, b10, false, b12, x38, x42, _, v, x49, rfl, rfl, hF.two hO2 hb2 hg2 hat2, hA⟩
      ·obtain rfl : b8 = false := ready_self hr
       refine st_val rfl (by kernel_rfl) (some 46) rfl (.slice (some ⟨b, off, none⟩) n c) V (by kernel_rfl) ?_
       exact ⟨b0, b1, b2, b3, b4, b5, b6, b7, true, b9, b10, b11, b12, x38, x42, x44, x45, x49, rfl, rfl, hF, hA⟩
      ·obtain rfl : b9 = false := ready_self hr
       refine st_val rfl (by kernel_rfl) (some 47) rfl (.int .i64 i) V (by kernel_rfl) ?_
       exact ⟨b0, b1, b2, b3, b4, b5, b6, b7, b8, true, b10, b11, b12, x38, x42, x44, x45, x49, rfl, rfl, hF, hA⟩
      ·obtain rfl : b10 = false := ready_self hr
       obtain rfl : b8 = true := ready_dep hr 8 (by kernel_rfl)
       obtain rfl : b9 = true := ready_dep hr 9 (by kernel_rfl)
       refine st_slice_from rfl (by kernel_rfl) (some 48) rfl 25 (.tmp 46) (.tmp 47) rfl (.slice (some ⟨b, off, none⟩) n c) (.int .i64 ((i : Nat) : Int)) (.slice (fromS 3 (some ⟨b, off, none⟩) c i) (n - i) (c - i)) (by kernel_rfl) (by kernel_rfl) (cut_ac_from (some ⟨b, off, none⟩) n c (i) V (by omega)) ?_
       exact ⟨b0, b1, b2, b3, b4, b5, b6, b7, true, true, true, b11, b12, x38, x42, x44, x45, x49, rfl, rfl, hF, hA⟩
      ·obtain rfl : b11 = false := ready_self hr
       obtain rfl : b7 = true := ready_dep hr 7 (by kernel_rfl)
       obtain rfl : b10 = true := ready_dep hr 10 (by kernel_rfl)
       obtain rfl : b12 = false := by cases b12; rfl; exact absurd (hA rfl) (by decide)
       have hO := hF.r2 rfl rfl
       obtain ⟨v, V2, hap, hO2, hb2, hg2, hat2⟩ := hO.app hF.bel.size (fromS 3 (some ⟨b, off, none⟩) c i) (n - i) (c - i) (M.drop i) (by rw [← acc_drop]; exact (HA3.out.below hF.bel).from 3 c i (by rw [acc_len, HN.out]; omega)) HDL.out (by rw [List.length_append, HTL.out]; simp; omega) (by omega)
       refine st_append rfl (by kernel_rfl) (some 49) rfl 25 rfl (.tmp 45) (.tmp 48) 25 rfl x45 (.slice (fromS 3 (some ⟨b, off, none⟩) c i) (n - i) (c - i)) v V2 (by kernel_rfl) (by kernel_rfl) hap ?_
       exact ⟨b0, b1, b2, b3, b4, b5, b6, true, b8, b9, true, true, false, x38, x42, x44, x45, v, rfl, rfl, hF.three hO2 hb2 hg2 hat2, fun h => (by cases h)⟩
      ·obtain rfl : b12 = false := ready_self hr
       obtain rfl : b11 = true := ready_dep hr 11 (by kernel_rfl)
       refine st_val rfl (by kernel_rfl) (some 4) rfl (x49) V (by kernel_rfl) ?_
       exact ⟨b0, b1, b2, b3, b4, b5, b6, b7, b8, b9, b10, true, true, x38, x42, x44, x45, x49, rfl, rfl, hF, fun _ => rfl⟩
     ·intro act9 V hJ
      obtain ⟨b0, b1, b2, b3, b4, b5, b6, b7, b8, b9, b10, b11, b12, x38, x42, x44, x45, x49, he, rfl, hF, hA⟩ := hJ
      have he : (#[true, true, true, true, true, true, true, true, true, true, true, true, true] : Array Bool) = #[b0, b1, b2, b3, b4, b5, b6, b7, b8, b9, b10, b11, b12] := he
      simp only [Array.mk.injEq, List.cons.injEq, and_true] at he
      obtain ⟨rfl, rfl, rfl, rfl, rfl, rfl, rfl, rfl, rfl, rfl, rfl, rfl, rfl⟩ := he
      simp only [cond_true]
      have hO := hF.r3 rfl
      have HE : Hid (RowA V w.heap.size x49 P ∧ Below w.heap.size w V) := Lib.hid ⟨by rw [HDE.out]; exact own_base hO HBW.out.size, HBW.out.trans (hF.bel.mono HBW.out.size)⟩
      clear hF h0 hO HX3 HA3
      go_wp2_with fail
      go_ret
      exact ⟨_, rfl, HE.out⟩
    ·skip
     go_upto_region 7 with fail
     refine wp_region_class (C := fun U => U = wr.drew) (by kernel_rfl) (by kernel_rfl) (rfl) ?_
     refine gy (.int .i64 i) <| gy (.slice (some ⟨b, off, none⟩) n c) <| gy (.int .i64 n) <| gyv (.bool true) (fun U hU => lss_n rfl (i) (n) dT (by kernel_rfl) (by kernel_rfl) _) <| gy (.bool true) <| gy (.slice (some ⟨b, off, none⟩) n c) <| gy (.int .i64 i) <|
       gyv (.pointer (some ⟨b, off + i * 3, none⟩)) (fun U hU => idx_ac b off n c i hlt _ _ _ rfl (by kernel_rfl) (by kernel_rfl)) <| gy (.pointer (some ⟨b, off + i * 3, none⟩)) <| gyl rfl ⟨b, off + i * 3, none⟩ (.string y.1) (fun U hU => by rw [hU]; exact HLX.out.load) <|
       gy (.pointer (some ⟨g0, 0, none⟩)) <| gyl rfl ⟨g0, 0, none⟩ (.string x.1) (fun U hU => by rw [hU]; exact HXD.out.load (i := 0) rfl (by kernel_rfl)) <| gyv (.bool true) (fun U hU => lss_s rfl y.1 x.1 hl9 (by kernel_rfl) (by kernel_rfl) _) <| gy (.bool true) ?_
     simp only [pu]
     apply wpQuiet_nil
     intro U hU
     subst hU
     have HO9 : Hid (∀ t, t < i + 1 → ltS (aca M t).1 x.1 = true) := Lib.hid fun t ht => (by rcases Nat.lt_or_ge t i with h7 | h7; exact HO.out t h7; have e7 : t = i := (by omega); rw [e7, hy]; exact hl9)
     clear HLX HXD HB HO hl9 hy
     go_upto_region 8 with fail
     refine wl <| gz1 (.int .i64 i) <| gzw (.int .i64 (i + 1 : Nat)) (add_nat rfl i 1 (by omega)) <| gz1 (.int .i64 (i + 1 : Nat)) <| wn ?_
     simp only [pu]
     go_wp2_with fail
     go_roundg (n - (i + 1))
     case measure => have := HG.out; omega
     case rel => exact ⟨i + 1, rfl, hlt, HO9, HBD, rfl⟩
   ·skip
    go_upto_region 7 with fail
    refine wp_region_class (C := fun U => U = wr.drew) (by kernel_rfl) (by kernel_rfl) (rfl) ?_
    refine gy (.int .i64 i) <| gy (.slice al n c) <| gy (.int .i64 n) <| gyv (.bool false) (fun U hU => lss_n rfl (i) (n) dF (by kernel_rfl) (by kernel_rfl) _) <| gy (.bool false) <| gyn <| gyn <| gyn <| gyn <| gyn <| gyn <| gyn <| gyn <| gy (.bool false) ?_
    simp only [pu]
    apply wpQuiet_nil
    intro U hU
    subst hU
    have HDE := Lib.hid (HPP.out i hi HO.out (fun h => absurd h hlt))
    have HB7 := HBD
    clear HXD HO HPP HBD
    generalize wr.drew = V7 at *
    have HX3 := Lib.hid (HX1.out.below HX1.out.lt HB7.out)
    have HA3 := Lib.hid (HA1.out.below HB7.out)
    have HBW := Lib.hid (HB1.out.trans (HB7.out.mono HB1.out.size))
    have HTL : Hid ((M.take i).length = i) := Lib.hid (by rw [List.length_take, HN.out]; omega)
    have HDL : Hid ((M.drop i).length = n - i) := Lib.hid (by rw [List.length_drop, HN.out])
    have h0 := CH.start V7 x (M.take i) (M.take i ++ [x]) (M.take i ++ [x] ++ M.drop i) undef undef undef undef undef
    clear HX1 HA1 HB1 HB HB7
    go_upto_region 9 with fail
    refine wp_region_inv (fun listed act9 V => ∃ b0 b1 b2 b3 b4 b5 b6 b7 b8 b9 b10 b11 b12 : Bool, ∃ x38 x42 x44 x45 x49 : Value, listed = #[b0, b1, b2, b3, b4, b5, b6, b7, b8, b9, b10, b11, b12] ∧ act9 = { tmps := #[.slice al n c, .agg (acA x), undef, .pointer (some ⟨g0, 0, none⟩), (cond b12 (x49) (.slice none 0 0)), .int .i64 (-1), undef, .int .i64 i, .slice al n c, .pointer (some ⟨g0, 0, none⟩), .string x.1, .int .i64 (-1), .int .i64 (-1), .bool false, undef, undef, undef, undef, undef, undef, undef, undef, .int .i64 i, .slice al n c, .int .i64 n, .bool false, .bool false, undef, undef, undef, undef, undef, undef, undef, undef, .bool false, u36, u37, x38, (cond b1 (.slice al n c) undef), (cond b2 (.int .i64 i) undef), (cond b3 (.slice al i c) undef), x42, (cond b5 (.agg (acA x)) undef), x44, x45, (cond b8 (.slice al n c) undef), (cond b9 (.int .i64 i) undef), (cond b10 (.slice (fromS 3 al c i) (n - i) (c - i)) undef), x49], defers := [] } ∧ CH V7 x (M.take i) (M.take i ++ [x]) (M.take i ++ [x] ++ M.drop i) b0 b4 b7 b11 b6 x38 x42 x45 x49 x44 V ∧ (b12 = true → b11 = true)) (by kernel_rfl) (by kernel_rfl) ?_ ?_ ?_
    ·exact ⟨false, false, false, false, false, false, false, false, false, false, false, false, false, undef, undef, undef, undef, undef, rfl, rfl, h0, fun h => (by cases h)⟩
    ·intro i9 listed act9 V hi9 hr hJ
     obtain ⟨b0, b1, b2, b3, b4, b5, b6, b7, b8, b9, b10, b11, b12, x38, x42, x44, x45, x49, rfl, rfl, hF, hA⟩ := hJ
     have hi2 : i9 < 13 := hi9
     have hi3 : i9 = 0 ∨ i9 = 1 ∨ i9 = 2 ∨ i9 = 3 ∨ i9 = 4 ∨ i9 = 5 ∨ i9 = 6 ∨ i9 = 7 ∨ i9 = 8 ∨ i9 = 9 ∨ i9 = 10 ∨ i9 = 11 ∨ i9 = 12 := by omega
     rcases hi3 with rfl | rfl | rfl | rfl | rfl | rfl | rfl | rfl | rfl | rfl | rfl | rfl | rfl
     ·obtain rfl : b0 = false := ready_self hr
      obtain rfl : b4 = false := by cases b4; rfl; exact absurd (hF.c1 rfl) (by decide)
      obtain rfl : b7 = false := by cases b7; rfl; exact absurd (hF.c2 rfl) (by decide)
      obtain rfl : b11 = false := by cases b11; rfl; exact absurd (hF.c3 rfl) (by decide)
      refine st_build rfl (by kernel_rfl) (some 38) rfl 25 0 #[] rfl #[] (by kernel_rfl) (.slice (some ⟨V.heap.size, 0, none⟩) 0 0) _ (nil_ac V) ?_
      exact ⟨true, b1, b2, b3, false, b5, b6, false, b8, b9, b10, false, b12, _, x42, x44, x45, x49, rfl, rfl, hF.nil, hA⟩
     ·obtain rfl : b1 = false := ready_self hr
      refine st_val rfl (by kernel_rfl) (some 39) rfl (.slice al n c) V (by kernel_rfl) ?_
      exact ⟨b0, true, b2, b3, b4, b5, b6, b7, b8, b9, b10, b11, b12, x38, x42, x44, x45, x49, rfl, rfl, hF, hA⟩
     ·obtain rfl : b2 = false := ready_self hr
      refine st_val rfl (by kernel_rfl) (some 40) rfl (.int .i64 i) V (by kernel_rfl) ?_
      exact ⟨b0, b1, true, b3, b4, b5, b6, b7, b8, b9, b10, b11, b12, x38, x42, x44, x45, x49, rfl, rfl, hF, hA⟩
     ·obtain rfl : b3 = false := ready_self hr
      obtain rfl : b1 = true := ready_dep hr 1 (by kernel_rfl)
      obtain rfl : b2 = true := ready_dep hr 2 (by kernel_rfl)
      refine st_slice_to rfl (by kernel_rfl) (some 41) rfl 25 (.tmp 39) (.tmp 40) rfl (.slice al n c) (.int .i64 (i : Int)) (.slice al i c) (by kernel_rfl) (by kernel_rfl) (cut_ac_to al n c i V (by omega)) ?_
      exact ⟨b0, true, true, true, b4, b5, b6, b7, b8, b9, b10, b11, b12, x38, x42, x44, x45, x49, rfl, rfl, hF, hA⟩
     ·obtain rfl : b4 = false := ready_self hr
      obtain rfl : b0 = true := ready_dep hr 0 (by kernel_rfl)
      obtain rfl : b3 = true := ready_dep hr 3 (by kernel_rfl)
      obtain rfl : b7 = false := by cases b7; rfl; exact absurd (hF.c2 rfl) (by decide)
      obtain rfl : b11 = false := by cases b11; rfl; exact absurd (hF.c3 rfl) (by decide)
      have hO := hF.r0 rfl rfl
      obtain ⟨v, V2, hap, hO2, hb2, hg2, hat2⟩ := hO.app hF.bel.size al i c (M.take i) (by rw [← acc_take]; exact (HA3.out.below hF.bel).take _) HTL.out (by simp) (by omega)
      refine st_append rfl (by kernel_rfl) (some 42) rfl 25 rfl (.tmp 38) (.tmp 41) 25 rfl x38 (.slice al i c) v V2 (by kernel_rfl) (by kernel_rfl) hap ?_
      exact ⟨true, b1, b2, true, true, b5, b6, false, b8, b9, b10, false, b12, x38, v, x44, x45, x49, rfl, rfl, hF.one (by rw [List.nil_append] at hO2; exact hO2) hb2 hg2 hat2, hA⟩
     ·obtain rfl : b5 = false := ready_self hr
      refine st_load rfl (by kernel_rfl) (some 43) rfl 24 (.tmp 3) rfl ⟨g0, 0, none⟩ (.agg (acA x)) (by kernel_rfl) (load_acb (HX3.out.below HX3.out.lt hF.bel)) ?_
      exact ⟨b0, b1, b2, b3, b4, true, b6, b7, b8, b9, b10, b11, b12, x38, x42, x44, x45, x49, rfl, rfl, hF, hA⟩
     ·obtain rfl : b6 = false := ready_self hr
      obtain rfl : b5 = true := ready_dep hr 5 (by kernel_rfl)
      refine st_build rfl (by kernel_rfl) (some 44) rfl 25 1 #[(0, .tmp 43)] rfl #[(0, .agg (acA x))] (by kernel_rfl) (.slice (some ⟨V.heap.size, 0, none⟩) 1 1) _ (build_ac x V) ?_
      exact ⟨b0, b1, b2, b3, b4, true, true, b7, b8, b9, b10, b11, b12, x38, x42, _, x45, x49, rfl, rfl, hF.key, hA⟩
     ·obtain rfl : b7 = false := ready_self hr
      obtain rfl : b4 = true := ready_dep hr 4 (by kernel_rfl)
      obtain rfl : b6 = true := ready_dep hr 6 (by kernel_rfl)
      obtain rfl : b11 = false := by cases b11; rfl; exact absurd (hF.c3 rfl) (by decide)
      have hO := hF.r1 rfl rfl
      obtain ⟨gq, rfl, hgx, -⟩ := hF.kx rfl
      have hgc : Cs V (some ⟨gq, 0, none⟩) (acc [x]) := Cs.block (cs := acl x) hgx
      obtain ⟨v, V2, hap, hO2, hb2, hg2, hat2⟩ := hO.app hF.bel.size (some ⟨gq, 0, none⟩) 1 1 [x] hgc rfl (by rw [HTL.out]; omega) (by omega)
      refine st_append rfl (by kernel_rfl) (some 45) rfl 25 rfl (.tmp 42) (.tmp 44) 25 rfl x42 (.slice (some ⟨gq, 0, none⟩) 1 1) v V2 (by kernel_rfl) (by kernel_rfl) hap ?_
      exact ⟨b0, b1, b2, b3, true, b5, true, true, b8, b9, b10, false, b12, x38, x42, _, v, x49, rfl, rfl, hF.two hO2 hb2 hg2 hat2, hA⟩
     ·obtain rfl : b8 = false := ready_self hr
      refine st_val rfl (by kernel_rfl) (some 46) rfl (.slice al n c) V (by kernel_rfl) ?_
      exact ⟨b0, b1, b2, b3, b4, b5, b6, b7, true, b9, b10, b11, b12, x38, x42, x44, x45, x49, rfl, rfl, hF, hA⟩
     ·obtain rfl : b9 = false := ready_self hr
      refine st_val rfl (by kernel_rfl) (some 47) rfl (.int .i64 i) V (by kernel_rfl) ?_
      exact ⟨b0, b1, b2, b3, b4, b5, b6, b7, b8, true, b10, b11, b12, x38, x42, x44, x45, x49, rfl, rfl, hF, hA⟩
     ·obtain rfl : b10 = false := ready_self hr
      obtain rfl : b8 = true := ready_dep hr 8 (by kernel_rfl)
      obtain rfl : b9 = true := ready_dep hr 9 (by kernel_rfl)
      refine st_slice_from rfl (by kernel_rfl) (some 48) rfl 25 (.tmp 46) (.tmp 47) rfl (.slice al n c) (.int .i64 ((i : Nat) : Int)) (.slice (fromS 3 al c i) (n - i) (c - i)) (by kernel_rfl) (by kernel_rfl) (cut_ac_from al n c (i) V (by omega)) ?_
      exact ⟨b0, b1, b2, b3, b4, b5, b6, b7, true, true, true, b11, b12, x38, x42, x44, x45, x49, rfl, rfl, hF, hA⟩
     ·obtain rfl : b11 = false := ready_self hr
      obtain rfl : b7 = true := ready_dep hr 7 (by kernel_rfl)
      obtain rfl : b10 = true := ready_dep hr 10 (by kernel_rfl)
      obtain rfl : b12 = false := by cases b12; rfl; exact absurd (hA rfl) (by decide)
      have hO := hF.r2 rfl rfl
      obtain ⟨v, V2, hap, hO2, hb2, hg2, hat2⟩ := hO.app hF.bel.size (fromS 3 al c i) (n - i) (c - i) (M.drop i) (by rw [← acc_drop]; exact (HA3.out.below hF.bel).from 3 c i (by rw [acc_len, HN.out]; omega)) HDL.out (by rw [List.length_append, HTL.out]; simp; omega) (by omega)
      refine st_append rfl (by kernel_rfl) (some 49) rfl 25 rfl (.tmp 45) (.tmp 48) 25 rfl x45 (.slice (fromS 3 al c i) (n - i) (c - i)) v V2 (by kernel_rfl) (by kernel_rfl) hap ?_
      exact ⟨b0, b1, b2, b3, b4, b5, b6, true, b8, b9, true, true, false, x38, x42, x44, x45, v, rfl, rfl, hF.three hO2 hb2 hg2 hat2, fun h => (by cases h)⟩
     ·obtain rfl : b12 = false := ready_self hr
      obtain rfl : b11 = true := ready_dep hr 11 (by kernel_rfl)
      refine st_val rfl (by kernel_rfl) (some 4) rfl (x49) V (by kernel_rfl) ?_
      exact ⟨b0, b1, b2, b3, b4, b5, b6, b7, b8, b9, b10, true, true, x38, x42, x44, x45, x49, rfl, rfl, hF, fun _ => rfl⟩
    ·intro act9 V hJ
     obtain ⟨b0, b1, b2, b3, b4, b5, b6, b7, b8, b9, b10, b11, b12, x38, x42, x44, x45, x49, he, rfl, hF, hA⟩ := hJ
     have he : (#[true, true, true, true, true, true, true, true, true, true, true, true, true] : Array Bool) = #[b0, b1, b2, b3, b4, b5, b6, b7, b8, b9, b10, b11, b12] := he
     simp only [Array.mk.injEq, List.cons.injEq, and_true] at he
     obtain ⟨rfl, rfl, rfl, rfl, rfl, rfl, rfl, rfl, rfl, rfl, rfl, rfl, rfl⟩ := he
     simp only [cond_true]
     have hO := hF.r3 rfl
     have HE : Hid (RowA V w.heap.size x49 P ∧ Below w.heap.size w V) := Lib.hid ⟨by rw [HDE.out]; exact own_base hO HBW.out.size, HBW.out.trans (hF.bel.mono HBW.out.size)⟩
     clear hF h0 hO HX3 HA3
     go_wp2_with fail
     go_ret
     exact ⟨_, rfl, HE.out⟩
end Go.Proofs.Ytglglhcnofbagaa.Lg
namespace Go.Proofs.Ytglglhcnofbagaa.Lg
attribute [local irreducible] wpList wpQuiet
set_option maxRecDepth 100000
open Go.RowKit
set_option linter.unusedSimpArgs false
set_option linter.unusedVariables false

def LedO (w : World) (r : List Ac × Int × Int) (e : Ending) (w' : World) : Prop := ∃ ad k, e = .returned (.tuple #[.agg (lgA ad r.1.length k r.2.1), .int .i64 r.2.2]) ∧ RowA w' w.heap.size (.slice ad r.1.length k) r.1 ∧ Below w.heap.size w w'
theorem LedO.err {w V : World} {e : Int} (hb : Below w.heap.size w V) : LedO w ([], 0, e) (.returned (.tuple #[.agg (lgA none 0 0 0), .int .i64 e])) V := ⟨none, 0, rfl, row_nil _ _, hb⟩
theorem get_at {A : List Ac} {s : ByteArray} {i : Nat} (h : i < A.length) (hb : ∀ j, j < i → (aca A j).1 ≠ s) (hi : (aca A i).1 = s) : getX A s = (aca A i, true) := by
 have e := fnd_is h hb hi
 unfold getX
 rw [e, if_pos h]
theorem get_no {A : List Ac} {s : ByteArray} (hb : ∀ j, j < A.length → (aca A j).1 ≠ s) : getX A s = (zAc, false) := by
 have e := fnd_no hb
 unfold getX
 rw [e, if_neg (by omega)]
theorem two_boxes (w : World) (x y : Array Value) (t u : Nat) : Below w.heap.size w ((w.alloc (.cells x t)).alloc (.cells y u)) ∧ Bx ((w.alloc (.cells x t)).alloc (.cells y u)) w.heap.size x t ∧ Bx ((w.alloc (.cells x t)).alloc (.cells y u)) (w.heap.size + 1) y u := by
 have hb0 : Below w.heap.size w (w.alloc (.cells x t)) := (Below.refl _ w).alloc (Nat.le_refl _) _
 have hX0 : Bx (w.alloc (.cells x t)) w.heap.size x t := heap_alloc_last w _
 have hb1 : Below (w.alloc (.cells x t)).heap.size (w.alloc (.cells x t)) ((w.alloc (.cells x t)).alloc (.cells y u)) := (Below.refl _ _).alloc (Nat.le_refl _) _
 have hZ0 : Bx ((w.alloc (.cells x t)).alloc (.cells y u)) (w.alloc (.cells x t)).heap.size y u := heap_alloc_last _ _
 rw [show (w.alloc (.cells x t)).heap.size = w.heap.size + 1 by simp] at hZ0
 exact ⟨hb0.trans (hb1.mono hb0.size), hX0.below hX0.lt hb1, hZ0⟩
set_option maxRecDepth 100000 in
set_option maxHeartbeats 8000000 in
theorem q_get (a : Option Addr) (k : Nat) (A : List Ac) (c : Int) (s : ByteArray) (w : World) (hR : Cs w a (acc A)) (hn : A.length ≤ 4398046511104) :
  Calls Try.prog 54 #[.agg (lgA a A.length k c), .string s] w fun e w' => e = .returned (.tuple #[.agg (acA (getX A s).1), .bool (getX A s).2]) ∧ Below w.heap.size w w' := by
 obtain ⟨hb0, hX0, hZ0⟩ := two_boxes w (lgA a A.length k c) (acA zAc) 27 24
 have HA := Lib.hid (hR.below hb0)
 obtain ⟨r, hr⟩ : ∃ r, getX A s = r := ⟨_, rfl⟩
 have HG1 : Hid (∀ i, i < A.length → (∀ j, j < i → (aca A j).1 ≠ s) → (aca A i).1 = s → r = (aca A i, true)) := Lib.hid fun i h1 h2 h3 => by rw [← hr]; exact get_at h1 h2 h3
 have HG2 : Hid ((∀ j, j < A.length → (aca A j).1 ≠ s) → r = (zAc, false)) := Lib.hid fun h => by rw [← hr]; exact get_no h
 obtain ⟨n, hnn⟩ : ∃ n, A.length = n := ⟨_, rfl⟩
 have HN := Lib.hid hnn
 have HNL : Hid (n ≤ 4398046511104) := Lib.hid (by omega)
 rw [hnn] at hb0 hX0 hZ0 HA HG1 HG2
 rw [hnn, hr]
 obtain ⟨r1, r2⟩ := r
 simp only [Prod.mk.injEq] at HG1 HG2
 clear hR hn hr
 go_enter Try.func54, Try.ntmps54
 go_upto_region 1 with fail
 change Code.wp _ _ _ _ ((w.alloc (.cells (lgA a n k c) 27)).alloc (.cells (acA zAc) 24))
 generalize (w.alloc (.cells (lgA a n k c) 27)).alloc (.cells (acA zAc) 24) = W at *
 obtain ⟨g0, hg0⟩ : ∃ g0, w.heap.size = g0 := ⟨_, rfl⟩
 obtain ⟨g1, hg1⟩ : ∃ g1, w.heap.size + 1 = g1 := ⟨_, rfl⟩
 have HG0 : Hid (w.heap.size ≤ g1 ∧ g1 < W.heap.size) := Lib.hid ⟨by omega, by have := hZ0.lt; omega⟩
 have HB0 := Lib.hid hb0
 rw [hg1] at hZ0
 rw [hg0] at hX0
 simp only [hg0]
 rw [show g0 + 1 = g1 by omega]
 have HX := Lib.hid hX0
 have HZ := Lib.hid hZ0
 clear hb0 hg0 hg1 hX0 hZ0 hnn
 refine wl <| gz1 (.pointer (some ⟨g0, 0, none⟩)) <| gzl rfl ⟨g0, 0, none⟩ (.slice a n k) (HX.out.load (i := 0) rfl (by kernel_rfl)) <| gz2 (.int .i64 n) (.int .i64 0) <| wn ?_
 simp only [pu]
 go_wp2_with fail
 go_loopg [11] n (fun gg s11 wx => ∃ j : Nat, s11 = .int .i64 j ∧ j ≤ n ∧ Hid (∀ t, t < j → (aca A t).1 ≠ s) ∧ Hid (Below W.heap.size W wx) ∧ n - j = gg)
 case atStart => exact ⟨0, rfl, by omega, Lib.hid (fun t h => by omega), Lib.hid (Below.refl _ _), by omega⟩
 case round =>
  obtain ⟨j, rfl, hj, HO, HB, hg⟩ := hrel
  have hn9 := HNL.out
  by_cases hlt : j < n
  ·skip
   obtain ⟨b, off, rfl, -, hrx⟩ := ac_range (HA.out.below HB.out) (k := j) (by rw [HN.out]; exact hlt)
   have HLD0 := Lib.hid (load_ac hrx)
   have hf1 := HG1.out j hlt HO.out
   generalize hy : aca A j = y at *
   have HY := Lib.hid hy
   have HG := Lib.hid hg
   obtain ⟨V2, hst, hb2, hbx⟩ := new_ac wr y
   have HB2 := Lib.hid (HB.out.trans (hb2.mono HB.out.size))
   have HZ2 := Lib.hid (HZ.out.below HZ.out.lt (HB.out.trans (hb2.mono HB.out.size)))
   clear hrx hy hg hb2
   go_upto_region 2 with fail
   refine wl <| gzb (lss_n rfl (j) (n) dT) <| wn ?_
   simp only [pu]
   go_upto_region 3 with fail
   refine wl <| gzv (.pointer (some ⟨b, off + j * 3, none⟩)) (idx_ac b off n k j hlt _ _ _ rfl (by kernel_rfl) (by kernel_rfl)) <| gzl rfl ⟨b, off + j * 3, none⟩ (.agg (acA y)) (HLD0.out) ?_
   simp only [pu]
   refine run_to rfl (some 7) rfl (.pointer (some ⟨wr.heap.size, 0, none⟩)) (wr.alloc (.cells (acA zAc) 24)) (by kernel_rfl) ?_
   simp only [pu]
   refine gzs rfl (hst) <| wn ?_
   obtain ⟨g4, hg4⟩ : ∃ g4, wr.heap.size = g4 := ⟨_, rfl⟩
   rw [hg4] at hbx ⊢
   clear hst hg4 HLD0
   by_cases hey : y.1 = s
   ·skip
    go_upto_region 4 with fail
    refine wl <| gz1 (.pointer (some ⟨g4, 0, none⟩)) <| gzl rfl ⟨g4, 0, none⟩ (.string y.1) (hbx.load (i := 0) rfl (by kernel_rfl)) <| gz1 (.string s) <| gzw (.bool true) (eql_s rfl y.1 s (by rw [beqB]; exact decide_eq_true hey)) <| wn ?_
    simp only [pu]
    obtain ⟨rfl, rfl⟩ := hf1 hey
    have HBX := Lib.hid hbx
    have HBW := Lib.hid (HB0.out.trans (HB2.out.mono HB0.out.size))
    clear HO HB hbx hey HG1 HG2 HB2
    have hst := store_ac (y := r1) HZ2.out
    have HB9 := Lib.hid (belowRow HBW.out HG0.out.1 (acA r1))
    have HLD := Lib.hid (load_acb hst.2)
    have hst1 := hst.1
    generalize World.setRow V2 g1 (acA r1) = V9 at *
    clear hst
    go_upto_region 5 with fail
    refine wl <| gzl rfl ⟨g4, 0, none⟩ (.agg (acA r1)) (load_acb HBX.out) <| gzs rfl (hst1) <| gz1 (.bool true) <| wn ?_
    simp only [pu]
    clear hst1 HBX HZ2 HZ
    go_wp2_with fail
    exact bodyPost_ret (results_c (p := 4) (q := 5) rfl (by kernel_rfl) HLD.out rfl) rfl ⟨rfl, HB9.out⟩
   ·skip
    go_upto_region 4 with fail
    refine wl <| gz1 (.pointer (some ⟨g4, 0, none⟩)) <| gzl rfl ⟨g4, 0, none⟩ (.string y.1) (hbx.load (i := 0) rfl (by kernel_rfl)) <| gz1 (.string s) <| gzw (.bool false) (eql_s rfl y.1 s (by rw [beqB]; exact decide_eq_false hey)) <| wn ?_
    simp only [pu]
    clear hbx
    have HO9 : Hid (∀ t, t < j + 1 → (aca A t).1 ≠ s) := Lib.hid fun t ht => (by rcases Nat.lt_or_ge t j with h7 | h7; exact HO.out t h7; have e7 : t = j := (by omega); rw [e7, HY.out]; exact hey)
    clear hf1 HO HB hey HZ2
    go_upto_region 6 with fail
    refine wl <| gzw (.int .i64 (j + 1 : Nat)) (add_nat rfl j 1 (by omega)) <| gz1 (.int .i64 (j + 1 : Nat)) <| wn ?_
    simp only [pu]
    go_wp2_with fail
    go_roundg (n - (j + 1))
    case measure => have := HG.out; omega
    case rel => exact ⟨j + 1, rfl, hlt, HO9, HB2, rfl⟩
  ·skip
   obtain rfl : n = j := by omega
   obtain ⟨rfl, rfl⟩ := HG2.out HO.out
   have HZ2 := Lib.hid (HZ.out.below HZ.out.lt HB.out)
   have HBW := Lib.hid (HB0.out.trans (HB.out.mono HB0.out.size))
   clear HO HG1 HG2 hg HB HZ
   go_upto_region 2 with fail
   refine wl <| gzb (lss_n rfl (n) (n) dF) <| wn ?_
   simp only [pu]
   have hst := store_ac (y := zAc) HZ2.out
   have HB9 := Lib.hid (belowRow HBW.out HG0.out.1 (acA zAc))
   have HLD := Lib.hid (load_acb hst.2)
   have hst1 := hst.1
   generalize World.setRow wr g1 (acA zAc) = V9 at *
   clear hst
   go_upto_region 7 with fail
   refine wl <| gz1 (.agg #[.string ⟨#[]⟩, .int .u64 0, .int .u64 0]) <| gzs rfl (hst1) <| gz1 (.bool false) <| wn ?_
   simp only [pu]
   clear hst1 HZ2
   go_wp2_with fail
   exact bodyPost_ret (results_c (p := 4) (q := 5) rfl (by kernel_rfl) HLD.out rfl) rfl ⟨rfl, HB9.out⟩
set_option maxRecDepth 100000 in
set_option maxHeartbeats 8000000 in
theorem ref_get (a : Option Addr) (k : Nat) (A : List Ac) (c : Int) (s : ByteArray) (w : World) (hR : Cs w a (acc A)) (hn : A.length ≤ 4398046511104) :
  Calls Try.prog 39 #[.agg (lgA a A.length k c), .string s] w fun e w' => e = .returned (.tuple #[.agg (acA (getX A s).1), .bool (getX A s).2]) ∧ Below w.heap.size w w' := by
 obtain ⟨hb0, hX0, hZ0⟩ := two_boxes w (lgA a A.length k c) (acA zAc) 27 24
 have HA := Lib.hid (hR.below hb0)
 have CF := ref_find a k A s ((w.alloc (.cells (lgA a A.length k c) 27)).alloc (.cells (acA zAc) 24)) (hR.below hb0) hn
 have HFA := Lib.hid (@fnd_at A s)
 have HFN := Lib.hid (@fnd_not A s)
 have HFI : Hid ((fndL A s < A.length → fndI A s = (fndL A s : Nat)) ∧ (¬ fndL A s < A.length → fndI A s = -1)) := Lib.hid ⟨fun h => if_pos h, fun h => if_neg h⟩
 generalize fndI A s = fi at *
 generalize fndL A s = fl at *
 obtain ⟨r, hr⟩ : ∃ r, getX A s = r := ⟨_, rfl⟩
 have HG1 : Hid (∀ i, i < A.length → (∀ j, j < i → (aca A j).1 ≠ s) → (aca A i).1 = s → r = (aca A i, true)) := Lib.hid fun i h1 h2 h3 => by rw [← hr]; exact get_at h1 h2 h3
 have HG2 : Hid ((∀ j, j < A.length → (aca A j).1 ≠ s) → r = (zAc, false)) := Lib.hid fun h => by rw [← hr]; exact get_no h
 obtain ⟨n, hnn⟩ : ∃ n, A.length = n := ⟨_, rfl⟩
 have HN := Lib.hid hnn
 have HNL : Hid (n ≤ 4398046511104) := Lib.hid (by omega)
 rw [hnn] at hb0 hX0 hZ0 HA HG1 HG2 CF HFA HFN HFI
 rw [hnn, hr]
 obtain ⟨r1, r2⟩ := r
 simp only [Prod.mk.injEq] at HG1 HG2
 clear hR hn hr
 go_enter Try.func39, Try.ntmps39
 go_upto_region 1 with fail
 change Code.wp _ _ _ _ ((w.alloc (.cells (lgA a n k c) 27)).alloc (.cells (acA zAc) 24))
 generalize (w.alloc (.cells (lgA a n k c) 27)).alloc (.cells (acA zAc) 24) = W at *
 obtain ⟨g0, hg0⟩ : ∃ g0, w.heap.size = g0 := ⟨_, rfl⟩
 obtain ⟨g1, hg1⟩ : ∃ g1, w.heap.size + 1 = g1 := ⟨_, rfl⟩
 have HG0 : Hid (w.heap.size ≤ g1 ∧ g1 < W.heap.size) := Lib.hid ⟨by omega, by have := hZ0.lt; omega⟩
 have HB0 := Lib.hid hb0
 rw [hg1] at hZ0
 rw [hg0] at hX0
 simp only [hg0]
 rw [show g0 + 1 = g1 by omega]
 have HX := Lib.hid hX0
 have HZ := Lib.hid hZ0
 clear hb0 hg0 hg1 hX0 hZ0 hnn
 refine wl <| gz1 (.pointer (some ⟨g0, 0, none⟩)) <| gzl rfl ⟨g0, 0, none⟩ (.slice a n k) (HX.out.load (i := 0) rfl (by kernel_rfl)) <| gz1 (.string s) <| gzc (.int .i64 fi) (fun w' => Below W.heap.size W w') (CF) (fun V2 hV2 => ?_)
 have HB2 := Lib.hid (HB0.out.trans (hV2.mono HB0.out.size))
 have HX2 := Lib.hid (HX.out.below HX.out.lt hV2)
 have HZ2 := Lib.hid (HZ.out.below HZ.out.lt hV2)
 have HA2 := Lib.hid (HA.out.below hV2)
 simp only [pu]
 refine gz1 (.int .i64 fi) <| wn ?_
 simp only [pu]
 clear CF hV2 HX HZ HA HB0
 by_cases hf : fl < n
 ·skip
  obtain rfl := HFI.out.1 hf
  have hfa := HFA.out hf
  obtain ⟨hy, rfl⟩ := HG1.out fl hf hfa.2 hfa.1
  obtain ⟨b, off, rfl, -, hrx⟩ := ac_range HA2.out (k := fl) (by rw [HN.out]; exact hf)
  rw [← hy] at hrx
  have HLD0 := Lib.hid (load_ac hrx)
  clear hy
  clear hrx hfa HG1 HG2 HFA HFN HFI HA2
  go_upto_region 2 with fail
  refine wl <| gz1 (.int .i64 (fl : Nat)) <| gzb (geq_n rfl (fl : Nat) 0 dT) <| wn ?_
  simp only [pu]
  have hst := store_ac (y := r1) HZ2.out
  have HB9 := Lib.hid (belowRow HB2.out HG0.out.1 (acA r1))
  have HLD := Lib.hid (load_acb hst.2)
  have hst1 := hst.1
  generalize World.setRow V2 g1 (acA r1) = V9 at *
  clear hst
  go_upto_region 3 with fail
  refine wl <| gz1 (.pointer (some ⟨g0, 0, none⟩)) <| gzl rfl ⟨g0, 0, none⟩ (.slice (some ⟨b, off, none⟩) n k) (HX2.out.load (i := 0) rfl (by kernel_rfl)) <| gz1 (.int .i64 (fl : Nat)) <|
   gzv (.pointer (some ⟨b, off + fl * 3, none⟩)) (idx_ac b off n k fl hf _ _ _ rfl (by kernel_rfl) (by kernel_rfl)) <| gzl rfl ⟨b, off + fl * 3, none⟩ (.agg (acA r1)) (HLD0.out) <| gzs rfl (hst1) <| gz1 (.bool true) <| wn ?_
  simp only [pu]
  clear hst1 HZ2 HX2 HLD0
  go_wp2_with fail
  exact bodyPost_ret (results_c (p := 4) (q := 5) rfl (by kernel_rfl) HLD.out rfl) rfl ⟨rfl, HB9.out⟩
 ·skip
  obtain rfl := HFI.out.2 hf
  obtain ⟨rfl, rfl⟩ := HG2.out (HFN.out hf)
  clear HG1 HG2 HFA HFN HFI HA2
  go_upto_region 2 with fail
  refine wl <| gz1 (.int .i64 (-1)) <| gzb (geq_n rfl (-1) 0 dF) <| wn ?_
  simp only [pu]
  have hst := store_ac (y := zAc) HZ2.out
  have HB9 := Lib.hid (belowRow HB2.out HG0.out.1 (acA zAc))
  have HLD := Lib.hid (load_acb hst.2)
  have hst1 := hst.1
  generalize World.setRow V2 g1 (acA zAc) = V9 at *
  clear hst
  go_upto_region 4 with fail
  refine wl <| gz1 (.agg #[.string ⟨#[]⟩, .int .u64 0, .int .u64 0]) <| gzs rfl (hst1) <| gz1 (.bool false) <| wn ?_
  simp only [pu]
  clear hst1 HZ2 HX2
  go_wp2_with fail
  exact bodyPost_ret (results_c (p := 4) (q := 5) rfl (by kernel_rfl) HLD.out rfl) rfl ⟨rfl, HB9.out⟩
end Go.Proofs.Ytglglhcnofbagaa.Lg
namespace Go.Proofs.Ytglglhcnofbagaa.Lg
set_option maxRecDepth 100000
open Go.RowKit
set_option linter.unusedSimpArgs false
set_option linter.unusedVariables false

theorem st_row {w w0 : World} {g B : Nat} {a a' : Option Addr} {n n' k k' : Nat} {c : Int} (h : Bx w g (lgA a n k c) 27) (hb : Below B w0 w) (hg : B ≤ g) :
  ∃ V, (Instr.storeAt 25 (.pointer (some ⟨g, 0, none⟩)) (.slice a' n' k')).run Try.prog w = .ok () V ∧ Bx V g (lgA a' n' k' c) 27 ∧ Below B w0 V ∧ But g w V :=
 st_cell h hb hg (by simp) rfl (by kernel_rfl) rfl
end Go.Proofs.Ytglglhcnofbagaa.Lg
