/-
 The fixed example; what a walk over an index keeps.
-/
import Derived.Test.YtjononjpoeobcaaPN
namespace Go.Proofs.Ytjononjpoeobcaa
attribute [local irreducible] wpList wpQuiet
open Go.RowKit
set_option maxRecDepth 100000
set_option linter.unusedSimpArgs false
set_option linter.unusedVariables false

structure Stt (B : Nat) (w : World) (g0 : Nat) (S : Nat → Prop) (m : List Rw) (V : World) : Prop where
 rep : RepI V g0 S m
 so : ∀ k, S k → B ≤ k
 bz : B ≤ V.heap.size
 bel : Below w.heap.size w V
 wB : w.heap.size ≤ B
section
variable {B : Nat} {w : World} {g0 : Nat} {S : Nat → Prop} {m m2 : List Rw} {V V2 : World}
theorem Stt.below (h : Stt B w g0 S m V) (hb : Below V.heap.size V V2) : Stt B w g0 S m V2 := ⟨h.rep.below hb, h.so, Nat.le_trans h.bz hb.size, h.bel.trans (hb.mono h.bel.size), h.wB⟩
theorem Stt.upd (h : Stt B w g0 S m V) (hu : UpdI g0 B S m2 V V2) : ∃ S2, Stt B w g0 S2 m2 V2 ∧ (∀ k, k < V.heap.size → ¬ S k → ¬ S2 k) ∧ ButS B S V V2 := by
 obtain ⟨S2, q1, q2, q3⟩ := hu
 exact ⟨S2, ⟨q1, fun k hk => (q2 k hk).elim (h.so k) (Nat.le_trans h.bz), Nat.le_trans h.bz q3.1.size, h.bel.trans (q3.1.mono h.wB), h.wB⟩, fun k hk hn h4 => (q2 k h4).elim hn (by omega), q3⟩
theorem IsO.cs {L : List Int} {e : Ending} {w' : World} (h : IsO w L e w') : ∃ v, e = .returned v ∧ ∃ a c, v = .slice a L.length c ∧ Cs w' a (icells L) ∧ L.length ≤ c ∧ Below w.heap.size w w' := by
 obtain ⟨v, rfl, h1, h2⟩ := h
 obtain ⟨a, c, rfl, h3, h4⟩ := h1.cs
 exact ⟨_, rfl, a, c, rfl, h3, h4, h2⟩
theorem NsO.cs {L : List ByteArray} {e : Ending} {w' : World} (h : NsO w L e w') : ∃ v, e = .returned v ∧ ∃ a c, v = .slice a L.length c ∧ Cs w' a (strs L) ∧ L.length ≤ c ∧ Below w.heap.size w w' := by
 obtain ⟨v, rfl, h1, h2⟩ := h
 obtain ⟨a, c, rfl, h3, h4⟩ := h1.cs
 exact ⟨_, rfl, a, c, rfl, h3, h4, h2⟩
end
def sA : ByteArray := ⟨#[97]⟩
def kM1 : List Rw := addR [] (sA, 7) 1
def kM2 : List Rw := addR kM1 (sA, 5) 2
def kM3 : List Rw := addR kM2 (sA, 6) 3
theorem k_1 : hasR [] (sA, 7) = false := rfl
theorem k_2 : hasR kM1 (sA, 5) = false := by decide
theorem k_3 : hasR kM2 (sA, 6) = false := by decide
theorem k_4 : hasR kM3 (sA, 5) = true := by decide
theorem k_s1 : Srt kM1 := (add_yes List.Pairwise.nil k_1 1).srt
theorem k_s2 : Srt kM2 := (add_yes k_s1 k_2 2).srt
theorem k_s3 : Srt kM3 := (add_yes k_s2 k_3 3).srt
theorem k_l1 : kM1.length = 1 := (add_yes List.Pairwise.nil k_1 1).len
theorem k_l2 : kM2.length = 2 := by have := (add_yes k_s1 k_2 2).len; rw [k_l1] at this; exact this
theorem k_l3 : kM3.length = 3 := by have := (add_yes k_s2 k_3 3).len; rw [k_l2] at this; exact this
theorem k_is : kM3 = [(sA, 5, 2), (sA, 6, 3), (sA, 7, 1)] := by decide
theorem k_li : idsE (lstE kM3 sA) = [2, 3, 1] := by rw [k_is]; decide
theorem k_r6 : runX (lstE kM3 sA) 6 = [3, 1] := by rw [k_is]; decide
theorem k_r4 : runX (lstE kM3 sA) 4 = [] := by rw [k_is]; decide
theorem k_nm : nmsA none kM3 = [sA] := by rw [k_is]; decide
theorem k_w : RwW kM3 := by rw [k_is]; intro x hx; simp only [List.mem_cons, List.not_mem_nil, or_false] at hx; rcases hx with rfl | rfl | rfl <;> exact ⟨by decide, by decide⟩
theorem k_b : ∀ x ∈ kM3, x.1.size ≤ 1000000 := by rw [k_is]; intro x hx; simp only [List.mem_cons, List.not_mem_nil, or_false] at hx; rcases hx with rfl | rfl | rfl <;> decide
theorem sA_sz : sA.size ≤ 1000000 := by decide
theorem build_i3 (V : World) : (Instr.buildSlice 22 3 #[(0, .int .i64 2), (1, .int .i64 3), (2, .int .i64 1)]).run Try.prog V = .ok (.slice (some ⟨V.heap.size, 0, none⟩) 3 3) (V.alloc (.cells (icells [2, 3, 1]).toArray 3)) := by
 obtain ⟨i0, hi, hz0, hz1, hz2⟩ := info_parts infoI
 refine run_buildSlice V 22 3 3 _ (icells [2, 3, 1]).toArray i0 _ Try.underlying22 hi hz0 (by rw [hz1]; omega) (by rw [hz1]; omega) ?_
 rw [hz1]
 kernel_rfl
theorem build_i2 (V : World) : (Instr.buildSlice 22 2 #[(0, .int .i64 3), (1, .int .i64 1)]).run Try.prog V = .ok (.slice (some ⟨V.heap.size, 0, none⟩) 2 2) (V.alloc (.cells (icells [3, 1]).toArray 3)) := by
 obtain ⟨i0, hi, hz0, hz1, hz2⟩ := info_parts infoI
 refine run_buildSlice V 22 3 2 _ (icells [3, 1]).toArray i0 _ Try.underlying22 hi hz0 (by rw [hz1]; omega) (by rw [hz1]; omega) ?_
 rw [hz1]
 kernel_rfl
set_option maxRecDepth 100000 in
set_option maxHeartbeats 8000000 in
theorem known_true (w : World) : Calls Try.prog 8 #[] w fun e w' => e = .returned (.bool true) ∧ Below w.heap.size w w' := by
 have CN := q_new w
 go_enter Try.func8, Try.ntmps8
 go_upto_region 1 with fail
 refine wl <| gze (fun v w' => ∃ g S, v = .pointer (some ⟨g, 0, none⟩) ∧ RepI w' g S [] ∧ (∀ k, S k → w.heap.size ≤ k) ∧ Below w.heap.size w w') (CN.mono fun e w' z => by obtain ⟨g, S, z1, z2⟩ := z; exact ⟨_, z1, g, S, rfl, z2⟩) (fun vv V0 hq => ?_)
 obtain ⟨g0, S0, rfl, hr0, hso, hb0⟩ := hq
 have H0 : Stt w.heap.size w g0 S0 [] V0 := ⟨hr0, hso, hb0.size, hb0, Nat.le_refl _⟩
 clear hr0 hso hb0 CN
 have CA1 := q_add H0.rep List.Pairwise.nil (by decide) (sA, 7) sA_sz 1 H0.so H0.bz
 rw [k_1] at CA1
 simp only [pu]
 refine gz1 (.pointer (some ⟨g0, 0, none⟩)) <| wn ?_
 simp only [pu]
 go_upto_region 2 with fail
 refine wl <| gz2 (.pointer (some ⟨g0, 0, none⟩)) (.bool false) <| wn ?_
 simp only [pu]
 go_upto_region 4 with fail
 refine wl <| gz1 (.pointer (some ⟨g0, 0, none⟩)) <| gzc (.bool true) (fun w' => UpdI g0 w.heap.size S0 (addR [] (sA, 7) 1) V0 w') (CA1) (fun V1 hu => ?_)
 obtain ⟨S1, H1, -, -⟩ := H0.upd hu
 clear hu H0 CA1
 change Stt _ _ _ S1 kM1 V1 at H1
 have CA2 := q_add H1.rep k_s1 (by rw [k_l1]; omega) (sA, 5) sA_sz 2 H1.so H1.bz
 rw [k_2] at CA2
 simp only [pu]
 refine gz1 (.pointer (some ⟨g0, 0, none⟩)) <| gzc (.bool true) (fun w' => UpdI g0 w.heap.size S1 (addR kM1 (sA, 5) 2) V1 w') (CA2) (fun V2 hu => ?_)
 obtain ⟨S2, H2, -, -⟩ := H1.upd hu
 clear hu H1 CA2
 change Stt _ _ _ S2 kM2 V2 at H2
 have CA3 := q_add H2.rep k_s2 (by rw [k_l2]; omega) (sA, 6) sA_sz 3 H2.so H2.bz
 rw [k_3] at CA3
 simp only [pu]
 refine gz1 (.pointer (some ⟨g0, 0, none⟩)) <| gzc (.bool true) (fun w' => UpdI g0 w.heap.size S2 (addR kM2 (sA, 6) 3) V2 w') (CA3) (fun V3 hu => ?_)
 obtain ⟨S3, H3, -, -⟩ := H2.upd hu
 clear hu H2 CA3
 change Stt _ _ _ S3 kM3 V3 at H3
 have CA4 := q_add H3.rep k_s3 (by rw [k_l3]; omega) (sA, 5) sA_sz 4 H3.so H3.bz
 rw [k_4] at CA4
 simp only [pu]
 refine gz1 (.pointer (some ⟨g0, 0, none⟩)) <| gzc (.bool false) (fun w' => UpdI g0 w.heap.size S3 (addR kM3 (sA, 5) 4) V3 w') (CA4) (fun V4 hu => ?_)
 obtain ⟨S4, H4, -, -⟩ := H3.upd hu
 clear hu H3 CA4
 rw [add_no k_4] at H4
 have CL := q_list H4.rep (by rw [k_l3]; omega) sA
 rw [k_li] at CL
 simp only [pu]
 refine gz4 (.bool true) (.bool true) (.bool true) (.bool false) <| wn ?_
 simp only [pu]
 go_upto_region 5 with fail
 refine wl <| gz6 (.bool true) (.bool true) (.bool true) (.bool true) (.bool true) (.bool true) <| gz6 (.bool true) (.bool true) (.bool false) (.bool true) (.bool true) (.bool true) <| gz1 (.pointer (some ⟨g0, 0, none⟩)) <|
  gze (fun v w' => ∃ a c, v = .slice a (List.length ([2, 3, 1] : List Int)) c ∧ Cs w' a (icells [2, 3, 1]) ∧ List.length ([2, 3, 1] : List Int) ≤ c ∧ Below V4.heap.size V4 w') (CL.mono fun e w' z => z.cs) (fun vv X1 hq => ?_)
 obtain ⟨a1, c1, rfl, hc1, -, hbX1⟩ := hq
 have HX1 := H4.below hbX1
 obtain ⟨Y1, hY1⟩ : ∃ W, X1.alloc (.cells (icells [2, 3, 1]).toArray 3) = W := ⟨_, rfl⟩
 have hbY1 : Below X1.heap.size X1 Y1 := by rw [← hY1]; exact (Below.refl _ X1).alloc (Nat.le_refl _) _
 have hcY1 : Cs Y1 (some ⟨X1.heap.size, 0, none⟩) (icells [2, 3, 1]) := Cs.block (by rw [← hY1]; exact heap_alloc_last X1 _)
 have hbd1 := build_i3 X1
 rw [hY1] at hbd1
 have CS1 := same_ints (c := c1) (c2 := 3) (hc1.below hbY1) hcY1 (by decide)
 have HY1 := HX1.below hbY1
 clear CL H4 hbX1 hc1 HX1 hbY1 hcY1
 simp only [pu]
 refine gw_build (by kernel_rfl) (some 31) rfl 22 3 #[(0, .const (.int .i64 2)), (1, .const (.int .i64 3)), (2, .const (.int .i64 1))] rfl #[(0, .int .i64 2), (1, .int .i64 3), (2, .int .i64 1)] (by kernel_rfl) (.slice (some ⟨X1.heap.size, 0, none⟩) 3 3) _ hbd1 ?_
 simp only [pu]
 refine gzc (.bool true) (fun w' => Below Y1.heap.size Y1 w') (CS1) (fun Z1 hbZ => ?_)
 have HZ1 := HY1.below hbZ
 clear hbZ HY1 CS1 hbd1 hY1
 have CR := q_run HZ1.rep k_s3 k_w (by rw [k_l3]; omega) sA (q := 6) ⟨by omega, by omega⟩
 rw [k_r6] at CR
 simp only [pu]
 refine gz3 (.bool true) (.bool true) (.pointer (some ⟨g0, 0, none⟩)) <| gze (fun v w' => ∃ a c, v = .slice a (List.length ([3, 1] : List Int)) c ∧ Cs w' a (icells [3, 1]) ∧ List.length ([3, 1] : List Int) ≤ c ∧ Below Z1.heap.size Z1 w') (CR.mono fun e w' z => z.cs) (fun vv X2 hq => ?_)
 obtain ⟨a2, c2, rfl, hc2, -, hbX2⟩ := hq
 have HX2 := HZ1.below hbX2
 obtain ⟨Y2, hY2⟩ : ∃ W, X2.alloc (.cells (icells [3, 1]).toArray 3) = W := ⟨_, rfl⟩
 have hbY2 : Below X2.heap.size X2 Y2 := by rw [← hY2]; exact (Below.refl _ X2).alloc (Nat.le_refl _) _
 have hcY2 : Cs Y2 (some ⟨X2.heap.size, 0, none⟩) (icells [3, 1]) := Cs.block (by rw [← hY2]; exact heap_alloc_last X2 _)
 have hbd2 := build_i2 X2
 rw [hY2] at hbd2
 have CS2 := same_ints (c := c2) (c2 := 2) (hc2.below hbY2) hcY2 (by decide)
 have HY2 := HX2.below hbY2
 clear CR HZ1 hbX2 hc2 HX2 hbY2 hcY2
 simp only [pu]
 refine gw_build (by kernel_rfl) (some 37) rfl 22 2 #[(0, .const (.int .i64 3)), (1, .const (.int .i64 1))] rfl #[(0, .int .i64 3), (1, .int .i64 1)] (by kernel_rfl) (.slice (some ⟨X2.heap.size, 0, none⟩) 2 2) _ hbd2 ?_
 simp only [pu]
 refine gzc (.bool true) (fun w' => Below Y2.heap.size Y2 w') (CS2) (fun Z2 hbZ => ?_)
 have HZ2 := HY2.below hbZ
 clear hbZ HY2 CS2 hbd2 hY2
 have CR := q_run HZ2.rep k_s3 k_w (by rw [k_l3]; omega) sA (q := 4) ⟨by omega, by omega⟩
 rw [k_r4] at CR
 simp only [pu]
 refine gz3 (.bool true) (.bool true) (.pointer (some ⟨g0, 0, none⟩)) <| gze (fun v w' => ∃ a c, v = .slice a (List.length ([] : List Int)) c ∧ Cs w' a (icells []) ∧ List.length ([] : List Int) ≤ c ∧ Below Z2.heap.size Z2 w') (CR.mono fun e w' z => z.cs) (fun vv X3 hq => ?_)
 obtain ⟨a3, c3, rfl, hc3, -, hbX3⟩ := hq
 have HX3 := HZ2.below hbX3
 clear CR HZ2 hbX3 hc3
 have CM := q_names HX3.rep k_s3 (by rw [k_l3]; omega) k_b
 rw [k_nm] at CM
 simp only [pu]
 refine gz1 (.int .i64 0) <| gzb (eql_nn rfl 0 0 (decide_eq_true rfl)) <| gz3 (.bool true) (.bool true) (.pointer (some ⟨g0, 0, none⟩)) <|
  gze (fun v w' => ∃ a c, v = .slice a (List.length ([sA] : List ByteArray)) c ∧ Cs w' a (strs [sA]) ∧ List.length ([sA] : List ByteArray) ≤ c ∧ Below X3.heap.size X3 w') (CM.mono fun e w' z => z.cs) (fun vv X4 hq => ?_)
 obtain ⟨a4, c4, rfl, hc4, -, hbX4⟩ := hq
 have HX4 := HX3.below hbX4
 obtain ⟨Y4, hY4⟩ : ∃ W, X4.alloc (.cells #[.string sA] 9) = W := ⟨_, rfl⟩
 have hbY4 : Below X4.heap.size X4 Y4 := by rw [← hY4]; exact (Below.refl _ X4).alloc (Nat.le_refl _) _
 have hcY4 : Cs Y4 (some ⟨X4.heap.size, 0, none⟩) (strs [sA]) := Cs.block (cs := strs [sA]) (by rw [← hY4]; exact heap_alloc_last X4 _)
 have hbd4 := one_str sA X4
 rw [hY4] at hbd4
 have CS4 := same_texts (c := c4) (c2 := 1) (hc4.below hbY4) hcY4 (by decide)
 have HY4 := HX4.below hbY4
 clear CM HX3 hbX4 hc4 HX4 hbY4 hcY4
 simp only [pu]
 refine gw_build (by kernel_rfl) (some 49) rfl 32 1 #[(0, .const (.string ⟨#[97]⟩))] rfl #[(0, .string ⟨#[97]⟩)] (by kernel_rfl) (.slice (some ⟨X4.heap.size, 0, none⟩) 1 1) _ hbd4 ?_
 simp only [pu]
 refine gzc (.bool true) (fun w' => Below Y4.heap.size Y4 w') (CS4) (fun Z4 hbZ => ?_)
 have HZ4 := HY4.below hbZ
 clear hbZ HY4 CS4 hbd4 hY4
 have CLN := q_len HZ4.rep
 rw [k_l3] at CLN
 simp only [pu]
 refine gz3 (.bool true) (.bool true) (.pointer (some ⟨g0, 0, none⟩)) <| gzc (.int .i64 3) (fun w' => Z4 = w') (CLN) (fun V9 hV9 => ?_)
 subst hV9
 simp only [pu]
 refine gzb (eql_nn rfl 3 3 (decide_eq_true rfl)) <| gz2 (.bool true) (.bool true) <| wn ?_
 simp only [pu]
 have HE := Lib.hid HZ4.bel
 clear HZ4 CLN
 go_wp2_with fail
 go_ret
 exact ⟨rfl, HE.out⟩
end Go.Proofs.Ytjononjpoeobcaa
