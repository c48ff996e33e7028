/-
  The totals of ledgers, the program's and the reference's; the program's limited: contracts.
-/
import Derived.Test.YtglglhcnofbagaaGreatK17
namespace Go.Proofs.YtglglhcnofbagaaGreat.Lg
attribute [local irreducible] wpList wpQuiet
set_option maxRecDepth 100000
open Go.RowKit
set_option linter.unusedSimpArgs false
set_option linter.unusedVariables false

theorem results_c {fn : Func} {tmps : Array Value} {w : World} {p q g ty : Nat} {v u : Value} (hr : fn.results = #[.cell p ty, .tmp q]) (h2 : tmps.getD p undef = .pointer (some ⟨g, 0, none⟩)) (hl : (Instr.loadAt ty (.pointer (some ⟨g, 0, none⟩))).run Tryz.prog w = .ok v w) (h3 : tmps.getD q undef = u) : (results fn tmps).run Tryz.prog w = .ok (.tuple #[v, u]) w := by
 unfold results
 rw [hr]
 have h2' : tmps[p]?.getD undef = .pointer (some ⟨g, 0, none⟩) := by simpa using h2
 have h3' : tmps[q]?.getD undef = u := by simpa using h3
 have hl' := hl
 simp only [Instr.loadAt, Instr.sureAddr, Sem.run_bind, Sem.run_pure, Result.andThen_ok] at hl'
 simp [h2', h3', asAddr, hl', Result.andThen]
def RowU (w : World) (B : Nat) (v : Value) (L : List Int) : Prop := w.ownsRow B 23 1 v L.length (u64s L)
theorem build_u (x : Int) (V : World) : (Instr.buildSlice 36 1 #[(0, .int .u64 x)]).run Tryz.prog V = .ok (.slice (some ⟨V.heap.size, 0, none⟩) 1 1) (V.alloc (.cells #[.int .u64 x] 23)) := by
 obtain ⟨i0, hi, hz0, hz1, hz2⟩ := info_parts infoU
 refine run_buildSlice V 36 23 1 _ #[.int .u64 x] i0 _ Tryz.underlying36 hi hz0 (by rw [hz1]; omega) (by rw [hz1]; omega) ?_
 rw [hz1]
 kernel_rfl
theorem own_u (x : Int) (V : World) : RowU (V.alloc (.cells #[.int .u64 x] 23)) V.heap.size (.slice (some ⟨V.heap.size, 0, none⟩) 1 1) [x] :=
 ⟨by simp [u64s], .inr ⟨V.heap.size, 1, #[.int .u64 x], rfl, Nat.le_refl _, heap_alloc_last V _, Nat.le_refl _, by simp [maxLen], by simp, by simp [u64s]⟩⟩
theorem grow_u {w : World} {B : Nat} {v : Value} {L : List Int} (h : RowU w B v L) (hB : B ≤ w.heap.size) (x : Int) (hl : L.length ≤ 4398046511200) :
  ∃ v2 V2, (Builtin.append_ #[36, 36] 36 #[v, .slice (some ⟨w.heap.size, 0, none⟩) 1 1]).run Tryz.prog (w.alloc (.cells #[.int .u64 x] 23)) = .ok v2 V2 ∧ RowU V2 B v2 (L ++ [x]) ∧ Below B w V2 := by
 have hb : Below w.heap.size w (w.alloc (.cells #[.int .u64 x] 23)) := (Below.refl _ w).alloc (Nat.le_refl _) _
 have hO := own_below h hb
 have hc : Cs (w.alloc (.cells #[.int .u64 x] 23)) (some ⟨w.heap.size, 0, none⟩) [.int .u64 x] := Cs.block (t := 23) (fr := (0, 0)) (heap_alloc_last w _)
 obtain ⟨v2, V2, hr, hO2, hb2, -, -⟩ := append_big (P := Tryz.prog) (t := 36) (m := 1) Tryz.underlying36 infoU (by kernel_rfl) (by omega) hO (some ⟨w.heap.size, 0, none⟩) 1 [.int .u64 x] hc rfl (fun u hu => by
  simp only [List.mem_cons, List.not_mem_nil, or_false] at hu
  subst hu
  rfl) (by simp; omega) (by omega) (by omega)
 refine ⟨v2, V2, hr, ?_, (hb.mono hB).trans hb2⟩
 unfold RowU
 rw [List.length_append, show u64s (L ++ [x]) = u64s L ++ [.int .u64 x] by simp [u64s]]
 exact hO2
theorem bals_len (A : List Ac) : (bals A).length = A.length := by simp [bals]
theorem bals_succ {A : List Ac} {j : Nat} (h : j < A.length) : bals (A.take (j + 1)) = bals (A.take j) ++ [(aca A j).2.1] := by
 unfold bals
 rw [List.take_succ_eq_append_getElem h, List.map_append, aca_get h]
 rfl
theorem tots_succ {A : List Ac} {j : Nat} (c : Int) (h : j < A.length) : tot (c :: bals (A.take (j + 1))) = tot (c :: bals (A.take j)) + (aca A j).2.1 := by
 rw [bals_succ h, ← List.cons_append, tot_append, tot_cons (aca A j).2.1]
 simp [tot]
theorem bals_w {A : List Ac} {c : Int} (hc : W64 c) (hw : AcW A) : ∀ k, k < (c :: bals A).length → W64 ((c :: bals A).getD k 0) := fun k hk => by
 cases k with
 | zero => exact hc
 | succ k =>
  have hk2 : k < A.length := by simp [bals] at hk; exact hk
  rw [List.getD_cons_succ]
  unfold bals
  rw [bals_at A k hk2]
  exact (hw k hk2).1
theorem tots_le {A : List Ac} {c : Int} (hc : W64 c) (hw : AcW A) (j : Nat) : tot (c :: bals (A.take j)) ≤ tot (c :: bals A) := by
 have := tot_take_le (c :: bals A) (bals_w hc hw) (j + 1)
 rwa [List.take_succ_cons, show (bals A).take j = bals (A.take j) from (List.map_take ..).symm] at this
theorem tots_nn {A : List Ac} {c : Int} (hc : W64 c) (hw : AcW A) (j : Nat) : 0 ≤ tot (c :: bals (A.take j)) := tot_nonneg _ fun x hx => by
 rcases List.mem_cons.1 hx with h | h
 ·rw [h]; exact hc.1
 ·obtain ⟨y, hy, rfl⟩ := List.mem_map.1 h
  exact (acw_mem hw y (List.mem_of_mem_take hy)).1.1
theorem tots_all (A : List Ac) (c : Int) : tot (c :: bals (A.take A.length)) = tot (c :: bals A) := by rw [List.take_length]
set_option maxRecDepth 100000 in
set_option maxHeartbeats 8000000 in
theorem q_total (a : Option Addr) (k : Nat) (A : List Ac) (c : Int) (w : World) (hR : Cs w a (acc A)) (hn : A.length ≤ 4398046511104) (hc : W64 c) (hw : AcW A) :
  Calls Tryz.prog 86 #[.agg (lgA a A.length k c)] w fun e w' => e = .returned (.tuple #[.int .u64 (totV A c), .bool (totB A c)]) ∧ Below w.heap.size w w' := by
 have hb0 : Below w.heap.size w (w.alloc (.cells (lgA a A.length k c) 25)) := (Below.refl _ w).alloc (Nat.le_refl _) _
 have hX0 : Bx (w.alloc (.cells (lgA a A.length k c) 25)) w.heap.size (lgA a A.length k c) 25 := heap_alloc_last w _
 have HA := Lib.hid (hR.below hb0)
 have HW := Lib.hid hw
 have HC := Lib.hid hc
 have HSM := Lib.hid (fun (al : Option Addr) (cl : Nat) (V : World) (h : Cs V al (u64s (c :: bals A))) => money_sum al cl (c :: bals A) V (by rw [List.length_cons, bals_len]; omega) (fun q hq => by
  obtain ⟨b, off, e, -, h1⟩ := h q (.int .u64 ((c :: bals A).getD q 0)) (by
   unfold u64s
   rw [List.getElem?_map, List.getElem?_eq_getElem hq, List.getD_eq_getElem?_getD, List.getElem?_eq_getElem hq]
   rfl)
  exact ⟨b, off, e, h1⟩) (bals_w hc hw))
 have HLN : Hid ((c :: bals A).length = A.length + 1) := Lib.hid (by rw [List.length_cons, bals_len])
 obtain ⟨n, hnn⟩ : ∃ n, A.length = n := ⟨_, rfl⟩
 have HN := Lib.hid hnn
 have HNL : Hid (n ≤ 4398046511104) := Lib.hid (by omega)
 rw [hnn] at hb0 hX0 HA ⊢
 clear hR hn hnn hw hc
 have HTV : Hid (sumV (c :: bals A) = totV A c ∧ sumB (c :: bals A) = totB A c) := Lib.hid ⟨rfl, rfl⟩
 generalize totV A c = tv at *
 generalize totB A c = tb at *
 go_enter Tryz.func86, Tryz.ntmps86
 go_upto_region 1 with fail
 change Code.wp _ _ _ _ (w.alloc (.cells (lgA a n k c) 25))
 generalize w.alloc (.cells (lgA a n k c) 25) = W at *
 obtain ⟨g0, hg0⟩ : ∃ g0, w.heap.size = g0 := ⟨_, rfl⟩
 have HB0 := Lib.hid hb0
 rw [hg0] at hX0
 simp only [hg0]
 have HX := Lib.hid hX0
 clear hb0 hg0 hX0
 have hbu := build_u c W
 have hou := own_u c W
 refine wl <| gz1 (.pointer (some ⟨g0, 1, none⟩)) <| gzl rfl ⟨g0, 1, none⟩ (.int .u64 c) (HX.out.load (i := 1) rfl (by kernel_rfl)) ?_
 simp only [pu]
 refine gw_build (by kernel_rfl) (some 9) rfl 36 1 #[(0, .tmp 8)] rfl #[(0, .int .u64 c)] (by kernel_rfl) (.slice (some ⟨W.heap.size, 0, none⟩) 1 1) _ hbu ?_
 simp only [pu]
 refine gz1 (.slice (some ⟨W.heap.size, 0, none⟩) 1 1) <| wn ?_
 simp only [pu]
 have hb1 : Below W.heap.size W (W.alloc (.cells #[.int .u64 c] 23)) := (Below.refl _ W).alloc (Nat.le_refl _) _
 clear hbu
 obtain ⟨v1, hv1⟩ : ∃ v1, Value.slice (some ⟨W.heap.size, 0, none⟩) 1 1 = v1 := ⟨_, rfl⟩
 rw [hv1] at hou ⊢
 generalize W.alloc (.cells #[.int .u64 c] 23) = W1 at *
 have HR1 : Hid (RowU W1 W.heap.size v1 (c :: bals (A.take 0))) := Lib.hid hou
 have HB1 := Lib.hid hb1
 have HX1 := Lib.hid (HX.out.below HX.out.lt hb1)
 clear hv1 hou hb1
 go_upto_region 2 with fail
 refine wl <| gz1 (.pointer (some ⟨g0, 0, none⟩)) <| gzl rfl ⟨g0, 0, none⟩ (.slice a n k) (HX1.out.load (i := 0) rfl (by kernel_rfl)) <| gz2 (.int .i64 n) (.int .i64 0) <| wn ?_
 simp only [pu]
 go_wp2_with fail
 go_loopg [4, 13] n (fun gg s4 s13 wx => ∃ (j : Nat) (v4 : Value), s4 = v4 ∧ s13 = .int .i64 j ∧ j ≤ n ∧ Hid (RowU wx W.heap.size v4 (c :: bals (A.take j))) ∧ Hid (Below W.heap.size W wx) ∧ n - j = gg)
 case atStart => exact ⟨0, v1, rfl, rfl, by omega, HR1, HB1, by omega⟩
 case round =>
  obtain ⟨j, v4, rfl, rfl, hj, HRU, HB, hg⟩ := hrel
  have hn9 := HNL.out
  by_cases hlt : j < n
  ·skip
   obtain ⟨b, off, rfl, -, hrx⟩ := ac_range (HA.out.below HB.out) (k := j) (by rw [HN.out]; exact hlt)
   have HLD := Lib.hid (load_ac hrx)
   have HBS := Lib.hid (bals_succ (A := A) (j := j) (by rw [HN.out]; exact hlt))
   generalize aca A j = y at *
   have HG := Lib.hid hg
   obtain ⟨V2, hst, hb2, hbx⟩ := new_ac wr y
   obtain ⟨v3, V3, hap, hr3, hb3⟩ := grow_u (own_below HRU.out hb2) (by have := HB.out.size; have := hb2.size; omega) y.2.1 (by rw [List.length_cons, bals_len, List.length_take]; omega)
   have HR3 : Hid (RowU V3 W.heap.size v3 (c :: bals (A.take (j + 1)))) := Lib.hid (by rw [HBS.out, ← List.cons_append]; exact hr3)
   have HB3 := Lib.hid ((HB.out.trans (hb2.mono HB.out.size)).trans hb3)
   have hbu := build_u y.2.1 V2
   clear hrx hg hb2 hr3 hb3 HBS
   go_upto_region 3 with fail
   refine wl <| gzb (lss_n rfl (j) (n) dT) <| wn ?_
   simp only [pu]
   go_upto_region 4 with fail
   refine wl <| gzv (.pointer (some ⟨b, off + j * 3, none⟩)) (idx_ac b off n k j hlt _ _ _ rfl (by kernel_rfl) (by kernel_rfl)) <| gzl rfl ⟨b, off + j * 3, none⟩ (.agg (acA y)) (HLD.out) ?_
   simp only [pu]
   refine run_to rfl (some 6) rfl (.pointer (some ⟨wr.heap.size, 0, none⟩)) (wr.alloc (.cells (acA zAc) 49)) (by kernel_rfl) ?_
   simp only [pu]
   refine gzs rfl (hst) <| wn ?_
   obtain ⟨g4, hg4⟩ : ∃ g4, wr.heap.size = g4 := ⟨_, rfl⟩
   rw [hg4] at hbx ⊢
   obtain ⟨g5, hg5⟩ : ∃ g5, V2.heap.size = g5 := ⟨_, rfl⟩
   rw [hg5] at hap hbu
   clear hst hg4 hg5 HLD
   go_upto_region 5 with fail
   refine wl <| gz2 (u4) (.pointer (some ⟨g4, 1, none⟩)) <| gzl rfl ⟨g4, 1, none⟩ (.int .u64 y.2.1) (hbx.load (i := 1) rfl (by kernel_rfl)) ?_
   simp only [pu]
   refine gw_build (by kernel_rfl) (some 20) rfl 36 1 #[(0, .tmp 19)] rfl #[(0, .int .u64 y.2.1)] (by kernel_rfl) (.slice (some ⟨g5, 0, none⟩) 1 1) _ hbu ?_
   simp only [pu]
   refine append_step rfl (some 21) rfl 36 rfl (.tmp 17) (.tmp 20) 36 rfl (u4) (.slice (some ⟨g5, 0, none⟩) 1 1) (v3) V3 (by kernel_rfl) (by kernel_rfl) hap ?_
   simp only [pu]
   refine gz1 (v3) <| wn ?_
   simp only [pu]
   clear hap hbu hbx
   go_upto_region 6 with fail
   refine wl <| gzw (.int .i64 (j + 1 : Nat)) (add_nat rfl j 1 (by omega)) <| gz1 (.int .i64 (j + 1 : Nat)) <| wn ?_
   simp only [pu]
   go_wp2_with fail
   go_roundg (n - (j + 1))
   case measure => have := HG.out; omega
   case rel => exact ⟨j + 1, v3, rfl, rfl, hlt, HR3, HB3, rfl⟩
  ·skip
   obtain rfl : n = j := by omega
   obtain ⟨al, cl, rfl, hcs, -⟩ := own_cs HRU.out
   rw [← HN.out, List.take_length] at hcs
   have hlen : (c :: bals (A.take n)).length = (c :: bals A).length := by rw [← HN.out, List.take_length]
   rw [hlen]
   have CS := HSM.out al cl wr hcs
   rw [HTV.out.1, HTV.out.2] at CS
   generalize (c :: bals A).length = m at *
   have HB9 := Lib.hid (HB0.out.trans (HB.out.mono HB0.out.size))
   clear hg HRU HSM HTV hcs HB hlen HLN
   go_upto_region 3 with fail
   refine wl <| gzb (lss_n rfl (n) (n) dF) <| wn ?_
   simp only [pu]
   go_upto_region 7 with fail
   refine wl <| gz1 (.slice al m cl) <| gzc (.tuple #[.int .u64 tv, .bool tb]) (fun w' => wr = w') (CS) (fun V9 hV9 => ?_)
   subst hV9
   simp only [pu]
   refine gz4 (.int .u64 tv) (.bool tb) (.int .u64 tv) (.bool tb) <| wn ?_
   simp only [pu]
   clear CS
   go_wp2_with fail
   go_ret2
   exact ⟨rfl, HB9.out⟩
set_option maxRecDepth 100000 in
set_option maxHeartbeats 8000000 in
theorem ref_total (a : Option Addr) (k : Nat) (A : List Ac) (c : Int) (w : World) (hR : Cs w a (acc A)) (hn : A.length ≤ 4398046511104) (hc : W64 c) (hw : AcW A) :
  Calls Tryz.prog 21 #[.agg (lgA a A.length k c)] w fun e w' => e = .returned (.tuple #[.int .u64 (totV A c), .bool (totB A c)]) ∧ Below w.heap.size w w' := by
 have hb0 : Below w.heap.size w (w.alloc (.cells (lgA a A.length k c) 25)) := (Below.refl _ w).alloc (Nat.le_refl _) _
 have hX0 : Bx (w.alloc (.cells (lgA a A.length k c) 25)) w.heap.size (lgA a A.length k c) 25 := heap_alloc_last w _
 have HA := Lib.hid (hR.below hb0)
 have HW := Lib.hid hw
 have HC := Lib.hid hc
 have HT0 : Hid (∀ j, 0 ≤ tot (c :: bals (A.take j)) ∧ tot (c :: bals (A.take j)) ≤ tot (c :: bals A)) := Lib.hid fun j => ⟨tots_nn hc hw j, tots_le hc hw j⟩
 have HTS : Hid (∀ j, j < A.length → tot (c :: bals (A.take (j + 1))) = tot (c :: bals (A.take j)) + (aca A j).2.1) := Lib.hid fun j h => tots_succ c h
 have HTA : Hid (tot (c :: bals (A.take A.length)) = tot (c :: bals A)) := Lib.hid (tots_all A c)
 have HT1 : Hid (tot (c :: bals (A.take 0)) = c) := Lib.hid (by rw [List.take_zero, tot_cons]; simp [bals, tot])
 have HTV : Hid ((tot (c :: bals A) < 18446744073709551616 → totV A c = tot (c :: bals A) ∧ totB A c = true) ∧ (¬ tot (c :: bals A) < 18446744073709551616 → totV A c = 0 ∧ totB A c = false)) := Lib.hid ⟨fun h => ⟨if_pos h, decide_eq_true h⟩, fun h => ⟨if_neg h, decide_eq_false h⟩⟩
 obtain ⟨n, hnn⟩ : ∃ n, A.length = n := ⟨_, rfl⟩
 have HN := Lib.hid hnn
 have HNL : Hid (n ≤ 4398046511104) := Lib.hid (by omega)
 rw [hnn] at hb0 hX0 HA ⊢
 clear hR hn hnn hw hc
 rw [show A.length = n from HN.out] at HTS HTA
 generalize totV A c = tv at *
 generalize totB A c = tb at *
 obtain ⟨tt, htt⟩ : ∃ tt : Nat → Int, tt = fun j => tot (c :: bals (A.take j)) := ⟨_, rfl⟩
 have htj : ∀ j, tot (c :: bals (A.take j)) = tt j := fun j => by rw [htt]
 simp only [htj] at HT0 HTS HTA HT1
 generalize tot (c :: bals A) = tz at *
 clear htt htj
 go_enter Tryz.func21, Tryz.ntmps21
 go_upto_region 1 with fail
 change Code.wp _ _ _ _ (w.alloc (.cells (lgA a n k c) 25))
 generalize w.alloc (.cells (lgA a n k c) 25) = W at *
 obtain ⟨g0, hg0⟩ : ∃ g0, w.heap.size = g0 := ⟨_, rfl⟩
 have HB0 := Lib.hid hb0
 rw [hg0] at hX0
 simp only [hg0]
 have HX := Lib.hid hX0
 clear hb0 hg0 hX0
 refine wl <| gz1 (.pointer (some ⟨g0, 1, none⟩)) <| gzl rfl ⟨g0, 1, none⟩ (.int .u64 c) (HX.out.load (i := 1) rfl (by kernel_rfl)) <| gz1 (.int .u64 c) <| wn ?_
 simp only [pu]
 go_upto_region 2 with fail
 refine wl <| gz1 (.pointer (some ⟨g0, 0, none⟩)) <| gzl rfl ⟨g0, 0, none⟩ (.slice a n k) (HX.out.load (i := 0) rfl (by kernel_rfl)) <| gz2 (.int .i64 n) (.int .i64 0) <| wn ?_
 simp only [pu]
 go_wp2_with fail
 go_loopg [4, 14] n (fun gg s4 s14 wx => ∃ j : Nat, s4 = .int .u64 (tt j) ∧ s14 = .int .i64 j ∧ j ≤ n ∧ Hid (tt j < 18446744073709551616) ∧ Hid (Below W.heap.size W wx) ∧ n - j = gg)
 case atStart => exact ⟨0, by rw [HT1.out], rfl, by omega, Lib.hid (by rw [HT1.out]; have := HC.out.2; omega), Lib.hid (Below.refl _ _), by omega⟩
 case round =>
  obtain ⟨j, rfl, rfl, hj, HTL, HB, hg⟩ := hrel
  have hn9 := HNL.out
  by_cases hlt : j < n
  ·skip
   obtain ⟨b, off, rfl, -, hrx⟩ := ac_range (HA.out.below HB.out) (k := j) (by rw [HN.out]; exact hlt)
   have HLD := Lib.hid (load_ac hrx)
   have hts := HTS.out j hlt
   have hyw := (HW.out j (by rw [HN.out]; exact hlt)).1
   generalize aca A j = y at *
   have HG := Lib.hid hg
   obtain ⟨V2, hst, hb2, hbx⟩ := new_ac wr y
   have HB2 := Lib.hid (HB.out.trans (hb2.mono HB.out.size))
   have CA := ref_add (tt j) y.2.1 V2 ⟨(HT0.out j).1, by have := HTL.out; omega⟩ hyw
   clear hrx hg hb2 hyw
   go_upto_region 3 with fail
   refine wl <| gzb (lss_n rfl (j) (n) dT) <| wn ?_
   simp only [pu]
   go_upto_region 4 with fail
   refine wl <| gzv (.pointer (some ⟨b, off + j * 3, none⟩)) (idx_ac b off n k j hlt _ _ _ rfl (by kernel_rfl) (by kernel_rfl)) <| gzl rfl ⟨b, off + j * 3, none⟩ (.agg (acA y)) (HLD.out) ?_
   simp only [pu]
   refine run_to rfl (some 6) rfl (.pointer (some ⟨wr.heap.size, 0, none⟩)) (wr.alloc (.cells (acA zAc) 49)) (by kernel_rfl) ?_
   simp only [pu]
   refine gzs rfl (hst) <| wn ?_
   obtain ⟨g4, hg4⟩ : ∃ g4, wr.heap.size = g4 := ⟨_, rfl⟩
   rw [hg4] at hbx ⊢
   clear hst hg4 HLD
   by_cases hov : tt j + y.2.1 < 18446744073709551616
   ·skip
    rw [show addV (tt j) y.2.1 = tt (j + 1) by rw [hts]; exact if_pos hov, show addB (tt j) y.2.1 = true from decide_eq_true hov] at CA
    go_upto_region 5 with fail
    refine wl <| gz2 (.int .u64 (tt j)) (.pointer (some ⟨g4, 1, none⟩)) <| gzl rfl ⟨g4, 1, none⟩ (.int .u64 y.2.1) (hbx.load (i := 1) rfl (by kernel_rfl)) <| gzc (.tuple #[.int .u64 (tt (j + 1)), .bool true]) (fun w' => V2 = w') (CA) (fun V9 hV9 => ?_)
    subst hV9
    simp only [pu]
    refine gz5 (.tuple #[.int .u64 (tt (j + 1)), .bool true]) (.int .u64 (tt (j + 1))) (.bool true) (.int .u64 (tt (j + 1))) (.bool true) <| wn ?_
    simp only [pu]
    clear hbx CA
    go_upto_region 6 with fail
    refine wl <| gz2 (.bool true) (.bool false) <| wn ?_
    simp only [pu]
    have HTL9 : Hid (tt (j + 1) < 18446744073709551616) := Lib.hid (by rw [hts]; exact hov)
    clear hts hov
    go_upto_region 8 with fail
    refine wl <| gz2 (.int .u64 (tt (j + 1))) (.int .u64 (tt (j + 1))) <| wn ?_
    simp only [pu]
    go_upto_region 9 with fail
    refine wl <| gzw (.int .i64 (j + 1 : Nat)) (add_nat rfl j 1 (by omega)) <| gz1 (.int .i64 (j + 1 : Nat)) <| wn ?_
    simp only [pu]
    go_wp2_with fail
    go_roundg (n - (j + 1))
    case measure => have := HG.out; omega
    case rel => exact ⟨j + 1, rfl, rfl, hlt, HTL9, HB2, rfl⟩
   ·skip
    rw [show addV (tt j) y.2.1 = 0 from if_neg hov, show addB (tt j) y.2.1 = false from decide_eq_false hov] at CA
    go_upto_region 5 with fail
    refine wl <| gz2 (.int .u64 (tt j)) (.pointer (some ⟨g4, 1, none⟩)) <| gzl rfl ⟨g4, 1, none⟩ (.int .u64 y.2.1) (hbx.load (i := 1) rfl (by kernel_rfl)) <| gzc (.tuple #[.int .u64 0, .bool false]) (fun w' => V2 = w') (CA) (fun V9 hV9 => ?_)
    subst hV9
    simp only [pu]
    refine gz5 (.tuple #[.int .u64 0, .bool false]) (.int .u64 0) (.bool false) (.int .u64 0) (.bool false) <| wn ?_
    simp only [pu]
    clear hbx CA
    go_upto_region 6 with fail
    refine wl <| gz2 (.bool false) (.bool true) <| wn ?_
    simp only [pu]
    have hz := HTV.out.2 (by have h8 := (HT0.out (j + 1)).2; rw [hts] at h8; omega)
    obtain ⟨rfl, rfl⟩ := hz
    have HB9 := Lib.hid (HB0.out.trans (HB2.out.mono HB0.out.size))
    clear hts hov HTV
    go_upto_region 7 with fail
    refine wl <| gz2 (.int .u64 0) (.bool false) <| wn ?_
    simp only [pu]
    go_wp2_with fail
    go_ret2
    exact ⟨rfl, HB9.out⟩
  ·skip
   obtain rfl : n = j := by omega
   have htn := HTA.out
   have hz := HTV.out.1 (by rw [← htn]; exact HTL.out)
   obtain ⟨rfl, rfl⟩ := hz
   subst htn
   have HB9 := Lib.hid (HB0.out.trans (HB.out.mono HB0.out.size))
   clear hg HTV HB
   go_upto_region 3 with fail
   refine wl <| gzb (lss_n rfl (n) (n) dF) <| wn ?_
   simp only [pu]
   go_upto_region 10 with fail
   refine wl <| gz3 (.int .u64 (tt n)) (.int .u64 (tt n)) (.bool true) <| wn ?_
   simp only [pu]
   go_wp2_with fail
   go_ret2
   exact ⟨rfl, HB9.out⟩
end Go.Proofs.YtglglhcnofbagaaGreat.Lg
