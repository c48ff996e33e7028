/-
  The contracts of the reference's Values, SameInts, take, without.
-/
import Derived.Test.YtefinpapkjgpoaaLC
namespace Go.Proofs.Ytefinpapkjgpoaa
open Go.RowKit
set_option linter.unusedSimpArgs false
set_option linter.unusedVariables false

theorem infoI : (Try.prog.info? 3).map (fun i => (i.zero, i.size, i.bytes)) = some (some (.int .i64 0), 1, 8) := by kernel_rfl
theorem infoE : (Try.prog.info? 40).map (fun i => (i.zero, i.size, i.bytes)) = some (some (.agg #[.int .i64 0, .int .i64 0]), 2, 16) := by kernel_rfl
theorem append_int {w : World} {B n m : Nat} {v : Value} {xs : List Value} (hO : w.ownsRow B 3 1 v n xs) (pa : Option Addr) (cp : Nat) (L : List Int) (hP : Cs w pa (icells L)) (hl : L.length = m) (hB : B ≤ w.heap.size) (hn : n ≤ 100000) (hm : m ≤ 100000) :
    ∃ v' w', (Builtin.append_ #[22, 22] 22 #[v, .slice pa m cp]).run Try.prog w = .ok v' w' ∧ w'.ownsRow B 3 1 v' (n + m) (xs ++ icells L) ∧ Below B w w' ∧ w.grownBy w' v.ownBlock :=
  append_cs Try.underlying22 infoI rfl (by omega) (by omega) hO pa cp _ hP (by rw [icells_len, hl, Nat.mul_one]) (icells_one _) hB hn hm
theorem append_el {w : World} {B n m : Nat} {v : Value} {xs : List Value} (hO : w.ownsRow B 40 2 v n xs) (pa : Option Addr) (cp : Nat) (L : List (Int × Int)) (hP : Cs w pa (ecells L)) (hl : L.length = m) (hB : B ≤ w.heap.size) (hn : n ≤ 100000) (hm : m ≤ 100000) :
    ∃ v' w', (Builtin.append_ #[26, 26] 26 #[v, .slice pa m cp]).run Try.prog w = .ok v' w' ∧ w'.ownsRow B 40 2 v' (n + m) (xs ++ ecells L) ∧ Below B w w' ∧ w.grownBy w' v.ownBlock :=
  append_cs Try.underlying26 infoE rfl (by omega) (by omega) hO pa cp _ hP (by rw [ecells_len, hl]) (ecells_one _) hB hn hm
theorem nil_int (w : World) : (Instr.buildSlice 22 0 #[]).run Try.prog w = .ok (.slice (some ⟨w.heap.size, 0, none⟩) 0 0) (w.alloc (.cells #[] 3)) := build_nil Try.underlying22 infoI w
theorem nil_el (w : World) : (Instr.buildSlice 26 0 #[]).run Try.prog w = .ok (.slice (some ⟨w.heap.size, 0, none⟩) 0 0) (w.alloc (.cells #[] 40)) := build_nil Try.underlying26 infoE w
theorem one_int (x : Int) (w : World) : (Instr.buildSlice 22 1 #[(0, .int .i64 x)]).run Try.prog w = .ok (.slice (some ⟨w.heap.size, 0, none⟩) 1 1) (w.alloc (.cells #[.int .i64 x] 3)) := by
  obtain ⟨i0, hi, hz0, hz1, hz2⟩ := info_parts infoI
  refine run_buildSlice w 22 3 1 _ #[.int .i64 x] i0 _ Try.underlying22 hi hz0 (by rw [hz1]; omega) (by rw [hz1]; omega) ?_
  rw [hz1]
  kernel_rfl
theorem one_el (x y : Int) (w : World) : (Instr.buildSlice 26 1 #[(0, .agg #[.int .i64 x, .int .i64 y])]).run Try.prog w = .ok (.slice (some ⟨w.heap.size, 0, none⟩) 1 1) (w.alloc (.cells #[.int .i64 x, .int .i64 y] 40)) := by
  obtain ⟨i0, hi, hz0, hz1, hz2⟩ := info_parts infoE
  refine run_buildSlice w 26 40 1 _ #[.int .i64 x, .int .i64 y] i0 _ Try.underlying26 hi hz0 (by rw [hz1]; omega) (by rw [hz1]; omega) ?_
  rw [hz1]
  kernel_rfl
theorem cut_int_to (a : Option Addr) (n c k : Nat) (w : World) (h : k ≤ c) : (Instr.slice 22 (.slice a n c) none (some (.int .i64 (k : Int))) none).run Try.prog w = .ok (.slice a k c) w := cut_to (s := 1) (by kernel_rfl) (fun w => by kernel_rfl) a n c k w h
theorem cut_el_to (a : Option Addr) (n c k : Nat) (w : World) (h : k ≤ c) : (Instr.slice 26 (.slice a n c) none (some (.int .i64 (k : Int))) none).run Try.prog w = .ok (.slice a k c) w := cut_to (s := 2) (by kernel_rfl) (fun w => by kernel_rfl) a n c k w h
theorem cut_el_from (a : Option Addr) (n c k : Nat) (w : World) (h : k ≤ n) : (Instr.slice 26 (.slice a n c) (some (.int .i64 (k : Int))) none none).run Try.prog w = .ok (.slice (fromS 2 a c k) (n - k) (c - k)) w := cut_from (s := 2) (by kernel_rfl) (fun w => by kernel_rfl) a n c k w h

set_option maxRecDepth 100000 in
set_option maxHeartbeats 2000000 in
theorem ref_values (m : LM) (ea fa : Option Addr) (ec fc : Nat) (w : World) (h : LV w ea fa ec fc m) :
    Calls Try.prog 13 #[.agg (lv ea fa ec fc m)] w fun e w' => ∃ v, e = .returned v ∧ w'.ownsRow w.heap.size 3 1 v m.E.length (icells (valuesM m)) ∧ Below w.heap.size w w' := by
  have hb0 : Below w.heap.size w (w.alloc (.cells (lv ea fa ec fc m) 28)) := (Below.refl _ w).alloc (by simp) _
  have hX0 : Bx (w.alloc (.cells (lv ea fa ec fc m) 28)) w.heap.size (lv ea fa ec fc m) 28 := heap_alloc_last w _
  have h0 := h.below hb0
  have HR := Lib.hid (show (m.E.take m.E.length).map (·.2) = valuesM m by rw [List.take_length]; rfl)
  have hen := h.en
  have HL := Lib.hid h.e
  generalize valuesM m = R at *
  clear h
  go_enter Try.func13, Try.ntmps13
  go_upto_region 2 with fail
  change Code.wp _ _ _ _ (w.alloc (.cells (lv ea fa ec fc m) 28))
  generalize (w.alloc (.cells (lv ea fa ec fc m) 28)) = W at *
  apply wp_region_lit
  refine gw_val (by kernel_rfl) (some 6) rfl (.pointer (some ⟨w.heap.size, 0, none⟩)) (by kernel_rfl) ?_
  simp only [Act.put, List.setIfInBounds_toArray, List.set_cons_succ, List.set_cons_zero]
  refine gw_load (by kernel_rfl) (some 7) rfl 26 (.tmp 6) rfl ⟨w.heap.size, 0, none⟩ (.slice ea m.E.length ec) (by kernel_rfl) (hX0.load rfl (by kernel_rfl)) ?_
  simp only [Act.put, List.setIfInBounds_toArray, List.set_cons_succ, List.set_cons_zero]
  refine gw_val (by kernel_rfl) (some 8) rfl (.int .i64 m.E.length) (by kernel_rfl) ?_
  simp only [Act.put, List.setIfInBounds_toArray, List.set_cons_succ, List.set_cons_zero]
  refine gw_val (by kernel_rfl) (some 9) rfl (.int .i64 0) (by kernel_rfl) ?_
  simp only [Act.put, List.setIfInBounds_toArray, List.set_cons_succ, List.set_cons_zero]
  apply wpList_nil
  generalize hn : m.E.length = n at *
  have HN := Lib.hid hn
  have HB := Lib.hid hb0
  have hbs : w.heap.size ≤ W.heap.size := hb0.size
  clear hn hX0 h0 hb0
  go_wp2_with fail
  go_loopg [3, 9] n (fun g s3 s9 wx => ∃ k : Nat, s9 = .int .i64 k ∧ k ≤ n ∧ wx.ownsRow w.heap.size 3 1 s3 k (icells ((m.E.take k).map (·.2))) ∧ Below w.heap.size W wx ∧ n - k = g)
  case atStart => exact ⟨0, rfl, by omega, World.ownsRow_nil _ _ _ _, Below.refl _ _, rfl⟩
  case round =>
    obtain ⟨k, rfl, hk, hO, hB, hg⟩ := hrel
    by_cases hlt : k < n
    · have hd : decide ((k : Int) < (n : Int)) = true := decide_eq_true (by omega)
      have hd2 : decide (k < n) = true := decide_eq_true (by omega)
      obtain ⟨b, off, rfl, hbb, hc0, hc1⟩ := el_at (HL.out.below (HB.out.trans hB)) (k := k) (by rw [HN.out]; exact hlt)
      have et : (m.E.take (k + 1)).map (·.2) = (m.E.take k).map (·.2) ++ [(m.E.getD k (0, 0)).2] := by
        have h1 : k < m.E.length := by rw [HN.out]; exact hlt
        rw [List.take_succ_eq_append_getElem h1, List.map_append]
        simp [List.getD, List.getElem?_eq_getElem h1]
      have HET := Lib.hid et
      generalize (m.E.getD k (0, 0)).1 = x at *
      generalize (m.E.getD k (0, 0)).2 = y at *
      have HG : Hid (n - (k + 1) = gk - 1 ∧ 0 < gk ∧ k + 1 ≤ n) := Lib.hid ⟨by omega, by omega, by omega⟩
      clear et hg
      go_upto_region 4 with fail
      apply wp_region_lit
      refine gw_val (by kernel_rfl) (some 11) rfl (.pointer (some ⟨b, off + k * 2, none⟩)) (idx_el b off n ec k hlt wr _ _ rfl (by kernel_rfl) (by kernel_rfl)) ?_
      simp only [Act.put, List.setIfInBounds_toArray, List.set_cons_succ, List.set_cons_zero]
      refine gw_load (by kernel_rfl) (some 12) rfl 40 (.tmp 11) rfl ⟨b, off + k * 2, none⟩ (.agg #[.int .i64 x, .int .i64 y]) (by kernel_rfl) (load_el hc0 hc1) ?_
      simp only [Act.put, List.setIfInBounds_toArray, List.set_cons_succ, List.set_cons_zero]
      refine run_to rfl (some 5) rfl (.pointer (some ⟨wr.heap.size, 0, none⟩)) (wr.alloc (.cells #[.int .i64 0, .int .i64 0] 40)) (by kernel_rfl) ?_
      simp only [Act.put, List.setIfInBounds_toArray, List.set_cons_succ, List.set_cons_zero]
      apply wpList_store_new (w := wr) (ty := 40) (x := .tmp 5) (y := .tmp 12) (c := #[.int .i64 0, .int .i64 0]) (c' := #[.int .i64 x, .int .i64 y])
      case hgd => rfl
      case ho => rfl
      case hx => kernel_rfl
      case hy => kernel_rfl
      case hi => kernel_rfl
      case hz => rfl
      case h1 => exact one_pair _ _
      simp only [Act.put]
      apply wpList_nil
      have hX : Bx (wr.alloc (.cells #[.int .i64 x, .int .i64 y] 40)) wr.heap.size #[.int .i64 x, .int .i64 y] 40 := heap_alloc_last wr _
      have hb1 : Below wr.heap.size wr (wr.alloc (.cells #[.int .i64 x, .int .i64 y] 40)) := (Below.refl _ wr).alloc (Nat.le_refl _) _
      have hO2 := own_below hO hb1
      have hws : w.heap.size ≤ wr.heap.size := Nat.le_trans hbs hB.size
      have hB2 := hB.trans (hb1.mono hws)
      generalize wr.alloc (.cells #[.int .i64 x, .int .i64 y] 40) = V at *
      generalize wr.heap.size = gx at *
      clear hc0 hc1 hbb hB hO
      obtain ⟨s9, c9, rfl, -, -⟩ := own_cs hO2
      have hb3 : Below V.heap.size V (V.alloc (.cells #[.int .i64 y] 3)) := (Below.refl _ V).alloc (Nat.le_refl _) _
      have hV : w.heap.size ≤ V.heap.size := Nat.le_trans hbs hB2.size
      have hC3 : Cs (V.alloc (.cells #[.int .i64 y] 3)) (some ⟨V.heap.size, 0, none⟩) (icells [y]) := Cs.block (t := 3) (fr := (0, 0)) (heap_alloc_last V _)
      obtain ⟨v4, V4, hap, hO4, hb4, -⟩ := append_int (own_below hO2 hb3) (some ⟨V.heap.size, 0, none⟩) 1 [y] hC3 (m := 1) rfl (Nat.le_trans hV hb3.size) (by omega) (by omega)
      have hB4 := hB2.trans ((hb3.mono hV).trans hb4)
      rw [← icells_app, ← HET.out] at hO4
      go_upto_region 5 with fail
      apply wp_region_lit
      refine gw_val (by kernel_rfl) (some 13) rfl (.slice s9 k c9) (by kernel_rfl) ?_
      simp only [Act.put, List.setIfInBounds_toArray, List.set_cons_succ, List.set_cons_zero]
      refine gw_val (by kernel_rfl) (some 14) rfl (.pointer (some ⟨gx, 1, none⟩)) (by kernel_rfl) ?_
      simp only [Act.put, List.setIfInBounds_toArray, List.set_cons_succ, List.set_cons_zero]
      refine gw_load (by kernel_rfl) (some 15) rfl 3 (.tmp 14) rfl ⟨gx, 1, none⟩ (.int .i64 y) (by kernel_rfl) (hX.load rfl (by kernel_rfl)) ?_
      simp only [Act.put, List.setIfInBounds_toArray, List.set_cons_succ, List.set_cons_zero]
      refine gw_build (by kernel_rfl) (some 16) rfl 22 1 #[(0, .tmp 15)] rfl #[(0, .int .i64 y)] (by kernel_rfl) (.slice (some ⟨V.heap.size, 0, none⟩) 1 1) _ (one_int y V) ?_
      simp only [Act.put, List.setIfInBounds_toArray, List.set_cons_succ, List.set_cons_zero]
      refine append_step rfl (some 17) rfl 22 rfl (.tmp 13) (.tmp 16) 22 rfl (.slice s9 k c9) (.slice (some ⟨V.heap.size, 0, none⟩) 1 1) v4 V4 (by kernel_rfl) (by kernel_rfl) hap ?_
      simp only [Act.put, List.setIfInBounds_toArray, List.set_cons_succ, List.set_cons_zero]
      refine gw_val (by kernel_rfl) (some 3) rfl (v4) (by kernel_rfl) ?_
      simp only [Act.put, List.setIfInBounds_toArray, List.set_cons_succ, List.set_cons_zero]
      apply wpList_nil
      have HO4 := Lib.hid hO4
      have HB4 := Lib.hid hB4
      clear hX hO2 hb1 hb3 hb4 hap hO4 hB4 hB2 hC3 hV hws
      go_wp2_with fail
      go_roundg (gk - 1)
      case measure => have := HG.out; omega
      case rel => exact ⟨k + 1, by congr 1, HG.out.2.2, HO4.out, HB4.out, HG.out.1⟩
    · obtain rfl : k = n := by omega
      have hR1 := HR.out
      rw [hR1] at hO
      have hd : decide ((k : Int) < (k : Int)) = false := decide_eq_false (by omega)
      have hd2 : decide (k < k) = false := decide_eq_false (by omega)
      have HO := Lib.hid hO
      have HB2 := Lib.hid (HB.out.trans hB)
      clear hR1 hO hB hg
      go_wp2_with fail
      go_ret
      exact ⟨_, rfl, by rw [HN.out]; exact HO.out, HB2.out⟩
theorem take_same (A B : List Int) (k : Nat) (ha : k < A.length) (hb : k < B.length) (h : A.take k = B.take k) : (A.take (k + 1) = B.take (k + 1)) ↔ A.getD k 0 = B.getD k 0 := by
  rw [List.take_succ_eq_append_getElem ha, List.take_succ_eq_append_getElem hb, h, getD_lt A k 0 ha, getD_lt B k 0 hb]
  exact ⟨fun e => by
    have := List.append_cancel_left e
    simpa only [List.cons.injEq, and_true] using this, fun e => by rw [e]⟩
set_option maxRecDepth 100000 in
set_option maxHeartbeats 2000000 in
theorem ref_same (A B : List Int) (a b : Option Addr) (ca cb : Nat) (w : World) (hA : Cs w a (icells A)) (hB : Cs w b (icells B)) (hn : A.length ≤ 100000) :
    Calls Try.prog 11 #[.slice a A.length ca, .slice b B.length cb] w fun e w' => e = .returned (.bool (decide (A = B))) ∧ Below w.heap.size w w' := by
  have hR : ∃ R, R = decide (A = B) := ⟨_, rfl⟩
  obtain ⟨R, hR⟩ := hR
  rw [← hR]
  by_cases hl : A.length = B.length
  · have HA := Lib.hid hA
    have HBB := Lib.hid hB
    have hd0 : ((A.length : Int) != (B.length : Int)) = false := by simp [hl]
    obtain ⟨n, hna⟩ : ∃ n, n = A.length := ⟨_, rfl⟩
    have HNA := Lib.hid hna
    have HNB : Hid (n = B.length) := Lib.hid (by omega)
    have HR := Lib.hid hR
    rw [← hl, ← hna]
    rw [← hna] at hn
    clear hna hl hA hB hR hd0
    go_enter Try.func11, Try.ntmps11
    go_wp2_with fail
    go_loopg [13] n (fun g s13 wx => ∃ k : Nat, s13 = .int .i64 k ∧ k ≤ n ∧ Hid (A.take k = B.take k) ∧ Below w.heap.size w wx ∧ n - k = g)
    case atStart => exact ⟨0, rfl, by omega, Lib.hid rfl, Below.refl _ _, rfl⟩
    case round =>
      obtain ⟨k, rfl, hk, hT, hB, hg⟩ := hrel
      by_cases hlt : k < n
      · have hd : decide ((k : Int) < (n : Int)) = true := decide_eq_true (by omega)
        have hd2 : decide (k < n) = true := decide_eq_true (by omega)
        have hka : k < A.length := by rw [← HNA.out]; exact hlt
        have hkb : k < B.length := by rw [← HNB.out]; exact hlt
        obtain ⟨ba, oa, rfl, hba, hca⟩ := int_at (HA.out.below hB) hka
        obtain ⟨bb, ob, rfl, hbb, hcb⟩ := int_at (HBB.out.below hB) hkb
        have HTS := Lib.hid (take_same A B k hka hkb hT.out)
        generalize A.getD k 0 = x at *
        generalize B.getD k 0 = y at *
        have HG : Hid (n - (k + 1) = gk - 1 ∧ 0 < gk ∧ k + 1 ≤ n) := Lib.hid ⟨by omega, by omega, by omega⟩
        clear hg hka hkb hT
        go_upto_region 6 with fail
        refine wp_region_class (C := fun w' => Below wr.heap.size wr w') (by kernel_rfl) (by kernel_rfl) (Below.refl _ wr).drew ?_
        refine gq_val (by kernel_rfl) (some 16) rfl (.slice (some ⟨ba, oa, none⟩) n ca) (fun w' _ => by kernel_rfl) ?_
        simp only [Act.put, List.setIfInBounds_toArray, List.set_cons_succ, List.set_cons_zero]
        refine gq_val (by kernel_rfl) (some 17) rfl (.int .i64 k) (fun w' _ => by kernel_rfl) ?_
        simp only [Act.put, List.setIfInBounds_toArray, List.set_cons_succ, List.set_cons_zero]
        refine gq_val (by kernel_rfl) (some 18) rfl (.pointer (some ⟨ba, oa + k, none⟩)) (fun w' _ => idx_int ba oa n ca k hlt w' _ _ rfl (by kernel_rfl) (by kernel_rfl)) ?_
        simp only [Act.put, List.setIfInBounds_toArray, List.set_cons_succ, List.set_cons_zero]
        refine gq_load (by kernel_rfl) (some 19) rfl 3 (.tmp 18) rfl ⟨ba, oa + k, none⟩ (.int .i64 x) (by kernel_rfl) (fun w' hC => load_cell ((hC.cell (p := ⟨ba, oa + k, none⟩) hba).trans hca) (by kernel_rfl)) ?_
        simp only [Act.put, List.setIfInBounds_toArray, List.set_cons_succ, List.set_cons_zero]
        refine gq_val (by kernel_rfl) (some 20) rfl (.slice (some ⟨bb, ob, none⟩) n cb) (fun w' _ => by kernel_rfl) ?_
        simp only [Act.put, List.setIfInBounds_toArray, List.set_cons_succ, List.set_cons_zero]
        refine gq_val (by kernel_rfl) (some 21) rfl (.int .i64 k) (fun w' _ => by kernel_rfl) ?_
        simp only [Act.put, List.setIfInBounds_toArray, List.set_cons_succ, List.set_cons_zero]
        refine gq_val (by kernel_rfl) (some 22) rfl (.pointer (some ⟨bb, ob + k, none⟩)) (fun w' _ => idx_int bb ob n cb k hlt w' _ _ rfl (by kernel_rfl) (by kernel_rfl)) ?_
        simp only [Act.put, List.setIfInBounds_toArray, List.set_cons_succ, List.set_cons_zero]
        refine gq_load (by kernel_rfl) (some 23) rfl 3 (.tmp 22) rfl ⟨bb, ob + k, none⟩ (.int .i64 y) (by kernel_rfl) (fun w' hC => load_cell ((hC.cell (p := ⟨bb, ob + k, none⟩) hbb).trans hcb) (by kernel_rfl)) ?_
        simp only [Act.put, List.setIfInBounds_toArray, List.set_cons_succ, List.set_cons_zero]
        refine gq_val (by kernel_rfl) (some 24) rfl (.bool (x != y)) (fun w' _ => by kernel_rfl) ?_
        simp only [Act.put, List.setIfInBounds_toArray, List.set_cons_succ, List.set_cons_zero]
        refine wpQuiet_nil ?_
        intro V hV
        have HB2 := Lib.hid (hB.trans (hV.mono hB.size))
        clear hV hB hca hcb hba hbb
        by_cases hxy : x = y
        · have ht : (x != y) = false := by simp [hxy]
          have HT2 := Lib.hid (HTS.out.2 hxy)
          rw [ht]
          clear ht hxy HTS
          go_wp2_with fail
          go_roundg (gk - 1)
          case measure => have := HG.out; omega
          case rel => exact ⟨k + 1, by congr 1, HG.out.2.2, HT2, HB2.out, HG.out.1⟩
        · have ht : (x != y) = true := by simp [hxy]
          have HF : Hid (R = false) := Lib.hid (by
            rw [HR.out]
            refine decide_eq_false fun e => hxy (HTS.out.1 ?_)
            rw [e])
          rw [ht]
          clear ht hxy HTS
          go_wp2_with fail
          go_ret
          exact ⟨by rw [HF.out]; rfl, HB2.out⟩
      · obtain rfl : k = n := by omega
        have HF : Hid (R = true) := Lib.hid (by
          rw [HR.out]
          refine decide_eq_true ?_
          have := hT.out
          rw [List.take_of_length_le (by rw [← HNA.out]; exact Nat.le_refl _), List.take_of_length_le (by rw [← HNB.out]; exact Nat.le_refl _)] at this
          exact this)
        have hd : decide ((k : Int) < (k : Int)) = false := decide_eq_false (by omega)
        have hd2 : decide (k < k) = false := decide_eq_false (by omega)
        have HB2 := Lib.hid hB
        clear hT hB hg
        go_wp2_with fail
        go_ret
        exact ⟨by rw [HF.out]; rfl, HB2.out⟩
  · have hF : R = false := by rw [hR]; exact decide_eq_false fun e => hl (by rw [e])
    have hd0 : ((A.length : Int) != (B.length : Int)) = true := by
      have : (A.length : Int) ≠ (B.length : Int) := by omega
      simpa using this
    have hd1 : decide (A.length = B.length) = false := decide_eq_false hl
    rw [hF]
    generalize A.length = n at *
    generalize B.length = k at *
    clear hR hF hA hB
    go_enter Try.func11, Try.ntmps11
    go_wp2_with fail
    go_ret
    exact ⟨rfl, Below.refl _ _⟩

end Go.Proofs.Ytefinpapkjgpoaa
