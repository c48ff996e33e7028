/-
  The contracts of the reference's Place, SlotAt, Next.
-/
import Derived.Test.YtefinpapkjgpoaaLB
namespace Go.Proofs.Ytefinpapkjgpoaa
open Go.RowKit
set_option linter.unusedSimpArgs false
set_option linter.unusedVariables false

set_option maxRecDepth 100000 in
set_option maxHeartbeats 2000000 in
theorem ref_place (m : LM) (s : Int) (ea fa : Option Addr) (ec fc : Nat) (w : World) (h : LV w ea fa ec fc m) :
    Calls Try.prog 19 #[.agg (lv ea fa ec fc m), .int .i64 s] w fun e w' => e = .returned (.int .i64 (placeM m s)) ∧ Below w.heap.size w w' := by
  have hb0 : Below w.heap.size w (w.alloc (.cells (lv ea fa ec fc m) 28)) := (Below.refl _ w).alloc (by simp) _
  have hX0 : Bx (w.alloc (.cells (lv ea fa ec fc m) 28)) w.heap.size (lv ea fa ec fc m) 28 := heap_alloc_last w _
  have h0 := h.below hb0
  have HR := Lib.hid (show placeG s (m.E.drop 0) 0 = placeM m s from rfl)
  have hen := h.en
  generalize placeM m s = R at *
  clear h
  go_enter Try.func19, Try.ntmps19
  go_upto_region 1 with fail
  change Code.wp _ _ _ _ (w.alloc (.cells (lv ea fa ec fc m) 28))
  generalize (w.alloc (.cells (lv ea fa ec fc m) 28)) = W at *
  apply wp_region_lit
  refine gw_val (by kernel_rfl) (some 7) rfl (.pointer (some ⟨w.heap.size, 0, none⟩)) (by kernel_rfl) ?_
  simp only [Act.put, List.setIfInBounds_toArray, List.set_cons_succ, List.set_cons_zero]
  refine gw_load (by kernel_rfl) (some 8) rfl 26 (.tmp 7) rfl ⟨w.heap.size, 0, none⟩ (.slice ea m.E.length ec) (by kernel_rfl) (hX0.load rfl (by kernel_rfl)) ?_
  simp only [Act.put, List.setIfInBounds_toArray, List.set_cons_succ, List.set_cons_zero]
  refine gw_val (by kernel_rfl) (some 9) rfl (.int .i64 m.E.length) (by kernel_rfl) ?_
  simp only [Act.put, List.setIfInBounds_toArray, List.set_cons_succ, List.set_cons_zero]
  refine gw_val (by kernel_rfl) (some 10) rfl (.int .i64 0) (by kernel_rfl) ?_
  simp only [Act.put, List.setIfInBounds_toArray, List.set_cons_succ, List.set_cons_zero]
  apply wpList_nil
  generalize hn : m.E.length = n at *
  have HN := Lib.hid hn
  have HB := Lib.hid hb0
  have HL := Lib.hid h0.e
  clear hn hX0 h0 hb0
  go_wp2_with fail
  go_loopg [10] n (fun g s10 wx => ∃ k : Nat, s10 = .int .i64 k ∧ k ≤ n ∧ Hid (placeG s (m.E.drop k) k = R) ∧ Below W.heap.size W wx ∧ n - k = g)
  case atStart => exact ⟨0, rfl, by omega, HR, Below.refl _ _, rfl⟩
  case round =>
    obtain ⟨k, rfl, hk, hR, hB, hg⟩ := hrel
    by_cases hlt : k < n
    · have hd : decide ((k : Int) < (n : Int)) = true := decide_eq_true (by omega)
      have hd2 : decide (k < n) = true := decide_eq_true (by omega)
      obtain ⟨b, off, rfl, hbb, hc0, hc1⟩ := el_at (HL.out.below hB) (k := k) (by rw [HN.out]; exact hlt)
      have hR1 := hR.out
      rw [placeG_drop s m.E k (by rw [HN.out]; exact hlt)] at hR1
      generalize (m.E.getD k (0, 0)).1 = x at *
      generalize (m.E.getD k (0, 0)).2 = y at *
      have HR1 := Lib.hid hR1
      have HG : Hid (n - (k + 1) = gk - 1 ∧ 0 < gk ∧ k + 1 ≤ n) := Lib.hid ⟨by omega, by omega, by omega⟩
      clear hR1 hR hg
      go_upto_region 3 with fail
      apply wp_region_lit
      refine gw_val (by kernel_rfl) (some 12) rfl (.int .i64 k) (by kernel_rfl) ?_
      simp only [Act.put, List.setIfInBounds_toArray, List.set_cons_succ, List.set_cons_zero]
      refine gw_val (by kernel_rfl) (some 13) rfl (.pointer (some ⟨b, off + k * 2, none⟩)) (idx_el b off n ec k hlt wr _ _ rfl (by kernel_rfl) (by kernel_rfl)) ?_
      simp only [Act.put, List.setIfInBounds_toArray, List.set_cons_succ, List.set_cons_zero]
      refine gw_load (by kernel_rfl) (some 14) rfl 40 (.tmp 13) rfl ⟨b, off + k * 2, none⟩ (.agg #[.int .i64 x, .int .i64 y]) (by kernel_rfl) (load_el hc0 hc1) ?_
      simp only [Act.put, List.setIfInBounds_toArray, List.set_cons_succ, List.set_cons_zero]
      refine run_to rfl (some 6) rfl (.pointer (some ⟨wr.heap.size, 0, none⟩)) (wr.alloc (.cells #[.int .i64 0, .int .i64 0] 40)) (by kernel_rfl) ?_
      simp only [Act.put, List.setIfInBounds_toArray, List.set_cons_succ, List.set_cons_zero]
      refine gw_val (by kernel_rfl) (some 5) rfl (.int .i64 k) (by kernel_rfl) ?_
      simp only [Act.put, List.setIfInBounds_toArray, List.set_cons_succ, List.set_cons_zero]
      apply wpList_store_new (w := wr) (ty := 40) (x := .tmp 6) (y := .tmp 14) (c := #[.int .i64 0, .int .i64 0]) (c' := #[.int .i64 x, .int .i64 y])
      case hgd => rfl
      case ho => rfl
      case hx => kernel_rfl
      case hy => kernel_rfl
      case hi => kernel_rfl
      case hz => rfl
      case h1 => exact one_pair _ _
      simp only [Act.put]
      apply wpList_nil
      have hX : Bx (wr.alloc (.cells #[.int .i64 x, .int .i64 y] 40)) wr.heap.size #[.int .i64 x, .int .i64 y] 40 := heap_alloc_last wr _
      have hB2 := hB.alloc hB.size (.cells #[.int .i64 x, .int .i64 y] 40)
      generalize wr.alloc (.cells #[.int .i64 x, .int .i64 y] 40) = V at *
      generalize wr.heap.size = gx at *
      clear hc0 hc1 hbb hB
      go_upto_region 4 with fail
      apply wp_region_lit
      refine gw_val (by kernel_rfl) (some 15) rfl (.pointer (some ⟨gx, 0, none⟩)) (by kernel_rfl) ?_
      simp only [Act.put, List.setIfInBounds_toArray, List.set_cons_succ, List.set_cons_zero]
      refine gw_load (by kernel_rfl) (some 16) rfl 3 (.tmp 15) rfl ⟨gx, 0, none⟩ (.int .i64 x) (by kernel_rfl) (hX.load rfl (by kernel_rfl)) ?_
      simp only [Act.put, List.setIfInBounds_toArray, List.set_cons_succ, List.set_cons_zero]
      refine gw_val (by kernel_rfl) (some 17) rfl (.int .i64 s) (by kernel_rfl) ?_
      simp only [Act.put, List.setIfInBounds_toArray, List.set_cons_succ, List.set_cons_zero]
      refine gw_val (by kernel_rfl) (some 18) rfl (.bool (x == s)) (by kernel_rfl) ?_
      simp only [Act.put, List.setIfInBounds_toArray, List.set_cons_succ, List.set_cons_zero]
      apply wpList_nil
      clear hX
      by_cases hxs : x = s
      · have hR2 := HR1.out
        rw [if_pos hxs] at hR2
        have ht : (x == s) = true := by simp [hxs]
        rw [ht]
        have HR2 := Lib.hid hR2
        have HB2 := Lib.hid (HB.out.trans (hB2.mono HB.out.size))
        clear hR2 HR1 hxs ht hB2
        go_wp2_with fail
        go_ret
        exact ⟨by rw [HR2.out]; rfl, HB2.out⟩
      · have hR2 := HR1.out
        rw [if_neg hxs] at hR2
        have ht : (x == s) = false := by simp [hxs]
        rw [ht]
        have HR2 := Lib.hid hR2
        have HB2 := Lib.hid hB2
        clear hR2 HR1 hxs ht hB2
        go_wp2_with fail
        go_roundg (gk - 1)
        case measure => have := HG.out; omega
        case rel => exact ⟨k + 1, by congr 1, HG.out.2.2, HR2, HB2.out, HG.out.1⟩
    · have hke : k = n := by omega
      have hR1 := hR.out
      rw [List.drop_eq_nil_of_le (by rw [HN.out]; omega)] at hR1
      have HR1 := Lib.hid (show -1 = R from hR1)
      have hd : decide ((k : Int) < (n : Int)) = false := decide_eq_false (by omega)
      have hd2 : decide (k < n) = false := decide_eq_false (by omega)
      have HB2 := Lib.hid (HB.out.trans (hB.mono HB.out.size))
      clear hke hR1 hR hg hk hlt hB
      go_wp2_with fail
      go_ret
      exact ⟨by rw [← HR1.out]; rfl, HB2.out⟩
set_option maxRecDepth 100000 in
set_option maxHeartbeats 2000000 in
theorem ref_slotAt (m : LM) (i : Int) (ea fa : Option Addr) (ec fc : Nat) (w : World) (h : LV w ea fa ec fc m) :
    Calls Try.prog 16 #[.agg (lv ea fa ec fc m), .int .i64 i] w fun e w' => e = .returned (.int .i64 (slotAt m i)) ∧ Below w.heap.size w w' := by
  have hb0 : Below w.heap.size w (w.alloc (.cells (lv ea fa ec fc m) 28)) := (Below.refl _ w).alloc (by simp) _
  have hX0 : Bx (w.alloc (.cells (lv ea fa ec fc m) 28)) w.heap.size (lv ea fa ec fc m) 28 := heap_alloc_last w _
  have h0 := h.below hb0
  have hen := h.en
  have he0 := h0.e
  unfold slotAt
  generalize hE : m.E = E at *
  have HE := Lib.hid hE
  clear h h0 hE
  by_cases hi0 : i < 0
  · rw [if_pos (.inl hi0)]
    have hd : decide (i < 0) = true := decide_eq_true hi0
    have HB := Lib.hid hb0
    clear hb0
    go_enter Try.func16, Try.ntmps16
    go_upto_region 1 with fail
    change Code.wp _ _ _ _ (w.alloc (.cells (lv ea fa ec fc m) 28))
    generalize (w.alloc (.cells (lv ea fa ec fc m) 28)) = W at *
    apply wp_region_lit
    refine gw_val (by kernel_rfl) (some 5) rfl (.int .i64 i) (by kernel_rfl) ?_
    simp only [Act.put, List.setIfInBounds_toArray, List.set_cons_succ, List.set_cons_zero]
    refine gw_val (by kernel_rfl) (some 6) rfl (.bool (decide (i < 0))) (by kernel_rfl) ?_
    simp only [Act.put, List.setIfInBounds_toArray, List.set_cons_succ, List.set_cons_zero]
    rw [hd]
    refine gw_val (by kernel_rfl) (some 7) rfl (.bool true) (by kernel_rfl) ?_
    simp only [Act.put, List.setIfInBounds_toArray, List.set_cons_succ, List.set_cons_zero]
    refine gw_not (by kernel_rfl) (some 8) rfl ?_
    simp only [Act.put, List.setIfInBounds_toArray, List.set_cons_succ, List.set_cons_zero]
    refine gw_not (by kernel_rfl) (some 9) rfl ?_
    simp only [Act.put, List.setIfInBounds_toArray, List.set_cons_succ, List.set_cons_zero]
    refine gw_not (by kernel_rfl) (some 10) rfl ?_
    simp only [Act.put, List.setIfInBounds_toArray, List.set_cons_succ, List.set_cons_zero]
    refine gw_not (by kernel_rfl) (some 11) rfl ?_
    simp only [Act.put, List.setIfInBounds_toArray, List.set_cons_succ, List.set_cons_zero]
    refine gw_not (by kernel_rfl) (some 12) rfl ?_
    simp only [Act.put, List.setIfInBounds_toArray, List.set_cons_succ, List.set_cons_zero]
    refine gw_val (by kernel_rfl) (some 13) rfl (.bool true) (by kernel_rfl) ?_
    simp only [Act.put, List.setIfInBounds_toArray, List.set_cons_succ, List.set_cons_zero]
    apply wpList_nil
    clear hX0
    go_wp2_with fail
    go_ret
    exact ⟨rfl, HB.out⟩
  · have hd : decide (i < 0) = false := decide_eq_false hi0
    have hll : ∀ W : World, Bx W w.heap.size (lv ea fa ec fc m) 28 → (Instr.loadAt 26 (.pointer (some ⟨w.heap.size, 0, none⟩))).run Try.prog W = .ok (.slice ea E.length ec) W := fun W hX => by
      have := hX.load (i := 0) (v := .slice ea m.E.length ec) (ty := 26) rfl (by kernel_rfl)
      rwa [HE.out] at this
    by_cases hi1 : (E.length : Int) ≤ i
    · rw [if_pos (.inr hi1)]
      have hd2 : decide ((E.length : Int) ≤ i) = true := decide_eq_true hi1
      have HB := Lib.hid hb0
      generalize E.length = n at *
      clear hb0
      go_enter Try.func16, Try.ntmps16
      go_upto_region 1 with fail
      change Code.wp _ _ _ _ (w.alloc (.cells (lv ea fa ec fc m) 28))
      generalize (w.alloc (.cells (lv ea fa ec fc m) 28)) = W at *
      apply wp_region_lit
      refine gw_val (by kernel_rfl) (some 5) rfl (.int .i64 i) (by kernel_rfl) ?_
      simp only [Act.put, List.setIfInBounds_toArray, List.set_cons_succ, List.set_cons_zero]
      refine gw_val (by kernel_rfl) (some 6) rfl (.bool (decide (i < 0))) (by kernel_rfl) ?_
      simp only [Act.put, List.setIfInBounds_toArray, List.set_cons_succ, List.set_cons_zero]
      rw [hd]
      refine gw_val (by kernel_rfl) (some 7) rfl (.bool false) (by kernel_rfl) ?_
      simp only [Act.put, List.setIfInBounds_toArray, List.set_cons_succ, List.set_cons_zero]
      refine gw_val (by kernel_rfl) (some 8) rfl (.int .i64 i) (by kernel_rfl) ?_
      simp only [Act.put, List.setIfInBounds_toArray, List.set_cons_succ, List.set_cons_zero]
      refine gw_val (by kernel_rfl) (some 9) rfl (.pointer (some ⟨w.heap.size, 0, none⟩)) (by kernel_rfl) ?_
      simp only [Act.put, List.setIfInBounds_toArray, List.set_cons_succ, List.set_cons_zero]
      refine gw_load (by kernel_rfl) (some 10) rfl 26 (.tmp 9) rfl ⟨w.heap.size, 0, none⟩ (.slice ea n ec) (by kernel_rfl) (hll W hX0) ?_
      simp only [Act.put, List.setIfInBounds_toArray, List.set_cons_succ, List.set_cons_zero]
      refine gw_val (by kernel_rfl) (some 11) rfl (.int .i64 n) (by kernel_rfl) ?_
      simp only [Act.put, List.setIfInBounds_toArray, List.set_cons_succ, List.set_cons_zero]
      refine gw_val (by kernel_rfl) (some 12) rfl (.bool (decide ((n : Int) ≤ i))) (by kernel_rfl) ?_
      simp only [Act.put, List.setIfInBounds_toArray, List.set_cons_succ, List.set_cons_zero]
      rw [hd2]
      refine gw_val (by kernel_rfl) (some 13) rfl (.bool true) (by kernel_rfl) ?_
      simp only [Act.put, List.setIfInBounds_toArray, List.set_cons_succ, List.set_cons_zero]
      apply wpList_nil
      clear hX0 hll
      go_wp2_with fail
      go_ret
      exact ⟨rfl, HB.out⟩
    · rw [if_neg (by omega)]
      have hd2 : decide ((E.length : Int) ≤ i) = false := decide_eq_false hi1
      obtain ⟨k, rfl⟩ := Int.eq_ofNat_of_zero_le (show 0 ≤ i by omega)
      have hk : k < E.length := by omega
      rw [Int.toNat_natCast]
      obtain ⟨b, off, rfl, hbb, hc0, -⟩ := el_at he0 hk
      generalize (E.getD k (0, 0)).1 = x at *
      generalize E.length = n at *
      have HB := Lib.hid hb0
      clear hb0 he0 hbb
      go_enter Try.func16, Try.ntmps16
      go_upto_region 1 with fail
      change Code.wp _ _ _ _ (w.alloc (.cells (lv (some ⟨b, off, none⟩) fa ec fc m) 28))
      generalize w.alloc (.cells (lv (some ⟨b, off, none⟩) fa ec fc m) 28) = W at *
      apply wp_region_lit
      refine gw_val (by kernel_rfl) (some 5) rfl (.int .i64 k) (by kernel_rfl) ?_
      simp only [Act.put, List.setIfInBounds_toArray, List.set_cons_succ, List.set_cons_zero]
      refine gw_val (by kernel_rfl) (some 6) rfl (.bool (decide ((k : Int) < 0))) (by kernel_rfl) ?_
      simp only [Act.put, List.setIfInBounds_toArray, List.set_cons_succ, List.set_cons_zero]
      rw [hd]
      refine gw_val (by kernel_rfl) (some 7) rfl (.bool false) (by kernel_rfl) ?_
      simp only [Act.put, List.setIfInBounds_toArray, List.set_cons_succ, List.set_cons_zero]
      refine gw_val (by kernel_rfl) (some 8) rfl (.int .i64 k) (by kernel_rfl) ?_
      simp only [Act.put, List.setIfInBounds_toArray, List.set_cons_succ, List.set_cons_zero]
      refine gw_val (by kernel_rfl) (some 9) rfl (.pointer (some ⟨w.heap.size, 0, none⟩)) (by kernel_rfl) ?_
      simp only [Act.put, List.setIfInBounds_toArray, List.set_cons_succ, List.set_cons_zero]
      refine gw_load (by kernel_rfl) (some 10) rfl 26 (.tmp 9) rfl ⟨w.heap.size, 0, none⟩ (.slice (some ⟨b, off, none⟩) n ec) (by kernel_rfl) (hll W hX0) ?_
      simp only [Act.put, List.setIfInBounds_toArray, List.set_cons_succ, List.set_cons_zero]
      refine gw_val (by kernel_rfl) (some 11) rfl (.int .i64 n) (by kernel_rfl) ?_
      simp only [Act.put, List.setIfInBounds_toArray, List.set_cons_succ, List.set_cons_zero]
      refine gw_val (by kernel_rfl) (some 12) rfl (.bool (decide ((n : Int) ≤ (k : Int)))) (by kernel_rfl) ?_
      simp only [Act.put, List.setIfInBounds_toArray, List.set_cons_succ, List.set_cons_zero]
      rw [hd2]
      refine gw_val (by kernel_rfl) (some 13) rfl (.bool false) (by kernel_rfl) ?_
      simp only [Act.put, List.setIfInBounds_toArray, List.set_cons_succ, List.set_cons_zero]
      apply wpList_nil
      go_upto_region 3 with fail
      apply wp_region_lit
      refine gw_val (by kernel_rfl) (some 14) rfl (.pointer (some ⟨w.heap.size, 0, none⟩)) (by kernel_rfl) ?_
      simp only [Act.put, List.setIfInBounds_toArray, List.set_cons_succ, List.set_cons_zero]
      refine gw_load (by kernel_rfl) (some 15) rfl 26 (.tmp 14) rfl ⟨w.heap.size, 0, none⟩ (.slice (some ⟨b, off, none⟩) n ec) (by kernel_rfl) (hll W hX0) ?_
      simp only [Act.put, List.setIfInBounds_toArray, List.set_cons_succ, List.set_cons_zero]
      refine gw_val (by kernel_rfl) (some 16) rfl (.int .i64 k) (by kernel_rfl) ?_
      simp only [Act.put, List.setIfInBounds_toArray, List.set_cons_succ, List.set_cons_zero]
      refine gw_val (by kernel_rfl) (some 17) rfl (.pointer (some ⟨b, off + k * 2, none⟩)) (idx_el b off n ec k hk W _ _ rfl (by kernel_rfl) (by kernel_rfl)) ?_
      simp only [Act.put, List.setIfInBounds_toArray, List.set_cons_succ, List.set_cons_zero]
      refine gw_val (by kernel_rfl) (some 18) rfl (.pointer (some ⟨b, off + k * 2, none⟩)) (by kernel_rfl) ?_
      simp only [Act.put, List.setIfInBounds_toArray, List.set_cons_succ, List.set_cons_zero]
      refine gw_load (by kernel_rfl) (some 19) rfl 3 (.tmp 18) rfl ⟨b, off + k * 2, none⟩ (.int .i64 x) (by kernel_rfl) (load_cell hc0 (by kernel_rfl)) ?_
      simp only [Act.put, List.setIfInBounds_toArray, List.set_cons_succ, List.set_cons_zero]
      refine gw_val (by kernel_rfl) (some 4) rfl (.int .i64 x) (by kernel_rfl) ?_
      simp only [Act.put, List.setIfInBounds_toArray, List.set_cons_succ, List.set_cons_zero]
      apply wpList_nil
      clear hX0 hll hc0
      go_wp2_with fail
      go_ret
      exact ⟨rfl, HB.out⟩
set_option maxRecDepth 100000 in
set_option maxHeartbeats 2000000 in
theorem ref_next (m : LM) (s by_ : Int) (ea fa : Option Addr) (ec fc : Nat) (w : World) (h : LV w ea fa ec fc m) (h1 : -1 ≤ by_) (h2 : by_ ≤ 1) :
    Calls Try.prog 21 #[.agg (lv ea fa ec fc m), .int .i64 s, .int .i64 by_] w fun e w' => e = .returned (.int .i64 (nextM m s by_)) ∧ Below w.heap.size w w' := by
  have hb0 : Below w.heap.size w (w.alloc (.cells (lv ea fa ec fc m) 28)) := (Below.refl _ w).alloc (by simp) _
  have hX0 : Bx (w.alloc (.cells (lv ea fa ec fc m) 28)) w.heap.size (lv ea fa ec fc m) 28 := heap_alloc_last w _
  have h0 := h.below hb0
  have hr := placeM_range m s
  have CP := fun V (h : LV V ea fa ec fc m) => ref_place m s ea fa ec fc V h
  have CA := fun V (h : LV V ea fa ec fc m) => ref_slotAt m (placeM m s + by_) ea fa ec fc V h
  have hen := h.en
  unfold nextM
  generalize hp : placeM m s = p at *
  generalize slotAt m (p + by_) = q at *
  have hw : IntKind.i64.wrap (p + by_) = p + by_ := by rw [IntKind.wrap_i64]; omega
  generalize m.E.length = n at *
  have HR0 : Hid (p < 0 → (if p < 0 then -1 else q) = -1) := Lib.hid fun h => if_pos h
  have HR1 : Hid (¬ p < 0 → (if p < 0 then -1 else q) = q) := Lib.hid fun h => if_neg h
  generalize (if p < 0 then -1 else q) = R at *
  clear h hp
  go_enter Try.func21, Try.ntmps21
  go_upto_region 1 with fail
  change Code.wp _ _ _ _ (w.alloc (.cells (lv ea fa ec fc m) 28))
  generalize (w.alloc (.cells (lv ea fa ec fc m) 28)) = W at *
  apply wp_region_lit
  refine gw_load (by kernel_rfl) (some 8) rfl 28 (.tmp 3) rfl ⟨w.heap.size, 0, none⟩ (.agg (lv ea fa ec fc m)) (by kernel_rfl) (load_lv hX0) ?_
  simp only [Act.put, List.setIfInBounds_toArray, List.set_cons_succ, List.set_cons_zero]
  refine gw_val (by kernel_rfl) (some 9) rfl (.int .i64 s) (by kernel_rfl) ?_
  simp only [Act.put, List.setIfInBounds_toArray, List.set_cons_succ, List.set_cons_zero]
  refine gw_call (by kernel_rfl) (some 10) rfl 19 #[.agg (lv ea fa ec fc m), .int .i64 s] (.int .i64 p) (Below W.heap.size W) (by kernel_rfl) (CP W h0) (fun V1 hb1 => ?_)
  simp only [Act.put, List.setIfInBounds_toArray, List.set_cons_succ, List.set_cons_zero]
  refine gw_val (by kernel_rfl) (some 7) rfl (.int .i64 p) (by kernel_rfl) ?_
  simp only [Act.put, List.setIfInBounds_toArray, List.set_cons_succ, List.set_cons_zero]
  apply wpList_nil
  have hX1 := hX0.below hX0.lt hb1
  have h01 := h0.below hb1
  have hb2 := hb0.trans (hb1.mono hb0.size)
  clear hX0 h0 hb0 hb1 CP
  by_cases hp0 : p < 0
  · have hd : decide (p < 0) = true := decide_eq_true hp0
    have HR := Lib.hid (HR0.out hp0)
    have HB := Lib.hid hb2
    clear hb2 hX1 h01 CA
    go_wp2_with fail
    go_ret
    exact ⟨by rw [HR.out]; rfl, HB.out⟩
  · have hd : decide (p < 0) = false := decide_eq_false hp0
    have HR := Lib.hid (HR1.out hp0)
    go_upto_region 4 with fail
    apply wp_region_lit
    refine gw_load (by kernel_rfl) (some 13) rfl 28 (.tmp 3) rfl ⟨w.heap.size, 0, none⟩ (.agg (lv ea fa ec fc m)) (by kernel_rfl) (load_lv hX1) ?_
    simp only [Act.put, List.setIfInBounds_toArray, List.set_cons_succ, List.set_cons_zero]
    refine gw_val (by kernel_rfl) (some 14) rfl (.int .i64 p) (by kernel_rfl) ?_
    simp only [Act.put, List.setIfInBounds_toArray, List.set_cons_succ, List.set_cons_zero]
    refine gw_val (by kernel_rfl) (some 15) rfl (.int .i64 by_) (by kernel_rfl) ?_
    simp only [Act.put, List.setIfInBounds_toArray, List.set_cons_succ, List.set_cons_zero]
    refine gw_val (by kernel_rfl) (some 16) rfl (.int .i64 (IntKind.i64.wrap (p + by_))) (by kernel_rfl) ?_
    simp only [Act.put, List.setIfInBounds_toArray, List.set_cons_succ, List.set_cons_zero]
    rw [hw]
    refine gw_call (by kernel_rfl) (some 17) rfl 16 #[.agg (lv ea fa ec fc m), .int .i64 (p + by_)] (.int .i64 q) (Below V1.heap.size V1) (by kernel_rfl) (CA V1 h01) (fun V2 hb3 => ?_)
    simp only [Act.put, List.setIfInBounds_toArray, List.set_cons_succ, List.set_cons_zero]
    refine gw_val (by kernel_rfl) (some 6) rfl (.int .i64 q) (by kernel_rfl) ?_
    simp only [Act.put, List.setIfInBounds_toArray, List.set_cons_succ, List.set_cons_zero]
    apply wpList_nil
    have HB := Lib.hid (hb2.trans (hb3.mono hb2.size))
    clear hb2 hb3 hX1 h01 CA
    go_wp2_with fail
    go_ret
    exact ⟨by rw [HR.out]; rfl, HB.out⟩
end Go.Proofs.Ytefinpapkjgpoaa
