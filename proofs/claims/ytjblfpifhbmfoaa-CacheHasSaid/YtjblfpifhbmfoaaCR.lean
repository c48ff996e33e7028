/-
  The contracts of the reference's Index, Has, SameKeys (of equal lists), Distinct (of different keys), and of keyOf.
-/
import Derived.Test.YtjblfpifhbmfoaaCK
namespace Go.Proofs.Ytjblfpifhbmfoaa
open Go.RowKit
set_option linter.unusedSimpArgs false
set_option linter.unusedVariables false

/-- The index of a key from i on; none: -1. -/
def idxL (k : List Int) : List (List Int) → Nat → Int
  | [], _ => -1
  | x :: r, i => if x = k then (i : Int) else idxL k r (i + 1)
theorem idxL_at (k : List Int) (Ks : List (List Int)) (i : Nat) (h : i < Ks.length) : idxL k (Ks.drop i) i = if Ks.getD i [] = k then (i : Int) else idxL k (Ks.drop (i + 1)) (i + 1) := by
  rw [List.drop_eq_getElem_cons h, getD_lt Ks i [] h]
  rfl
theorem idxL_range (k : List Int) : ∀ (Ks : List (List Int)) (i : Nat), idxL k Ks i = -1 ∨ ∃ j : Nat, idxL k Ks i = ((i + j : Nat) : Int) ∧ j < Ks.length ∧ Ks.getD j [] = k
  | [], i => .inl rfl
  | x :: r, i => by
    unfold idxL
    by_cases h : x = k
    · rw [if_pos h]
      exact .inr ⟨0, rfl, by simp, h⟩
    · rw [if_neg h]
      rcases idxL_range k r (i + 1) with h1 | ⟨j, h1, h2, h3⟩
      · exact .inl h1
      · exact .inr ⟨j + 1, by rw [h1]; congr 1; omega, by simpa using h2, by simpa [List.getD] using h3⟩
theorem idxL_mem (k : List Int) : ∀ (Ks : List (List Int)) (i : Nat), k ∈ Ks ↔ 0 ≤ idxL k Ks i
  | [], i => by simp [idxL]
  | x :: r, i => by
    unfold idxL
    by_cases h : x = k
    · rw [if_pos h]
      simp [h]
    · rw [if_neg h, List.mem_cons]
      have := idxL_mem k r (i + 1)
      exact ⟨fun hm => this.1 (hm.resolve_left fun e => h e.symm), fun hm => .inr (this.2 hm)⟩
def zeroK : List Int := List.replicate 32 0
theorem size_key {k : List Int} (h : k.length = 32) : (Try.prog.info? 34).map (·.size) = some (w8s k).size := by
  rw [size_w8s, h]; kernel_rfl
set_option maxRecDepth 100000 in
set_option maxHeartbeats 2000000 in
theorem ref_index (al : Option Addr) (c : Nat) (Ks : List (List Int)) (k : List Int) (w : World) (hk : k.length = 32) (hR : Cs w al (kcells Ks)) (hc : Kc Ks) (hl : Ks.length ≤ 100000) :
    Calls Try.prog 26 #[.slice al Ks.length c, .agg (w8s k)] w fun e w' => e = .returned (.int .i64 (idxL k Ks 0)) ∧ Below w.heap.size w w' := by
  have hb0 : Below w.heap.size w (w.alloc (.cells (w8s k) 34)) := (Below.refl _ w).alloc (by simp) _
  have hX0 : Bx (w.alloc (.cells (w8s k) 34)) w.heap.size (w8s k) 34 := heap_alloc_last w _
  have HR := Lib.hid (show idxL k (Ks.drop 0) 0 = idxL k Ks 0 from rfl)
  have HCs := Lib.hid (hR.below hb0)
  have HC := Lib.hid hc
  generalize idxL k Ks 0 = R at *
  obtain ⟨n, hn⟩ : ∃ n, Ks.length = n := ⟨_, rfl⟩
  have HN := Lib.hid hn
  rw [hn] at hl ⊢
  clear hR hc hn
  go_enter Try.func26, Try.ntmps26
  go_upto_region 1 with fail
  change Code.wp _ _ _ _ (w.alloc (.cells (w8s k) 34))
  generalize hW : w.alloc (.cells (w8s k) 34) = W at *
  clear hW
  apply wp_region_lit
  refine gw_val (by kernel_rfl) (some 7) rfl (.slice al n c) (by kernel_rfl) ?_
  simp only [Act.put, List.setIfInBounds_toArray, List.set_cons_succ, List.set_cons_zero]
  refine gw_val (by kernel_rfl) (some 8) rfl (.int .i64 n) (by kernel_rfl) ?_
  simp only [Act.put, List.setIfInBounds_toArray, List.set_cons_succ, List.set_cons_zero]
  refine gw_val (by kernel_rfl) (some 9) rfl (.int .i64 0) (by kernel_rfl) ?_
  simp only [Act.put, List.setIfInBounds_toArray, List.set_cons_succ, List.set_cons_zero]
  apply wpList_nil
  have HB := Lib.hid hb0
  have hgl := hX0.lt
  clear hb0
  go_wp2_with fail
  go_loopg [9] n (fun gg s9 wx => ∃ i : Nat, s9 = .int .i64 i ∧ i ≤ n ∧ Hid (idxL k (Ks.drop i) i = R) ∧ Below W.heap.size W wx ∧ n - i = gg)
  case atStart => exact ⟨0, rfl, by omega, HR, Below.refl _ _, rfl⟩
  case round =>
    obtain ⟨i, rfl, hi, hR, hB, hg⟩ := hrel
    by_cases hlt : i < n
    · have hd : decide (i < n) = true := decide_eq_true hlt
      obtain ⟨b, off, rfl, hbb, hrx⟩ := key_at (HCs.out.below hB) HC.out (i := i) (by rw [HN.out]; exact hlt)
      have hx32 := HC.out.at (i := i) (by rw [HN.out]; exact hlt)
      have hR1 := hR.out
      rw [idxL_at k Ks i (by rw [HN.out]; exact hlt)] at hR1
      generalize Ks.getD i [] = x at *
      have HR1 := Lib.hid hR1
      have HG : Hid (n - (i + 1) = gk - 1 ∧ 0 < gk ∧ i + 1 ≤ n) := Lib.hid ⟨by omega, by omega, by omega⟩
      clear hR1 hR hg
      go_upto_region 2 with fail
      apply wp_region_lit
      refine gw_val (by kernel_rfl) (some 10) rfl (.bool (decide (i < n))) (lt_nat rfl i n (by kernel_rfl) (by kernel_rfl) _) ?_
      simp only [Act.put, List.setIfInBounds_toArray, List.set_cons_succ, List.set_cons_zero]
      rw [hd]
      apply wpList_nil
      go_upto_region 3 with fail
      apply wp_region_lit
      refine gw_val (by kernel_rfl) (some 11) rfl (.int .i64 i) (by kernel_rfl) ?_
      simp only [Act.put, List.setIfInBounds_toArray, List.set_cons_succ, List.set_cons_zero]
      refine gw_val (by kernel_rfl) (some 12) rfl (.pointer (some ⟨b, off + i * 32, none⟩)) (idx_key b off n c i hlt _ _ _ rfl (by kernel_rfl) (by kernel_rfl)) ?_
      simp only [Act.put, List.setIfInBounds_toArray, List.set_cons_succ, List.set_cons_zero]
      refine gw_load (by kernel_rfl) (some 13) rfl 34 (.tmp 12) rfl ⟨b, off + i * 32, none⟩ (.agg (w8s x)) (by kernel_rfl) (load_mid hrx hx32) ?_
      simp only [Act.put, List.setIfInBounds_toArray, List.set_cons_succ, List.set_cons_zero]
      refine run_to rfl (some 6) rfl (.pointer (some ⟨wr.heap.size, 0, none⟩)) (wr.alloc (.cells (w8s zeroK) 34)) (by kernel_rfl) ?_
      simp only [Act.put, List.setIfInBounds_toArray, List.set_cons_succ, List.set_cons_zero]
      refine gw_val (by kernel_rfl) (some 5) rfl (.int .i64 i) (by kernel_rfl) ?_
      simp only [Act.put, List.setIfInBounds_toArray, List.set_cons_succ, List.set_cons_zero]
      apply wpList_store_new (w := wr) (ty := 34) (x := .tmp 6) (y := .tmp 13) (c := w8s zeroK) (c' := w8s x)
      case hgd => rfl
      case ho => rfl
      case hx => kernel_rfl
      case hy => kernel_rfl
      case hi => exact size_key hx32
      case hz => rw [size_w8s, size_w8s, hx32]; rfl
      case h1 => exact one_w8s _
      simp only [Act.put]
      apply wpList_nil
      have hX : Bx (wr.alloc (.cells (w8s x) 34)) wr.heap.size (w8s x) 34 := heap_alloc_last wr _
      have hB2 := hB.alloc hB.size (.cells (w8s x) 34)
      have hX2 := hX0.below hX0.lt hB2
      generalize wr.alloc (.cells (w8s x) 34) = V at *
      generalize wr.heap.size = gx at *
      clear hrx hbb hB
      go_upto_region 4 with fail
      apply wp_region_lit
      refine gw_load (by kernel_rfl) (some 14) rfl 34 (.tmp 6) rfl ⟨gx, 0, none⟩ (.agg (w8s x)) (by kernel_rfl) (load_key hX hx32) ?_
      simp only [Act.put, List.setIfInBounds_toArray, List.set_cons_succ, List.set_cons_zero]
      refine gw_load (by kernel_rfl) (some 15) rfl 34 (.tmp 3) rfl ⟨w.heap.size, 0, none⟩ (.agg (w8s k)) (by kernel_rfl) (load_key hX2 hk) ?_
      simp only [Act.put, List.setIfInBounds_toArray, List.set_cons_succ, List.set_cons_zero]
      refine gw_val (by kernel_rfl) (some 16) rfl (.bool (x == k)) (eq_key rfl x k hx32 hk (by kernel_rfl) (by kernel_rfl) _) ?_
      simp only [Act.put, List.setIfInBounds_toArray, List.set_cons_succ, List.set_cons_zero]
      apply wpList_nil
      clear hX hX2
      by_cases hxk : x = k
      · have hR2 := HR1.out
        rw [if_pos hxk] at hR2
        have ht : (x == k) = true := by simp [hxk]
        rw [ht]
        have HR2 := Lib.hid hR2
        have HB2 : Hid (Below w.heap.size w V) := Lib.hid (HB.out.trans (hB2.mono HB.out.size))
        clear hR2 HR1 hxk ht hB2
        go_upto_region 5 with fail
        apply wp_region_lit
        refine gw_val (by kernel_rfl) (some 17) rfl (.int .i64 i) (by kernel_rfl) ?_
        simp only [Act.put, List.setIfInBounds_toArray, List.set_cons_succ, List.set_cons_zero]
        refine gw_val (by kernel_rfl) (some 4) rfl (.int .i64 i) (by kernel_rfl) ?_
        simp only [Act.put, List.setIfInBounds_toArray, List.set_cons_succ, List.set_cons_zero]
        apply wpList_nil
        go_wp2_with fail
        go_ret
        exact ⟨by rw [HR2.out]; rfl, HB2.out⟩
      · have hR2 := HR1.out
        rw [if_neg hxk] at hR2
        have ht : (x == k) = false := by simp [hxk]
        rw [ht]
        have HR2 := Lib.hid hR2
        have HB2 := Lib.hid hB2
        clear hR2 HR1 hxk ht hB2
        go_upto_region 6 with fail
        apply wp_region_lit
        refine gw_val (by kernel_rfl) (some 18) rfl (.int .i64 (i + 1 : Nat)) (add_one rfl i (by omega) (by kernel_rfl) _) ?_
        simp only [Act.put, List.setIfInBounds_toArray, List.set_cons_succ, List.set_cons_zero]
        refine gw_val (by kernel_rfl) (some 9) rfl (.int .i64 (i + 1 : Nat)) (by kernel_rfl) ?_
        simp only [Act.put, List.setIfInBounds_toArray, List.set_cons_succ, List.set_cons_zero]
        apply wpList_nil
        go_wp2_with fail
        go_roundg (gk - 1)
        case measure => have := HG.out; omega
        case rel => exact ⟨i + 1, rfl, HG.out.2.2, HR2, HB2.out, HG.out.1⟩
    · have hd : decide (i < n) = false := decide_eq_false hlt
      have hR1 := hR.out
      rw [List.drop_eq_nil_of_le (by rw [HN.out]; omega)] at hR1
      have HR1 := Lib.hid (show -1 = R from hR1)
      have HB2 : Hid (Below w.heap.size w wr) := Lib.hid (HB.out.trans (hB.mono HB.out.size))
      clear hR1 hR hg hlt hi hB hX0
      go_upto_region 2 with fail
      apply wp_region_lit
      refine gw_val (by kernel_rfl) (some 10) rfl (.bool (decide (i < n))) (lt_nat rfl i n (by kernel_rfl) (by kernel_rfl) _) ?_
      simp only [Act.put, List.setIfInBounds_toArray, List.set_cons_succ, List.set_cons_zero]
      rw [hd]
      apply wpList_nil
      go_upto_region 7 with fail
      apply wp_region_lit
      refine gw_val (by kernel_rfl) (some 4) rfl (.int .i64 (-1)) (by kernel_rfl) ?_
      simp only [Act.put, List.setIfInBounds_toArray, List.set_cons_succ, List.set_cons_zero]
      apply wpList_nil
      go_wp2_with fail
      go_ret
      exact ⟨by rw [← HR1.out]; rfl, HB2.out⟩
set_option maxRecDepth 100000 in
set_option maxHeartbeats 2000000 in
theorem ref_has (al : Option Addr) (c : Nat) (Ks : List (List Int)) (k : List Int) (w : World) (hk : k.length = 32) (hR : Cs w al (kcells Ks)) (hc : Kc Ks) (hl : Ks.length ≤ 100000) :
    Calls Try.prog 22 #[.slice al Ks.length c, .agg (w8s k)] w fun e w' => e = .returned (.bool (decide (k ∈ Ks))) ∧ Below w.heap.size w w' := by
  have hb0 : Below w.heap.size w (w.alloc (.cells (w8s k) 34)) := (Below.refl _ w).alloc (by simp) _
  have hX0 : Bx (w.alloc (.cells (w8s k) 34)) w.heap.size (w8s k) 34 := heap_alloc_last w _
  have C1 := ref_index al c Ks k _ hk (hR.below hb0) hc hl
  have hR0 : decide (k ∈ Ks) = decide (0 ≤ idxL k Ks 0) := by simp only [idxL_mem k Ks 0]
  rw [hR0]
  generalize idxL k Ks 0 = R at *
  clear hR hR0
  go_enter Try.func22, Try.ntmps22
  go_upto_region 1 with fail
  change Code.wp _ _ _ _ (w.alloc (.cells (w8s k) 34))
  generalize w.alloc (.cells (w8s k) 34) = W at *
  apply wp_region_lit
  refine gw_val (by kernel_rfl) (some 5) rfl (.slice al Ks.length c) (by kernel_rfl) ?_
  simp only [Act.put, List.setIfInBounds_toArray, List.set_cons_succ, List.set_cons_zero]
  refine gw_load (by kernel_rfl) (some 6) rfl 34 (.tmp 3) rfl ⟨w.heap.size, 0, none⟩ (.agg (w8s k)) (by kernel_rfl) (load_key hX0 hk) ?_
  simp only [Act.put, List.setIfInBounds_toArray, List.set_cons_succ, List.set_cons_zero]
  refine gw_call (by kernel_rfl) (some 7) rfl 26 #[.slice al Ks.length c, .agg (w8s k)] (.int .i64 R) (Below W.heap.size W) (by kernel_rfl) C1 (fun V hb => ?_)
  simp only [Act.put, List.setIfInBounds_toArray, List.set_cons_succ, List.set_cons_zero]
  refine gw_val (by kernel_rfl) (some 8) rfl (.bool (decide (0 ≤ R))) (by kernel_rfl) ?_
  simp only [Act.put, List.setIfInBounds_toArray, List.set_cons_succ, List.set_cons_zero]
  refine gw_val (by kernel_rfl) (some 4) rfl (.bool (decide (0 ≤ R))) (by kernel_rfl) ?_
  simp only [Act.put, List.setIfInBounds_toArray, List.set_cons_succ, List.set_cons_zero]
  apply wpList_nil
  have HB := Lib.hid (hb0.trans (hb.mono hb0.size))
  clear hb0 hb C1 hX0
  go_wp2_with fail
  go_ret
  exact ⟨rfl, HB.out⟩
set_option maxRecDepth 100000 in
set_option maxHeartbeats 2000000 in
theorem ref_same (a b : Option Addr) (ca cb : Nat) (Ks : List (List Int)) (w : World) (hA : Cs w a (kcells Ks)) (hB0 : Cs w b (kcells Ks)) (hc : Kc Ks) (hl : Ks.length ≤ 100000) :
    Calls Try.prog 18 #[.slice a Ks.length ca, .slice b Ks.length cb] w fun e w' => e = .returned (.bool true) ∧ Below w.heap.size w w' := by
  have HA := Lib.hid hA
  have HBB := Lib.hid hB0
  have HC := Lib.hid hc
  obtain ⟨n, hn⟩ : ∃ n, Ks.length = n := ⟨_, rfl⟩
  have HN := Lib.hid hn
  rw [hn] at hl ⊢
  clear hA hB0 hc hn
  go_enter Try.func18, Try.ntmps18
  go_upto_region 1 with fail
  apply wp_region_lit
  refine gw_val (by kernel_rfl) (some 6) rfl (.slice a n ca) (by kernel_rfl) ?_
  simp only [Act.put, List.setIfInBounds_toArray, List.set_cons_succ, List.set_cons_zero]
  refine gw_val (by kernel_rfl) (some 7) rfl (.int .i64 n) (by kernel_rfl) ?_
  simp only [Act.put, List.setIfInBounds_toArray, List.set_cons_succ, List.set_cons_zero]
  refine gw_val (by kernel_rfl) (some 8) rfl (.slice b n cb) (by kernel_rfl) ?_
  simp only [Act.put, List.setIfInBounds_toArray, List.set_cons_succ, List.set_cons_zero]
  refine gw_val (by kernel_rfl) (some 9) rfl (.int .i64 n) (by kernel_rfl) ?_
  simp only [Act.put, List.setIfInBounds_toArray, List.set_cons_succ, List.set_cons_zero]
  refine gw_val (by kernel_rfl) (some 10) rfl (.bool ((n : Int) != (n : Int))) (by kernel_rfl) ?_
  simp only [Act.put, List.setIfInBounds_toArray, List.set_cons_succ, List.set_cons_zero]
  rw [bne_self_eq_false]
  apply wpList_nil
  go_upto_region 3 with fail
  apply wp_region_lit
  refine gw_val (by kernel_rfl) (some 11) rfl (.slice a n ca) (by kernel_rfl) ?_
  simp only [Act.put, List.setIfInBounds_toArray, List.set_cons_succ, List.set_cons_zero]
  refine gw_val (by kernel_rfl) (some 12) rfl (.int .i64 n) (by kernel_rfl) ?_
  simp only [Act.put, List.setIfInBounds_toArray, List.set_cons_succ, List.set_cons_zero]
  refine gw_val (by kernel_rfl) (some 13) rfl (.int .i64 0) (by kernel_rfl) ?_
  simp only [Act.put, List.setIfInBounds_toArray, List.set_cons_succ, List.set_cons_zero]
  apply wpList_nil
  go_wp2_with fail
  go_loopg [13] n (fun gg s13 wx => ∃ i : Nat, s13 = .int .i64 i ∧ i ≤ n ∧ Below w.heap.size w wx ∧ n - i = gg)
  case atStart => exact ⟨0, rfl, by omega, Below.refl _ _, rfl⟩
  case round =>
    obtain ⟨i, rfl, hi, hB, hg⟩ := hrel
    by_cases hlt : i < n
    · have hd : decide (i < n) = true := decide_eq_true hlt
      obtain ⟨b1, o1, rfl, hbb, -⟩ := key_at HA.out HC.out (i := i) (by rw [HN.out]; exact hlt)
      obtain ⟨b2, o2, rfl, hb2, -⟩ := key_at HBB.out HC.out (i := i) (by rw [HN.out]; exact hlt)
      have hx32 := HC.out.at (i := i) (by rw [HN.out]; exact hlt)
      have K1 := fun V (hV : Below w.heap.size w V) => (by
        obtain ⟨b, off, e, -, h⟩ := key_at (HA.out.below hV) HC.out (i := i) (by rw [HN.out]; exact hlt)
        simp only [Option.some.injEq, Addr.mk.injEq, and_true] at e
        obtain ⟨rfl, rfl⟩ := e
        exact h : V.rangeAt b1 (o1 + i * 32) ((Ks.getD i []).map (Value.int .u8)))
      have K2 := fun V (hV : Below w.heap.size w V) => (by
        obtain ⟨b, off, e, -, h⟩ := key_at (HBB.out.below hV) HC.out (i := i) (by rw [HN.out]; exact hlt)
        simp only [Option.some.injEq, Addr.mk.injEq, and_true] at e
        obtain ⟨rfl, rfl⟩ := e
        exact h : V.rangeAt b2 (o2 + i * 32) ((Ks.getD i []).map (Value.int .u8)))
      generalize Ks.getD i [] = x at *
      have HG : Hid (n - (i + 1) = gk - 1 ∧ 0 < gk ∧ i + 1 ≤ n) := Lib.hid ⟨by omega, by omega, by omega⟩
      have hC0 : Below w.heap.size w { wr with drawn := wr.drawn + 1 } := hB.drew
      clear hg hbb hb2
      go_upto_region 4 with fail
      apply wp_region_lit
      refine gw_val (by kernel_rfl) (some 14) rfl (.bool (decide (i < n))) (lt_nat rfl i n (by kernel_rfl) (by kernel_rfl) _) ?_
      simp only [Act.put, List.setIfInBounds_toArray, List.set_cons_succ, List.set_cons_zero]
      rw [hd]
      apply wpList_nil
      go_upto_region 5 with fail
      apply wp_region_lit
      refine gw_val (by kernel_rfl) (some 15) rfl (.int .i64 i) (by kernel_rfl) ?_
      simp only [Act.put, List.setIfInBounds_toArray, List.set_cons_succ, List.set_cons_zero]
      refine gw_val (by kernel_rfl) (some 5) rfl (.int .i64 i) (by kernel_rfl) ?_
      simp only [Act.put, List.setIfInBounds_toArray, List.set_cons_succ, List.set_cons_zero]
      apply wpList_nil
      go_upto_region 6 with fail
      refine wp_region_class (C := Below w.heap.size w) (by kernel_rfl) (by kernel_rfl) hC0 ?_
      refine gq_val (by kernel_rfl) (some 16) rfl (.slice (some ⟨b1, o1, none⟩) n ca) (fun V hV => by kernel_rfl) ?_
      simp only [Act.put, List.setIfInBounds_toArray, List.set_cons_succ, List.set_cons_zero]
      refine gq_val (by kernel_rfl) (some 17) rfl (.int .i64 i) (fun V hV => by kernel_rfl) ?_
      simp only [Act.put, List.setIfInBounds_toArray, List.set_cons_succ, List.set_cons_zero]
      refine gq_val (by kernel_rfl) (some 18) rfl (.pointer (some ⟨b1, o1 + i * 32, none⟩)) (fun V hV => idx_key b1 o1 n ca i hlt V _ _ rfl (by kernel_rfl) (by kernel_rfl)) ?_
      simp only [Act.put, List.setIfInBounds_toArray, List.set_cons_succ, List.set_cons_zero]
      refine gq_load (by kernel_rfl) (some 19) rfl 34 (.tmp 18) rfl ⟨b1, o1 + i * 32, none⟩ (.agg (w8s x)) (by kernel_rfl) (fun V hV => load_mid (K1 V hV) hx32) ?_
      simp only [Act.put, List.setIfInBounds_toArray, List.set_cons_succ, List.set_cons_zero]
      refine gq_val (by kernel_rfl) (some 20) rfl (.slice (some ⟨b2, o2, none⟩) n cb) (fun V hV => by kernel_rfl) ?_
      simp only [Act.put, List.setIfInBounds_toArray, List.set_cons_succ, List.set_cons_zero]
      refine gq_val (by kernel_rfl) (some 21) rfl (.int .i64 i) (fun V hV => by kernel_rfl) ?_
      simp only [Act.put, List.setIfInBounds_toArray, List.set_cons_succ, List.set_cons_zero]
      refine gq_val (by kernel_rfl) (some 22) rfl (.pointer (some ⟨b2, o2 + i * 32, none⟩)) (fun V hV => idx_key b2 o2 n cb i hlt V _ _ rfl (by kernel_rfl) (by kernel_rfl)) ?_
      simp only [Act.put, List.setIfInBounds_toArray, List.set_cons_succ, List.set_cons_zero]
      refine gq_load (by kernel_rfl) (some 23) rfl 34 (.tmp 22) rfl ⟨b2, o2 + i * 32, none⟩ (.agg (w8s x)) (by kernel_rfl) (fun V hV => load_mid (K2 V hV) hx32) ?_
      simp only [Act.put, List.setIfInBounds_toArray, List.set_cons_succ, List.set_cons_zero]
      refine gq_val (by kernel_rfl) (some 24) rfl (.bool (!(x == x))) (fun V hV => ne_key rfl x x hx32 hx32 (by kernel_rfl) (by kernel_rfl) V) ?_
      simp only [Act.put, List.setIfInBounds_toArray, List.set_cons_succ, List.set_cons_zero]
      rw [show (!(x == x)) = false by simp]
      apply wpQuiet_nil
      intro V hV
      have HV := Lib.hid hV
      clear hV hC0 hB K1 K2
      go_upto_region 8 with fail
      apply wp_region_lit
      refine gw_val (by kernel_rfl) (some 25) rfl (.int .i64 (i + 1 : Nat)) (add_one rfl i (by omega) (by kernel_rfl) _) ?_
      simp only [Act.put, List.setIfInBounds_toArray, List.set_cons_succ, List.set_cons_zero]
      refine gw_val (by kernel_rfl) (some 13) rfl (.int .i64 (i + 1 : Nat)) (by kernel_rfl) ?_
      simp only [Act.put, List.setIfInBounds_toArray, List.set_cons_succ, List.set_cons_zero]
      apply wpList_nil
      go_wp2_with fail
      go_roundg (gk - 1)
      case measure => have := HG.out; omega
      case rel => exact ⟨i + 1, rfl, HG.out.2.2, HV.out, HG.out.1⟩
    · have hd : decide (i < n) = false := decide_eq_false hlt
      have HV := Lib.hid hB
      clear hg hlt hi hB
      go_upto_region 4 with fail
      apply wp_region_lit
      refine gw_val (by kernel_rfl) (some 14) rfl (.bool (decide (i < n))) (lt_nat rfl i n (by kernel_rfl) (by kernel_rfl) _) ?_
      simp only [Act.put, List.setIfInBounds_toArray, List.set_cons_succ, List.set_cons_zero]
      rw [hd]
      apply wpList_nil
      go_upto_region 9 with fail
      apply wp_region_lit
      refine gw_val (by kernel_rfl) (some 4) rfl (.bool true) (by kernel_rfl) ?_
      simp only [Act.put, List.setIfInBounds_toArray, List.set_cons_succ, List.set_cons_zero]
      apply wpList_nil
      go_wp2_with fail
      go_ret
      exact ⟨rfl, HV.out⟩
end Go.Proofs.Ytjblfpifhbmfoaa
