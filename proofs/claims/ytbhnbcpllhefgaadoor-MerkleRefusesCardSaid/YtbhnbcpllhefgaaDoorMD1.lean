/-
  The walk of the statement on roots, over what the program's functions are held to.
-/
import Derived.Test.YtbhnbcpllhefgaaDoorMK
namespace Go.Proofs.YtbhnbcpllhefgaaDoor
open Go.RowKit
set_option linter.unusedSimpArgs false

theorem RA.below {w w' : World} {al : Option Addr} {ls : List (List Int)} (h : RA w al ls) (hb : Below w.heap.size w w') : RA w' al ls := fun i hi => by
  obtain ⟨b, off, ai, ci, e, hlt, hc, hs, hl, h8, h3⟩ := h i hi
  exact ⟨b, off, ai, ci, e, by have := hb.size; omega, (hb.cell (p := ⟨b, off + i, none⟩) hlt).trans hc, sl_below hs hb, hl, h8, h3⟩
def Kept : Prop := RootC 10 ∧ InnerC 12 ∧ LeafC 14 ∧ ProofC 16 ∧ VerC 19
theorem Kept.known (h : Kept) (w : World) (hG : Glob w) : Calls Tryd.prog 8 #[] w fun e w' => e = .returned (.bool true) ∧ Below w.heap.size w w' := known_true h.1 h.2.1 h.2.2.1 h.2.2.2.1 h.2.2.2.2 w hG
theorem mod20 (n : Int) (h : W8 n) : ∃ k : Nat, n.tmod 20 = (k : Int) ∧ k < 20 := by
  obtain ⟨h0, h1⟩ := h
  refine ⟨(n % 20).toNat, ?_, by omega⟩
  rw [Int.tmod_eq_emod_of_nonneg h0]
  omega
/-- What the statement knows of its world. -/
def D1C (w : World) (a0 a3 a5 : Option Addr) (c3 : Nat) (ls m : List (List Int)) (L K1 K2 : List Int) (V : World) : Prop :=
  Glob V ∧ Ab V w.heap.size 24 K1 ∧ Ab V (w.heap.size + 1) 24 K2 ∧ RB V a0 ls ∧ RB V a5 m ∧ Sl V a3 c3 L ∧ Below w.heap.size w V
theorem D1C.below {w V V' : World} {a0 a3 a5 : Option Addr} {c3 : Nat} {ls m : List (List Int)} {L K1 K2 : List Int} (h : D1C w a0 a3 a5 c3 ls m L K1 K2 V) (hb : Below V.heap.size V V') : D1C w a0 a3 a5 c3 ls m L K1 K2 V' :=
  ⟨h.1.below h.1.size hb, h.2.1.below h.2.1.lt hb, h.2.2.1.below h.2.2.1.lt hb, h.2.2.2.1.below hb, h.2.2.2.2.1.below hb, sl_below h.2.2.2.2.2.1 hb, h.2.2.2.2.2.2.trans (hb.mono h.2.2.2.2.2.2.size)⟩

set_option maxRecDepth 100000 in
set_option maxHeartbeats 4000000 in
theorem roots_core (hk : Kept) (a0 : Option Addr) (c0 : Nat) (ls : List (List Int)) (K1 K2 : List Int) (a3 : Option Addr) (c3 : Nat) (L : List Int) (n : Int) (w : World)
    (hc0 : ls.length ≤ c0) (hr0 : RA w a0 ls) (hn0 : ls.length ≤ 140737488351232) (hl1 : K1.length = 32) (hb1 : ∀ x, x ∈ K1 → W8 x) (hl2 : K2.length = 32) (hb2 : ∀ x, x ∈ K2 → W8 x) (hc3 : L.length ≤ c3) (hs3 : Sl w a3 c3 L) (hb3 : ∀ x, x ∈ L → W8 x) (hn : W8 n) (hG : Glob w) :
    Calls Tryd.prog 3 #[.slice a0 ls.length c0, .agg (w8s K1), .agg (w8s K2), .slice a3 L.length c3, .int .u8 n] w fun e w' => e = .returned (.bool true) ∧ Below w.heap.size w w' := by
  have B1 := (Below.refl _ w).alloc (Nat.le_refl _) (.cells (w8s K1) 24)
  have B2 := B1.alloc B1.size (.cells (w8s K2) 24)
  have A1 : Ab (w.alloc (.cells (w8s K1) 24)) w.heap.size 24 K1 := heap_alloc_last _ _
  have s1 : (w.alloc (.cells (w8s K1) 24)).heap.size = w.heap.size + 1 := by simp
  have A2 : Ab ((w.alloc (.cells (w8s K1) 24)).alloc (.cells (w8s K2) 24)) (w.heap.size + 1) 24 K2 := by rw [← s1]; exact heap_alloc_last _ _
  have A1' := A1.alloc (.cells (w8s K2) 24)
  have hKN := hk.known
  obtain ⟨cR, cI, cL, -, -⟩ := hk
  have CM := many_any ls a0 c0
  have hRA : RA ((w.alloc (.cells (w8s K1) 24)).alloc (.cells (w8s K2) 24)) a0 ls := RA.below hr0 B2
  have hG2 : Glob ((w.alloc (.cells (w8s K1) 24)).alloc (.cells (w8s K2) 24)) := hG.below hG.size B2
  have hS2 := sl_below hs3 B2
  clear A1 B1 hr0 hs3
  obtain ⟨k, hk1, hk2⟩ := mod20 n hn
  have CM1 := CM _ hRA hn0
  clear CM
  go_enter Tryd.func3, Tryd.ntmps3
  go_upto_region 1 with fail
  generalize (w.alloc (.cells (w8s K1) 24)).alloc (.cells (w8s K2) 24) = V0 at *
  generalize hLs : ls.length = ln at *
  generalize hLL : L.length = m at *
  have HLS := Lib.hid hLs
  have HLL := Lib.hid hLL
  clear hLs hLL
  have KN := hKN V0 hG2
  apply wp_region_lit
  refine gw_val (by kernel_rfl) (some 12) rfl (.slice a0 ln c0) (by kernel_rfl) ?_
  simp only [Act.put, List.setIfInBounds_toArray, List.set_cons_succ, List.set_cons_zero]
  refine gw_callE (by kernel_rfl) (some 13) rfl 7 #[.slice a0 ln c0] (fun v w' => ∃ b : Bool, v = .bool b ∧ (b = false → ls.length ≤ 40 ∧ ∀ i, i < ls.length → (ls.getD i []).length ≤ 300) ∧ V0 = w') (by kernel_rfl) (CM1.mono fun e w' h => by obtain ⟨b, he, h⟩ := h; exact ⟨_, he, b, rfl, h⟩) (fun v V1 hq => ?_)
  obtain ⟨b, rfl, hbn, rfl⟩ := hq
  clear CM1
  simp only [Act.put, List.setIfInBounds_toArray, List.set_cons_succ, List.set_cons_zero]
  cases b
  · obtain ⟨h40, h300⟩ := hbn rfl
    have hRB := hRA.rb h300
    rw [HLS.out] at h40
    by_cases hm : 100 < m
    · have hd : decide (100 < (m : Int)) = true := decide_eq_true (by omega)
      refine gw_val (by kernel_rfl) (some 14) rfl (.bool false) (by kernel_rfl) ?_
      simp only [Act.put, List.setIfInBounds_toArray, List.set_cons_succ, List.set_cons_zero]
      refine gw_val (by kernel_rfl) (some 15) rfl (.slice a3 m c3) (by kernel_rfl) ?_
      simp only [Act.put, List.setIfInBounds_toArray, List.set_cons_succ, List.set_cons_zero]
      refine gw_val (by kernel_rfl) (some 16) rfl (.int .i64 m) (by kernel_rfl) ?_
      simp only [Act.put, List.setIfInBounds_toArray, List.set_cons_succ, List.set_cons_zero]
      refine gw_val (by kernel_rfl) (some 17) rfl (.bool (decide (100 < (m : Int)))) (by kernel_rfl) ?_
      simp only [Act.put, List.setIfInBounds_toArray, List.set_cons_succ, List.set_cons_zero]
      rw [hd]
      refine gw_val (by kernel_rfl) (some 18) rfl (.bool true) (by kernel_rfl) ?_
      simp only [Act.put, List.setIfInBounds_toArray, List.set_cons_succ, List.set_cons_zero]
      apply wpList_nil
      have HB2 := Lib.hid B2
      clear hRB hbn hRA hS2 A1' A2 h40 h300
      go_wp2_with (go_at_call 8; refine KN.mono ?_; rintro e w9 ⟨rfl, hb9⟩)
      have HB := Lib.hid (B2.trans (hb9.mono B2.size))
      clear hb9
      go_ret
      exact ⟨rfl, HB.out⟩
    · have hd : decide (100 < (m : Int)) = false := decide_eq_false (by omega)
      refine gw_val (by kernel_rfl) (some 14) rfl (.bool false) (by kernel_rfl) ?_
      simp only [Act.put, List.setIfInBounds_toArray, List.set_cons_succ, List.set_cons_zero]
      refine gw_val (by kernel_rfl) (some 15) rfl (.slice a3 m c3) (by kernel_rfl) ?_
      simp only [Act.put, List.setIfInBounds_toArray, List.set_cons_succ, List.set_cons_zero]
      refine gw_val (by kernel_rfl) (some 16) rfl (.int .i64 m) (by kernel_rfl) ?_
      simp only [Act.put, List.setIfInBounds_toArray, List.set_cons_succ, List.set_cons_zero]
      refine gw_val (by kernel_rfl) (some 17) rfl (.bool (decide (100 < (m : Int)))) (by kernel_rfl) ?_
      simp only [Act.put, List.setIfInBounds_toArray, List.set_cons_succ, List.set_cons_zero]
      rw [hd]
      refine gw_val (by kernel_rfl) (some 18) rfl (.bool false) (by kernel_rfl) ?_
      simp only [Act.put, List.setIfInBounds_toArray, List.set_cons_succ, List.set_cons_zero]
      apply wpList_nil
      have CLV := leaves_any L a3 c3 n k V0 hS2 (by rw [HLL.out]; exact hc3) hb3 (by rw [HLL.out]; omega) hn.1 hk1 hk2
      rw [HLL.out] at CLV
      have HB2 := Lib.hid B2
      have HRB := Lib.hid hRB
      have HA1 := Lib.hid A1'
      have HA2 := Lib.hid A2
      have HS2 := Lib.hid hS2
      have HG2 := Lib.hid hG2
      clear B2 hRB A1' A2 hS2 hG2 hbn hRA KN h300
      go_upto_region 4 with (go_at_call 9; refine CLV.mono ?_; rintro e w1 ⟨_, rfl, ⟨a5, c5, rfl, hR5, h5⟩, hb5⟩)
      clear CLV
      have hC0 : D1C w a0 a3 a5 c3 ls (lvL L k) L K1 K2 w1 := ⟨HG2.out.below HG2.out.size hb5, HA1.out.below HA1.out.lt hb5, HA2.out.below HA2.out.lt hb5, HRB.out.below hb5, hR5, sl_below HS2.out hb5, HB2.out.trans (hb5.mono HB2.out.size)⟩
      clear hb5 hR5 HB2 HRB HA1 HA2 HS2 HG2
      have X1 := fun V (h : D1C w a0 a3 a5 c3 ls (lvL L k) L K1 K2 V) => (cR ls a0 c0 V h.1 (by rw [HLS.out]; omega) (by rw [HLS.out]; exact hc0) h.2.2.2.1).mono fun e w' (q : _ ∧ _) => (⟨q.1, h.below q.2⟩ : _ ∧ D1C w a0 a3 a5 c3 ls (lvL L k) L K1 K2 w')
      have X2 := fun V (h : D1C w a0 a3 a5 c3 ls (lvL L k) L K1 K2 V) => (refroot_any ls a0 c0 V (by rw [HLS.out]; omega) (by rw [HLS.out]; exact hc0) h.2.2.2.1).mono fun e w' (q : _ ∧ _) => (⟨q.1, h.below q.2⟩ : _ ∧ D1C w a0 a3 a5 c3 ls (lvL L k) L K1 K2 w')
      have X3 := fun V (h : D1C w a0 a3 a5 c3 ls (lvL L k) L K1 K2 V) => (cR (lvL L k) a5 c5 V h.1 (by rw [lvL_len]; omega) (by rw [lvL_len]; exact h5) h.2.2.2.2.1).mono fun e w' (q : _ ∧ _) => (⟨q.1, h.below q.2⟩ : _ ∧ D1C w a0 a3 a5 c3 ls (lvL L k) L K1 K2 w')
      have X4 := fun V (h : D1C w a0 a3 a5 c3 ls (lvL L k) L K1 K2 V) => (refroot_any (lvL L k) a5 c5 V (by rw [lvL_len]; omega) (by rw [lvL_len]; exact h5) h.2.2.2.2.1).mono fun e w' (q : _ ∧ _) => (⟨q.1, h.below q.2⟩ : _ ∧ D1C w a0 a3 a5 c3 ls (lvL L k) L K1 K2 w')
      have X5 := fun V (h : D1C w a0 a3 a5 c3 ls (lvL L k) L K1 K2 V) => (cI K1 K2 V h.1 hl1 hl2 hb1 hb2).mono fun e w' (q : _ ∧ _) => (⟨q.1, h.below q.2⟩ : _ ∧ D1C w a0 a3 a5 c3 ls (lvL L k) L K1 K2 w')
      have X6 := fun V (h : D1C w a0 a3 a5 c3 ls (lvL L k) L K1 K2 V) => (inner_any K1 K2 V hl1 hl2 hb1 hb2).mono fun e w' (q : _ ∧ _) => (⟨q.1, h.below q.2⟩ : _ ∧ D1C w a0 a3 a5 c3 ls (lvL L k) L K1 K2 w')
      have X7 := fun V (h : D1C w a0 a3 a5 c3 ls (lvL L k) L K1 K2 V) => (cL L a3 c3 V h.1 h.2.2.2.2.2.1 (by rw [HLL.out]; exact hc3) hb3 (by rw [HLL.out]; omega)).mono fun e w' (q : _ ∧ _) => (⟨q.1, h.below q.2⟩ : _ ∧ D1C w a0 a3 a5 c3 ls (lvL L k) L K1 K2 w')
      have X8 := fun V (h : D1C w a0 a3 a5 c3 ls (lvL L k) L K1 K2 V) => (leaf_any a3 c3 L V h.2.2.2.2.2.1 hb3 (by rw [HLL.out]; omega)).mono fun e w' (q : _ ∧ _) => (⟨q.1, h.below q.2⟩ : _ ∧ D1C w a0 a3 a5 c3 ls (lvL L k) L K1 K2 w')
      have X9 := fun V (h : D1C w a0 a3 a5 c3 ls (lvL L k) L K1 K2 V) => (hKN V h.1).mono fun e w' (q : _ ∧ _) => (⟨q.1, h.below q.2⟩ : _ ∧ D1C w a0 a3 a5 c3 ls (lvL L k) L K1 K2 w')
      rw [HLS.out] at X1 X2
      rw [lvL_len] at X3 X4
      rw [HLL.out] at X7 X8
      have l1 := Lib.hid (root_byte ls).1
      have l2 := Lib.hid (root_byte (lvL L k)).1
      have l3 := Lib.hid (inner_32 K1 K2)
      have l4 := Lib.hid (leaf_32 L)
      generalize rootL ls = R1 at *
      generalize rootL (lvL L k) = R2 at *
      generalize innerL K1 K2 = I at *
      generalize leafL L = F at *
      have HL1 := Lib.hid hl1
      have HL2 := Lib.hid hl2
      refine wp_region_class (C := D1C w a0 a3 a5 c3 ls (lvL L k) L K1 K2) (by kernel_rfl) (by kernel_rfl) (hC0.below (Below.refl _ w1).drew) ?_
      refine gq_val (by kernel_rfl) (some 23) rfl (.slice a0 ln c0) (fun w' _ => by kernel_rfl) ?_
      simp only [Act.put, List.setIfInBounds_toArray, List.set_cons_succ, List.set_cons_zero]
      refine gq_call (by kernel_rfl) (some 24) rfl 10 #[.slice a0 ln c0] (.agg (w8s R1)) (fun w' _ => by kernel_rfl) (fun w' hC => X1 w' hC) ?_
      simp only [Act.put, List.setIfInBounds_toArray, List.set_cons_succ, List.set_cons_zero]
      refine gq_val (by kernel_rfl) (some 25) rfl (.slice a0 ln c0) (fun w' _ => by kernel_rfl) ?_
      simp only [Act.put, List.setIfInBounds_toArray, List.set_cons_succ, List.set_cons_zero]
      refine gq_call (by kernel_rfl) (some 26) rfl 11 #[.slice a0 ln c0] (.agg (w8s R1)) (fun w' _ => by kernel_rfl) (fun w' hC => X2 w' hC) ?_
      simp only [Act.put, List.setIfInBounds_toArray, List.set_cons_succ, List.set_cons_zero]
      refine gq_val (by kernel_rfl) (some 27) rfl (.bool (R1 == R1)) (fun w' _ => eq_key rfl R1 R1 l1.out l1.out (by kernel_rfl) (by kernel_rfl) w') ?_
      rw [beq_self_eq_true]
      simp only [Act.put, List.setIfInBounds_toArray, List.set_cons_succ, List.set_cons_zero]
      refine gq_val (by kernel_rfl) (some 28) rfl (.bool true) (fun w' _ => by kernel_rfl) ?_
      simp only [Act.put, List.setIfInBounds_toArray, List.set_cons_succ, List.set_cons_zero]
      refine gq_val (by kernel_rfl) (some 29) rfl (.slice a5 k c5) (fun w' _ => by kernel_rfl) ?_
      simp only [Act.put, List.setIfInBounds_toArray, List.set_cons_succ, List.set_cons_zero]
      refine gq_call (by kernel_rfl) (some 30) rfl 10 #[.slice a5 k c5] (.agg (w8s R2)) (fun w' _ => by kernel_rfl) (fun w' hC => X3 w' hC) ?_
      simp only [Act.put, List.setIfInBounds_toArray, List.set_cons_succ, List.set_cons_zero]
      refine gq_val (by kernel_rfl) (some 31) rfl (.slice a5 k c5) (fun w' _ => by kernel_rfl) ?_
      simp only [Act.put, List.setIfInBounds_toArray, List.set_cons_succ, List.set_cons_zero]
      refine gq_call (by kernel_rfl) (some 32) rfl 11 #[.slice a5 k c5] (.agg (w8s R2)) (fun w' _ => by kernel_rfl) (fun w' hC => X4 w' hC) ?_
      simp only [Act.put, List.setIfInBounds_toArray, List.set_cons_succ, List.set_cons_zero]
      refine gq_val (by kernel_rfl) (some 33) rfl (.bool (R2 == R2)) (fun w' _ => eq_key rfl R2 R2 l2.out l2.out (by kernel_rfl) (by kernel_rfl) w') ?_
      rw [beq_self_eq_true]
      simp only [Act.put, List.setIfInBounds_toArray, List.set_cons_succ, List.set_cons_zero]
      refine gq_val (by kernel_rfl) (some 34) rfl (.bool true) (fun w' _ => by kernel_rfl) ?_
      simp only [Act.put, List.setIfInBounds_toArray, List.set_cons_succ, List.set_cons_zero]
      refine gq_val (by kernel_rfl) (some 35) rfl (.bool true) (fun w' _ => by kernel_rfl) ?_
      simp only [Act.put, List.setIfInBounds_toArray, List.set_cons_succ, List.set_cons_zero]
      refine gq_load (by kernel_rfl) (some 36) rfl 24 (.tmp 6) rfl ⟨w.heap.size, 0, none⟩ (.agg (w8s K1)) (by kernel_rfl) (fun w' hC => load_key hC.2.1 HL1.out) ?_
      simp only [Act.put, List.setIfInBounds_toArray, List.set_cons_succ, List.set_cons_zero]
      refine gq_load (by kernel_rfl) (some 37) rfl 24 (.tmp 7) rfl ⟨w.heap.size + 1, 0, none⟩ (.agg (w8s K2)) (by kernel_rfl) (fun w' hC => load_key hC.2.2.1 HL2.out) ?_
      simp only [Act.put, List.setIfInBounds_toArray, List.set_cons_succ, List.set_cons_zero]
      refine gq_call (by kernel_rfl) (some 38) rfl 12 #[.agg (w8s K1), .agg (w8s K2)] (.agg (w8s I)) (fun w' _ => by kernel_rfl) (fun w' hC => X5 w' hC) ?_
      simp only [Act.put, List.setIfInBounds_toArray, List.set_cons_succ, List.set_cons_zero]
      refine gq_load (by kernel_rfl) (some 39) rfl 24 (.tmp 6) rfl ⟨w.heap.size, 0, none⟩ (.agg (w8s K1)) (by kernel_rfl) (fun w' hC => load_key hC.2.1 HL1.out) ?_
      simp only [Act.put, List.setIfInBounds_toArray, List.set_cons_succ, List.set_cons_zero]
      refine gq_load (by kernel_rfl) (some 40) rfl 24 (.tmp 7) rfl ⟨w.heap.size + 1, 0, none⟩ (.agg (w8s K2)) (by kernel_rfl) (fun w' hC => load_key hC.2.2.1 HL2.out) ?_
      simp only [Act.put, List.setIfInBounds_toArray, List.set_cons_succ, List.set_cons_zero]
      refine gq_call (by kernel_rfl) (some 41) rfl 13 #[.agg (w8s K1), .agg (w8s K2)] (.agg (w8s I)) (fun w' _ => by kernel_rfl) (fun w' hC => X6 w' hC) ?_
      simp only [Act.put, List.setIfInBounds_toArray, List.set_cons_succ, List.set_cons_zero]
      refine gq_val (by kernel_rfl) (some 42) rfl (.bool (I == I)) (fun w' _ => eq_key rfl I I l3.out l3.out (by kernel_rfl) (by kernel_rfl) w') ?_
      rw [beq_self_eq_true]
      simp only [Act.put, List.setIfInBounds_toArray, List.set_cons_succ, List.set_cons_zero]
      refine gq_val (by kernel_rfl) (some 43) rfl (.bool true) (fun w' _ => by kernel_rfl) ?_
      simp only [Act.put, List.setIfInBounds_toArray, List.set_cons_succ, List.set_cons_zero]
      refine gq_val (by kernel_rfl) (some 44) rfl (.bool true) (fun w' _ => by kernel_rfl) ?_
      simp only [Act.put, List.setIfInBounds_toArray, List.set_cons_succ, List.set_cons_zero]
      refine gq_val (by kernel_rfl) (some 45) rfl (.slice a3 m c3) (fun w' _ => by kernel_rfl) ?_
      simp only [Act.put, List.setIfInBounds_toArray, List.set_cons_succ, List.set_cons_zero]
      refine gq_call (by kernel_rfl) (some 46) rfl 14 #[.slice a3 m c3] (.agg (w8s F)) (fun w' _ => by kernel_rfl) (fun w' hC => X7 w' hC) ?_
      simp only [Act.put, List.setIfInBounds_toArray, List.set_cons_succ, List.set_cons_zero]
      refine gq_val (by kernel_rfl) (some 47) rfl (.slice a3 m c3) (fun w' _ => by kernel_rfl) ?_
      simp only [Act.put, List.setIfInBounds_toArray, List.set_cons_succ, List.set_cons_zero]
      refine gq_call (by kernel_rfl) (some 48) rfl 15 #[.slice a3 m c3] (.agg (w8s F)) (fun w' _ => by kernel_rfl) (fun w' hC => X8 w' hC) ?_
      simp only [Act.put, List.setIfInBounds_toArray, List.set_cons_succ, List.set_cons_zero]
      refine gq_val (by kernel_rfl) (some 49) rfl (.bool (F == F)) (fun w' _ => eq_key rfl F F l4.out l4.out (by kernel_rfl) (by kernel_rfl) w') ?_
      rw [beq_self_eq_true]
      simp only [Act.put, List.setIfInBounds_toArray, List.set_cons_succ, List.set_cons_zero]
      refine gq_val (by kernel_rfl) (some 50) rfl (.bool true) (fun w' _ => by kernel_rfl) ?_
      simp only [Act.put, List.setIfInBounds_toArray, List.set_cons_succ, List.set_cons_zero]
      refine gq_val (by kernel_rfl) (some 51) rfl (.bool true) (fun w' _ => by kernel_rfl) ?_
      simp only [Act.put, List.setIfInBounds_toArray, List.set_cons_succ, List.set_cons_zero]
      refine gq_call (by kernel_rfl) (some 52) rfl 8 #[] (.bool true) (fun w' _ => by kernel_rfl) (fun w' hC => X9 w' hC) ?_
      simp only [Act.put, List.setIfInBounds_toArray, List.set_cons_succ, List.set_cons_zero]
      refine gq_val (by kernel_rfl) (some 53) rfl (.bool true) (fun w' _ => by kernel_rfl) ?_
      simp only [Act.put, List.setIfInBounds_toArray, List.set_cons_succ, List.set_cons_zero]
      refine gq_val (by kernel_rfl) (some 10) rfl (.bool true) (fun w' _ => by kernel_rfl) ?_
      simp only [Act.put, List.setIfInBounds_toArray, List.set_cons_succ, List.set_cons_zero]
      refine wpQuiet_nil ?_
      intro w9 hC9
      have HB := Lib.hid hC9.2.2.2.2.2.2
      clear hC9 hC0 X1 X2 X3 X4 X5 X6 X7 X8 X9
      go_wp2_with fail
      go_ret
      exact ⟨rfl, HB.out⟩
  · refine gw_val (by kernel_rfl) (some 14) rfl (.bool true) (by kernel_rfl) ?_
    simp only [Act.put, List.setIfInBounds_toArray, List.set_cons_succ, List.set_cons_zero]
    refine gw_not (by kernel_rfl) (some 15) rfl ?_
    simp only [Act.put, List.setIfInBounds_toArray, List.set_cons_succ, List.set_cons_zero]
    refine gw_not (by kernel_rfl) (some 16) rfl ?_
    simp only [Act.put, List.setIfInBounds_toArray, List.set_cons_succ, List.set_cons_zero]
    refine gw_not (by kernel_rfl) (some 17) rfl ?_
    simp only [Act.put, List.setIfInBounds_toArray, List.set_cons_succ, List.set_cons_zero]
    refine gw_val (by kernel_rfl) (some 18) rfl (.bool true) (by kernel_rfl) ?_
    simp only [Act.put, List.setIfInBounds_toArray, List.set_cons_succ, List.set_cons_zero]
    apply wpList_nil
    have HB2 := Lib.hid B2
    clear hbn hRA hS2 A1' A2
    go_wp2_with (go_at_call 8; refine KN.mono ?_; rintro e w9 ⟨rfl, hb9⟩)
    have HB := Lib.hid (B2.trans (hb9.mono B2.size))
    clear hb9
    go_ret
    exact ⟨rfl, HB.out⟩
end Go.Proofs.YtbhnbcpllhefgaaDoor
