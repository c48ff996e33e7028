/-
  The fixed example of stage 7 returns true, where the program's functions keep what they are held to; how long numbers are.
-/
import Derived.Test.YtefinpapkjgpoaaLM
namespace Go.Proofs.Ytefinpapkjgpoaa
open Go.RowKit
set_option linter.unusedSimpArgs false
set_option linter.unusedVariables false

/-- A list of the program, made since w. -/
def KN (R : Rep) (w : World) (g : Nat) (m : LM) (V : World) : Prop := ∃ S, R V g S m ∧ (∀ k, S k → w.heap.size ≤ k) ∧ Below w.heap.size w V
theorem KN.of_upd {R : Rep} {w V V2 : World} {g : Nat} {m2 : LM} {S : Nat → Prop} (hs : ∀ k, S k → w.heap.size ≤ k) (hbel : Below w.heap.size w V) (h : Upd R g w.heap.size S m2 V V2) : KN R w g m2 V2 := by
  obtain ⟨S', hr, hss, hb⟩ := h
  refine ⟨S', hr, fun k hk => ?_, hbel.trans hb.1⟩
  rcases hss k hk with h1 | h1
  · exact hs k h1
  · have := hbel.size
    omega
section
variable {R : Rep} (hC : ListC R 23 25 27 28 29 18 15 17 20 22 12 14) {w V V2 : World} {g : Nat} {m : LM}
include hC
theorem KN.below (h : KN R w g m V) (hb : Below V.heap.size V V2) : KN R w g m V2 := by
  obtain ⟨S, hr, hs, hbel⟩ := h
  exact ⟨S, hC.keep hr hb.size fun k hk => hb.block k (hC.inn hr k hk), hs, hbel.trans (hb.mono hbel.size)⟩
theorem kn_new (w : World) : Calls Try.prog 23 #[] w fun e w' => ∃ g, e = .returned (.pointer (some ⟨g, 0, none⟩)) ∧ KN R w g LM.empty w' := (hC.new w).mono fun e w' h => by
  obtain ⟨g, S, he, hr, hs, hb⟩ := h
  exact ⟨g, he, S, hr, hs, hb⟩
theorem KN.pushB (h : KN R w g m V) (hw : Wm m) (ho : Ok m 900) {v : Int} (hv : I64 v) : Calls Try.prog 25 #[.pointer (some ⟨g, 0, none⟩), .int .i64 v] V fun e w' => e = .returned (.int .i64 (pushB m v).2) ∧ KN R w g (pushB m v).1 w' := by
  obtain ⟨S, hr, hs, hbel⟩ := h
  exact (hC.pushB V g S m v w.heap.size hr hw ho hv hs hbel.size).mono fun e w' h => ⟨h.1, KN.of_upd hs hbel h.2⟩
theorem KN.pushF (h : KN R w g m V) (hw : Wm m) (ho : Ok m 900) {v : Int} (hv : I64 v) : Calls Try.prog 27 #[.pointer (some ⟨g, 0, none⟩), .int .i64 v] V fun e w' => e = .returned (.int .i64 (pushF m v).2) ∧ KN R w g (pushF m v).1 w' := by
  obtain ⟨S, hr, hs, hbel⟩ := h
  exact (hC.pushF V g S m v w.heap.size hr hw ho hv hs hbel.size).mono fun e w' h => ⟨h.1, KN.of_upd hs hbel h.2⟩
theorem KN.remove (h : KN R w g m V) (hw : Wm m) (ho : Ok m 900) {v : Int} (hv : I64 v) : Calls Try.prog 28 #[.pointer (some ⟨g, 0, none⟩), .int .i64 v] V fun e w' => e = .returned (.bool (removeM m v).2) ∧ KN R w g (removeM m v).1 w' := by
  obtain ⟨S, hr, hs, hbel⟩ := h
  exact (hC.remove V g S m v w.heap.size hr hw ho hv hs hbel.size).mono fun e w' h => ⟨h.1, KN.of_upd hs hbel h.2⟩
theorem KN.move (h : KN R w g m V) (hw : Wm m) (ho : Ok m 900) {v : Int} (hv : I64 v) : Calls Try.prog 29 #[.pointer (some ⟨g, 0, none⟩), .int .i64 v] V fun e w' => e = .returned (.bool (moveM m v).2) ∧ KN R w g (moveM m v).1 w' := by
  obtain ⟨S, hr, hs, hbel⟩ := h
  exact (hC.move V g S m v w.heap.size hr hw ho hv hs hbel.size).mono fun e w' h => ⟨h.1, KN.of_upd hs hbel h.2⟩
theorem KN.value (h : KN R w g m V) (hw : Wm m) (ho : Ok m 900) {v : Int} (hv : I64 v) : Calls Try.prog 18 #[.pointer (some ⟨g, 0, none⟩), .int .i64 v] V fun e w' => e = .returned (.tuple #[.int .i64 (valueM m v).1, .bool (valueM m v).2]) ∧ KN R w g m w' := by
  obtain ⟨S, hr, hs, hbel⟩ := h
  exact (hC.value V g S m v hr hw ho hv).mono fun e w' q => ⟨q.1, KN.below hC ⟨S, hr, hs, hbel⟩ q.2⟩
theorem KN.next (h : KN R w g m V) (hw : Wm m) (ho : Ok m 900) {v : Int} (hv : I64 v) : Calls Try.prog 20 #[.pointer (some ⟨g, 0, none⟩), .int .i64 v] V fun e w' => e = .returned (.int .i64 (nextM m v 1)) ∧ KN R w g m w' := by
  obtain ⟨S, hr, hs, hbel⟩ := h
  exact (hC.next V g S m v hr hw ho hv).mono fun e w' q => ⟨q.1, KN.below hC ⟨S, hr, hs, hbel⟩ q.2⟩
theorem KN.prev (h : KN R w g m V) (hw : Wm m) (ho : Ok m 900) {v : Int} (hv : I64 v) : Calls Try.prog 22 #[.pointer (some ⟨g, 0, none⟩), .int .i64 v] V fun e w' => e = .returned (.int .i64 (nextM m v (-1))) ∧ KN R w g m w' := by
  obtain ⟨S, hr, hs, hbel⟩ := h
  exact (hC.prev V g S m v hr hw ho hv).mono fun e w' q => ⟨q.1, KN.below hC ⟨S, hr, hs, hbel⟩ q.2⟩
theorem KN.first (h : KN R w g m V) (hw : Wm m) (ho : Ok m 900) : Calls Try.prog 15 #[.pointer (some ⟨g, 0, none⟩)] V fun e w' => e = .returned (.int .i64 (slotAt m 0)) ∧ KN R w g m w' := by
  obtain ⟨S, hr, hs, hbel⟩ := h
  exact (hC.first V g S m hr hw ho).mono fun e w' q => ⟨q.1, KN.below hC ⟨S, hr, hs, hbel⟩ q.2⟩
theorem KN.last (h : KN R w g m V) (hw : Wm m) (ho : Ok m 900) : Calls Try.prog 17 #[.pointer (some ⟨g, 0, none⟩)] V fun e w' => e = .returned (.int .i64 (slotAt m ((m.E.length : Int) - 1))) ∧ KN R w g m w' := by
  obtain ⟨S, hr, hs, hbel⟩ := h
  exact (hC.last V g S m hr hw ho).mono fun e w' q => ⟨q.1, KN.below hC ⟨S, hr, hs, hbel⟩ q.2⟩
theorem KN.len (h : KN R w g m V) (hw : Wm m) (ho : Ok m 900) : Calls Try.prog 14 #[.pointer (some ⟨g, 0, none⟩)] V fun e w' => e = .returned (.int .i64 m.E.length) ∧ KN R w g m w' := by
  obtain ⟨S, hr, hs, hbel⟩ := h
  exact (hC.len V g S m hr hw ho).mono fun e w' q => ⟨q.1, KN.below hC ⟨S, hr, hs, hbel⟩ q.2⟩
theorem KN.values (h : KN R w g m V) (hw : Wm m) (ho : Ok m 900) : Calls Try.prog 12 #[.pointer (some ⟨g, 0, none⟩)] V fun e w' => ∃ a c, e = .returned (.slice a m.E.length c) ∧ Cs w' a (icells (valuesM m)) ∧ m.E.length ≤ c ∧ KN R w g m w' ∧ Below V.heap.size V w' := by
  obtain ⟨S, hr, hs, hbel⟩ := h
  exact (hC.values V g S m hr hw ho).mono fun e w' h => by
    obtain ⟨a, c, he, hc, hl, hb⟩ := h
    exact ⟨a, c, he, hc, hl, KN.below hC ⟨S, hr, hs, hbel⟩ hb, hb⟩
end

def K1 : LM := ⟨[(0, 7)], [], 1⟩
def K2 : LM := ⟨[(0, 7), (1, 8)], [], 2⟩
def K3 : LM := ⟨[(1, 8)], [0], 2⟩
def K4 : LM := ⟨[(0, 9), (1, 8)], [], 2⟩
theorem k_1 : pushB LM.empty 7 = (K1, 0) := rfl
theorem k_2 : pushB K1 8 = (K2, 1) := rfl
theorem k_3 : removeM K2 0 = (K3, true) := rfl
theorem k_4 : pushF K3 9 = (K4, 0) := rfl
theorem two_int (x y : Int) (w : World) : (Instr.buildSlice 22 2 #[(0, .int .i64 x), (1, .int .i64 y)]).run Try.prog w = .ok (.slice (some ⟨w.heap.size, 0, none⟩) 2 2) (w.alloc (.cells #[.int .i64 x, .int .i64 y] 3)) := by
  obtain ⟨i0, hi, hz0, hz1, hz2⟩ := info_parts infoI
  refine run_buildSlice w 22 3 2 _ #[.int .i64 x, .int .i64 y] i0 _ Try.underlying22 hi hz0 (by rw [hz1]; omega) (by rw [hz1]; omega) ?_
  rw [hz1]
  kernel_rfl
set_option maxRecDepth 100000 in
set_option maxHeartbeats 2000000 in
theorem known_true {R : Rep} (hC : ListC R 23 25 27 28 29 18 15 17 20 22 12 14) (w : World) : Calls Try.prog 9 #[] w fun e w' => e = .returned (.bool true) ∧ Below w.heap.size w w' := by
  have w1 : Wm K1 := Wm.pushB Wm.empty 7
  have w2 : Wm K2 := w1.pushB 8
  have w3 : Wm K3 := w2.remove 0
  have w4 : Wm K4 := w3.pushF 9
  have o0 := Ok.empty 900
  have o1 : Ok K1 900 := ⟨by decide, by decide, by decide⟩
  have o2 : Ok K2 900 := ⟨by decide, by decide, by decide⟩
  have o3 : Ok K3 900 := ⟨by decide, by decide, by decide⟩
  have o4 : Ok K4 900 := ⟨by decide, by decide, by decide⟩
  have i (x : Int) (h : 0 ≤ x ∧ x ≤ 9) : I64 x := ⟨by omega, by omega⟩
  have C1 := fun V g (h : KN R w g LM.empty V) => h.pushB hC Wm.empty o0 (i 7 (by omega))
  have C2 := fun V g (h : KN R w g K1 V) => h.pushB hC w1 o1 (i 8 (by omega))
  have C3 := fun V g (h : KN R w g K2 V) => h.remove hC w2 o2 (i 0 (by omega))
  have C4 := fun V g (h : KN R w g K3 V) => h.pushF hC w3 o3 (i 9 (by omega))
  have C5 := fun V g (h : KN R w g K4 V) => h.value hC w4 o4 (i 1 (by omega))
  have C6 := fun V g (h : KN R w g K4 V) => h.values hC w4 o4
  have C7 := fun V g (h : KN R w g K4 V) => h.first hC w4 o4
  have C8 := fun V g (h : KN R w g K4 V) => h.next hC w4 o4 (i 0 (by omega))
  have C9 := fun V g (h : KN R w g K4 V) => h.next hC w4 o4 (i 1 (by omega))
  have C10 := fun V g (h : KN R w g K4 V) => h.len hC w4 o4
  rw [k_1] at C1
  rw [k_2] at C2
  rw [k_3] at C3
  rw [k_4] at C4
  rw [show valueM K4 1 = (8, true) from rfl] at C5
  rw [show K4.E.length = 2 from rfl, show valuesM K4 = [9, 8] from rfl] at C6
  rw [show slotAt K4 0 = 0 from rfl] at C7
  rw [show nextM K4 0 1 = 1 from rfl] at C8
  rw [show nextM K4 1 1 = -1 from rfl] at C9
  rw [show K4.E.length = 2 from rfl] at C10
  have C0 := kn_new hC w
  clear w1 w2 w3 w4 o0 o1 o2 o3 o4 i
  go_enter Try.func9, Try.ntmps9
  go_upto_region 1 with fail
  apply wp_region_lit
  refine gw_callE (by kernel_rfl) (some 4) rfl 23 #[] (fun v w' => ∃ g, v = .pointer (some ⟨g, 0, none⟩) ∧ KN R w g LM.empty w') (by kernel_rfl) (C0.mono fun e w' h => by obtain ⟨g, he, h⟩ := h; exact ⟨_, he, g, rfl, h⟩) (fun v V0 hq => ?_)
  obtain ⟨g, rfl, hK⟩ := hq
  simp only [Act.put, List.setIfInBounds_toArray, List.set_cons_succ, List.set_cons_zero]
  refine gw_val (by kernel_rfl) (some 1) rfl (.pointer (some ⟨g, 0, none⟩)) (by kernel_rfl) ?_
  simp only [Act.put, List.setIfInBounds_toArray, List.set_cons_succ, List.set_cons_zero]
  apply wpList_nil
  go_upto_region 2 with fail
  apply wp_region_lit
  refine gw_val (by kernel_rfl) (some 5) rfl (.pointer (some ⟨g, 0, none⟩)) (by kernel_rfl) ?_
  simp only [Act.put, List.setIfInBounds_toArray, List.set_cons_succ, List.set_cons_zero]
  refine gw_val (by kernel_rfl) (some 6) rfl (.bool false) (by kernel_rfl) ?_
  simp only [Act.put, List.setIfInBounds_toArray, List.set_cons_succ, List.set_cons_zero]
  refine gw_val (by kernel_rfl) (some 7) rfl (.bool false) (by kernel_rfl) ?_
  simp only [Act.put, List.setIfInBounds_toArray, List.set_cons_succ, List.set_cons_zero]
  refine gw_val (by kernel_rfl) (some 8) rfl (.pointer (some ⟨g, 0, none⟩)) (by kernel_rfl) ?_
  simp only [Act.put, List.setIfInBounds_toArray, List.set_cons_succ, List.set_cons_zero]
  refine gw_call (by kernel_rfl) (some 9) rfl 25 #[.pointer (some ⟨g, 0, none⟩), .int .i64 7] (.int .i64 0) (KN R w g K1) (by kernel_rfl) (C1 V0 g hK) (fun V1 hK => ?_)
  simp only [Act.put, List.setIfInBounds_toArray, List.set_cons_succ, List.set_cons_zero]
  refine gw_val (by kernel_rfl) (some 10) rfl (.bool false) (by kernel_rfl) ?_
  simp only [Act.put, List.setIfInBounds_toArray, List.set_cons_succ, List.set_cons_zero]
  refine gw_val (by kernel_rfl) (some 11) rfl (.bool false) (by kernel_rfl) ?_
  simp only [Act.put, List.setIfInBounds_toArray, List.set_cons_succ, List.set_cons_zero]
  refine gw_val (by kernel_rfl) (some 12) rfl (.bool false) (by kernel_rfl) ?_
  simp only [Act.put, List.setIfInBounds_toArray, List.set_cons_succ, List.set_cons_zero]
  refine gw_val (by kernel_rfl) (some 13) rfl (.pointer (some ⟨g, 0, none⟩)) (by kernel_rfl) ?_
  simp only [Act.put, List.setIfInBounds_toArray, List.set_cons_succ, List.set_cons_zero]
  refine gw_call (by kernel_rfl) (some 14) rfl 25 #[.pointer (some ⟨g, 0, none⟩), .int .i64 8] (.int .i64 1) (KN R w g K2) (by kernel_rfl) (C2 _ g hK) (fun V2 hK => ?_)
  simp only [Act.put, List.setIfInBounds_toArray, List.set_cons_succ, List.set_cons_zero]
  refine gw_val (by kernel_rfl) (some 15) rfl (.bool false) (by kernel_rfl) ?_
  simp only [Act.put, List.setIfInBounds_toArray, List.set_cons_succ, List.set_cons_zero]
  refine gw_val (by kernel_rfl) (some 16) rfl (.bool false) (by kernel_rfl) ?_
  simp only [Act.put, List.setIfInBounds_toArray, List.set_cons_succ, List.set_cons_zero]
  refine gw_val (by kernel_rfl) (some 17) rfl (.bool false) (by kernel_rfl) ?_
  simp only [Act.put, List.setIfInBounds_toArray, List.set_cons_succ, List.set_cons_zero]
  refine gw_val (by kernel_rfl) (some 18) rfl (.pointer (some ⟨g, 0, none⟩)) (by kernel_rfl) ?_
  simp only [Act.put, List.setIfInBounds_toArray, List.set_cons_succ, List.set_cons_zero]
  refine gw_call (by kernel_rfl) (some 19) rfl 28 #[.pointer (some ⟨g, 0, none⟩), .int .i64 0] (.bool true) (KN R w g K3) (by kernel_rfl) (C3 _ g hK) (fun V3 hK => ?_)
  simp only [Act.put, List.setIfInBounds_toArray, List.set_cons_succ, List.set_cons_zero]
  refine gw_val (by kernel_rfl) (some 20) rfl (.bool false) (by kernel_rfl) ?_
  simp only [Act.put, List.setIfInBounds_toArray, List.set_cons_succ, List.set_cons_zero]
  refine gw_val (by kernel_rfl) (some 21) rfl (.bool false) (by kernel_rfl) ?_
  simp only [Act.put, List.setIfInBounds_toArray, List.set_cons_succ, List.set_cons_zero]
  refine gw_val (by kernel_rfl) (some 22) rfl (.bool false) (by kernel_rfl) ?_
  simp only [Act.put, List.setIfInBounds_toArray, List.set_cons_succ, List.set_cons_zero]
  refine gw_val (by kernel_rfl) (some 23) rfl (.pointer (some ⟨g, 0, none⟩)) (by kernel_rfl) ?_
  simp only [Act.put, List.setIfInBounds_toArray, List.set_cons_succ, List.set_cons_zero]
  refine gw_call (by kernel_rfl) (some 24) rfl 27 #[.pointer (some ⟨g, 0, none⟩), .int .i64 9] (.int .i64 0) (KN R w g K4) (by kernel_rfl) (C4 _ g hK) (fun V4 hK => ?_)
  simp only [Act.put, List.setIfInBounds_toArray, List.set_cons_succ, List.set_cons_zero]
  refine gw_val (by kernel_rfl) (some 25) rfl (.bool false) (by kernel_rfl) ?_
  simp only [Act.put, List.setIfInBounds_toArray, List.set_cons_succ, List.set_cons_zero]
  refine gw_val (by kernel_rfl) (some 26) rfl (.bool false) (by kernel_rfl) ?_
  simp only [Act.put, List.setIfInBounds_toArray, List.set_cons_succ, List.set_cons_zero]
  apply wpList_nil
  go_upto_region 4 with fail
  apply wp_region_lit
  refine gw_val (by kernel_rfl) (some 28) rfl (.pointer (some ⟨g, 0, none⟩)) (by kernel_rfl) ?_
  simp only [Act.put, List.setIfInBounds_toArray, List.set_cons_succ, List.set_cons_zero]
  refine gw_call (by kernel_rfl) (some 29) rfl 18 #[.pointer (some ⟨g, 0, none⟩), .int .i64 1] (.tuple #[.int .i64 8, .bool true]) (KN R w g K4) (by kernel_rfl) (C5 _ g hK) (fun V5 hK => ?_)
  simp only [Act.put, List.setIfInBounds_toArray, List.set_cons_succ, List.set_cons_zero]
  refine gw_val (by kernel_rfl) (some 27) rfl (.tuple #[.int .i64 8, .bool true]) (by kernel_rfl) ?_
  simp only [Act.put, List.setIfInBounds_toArray, List.set_cons_succ, List.set_cons_zero]
  refine gw_val (by kernel_rfl) (some 30) rfl (.int .i64 8) (by kernel_rfl) ?_
  simp only [Act.put, List.setIfInBounds_toArray, List.set_cons_succ, List.set_cons_zero]
  refine gw_val (by kernel_rfl) (some 31) rfl (.bool true) (by kernel_rfl) ?_
  simp only [Act.put, List.setIfInBounds_toArray, List.set_cons_succ, List.set_cons_zero]
  refine gw_val (by kernel_rfl) (some 2) rfl (.int .i64 8) (by kernel_rfl) ?_
  simp only [Act.put, List.setIfInBounds_toArray, List.set_cons_succ, List.set_cons_zero]
  refine gw_val (by kernel_rfl) (some 3) rfl (.bool true) (by kernel_rfl) ?_
  simp only [Act.put, List.setIfInBounds_toArray, List.set_cons_succ, List.set_cons_zero]
  apply wpList_nil
  clear C1 C2 C3 C4 C5 C0
  go_upto_region 5 with fail
  apply wp_region_lit
  refine gw_val (by kernel_rfl) (some 32) rfl (.pointer (some ⟨g, 0, none⟩)) (by kernel_rfl) ?_
  simp only [Act.put, List.setIfInBounds_toArray, List.set_cons_succ, List.set_cons_zero]
  refine gw_callE (by kernel_rfl) (some 33) rfl 12 #[.pointer (some ⟨g, 0, none⟩)] (fun v w' => ∃ a c, v = .slice a 2 c ∧ Cs w' a (icells [9, 8]) ∧ KN R w g K4 w') (by kernel_rfl) ((C6 _ g hK).mono fun e w' h => by obtain ⟨a, c, he, hc, -, hk, -⟩ := h; exact ⟨_, he, a, c, rfl, hc, hk⟩) (fun v V6 hq => ?_)
  obtain ⟨a6, c6, rfl, hA6, hK6⟩ := hq
  have hb7 : Below V6.heap.size V6 (V6.alloc (.cells #[.int .i64 9, .int .i64 8] 3)) := (Below.refl _ V6).alloc (Nat.le_refl _) _
  have hB7 : Cs (V6.alloc (.cells #[.int .i64 9, .int .i64 8] 3)) (some ⟨V6.heap.size, 0, none⟩) (icells [9, 8]) := Cs.block (t := 3) (fr := (0, 0)) (heap_alloc_last V6 _)
  have hK7 := hK6.below hC hb7
  have CS := ref_same [9, 8] [9, 8] a6 (some ⟨V6.heap.size, 0, none⟩) c6 2 _ (hA6.below hb7) hB7 (by decide)
  rw [show decide (([9, 8] : List Int) = [9, 8]) = true from rfl] at CS
  clear hK
  simp only [Act.put, List.setIfInBounds_toArray, List.set_cons_succ, List.set_cons_zero]
  refine gw_build (by kernel_rfl) (some 34) rfl 22 2 #[(0, .const (.int .i64 9)), (1, .const (.int .i64 8))] rfl #[(0, .int .i64 9), (1, .int .i64 8)] (by kernel_rfl) (.slice (some ⟨V6.heap.size, 0, none⟩) 2 2) _ (two_int 9 8 V6) ?_
  simp only [Act.put, List.setIfInBounds_toArray, List.set_cons_succ, List.set_cons_zero]
  refine gw_call (by kernel_rfl) (some 35) rfl 11 #[.slice a6 2 c6, .slice (some ⟨V6.heap.size, 0, none⟩) 2 2] (.bool true) (KN R w g K4) (by kernel_rfl) (CS.mono fun e w' h => ⟨h.1, hK7.below hC h.2⟩) (fun V8 hK => ?_)
  simp only [Act.put, List.setIfInBounds_toArray, List.set_cons_succ, List.set_cons_zero]
  refine gw_val (by kernel_rfl) (some 36) rfl (.bool true) (by kernel_rfl) ?_
  simp only [Act.put, List.setIfInBounds_toArray, List.set_cons_succ, List.set_cons_zero]
  refine gw_val (by kernel_rfl) (some 37) rfl (.int .i64 8) (by kernel_rfl) ?_
  simp only [Act.put, List.setIfInBounds_toArray, List.set_cons_succ, List.set_cons_zero]
  refine gw_val (by kernel_rfl) (some 38) rfl (.bool true) (by kernel_rfl) ?_
  simp only [Act.put, List.setIfInBounds_toArray, List.set_cons_succ, List.set_cons_zero]
  refine gw_val (by kernel_rfl) (some 39) rfl (.bool true) (by kernel_rfl) ?_
  simp only [Act.put, List.setIfInBounds_toArray, List.set_cons_succ, List.set_cons_zero]
  refine gw_val (by kernel_rfl) (some 40) rfl (.bool true) (by kernel_rfl) ?_
  simp only [Act.put, List.setIfInBounds_toArray, List.set_cons_succ, List.set_cons_zero]
  refine gw_val (by kernel_rfl) (some 41) rfl (.bool true) (by kernel_rfl) ?_
  simp only [Act.put, List.setIfInBounds_toArray, List.set_cons_succ, List.set_cons_zero]
  refine gw_val (by kernel_rfl) (some 42) rfl (.bool true) (by kernel_rfl) ?_
  simp only [Act.put, List.setIfInBounds_toArray, List.set_cons_succ, List.set_cons_zero]
  refine gw_val (by kernel_rfl) (some 43) rfl (.bool true) (by kernel_rfl) ?_
  simp only [Act.put, List.setIfInBounds_toArray, List.set_cons_succ, List.set_cons_zero]
  refine gw_val (by kernel_rfl) (some 44) rfl (.pointer (some ⟨g, 0, none⟩)) (by kernel_rfl) ?_
  simp only [Act.put, List.setIfInBounds_toArray, List.set_cons_succ, List.set_cons_zero]
  refine gw_call (by kernel_rfl) (some 45) rfl 15 #[.pointer (some ⟨g, 0, none⟩)] (.int .i64 0) (KN R w g K4) (by kernel_rfl) (C7 _ g hK) (fun V6 hK => ?_)
  simp only [Act.put, List.setIfInBounds_toArray, List.set_cons_succ, List.set_cons_zero]
  refine gw_val (by kernel_rfl) (some 46) rfl (.bool true) (by kernel_rfl) ?_
  simp only [Act.put, List.setIfInBounds_toArray, List.set_cons_succ, List.set_cons_zero]
  refine gw_val (by kernel_rfl) (some 47) rfl (.bool true) (by kernel_rfl) ?_
  simp only [Act.put, List.setIfInBounds_toArray, List.set_cons_succ, List.set_cons_zero]
  refine gw_val (by kernel_rfl) (some 48) rfl (.bool true) (by kernel_rfl) ?_
  simp only [Act.put, List.setIfInBounds_toArray, List.set_cons_succ, List.set_cons_zero]
  refine gw_val (by kernel_rfl) (some 49) rfl (.pointer (some ⟨g, 0, none⟩)) (by kernel_rfl) ?_
  simp only [Act.put, List.setIfInBounds_toArray, List.set_cons_succ, List.set_cons_zero]
  refine gw_call (by kernel_rfl) (some 50) rfl 20 #[.pointer (some ⟨g, 0, none⟩), .int .i64 0] (.int .i64 1) (KN R w g K4) (by kernel_rfl) (C8 _ g hK) (fun V7 hK => ?_)
  simp only [Act.put, List.setIfInBounds_toArray, List.set_cons_succ, List.set_cons_zero]
  refine gw_val (by kernel_rfl) (some 51) rfl (.bool true) (by kernel_rfl) ?_
  simp only [Act.put, List.setIfInBounds_toArray, List.set_cons_succ, List.set_cons_zero]
  refine gw_val (by kernel_rfl) (some 52) rfl (.bool true) (by kernel_rfl) ?_
  simp only [Act.put, List.setIfInBounds_toArray, List.set_cons_succ, List.set_cons_zero]
  refine gw_val (by kernel_rfl) (some 53) rfl (.bool true) (by kernel_rfl) ?_
  simp only [Act.put, List.setIfInBounds_toArray, List.set_cons_succ, List.set_cons_zero]
  refine gw_val (by kernel_rfl) (some 54) rfl (.pointer (some ⟨g, 0, none⟩)) (by kernel_rfl) ?_
  simp only [Act.put, List.setIfInBounds_toArray, List.set_cons_succ, List.set_cons_zero]
  refine gw_call (by kernel_rfl) (some 55) rfl 20 #[.pointer (some ⟨g, 0, none⟩), .int .i64 1] (.int .i64 (-1)) (KN R w g K4) (by kernel_rfl) (C9 _ g hK) (fun V8 hK => ?_)
  simp only [Act.put, List.setIfInBounds_toArray, List.set_cons_succ, List.set_cons_zero]
  refine gw_val (by kernel_rfl) (some 56) rfl (.bool true) (by kernel_rfl) ?_
  simp only [Act.put, List.setIfInBounds_toArray, List.set_cons_succ, List.set_cons_zero]
  refine gw_val (by kernel_rfl) (some 57) rfl (.bool true) (by kernel_rfl) ?_
  simp only [Act.put, List.setIfInBounds_toArray, List.set_cons_succ, List.set_cons_zero]
  refine gw_val (by kernel_rfl) (some 58) rfl (.bool true) (by kernel_rfl) ?_
  simp only [Act.put, List.setIfInBounds_toArray, List.set_cons_succ, List.set_cons_zero]
  refine gw_val (by kernel_rfl) (some 59) rfl (.pointer (some ⟨g, 0, none⟩)) (by kernel_rfl) ?_
  simp only [Act.put, List.setIfInBounds_toArray, List.set_cons_succ, List.set_cons_zero]
  refine gw_call (by kernel_rfl) (some 60) rfl 14 #[.pointer (some ⟨g, 0, none⟩)] (.int .i64 2) (KN R w g K4) (by kernel_rfl) (C10 _ g hK) (fun V9 hK => ?_)
  simp only [Act.put, List.setIfInBounds_toArray, List.set_cons_succ, List.set_cons_zero]
  refine gw_val (by kernel_rfl) (some 61) rfl (.bool true) (by kernel_rfl) ?_
  simp only [Act.put, List.setIfInBounds_toArray, List.set_cons_succ, List.set_cons_zero]
  refine gw_val (by kernel_rfl) (some 62) rfl (.bool true) (by kernel_rfl) ?_
  simp only [Act.put, List.setIfInBounds_toArray, List.set_cons_succ, List.set_cons_zero]
  refine gw_val (by kernel_rfl) (some 0) rfl (.bool true) (by kernel_rfl) ?_
  simp only [Act.put, List.setIfInBounds_toArray, List.set_cons_succ, List.set_cons_zero]
  apply wpList_nil
  obtain ⟨S, -, -, hB⟩ := hK
  have HB := Lib.hid hB
  clear hB C6 C7 C8 C9 C10 CS hK7 hB7 hA6
  go_wp2_with fail
  go_ret
  exact ⟨rfl, HB.out⟩
end Go.Proofs.Ytefinpapkjgpoaa
