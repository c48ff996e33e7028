/-
  A heap kept by a walk; the fixed example of the statements.
-/
import Derived.Test.YtepdibnbnhkpnaaRT
namespace Go.Proofs.Ytepdibnbnhkpnaa
open Go.RowKit
set_option linter.unusedSimpArgs false
set_option linter.unusedVariables false

/-- A heap somewhere in blocks made since w. -/
def KH (R : HRep) (w : World) (g : Nat) (M : List It) (V : World) : Prop := ∃ S, R V g S M ∧ (∀ k, S k → w.heap.size ≤ k) ∧ Below w.heap.size w V
theorem KH.bel {R : HRep} {w V : World} {g : Nat} {M : List It} (h : KH R w g M V) : Below w.heap.size w V := by
  obtain ⟨S, hr, hs, hbel⟩ := h
  exact hbel
section
variable {R : HRep} {w V V2 : World} {g : Nat} {M : List It} (hC : HeapC R 13 15 17 20 19 23 21 11)
theorem KH.of_upd {S : Nat → Prop} {M2 : List It} (hs : ∀ k, S k → w.heap.size ≤ k) (hbel : Below w.heap.size w V) (h : UpdH R g w.heap.size S M2 V V2) : KH R w g M2 V2 := by
  obtain ⟨S2, hr, hs2, hb⟩ := h
  have := hbel.size
  exact ⟨S2, hr, fun k hk => (hs2 k hk).elim (hs k) (by omega), hbel.trans hb.1⟩
include hC
theorem KH.below (h : KH R w g M V) (hb : Below V.heap.size V V2) : KH R w g M V2 := by
  obtain ⟨S, hr, hs, hbel⟩ := h
  exact ⟨S, hC.keep hr fun k hk => hb.block k (hC.inn hr k hk), hs, hbel.trans (hb.mono hbel.size)⟩
theorem kh_new (w : World) : Calls Try.prog 13 #[] w fun e w' => ∃ g, e = .returned (.pointer (some ⟨g, 0, none⟩)) ∧ KH R w g [] w' := (hC.new w).mono fun e w' h => by
  obtain ⟨g, S, he, hr, hs, hb⟩ := h
  exact ⟨g, he, S, hr, hs, hb⟩
theorem KH.push (h : KH R w g M V) (hw : Wh M) (hl : M.length ≤ 80000) (x : It) : Calls Try.prog 15 #[.pointer (some ⟨g, 0, none⟩), .agg (itA x)] V fun e w' => e = .returned (.bool (insM M x).2) ∧ KH R w g (insM M x).1 w' := by
  obtain ⟨S, hr, hs, hbel⟩ := h
  exact (hC.push V g S M x w.heap.size hr hw hl hs hbel.size).mono fun e w' h => ⟨h.1, KH.of_upd hs hbel h.2⟩
theorem KH.pop (h : KH R w g M V) (hw : Wh M) (hl : M.length ≤ 80000) : Calls Try.prog 17 #[.pointer (some ⟨g, 0, none⟩)] V fun e w' => e = .returned (.tuple #[.agg (itA (ita M 0)), .bool (decide (0 < M.length))]) ∧ KH R w g M.tail w' := by
  obtain ⟨S, hr, hs, hbel⟩ := h
  exact (hC.pop V g S M w.heap.size hr hw hl hs hbel.size).mono fun e w' h => ⟨h.1, KH.of_upd hs hbel h.2⟩
theorem KH.remove (h : KH R w g M V) (hw : Wh M) (hl : M.length ≤ 80000) (k : Int) : Calls Try.prog 19 #[.pointer (some ⟨g, 0, none⟩), .int .i64 k] V fun e w' => e = .returned (.bool (takM M k).2) ∧ KH R w g (takM M k).1 w' := by
  obtain ⟨S, hr, hs, hbel⟩ := h
  exact (hC.remove V g S M k w.heap.size hr hw hl hs hbel.size).mono fun e w' h => ⟨h.1, KH.of_upd hs hbel h.2⟩
theorem KH.peek (h : KH R w g M V) (hw : Wh M) (hl : M.length ≤ 80000) : Calls Try.prog 20 #[.pointer (some ⟨g, 0, none⟩)] V fun e w' => e = .returned (.tuple #[.agg (itA (ita M 0)), .bool (decide (0 < M.length))]) ∧ KH R w g M w' ∧ Below V.heap.size V w' := by
  have h2 := h
  obtain ⟨S, hr, hs, hbel⟩ := h
  exact (hC.peek V g S M hr hw hl).mono fun e w' q => ⟨q.1, h2.below hC q.2, q.2⟩
theorem KH.sorted (h : KH R w g M V) (hw : Wh M) (hl : M.length ≤ 80000) : Calls Try.prog 23 #[.pointer (some ⟨g, 0, none⟩)] V fun e w' => ∃ a c, e = .returned (.slice a M.length c) ∧ Cs w' a (itc M) ∧ M.length ≤ c ∧ KH R w g M w' ∧ Below V.heap.size V w' := by
  have h2 := h
  obtain ⟨S, hr, hs, hbel⟩ := h
  exact (hC.sorted V g S M hr hw hl).mono fun e w' q => by
    obtain ⟨a, c, e1, e2, e3, e4⟩ := q
    exact ⟨a, c, e1, e2, e3, h2.below hC e4, e4⟩
theorem KH.len (h : KH R w g M V) (hw : Wh M) (hl : M.length ≤ 80000) : Calls Try.prog 21 #[.pointer (some ⟨g, 0, none⟩)] V fun e w' => e = .returned (.int .i64 M.length) ∧ KH R w g M w' ∧ Below V.heap.size V w' := by
  have h2 := h
  obtain ⟨S, hr, hs, hbel⟩ := h
  exact (hC.len V g S M hr hw hl).mono fun e w' q => ⟨q.1, h2.below hC q.2, q.2⟩
end
def k1 : It := (1, 5, 1)
def k2 : It := (2, 7, 2)
def k3 : It := (3, 7, 3)
def k4 : It := (2, 0, 0)
theorem kf1 : insM [] k1 = ([k1], true) := by decide +kernel
theorem kf2 : insM [k1] k3 = ([k3, k1], true) := by decide +kernel
theorem kf3 : insM [k3, k1] k2 = ([k2, k3, k1], true) := by decide +kernel
theorem kf4 : insM [k2, k3, k1] k4 = ([k2, k3, k1], false) := by decide +kernel
theorem kf5 : takM [k3, k1] 3 = ([k1], true) := by decide +kernel
set_option maxRecDepth 100000 in
set_option maxHeartbeats 8000000 in
theorem known_true {R : HRep} (hC : HeapC R 13 15 17 20 19 23 21 11) (w : World) : Calls Try.prog 8 #[] w fun e w' => e = .returned (.bool true) ∧ Below w.heap.size w w' := by
  have C0 := Lib.hid (kh_new hC w)
  have w1 : Wh [k1] := by have := Wh.nil.ins k1; rw [kf1] at this; exact this
  have w2 : Wh [k3, k1] := by have := w1.ins k3; rw [kf2] at this; exact this
  have w3 : Wh [k2, k3, k1] := by have := w2.ins k2; rw [kf3] at this; exact this
  have w5 : Wh [k1] := w1
  have P1 := Lib.hid (fun gh V (h : KH R w gh [] V) => (by have := h.push hC Wh.nil (by decide) k1; rw [kf1] at this; exact this : Calls Try.prog 15 #[.pointer (some ⟨gh, 0, none⟩), .agg (itA k1)] V fun e w' => e = .returned (.bool true) ∧ KH R w gh [k1] w'))
  have P2 := Lib.hid (fun gh V (h : KH R w gh [k1] V) => (by have := h.push hC w1 (by decide) k3; rw [kf2] at this; exact this : Calls Try.prog 15 #[.pointer (some ⟨gh, 0, none⟩), .agg (itA k3)] V fun e w' => e = .returned (.bool true) ∧ KH R w gh [k3, k1] w'))
  have P3 := Lib.hid (fun gh V (h : KH R w gh [k3, k1] V) => (by have := h.push hC w2 (by decide) k2; rw [kf3] at this; exact this : Calls Try.prog 15 #[.pointer (some ⟨gh, 0, none⟩), .agg (itA k2)] V fun e w' => e = .returned (.bool true) ∧ KH R w gh [k2, k3, k1] w'))
  have P4 := Lib.hid (fun gh V (h : KH R w gh [k2, k3, k1] V) => (by have := h.push hC w3 (by decide) k4; rw [kf4] at this; exact this : Calls Try.prog 15 #[.pointer (some ⟨gh, 0, none⟩), .agg (itA k4)] V fun e w' => e = .returned (.bool false) ∧ KH R w gh [k2, k3, k1] w'))
  have P5 := Lib.hid (fun gh V (h : KH R w gh [k2, k3, k1] V) => (h.pop hC w3 (by decide) : Calls Try.prog 17 #[.pointer (some ⟨gh, 0, none⟩)] V fun e w' => e = .returned (.tuple #[.agg (itA k2), .bool true]) ∧ KH R w gh [k3, k1] w'))
  have P6 := Lib.hid (fun gh V (h : KH R w gh [k3, k1] V) => (h.peek hC w2 (by decide) : Calls Try.prog 20 #[.pointer (some ⟨gh, 0, none⟩)] V fun e w' => e = .returned (.tuple #[.agg (itA k3), .bool true]) ∧ KH R w gh [k3, k1] w' ∧ Below V.heap.size V w'))
  have P7 := Lib.hid (fun gh V (h : KH R w gh [k3, k1] V) => (h.len hC w2 (by decide) : Calls Try.prog 21 #[.pointer (some ⟨gh, 0, none⟩)] V fun e w' => e = .returned (.int .i64 (2 : Nat)) ∧ KH R w gh [k3, k1] w' ∧ Below V.heap.size V w'))
  have P8 := Lib.hid (fun gh V (h : KH R w gh [k3, k1] V) => (by have := h.remove hC w2 (by decide) 3; rw [kf5] at this; exact this : Calls Try.prog 19 #[.pointer (some ⟨gh, 0, none⟩), .int .i64 3] V fun e w' => e = .returned (.bool true) ∧ KH R w gh [k1] w'))
  have P9 := Lib.hid (fun gh V (h : KH R w gh [k1] V) => (h.sorted hC w1 (by decide) : Calls Try.prog 23 #[.pointer (some ⟨gh, 0, none⟩)] V fun e w' => ∃ a c, e = .returned (.slice a 1 c) ∧ Cs w' a (itc [k1]) ∧ 1 ≤ c ∧ KH R w gh [k1] w' ∧ Below V.heap.size V w'))
  have HBL := Lib.hid (fun gh M V V2 (h : KH R w gh M V) (hb : Below V.heap.size V V2) => h.below hC hb)
  have e1 : itA k1 = #[.int .i64 1, .int .u64 5, .int .i64 1] := rfl
  have e2 : itA k2 = #[.int .i64 2, .int .u64 7, .int .i64 2] := rfl
  have e3 : itA k3 = #[.int .i64 3, .int .u64 7, .int .i64 3] := rfl
  have e4 : itA k4 = #[.int .i64 2, .int .u64 0, .int .i64 0] := rfl
  clear w1 w2 w3 w5 hC e1 e2 e3 e4
  go_enter Try.func8, Try.ntmps8
  go_upto_region 1 with fail
  apply wp_region_lit
  refine gw_callE (by kernel_rfl) (some 10) rfl 13 #[] (fun v w' => ∃ g, v = .pointer (some ⟨g, 0, none⟩) ∧ KH R w g [] w') (by kernel_rfl) (C0.out.mono fun e w' q => by obtain ⟨g, he, h⟩ := q; exact ⟨_, he, g, rfl, h⟩) (fun v V0 hq => ?_)
  obtain ⟨gh, rfl, h0⟩ := hq
  simp only [Act.put, List.setIfInBounds_toArray, List.set_cons_succ, List.set_cons_zero]
  refine gw_val (by kernel_rfl) (some 1) rfl (.pointer (some ⟨gh, 0, none⟩)) (by kernel_rfl) ?_
  simp only [Act.put, List.setIfInBounds_toArray, List.set_cons_succ, List.set_cons_zero]
  apply wpList_nil
  clear C0
  go_upto_region 2 with fail
  apply wp_region_lit
  refine gw_val (by kernel_rfl) (some 11) rfl (.pointer (some ⟨gh, 0, none⟩)) (by kernel_rfl) ?_
  simp only [Act.put, List.setIfInBounds_toArray, List.set_cons_succ, List.set_cons_zero]
  refine gw_val (by kernel_rfl) (some 12) rfl (.bool false) (by kernel_rfl) ?_
  simp only [Act.put, List.setIfInBounds_toArray, List.set_cons_succ, List.set_cons_zero]
  apply wpList_nil
  go_upto_region 4 with fail
  apply wp_region_lit
  refine gw_val (by kernel_rfl) (some 13) rfl (.pointer (some ⟨gh, 0, none⟩)) (by kernel_rfl) ?_
  simp only [Act.put, List.setIfInBounds_toArray, List.set_cons_succ, List.set_cons_zero]
  refine gw_val (by kernel_rfl) (some 14) rfl (.agg (itA k1)) (by kernel_rfl) ?_
  simp only [Act.put, List.setIfInBounds_toArray, List.set_cons_succ, List.set_cons_zero]
  refine gw_call (by kernel_rfl) (some 15) rfl 15 #[.pointer (some ⟨gh, 0, none⟩), .agg (itA k1)] (.bool true) (fun w' => KH R w gh [k1] w') (by kernel_rfl) (P1.out gh V0 h0) (fun V1 h1 => ?_)
  clear h0 P1
  simp only [Act.put, List.setIfInBounds_toArray, List.set_cons_succ, List.set_cons_zero]
  refine gw_val (by kernel_rfl) (some 2) rfl (.bool true) (by kernel_rfl) ?_
  simp only [Act.put, List.setIfInBounds_toArray, List.set_cons_succ, List.set_cons_zero]
  apply wpList_nil
  go_upto_region 5 with fail
  apply wp_region_lit
  refine gw_val (by kernel_rfl) (some 16) rfl (.pointer (some ⟨gh, 0, none⟩)) (by kernel_rfl) ?_
  simp only [Act.put, List.setIfInBounds_toArray, List.set_cons_succ, List.set_cons_zero]
  refine gw_val (by kernel_rfl) (some 17) rfl (.agg (itA k3)) (by kernel_rfl) ?_
  simp only [Act.put, List.setIfInBounds_toArray, List.set_cons_succ, List.set_cons_zero]
  refine gw_call (by kernel_rfl) (some 18) rfl 15 #[.pointer (some ⟨gh, 0, none⟩), .agg (itA k3)] (.bool true) (fun w' => KH R w gh [k3, k1] w') (by kernel_rfl) (P2.out gh V1 h1) (fun V2 h2 => ?_)
  clear h1 P2
  simp only [Act.put, List.setIfInBounds_toArray, List.set_cons_succ, List.set_cons_zero]
  refine gw_val (by kernel_rfl) (some 3) rfl (.bool true) (by kernel_rfl) ?_
  simp only [Act.put, List.setIfInBounds_toArray, List.set_cons_succ, List.set_cons_zero]
  apply wpList_nil
  go_upto_region 6 with fail
  apply wp_region_lit
  refine gw_val (by kernel_rfl) (some 19) rfl (.pointer (some ⟨gh, 0, none⟩)) (by kernel_rfl) ?_
  simp only [Act.put, List.setIfInBounds_toArray, List.set_cons_succ, List.set_cons_zero]
  refine gw_val (by kernel_rfl) (some 20) rfl (.agg (itA k2)) (by kernel_rfl) ?_
  simp only [Act.put, List.setIfInBounds_toArray, List.set_cons_succ, List.set_cons_zero]
  refine gw_call (by kernel_rfl) (some 21) rfl 15 #[.pointer (some ⟨gh, 0, none⟩), .agg (itA k2)] (.bool true) (fun w' => KH R w gh [k2, k3, k1] w') (by kernel_rfl) (P3.out gh V2 h2) (fun V3 h3 => ?_)
  clear h2 P3
  simp only [Act.put, List.setIfInBounds_toArray, List.set_cons_succ, List.set_cons_zero]
  refine gw_val (by kernel_rfl) (some 4) rfl (.bool true) (by kernel_rfl) ?_
  simp only [Act.put, List.setIfInBounds_toArray, List.set_cons_succ, List.set_cons_zero]
  apply wpList_nil
  go_upto_region 7 with fail
  apply wp_region_lit
  refine gw_val (by kernel_rfl) (some 22) rfl (.pointer (some ⟨gh, 0, none⟩)) (by kernel_rfl) ?_
  simp only [Act.put, List.setIfInBounds_toArray, List.set_cons_succ, List.set_cons_zero]
  refine gw_val (by kernel_rfl) (some 23) rfl (.agg (itA k4)) (by kernel_rfl) ?_
  simp only [Act.put, List.setIfInBounds_toArray, List.set_cons_succ, List.set_cons_zero]
  refine gw_call (by kernel_rfl) (some 24) rfl 15 #[.pointer (some ⟨gh, 0, none⟩), .agg (itA k4)] (.bool false) (fun w' => KH R w gh [k2, k3, k1] w') (by kernel_rfl) (P4.out gh V3 h3) (fun V4 h4 => ?_)
  clear h3 P4
  simp only [Act.put, List.setIfInBounds_toArray, List.set_cons_succ, List.set_cons_zero]
  refine gw_val (by kernel_rfl) (some 5) rfl (.bool false) (by kernel_rfl) ?_
  simp only [Act.put, List.setIfInBounds_toArray, List.set_cons_succ, List.set_cons_zero]
  apply wpList_nil
  go_upto_region 8 with fail
  apply wp_region_lit
  refine gw_val (by kernel_rfl) (some 26) rfl (.pointer (some ⟨gh, 0, none⟩)) (by kernel_rfl) ?_
  simp only [Act.put, List.setIfInBounds_toArray, List.set_cons_succ, List.set_cons_zero]
  refine gw_call (by kernel_rfl) (some 27) rfl 17 #[.pointer (some ⟨gh, 0, none⟩)] (.tuple #[.agg (itA k2), .bool true]) (fun w' => KH R w gh [k3, k1] w') (by kernel_rfl) (P5.out gh V4 h4) (fun V5 h5 => ?_)
  clear h4 P5
  simp only [Act.put, List.setIfInBounds_toArray, List.set_cons_succ, List.set_cons_zero]
  obtain ⟨V6, hst, hgd, hbx⟩ := new_box V5 k2
  have h6 := HBL.out gh _ V5 V6 h5 hgd.1
  refine gw_val (by kernel_rfl) (some 25) rfl (.tuple #[.agg (itA k2), .bool true]) (by kernel_rfl) ?_
  simp only [Act.put, List.setIfInBounds_toArray, List.set_cons_succ, List.set_cons_zero]
  refine gw_val (by kernel_rfl) (some 28) rfl (.agg (itA k2)) (by kernel_rfl) ?_
  simp only [Act.put, List.setIfInBounds_toArray, List.set_cons_succ, List.set_cons_zero]
  refine gw_val (by kernel_rfl) (some 29) rfl (.bool true) (by kernel_rfl) ?_
  simp only [Act.put, List.setIfInBounds_toArray, List.set_cons_succ, List.set_cons_zero]
  refine run_to rfl (some 6) rfl (.pointer (some ⟨V5.heap.size, 0, none⟩)) (V5.alloc (.cells (itA zIt) 24)) (by kernel_rfl) ?_
  simp only [Act.put, List.setIfInBounds_toArray, List.set_cons_succ, List.set_cons_zero]
  refine gw_store (by kernel_rfl) rfl 24 (.tmp 6) (.tmp 28) rfl (.pointer (some ⟨V5.heap.size, 0, none⟩)) (.agg (itA k2)) (by kernel_rfl) (by kernel_rfl) V6 hst ?_
  refine gw_val (by kernel_rfl) (some 7) rfl (.bool true) (by kernel_rfl) ?_
  simp only [Act.put, List.setIfInBounds_toArray, List.set_cons_succ, List.set_cons_zero]
  apply wpList_nil
  obtain ⟨g6, hg6⟩ : ∃ g6, V5.heap.size = g6 := ⟨_, rfl⟩
  rw [hg6] at hbx ⊢
  clear hst hg6 h5 hgd
  go_upto_region 9 with fail
  apply wp_region_lit
  refine gw_val (by kernel_rfl) (some 31) rfl (.pointer (some ⟨gh, 0, none⟩)) (by kernel_rfl) ?_
  simp only [Act.put, List.setIfInBounds_toArray, List.set_cons_succ, List.set_cons_zero]
  refine gw_call (by kernel_rfl) (some 32) rfl 20 #[.pointer (some ⟨gh, 0, none⟩)] (.tuple #[.agg (itA k3), .bool true]) (fun w' => KH R w gh [k3, k1] w' ∧ Below V6.heap.size V6 w') (by kernel_rfl) (P6.out gh V6 h6) (fun V7 h7 => ?_)
  clear h6 P6
  simp only [Act.put, List.setIfInBounds_toArray, List.set_cons_succ, List.set_cons_zero]
  obtain ⟨h7, hb7⟩ := h7
  have hx7 := hbx.below hbx.lt hb7
  obtain ⟨V8, hst, hgd, hby⟩ := new_box V7 k3
  have h8 := HBL.out gh _ V7 V8 h7 hgd.1
  have hx8 := hx7.below hx7.lt hgd.1
  refine gw_val (by kernel_rfl) (some 30) rfl (.tuple #[.agg (itA k3), .bool true]) (by kernel_rfl) ?_
  simp only [Act.put, List.setIfInBounds_toArray, List.set_cons_succ, List.set_cons_zero]
  refine gw_val (by kernel_rfl) (some 33) rfl (.agg (itA k3)) (by kernel_rfl) ?_
  simp only [Act.put, List.setIfInBounds_toArray, List.set_cons_succ, List.set_cons_zero]
  refine gw_val (by kernel_rfl) (some 34) rfl (.bool true) (by kernel_rfl) ?_
  simp only [Act.put, List.setIfInBounds_toArray, List.set_cons_succ, List.set_cons_zero]
  refine run_to rfl (some 8) rfl (.pointer (some ⟨V7.heap.size, 0, none⟩)) (V7.alloc (.cells (itA zIt) 24)) (by kernel_rfl) ?_
  simp only [Act.put, List.setIfInBounds_toArray, List.set_cons_succ, List.set_cons_zero]
  refine gw_store (by kernel_rfl) rfl 24 (.tmp 8) (.tmp 33) rfl (.pointer (some ⟨V7.heap.size, 0, none⟩)) (.agg (itA k3)) (by kernel_rfl) (by kernel_rfl) V8 hst ?_
  refine gw_val (by kernel_rfl) (some 9) rfl (.bool true) (by kernel_rfl) ?_
  simp only [Act.put, List.setIfInBounds_toArray, List.set_cons_succ, List.set_cons_zero]
  apply wpList_nil
  obtain ⟨g8, hg8⟩ : ∃ g8, V7.heap.size = g8 := ⟨_, rfl⟩
  rw [hg8] at hby ⊢
  clear hst hg8 h7 hgd hb7 hx7 hbx
  go_upto_region 10 with fail
  apply wp_region_lit
  refine gw_val (by kernel_rfl) (some 35) rfl (.bool true) (by kernel_rfl) ?_
  simp only [Act.put, List.setIfInBounds_toArray, List.set_cons_succ, List.set_cons_zero]
  refine gw_val (by kernel_rfl) (some 36) rfl (.bool true) (by kernel_rfl) ?_
  simp only [Act.put, List.setIfInBounds_toArray, List.set_cons_succ, List.set_cons_zero]
  refine gw_val (by kernel_rfl) (some 37) rfl (.bool true) (by kernel_rfl) ?_
  simp only [Act.put, List.setIfInBounds_toArray, List.set_cons_succ, List.set_cons_zero]
  refine gw_val (by kernel_rfl) (some 38) rfl (.bool true) (by kernel_rfl) ?_
  simp only [Act.put, List.setIfInBounds_toArray, List.set_cons_succ, List.set_cons_zero]
  refine gw_val (by kernel_rfl) (some 39) rfl (.bool true) (by kernel_rfl) ?_
  simp only [Act.put, List.setIfInBounds_toArray, List.set_cons_succ, List.set_cons_zero]
  refine gw_val (by kernel_rfl) (some 40) rfl (.bool true) (by kernel_rfl) ?_
  simp only [Act.put, List.setIfInBounds_toArray, List.set_cons_succ, List.set_cons_zero]
  refine gw_val (by kernel_rfl) (some 41) rfl (.bool true) (by kernel_rfl) ?_
  simp only [Act.put, List.setIfInBounds_toArray, List.set_cons_succ, List.set_cons_zero]
  refine gw_val (by kernel_rfl) (some 42) rfl (.bool true) (by kernel_rfl) ?_
  simp only [Act.put, List.setIfInBounds_toArray, List.set_cons_succ, List.set_cons_zero]
  refine gw_val (by kernel_rfl) (some 43) rfl (.bool false) (by kernel_rfl) ?_
  simp only [Act.put, List.setIfInBounds_toArray, List.set_cons_succ, List.set_cons_zero]
  refine gw_val (by kernel_rfl) (some 44) rfl (.bool true) (by kernel_rfl) ?_
  simp only [Act.put, List.setIfInBounds_toArray, List.set_cons_succ, List.set_cons_zero]
  refine gw_val (by kernel_rfl) (some 45) rfl (.bool true) (by kernel_rfl) ?_
  simp only [Act.put, List.setIfInBounds_toArray, List.set_cons_succ, List.set_cons_zero]
  refine gw_val (by kernel_rfl) (some 46) rfl (.bool true) (by kernel_rfl) ?_
  simp only [Act.put, List.setIfInBounds_toArray, List.set_cons_succ, List.set_cons_zero]
  refine gw_val (by kernel_rfl) (some 47) rfl (.bool true) (by kernel_rfl) ?_
  simp only [Act.put, List.setIfInBounds_toArray, List.set_cons_succ, List.set_cons_zero]
  refine gw_val (by kernel_rfl) (some 48) rfl (.bool true) (by kernel_rfl) ?_
  simp only [Act.put, List.setIfInBounds_toArray, List.set_cons_succ, List.set_cons_zero]
  refine gw_val (by kernel_rfl) (some 49) rfl (.bool true) (by kernel_rfl) ?_
  simp only [Act.put, List.setIfInBounds_toArray, List.set_cons_succ, List.set_cons_zero]
  refine gw_val (by kernel_rfl) (some 50) rfl (.pointer (some ⟨g6, 0, none⟩)) (by kernel_rfl) ?_
  simp only [Act.put, List.setIfInBounds_toArray, List.set_cons_succ, List.set_cons_zero]
  refine gw_load (by kernel_rfl) (some 51) rfl 3 (.tmp 50) rfl ⟨g6, 0, none⟩ (.int .i64 2) (by kernel_rfl) (ld_f0 hx8) ?_
  simp only [Act.put, List.setIfInBounds_toArray, List.set_cons_succ, List.set_cons_zero]
  refine gw_val (by kernel_rfl) (some 52) rfl (.bool true) (by kernel_rfl) ?_
  simp only [Act.put, List.setIfInBounds_toArray, List.set_cons_succ, List.set_cons_zero]
  refine gw_val (by kernel_rfl) (some 53) rfl (.bool true) (by kernel_rfl) ?_
  simp only [Act.put, List.setIfInBounds_toArray, List.set_cons_succ, List.set_cons_zero]
  refine gw_val (by kernel_rfl) (some 54) rfl (.bool true) (by kernel_rfl) ?_
  simp only [Act.put, List.setIfInBounds_toArray, List.set_cons_succ, List.set_cons_zero]
  refine gw_val (by kernel_rfl) (some 55) rfl (.bool true) (by kernel_rfl) ?_
  simp only [Act.put, List.setIfInBounds_toArray, List.set_cons_succ, List.set_cons_zero]
  refine gw_val (by kernel_rfl) (some 56) rfl (.bool true) (by kernel_rfl) ?_
  simp only [Act.put, List.setIfInBounds_toArray, List.set_cons_succ, List.set_cons_zero]
  refine gw_val (by kernel_rfl) (some 57) rfl (.bool true) (by kernel_rfl) ?_
  simp only [Act.put, List.setIfInBounds_toArray, List.set_cons_succ, List.set_cons_zero]
  refine gw_val (by kernel_rfl) (some 58) rfl (.pointer (some ⟨g8, 0, none⟩)) (by kernel_rfl) ?_
  simp only [Act.put, List.setIfInBounds_toArray, List.set_cons_succ, List.set_cons_zero]
  refine gw_load (by kernel_rfl) (some 59) rfl 3 (.tmp 58) rfl ⟨g8, 0, none⟩ (.int .i64 3) (by kernel_rfl) (ld_f0 hby) ?_
  simp only [Act.put, List.setIfInBounds_toArray, List.set_cons_succ, List.set_cons_zero]
  refine gw_val (by kernel_rfl) (some 60) rfl (.bool true) (by kernel_rfl) ?_
  simp only [Act.put, List.setIfInBounds_toArray, List.set_cons_succ, List.set_cons_zero]
  refine gw_val (by kernel_rfl) (some 61) rfl (.bool true) (by kernel_rfl) ?_
  simp only [Act.put, List.setIfInBounds_toArray, List.set_cons_succ, List.set_cons_zero]
  refine gw_val (by kernel_rfl) (some 62) rfl (.bool true) (by kernel_rfl) ?_
  simp only [Act.put, List.setIfInBounds_toArray, List.set_cons_succ, List.set_cons_zero]
  refine gw_val (by kernel_rfl) (some 63) rfl (.pointer (some ⟨gh, 0, none⟩)) (by kernel_rfl) ?_
  simp only [Act.put, List.setIfInBounds_toArray, List.set_cons_succ, List.set_cons_zero]
  refine gw_call (by kernel_rfl) (some 64) rfl 21 #[.pointer (some ⟨gh, 0, none⟩)] (.int .i64 (2 : Nat)) (fun w' => KH R w gh [k3, k1] w' ∧ Below V8.heap.size V8 w') (by kernel_rfl) (P7.out gh V8 h8) (fun V9 h9 => ?_)
  obtain ⟨h9, -⟩ := h9
  clear h8 P7 hby hx8
  simp only [Act.put, List.setIfInBounds_toArray, List.set_cons_succ, List.set_cons_zero]
  refine gw_val (by kernel_rfl) (some 65) rfl (.bool true) (by kernel_rfl) ?_
  simp only [Act.put, List.setIfInBounds_toArray, List.set_cons_succ, List.set_cons_zero]
  refine gw_val (by kernel_rfl) (some 66) rfl (.bool true) (by kernel_rfl) ?_
  simp only [Act.put, List.setIfInBounds_toArray, List.set_cons_succ, List.set_cons_zero]
  refine gw_val (by kernel_rfl) (some 67) rfl (.bool true) (by kernel_rfl) ?_
  simp only [Act.put, List.setIfInBounds_toArray, List.set_cons_succ, List.set_cons_zero]
  refine gw_val (by kernel_rfl) (some 68) rfl (.pointer (some ⟨gh, 0, none⟩)) (by kernel_rfl) ?_
  simp only [Act.put, List.setIfInBounds_toArray, List.set_cons_succ, List.set_cons_zero]
  refine gw_call (by kernel_rfl) (some 69) rfl 19 #[.pointer (some ⟨gh, 0, none⟩), .int .i64 3] (.bool true) (fun w' => KH R w gh [k1] w') (by kernel_rfl) (P8.out gh V9 h9) (fun V10 h10 => ?_)
  clear h9 P8
  simp only [Act.put, List.setIfInBounds_toArray, List.set_cons_succ, List.set_cons_zero]
  refine gw_val (by kernel_rfl) (some 70) rfl (.bool true) (by kernel_rfl) ?_
  simp only [Act.put, List.setIfInBounds_toArray, List.set_cons_succ, List.set_cons_zero]
  refine gw_val (by kernel_rfl) (some 71) rfl (.bool true) (by kernel_rfl) ?_
  simp only [Act.put, List.setIfInBounds_toArray, List.set_cons_succ, List.set_cons_zero]
  refine gw_val (by kernel_rfl) (some 72) rfl (.pointer (some ⟨gh, 0, none⟩)) (by kernel_rfl) ?_
  simp only [Act.put, List.setIfInBounds_toArray, List.set_cons_succ, List.set_cons_zero]
  refine gw_callE (by kernel_rfl) (some 73) rfl 23 #[.pointer (some ⟨gh, 0, none⟩)] (fun v w' => ∃ a c, v = .slice a 1 c ∧ KH R w gh [k1] w') (by kernel_rfl) ((P9.out gh V10 h10).mono fun e w' q => by obtain ⟨a, c, he, -, -, h, -⟩ := q; exact ⟨_, he, a, c, rfl, h⟩) (fun v V11 hq => ?_)
  obtain ⟨aq, cq, rfl, h11⟩ := hq
  clear h10 P9
  simp only [Act.put, List.setIfInBounds_toArray, List.set_cons_succ, List.set_cons_zero]
  refine gw_val (by kernel_rfl) (some 74) rfl (.int .i64 1) (by kernel_rfl) ?_
  simp only [Act.put, List.setIfInBounds_toArray, List.set_cons_succ, List.set_cons_zero]
  refine gw_val (by kernel_rfl) (some 75) rfl (.bool true) (by kernel_rfl) ?_
  simp only [Act.put, List.setIfInBounds_toArray, List.set_cons_succ, List.set_cons_zero]
  refine gw_val (by kernel_rfl) (some 76) rfl (.bool true) (by kernel_rfl) ?_
  simp only [Act.put, List.setIfInBounds_toArray, List.set_cons_succ, List.set_cons_zero]
  refine gw_val (by kernel_rfl) (some 0) rfl (.bool true) (by kernel_rfl) ?_
  simp only [Act.put, List.setIfInBounds_toArray, List.set_cons_succ, List.set_cons_zero]
  apply wpList_nil
  have HE := Lib.hid h11.bel
  clear h11 HBL
  go_wp2_with fail
  go_ret
  exact ⟨rfl, HE.out⟩
end Go.Proofs.Ytepdibnbnhkpnaa
