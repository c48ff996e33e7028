/-
  The walk of the statement on what is read, over what the program's functions are held to.
-/
import Derived.Test.YtefinpapkjgpoaaLQ
namespace Go.Proofs.Ytefinpapkjgpoaa
open Go.RowKit
set_option linter.unusedSimpArgs false
set_option linter.unusedVariables false

/-- What the statement keeps behind play. -/
structure RD (R : Rep) (w : World) (gl g6 : Nat) (ea fa : Option Addr) (ec fc : Nat) (m : LM) (V : World) : Prop where
  kn : KN R w gl m V
  bx : Bx V g6 (lv ea fa ec fc m) 28
  l : LV V ea fa ec fc m
theorem RD.below {R : Rep} (hC : ListC R 23 25 27 28 29 18 15 17 20 22 12 14) {w V V2 : World} {gl g6 : Nat} {ea fa : Option Addr} {ec fc : Nat} {m : LM} (h : RD R w gl g6 ea fa ec fc m V) (hb : Below V.heap.size V V2) : RD R w gl g6 ea fa ec fc m V2 :=
  ⟨h.kn.below hC hb, h.bx.below h.bx.lt hb, h.l.below hb⟩
theorem nine_int (a b c d e f g h i : Int) (w : World) : (Instr.buildSlice 22 9 #[(0, .int .i64 a), (1, .int .i64 b), (2, .int .i64 c), (3, .int .i64 d), (4, .int .i64 e), (5, .int .i64 f), (6, .int .i64 g), (7, .int .i64 h), (8, .int .i64 i)]).run Try.prog w = .ok (.slice (some ⟨w.heap.size, 0, none⟩) 9 9) (w.alloc (.cells #[.int .i64 a, .int .i64 b, .int .i64 c, .int .i64 d, .int .i64 e, .int .i64 f, .int .i64 g, .int .i64 h, .int .i64 i] 3)) := by
  obtain ⟨i0, hi, hz0, hz1, hz2⟩ := info_parts infoI
  refine run_buildSlice w 22 3 9 _ #[.int .i64 a, .int .i64 b, .int .i64 c, .int .i64 d, .int .i64 e, .int .i64 f, .int .i64 g, .int .i64 h, .int .i64 i] i0 _ Try.underlying22 hi hz0 (by rw [hz1]; omega) (by rw [hz1]; omega) ?_
  rw [hz1]
  kernel_rfl
set_option maxRecDepth 100000 in
set_option maxHeartbeats 4000000 in
theorem reads_core {R : Rep} (hC : ListC R 23 25 27 28 29 18 15 17 20 22 12 14) (a : Option Addr) (c : Nat) (L : List Int) (w : World) (hL : Cs w a (icells L)) (hl : L.length ≤ 9223372036854775807) (sl : Int) (hsl : I64 sl) :
    Calls Try.prog 4 #[.slice a L.length c, .int .i64 sl] w fun e w' => e = .returned (.bool true) ∧ Below w.heap.size w w' := by
  have hb1 : Below w.heap.size w (w.alloc (.cells #[.slice a L.length c] 22)) := (Below.refl _ w).alloc (Nat.le_refl _) _
  have hX1 : Bx (w.alloc (.cells #[.slice a L.length c] 22)) w.heap.size #[.slice a L.length c] 22 := heap_alloc_last w _
  have CLn := long_one w.heap.size a L.length c _ hX1 hl
  have CK := known_true hC (w.alloc (.cells #[.slice a L.length c] 22))
  have HL := Lib.hid hL
  obtain ⟨n, hn⟩ : ∃ n, L.length = n := ⟨_, rfl⟩
  by_cases hm : 160 < L.length
  · have hd : decide ((160 : Int) < (L.length : Int)) = true := decide_eq_true (by omega)
    rw [hd] at CLn
    rw [hn] at hb1 CLn CK ⊢
    clear hX1 hL hd HL
    go_enter Try.func4, Try.ntmps4
    go_upto_region 1 with fail
    apply wp_region_lit
    refine gw_val (by kernel_rfl) (some 13) rfl (.slice a n c) (by kernel_rfl) ?_
    simp only [Act.put, List.setIfInBounds_toArray, List.set_cons_succ, List.set_cons_zero]
    refine gw_build (by kernel_rfl) (some 14) rfl 51 1 #[(0, .tmp 13)] rfl #[(0, .slice a n c)] (by kernel_rfl) (.slice (some ⟨w.heap.size, 0, none⟩) 1 1) _ (one_row a n c w) ?_
    simp only [Act.put, List.setIfInBounds_toArray, List.set_cons_succ, List.set_cons_zero]
    generalize w.alloc (.cells #[.slice a n c] 22) = W1 at *
    refine gw_call (by kernel_rfl) (some 15) rfl 8 #[.slice (some ⟨w.heap.size, 0, none⟩) 1 1] (.bool true) (fun w' => W1 = w') (by kernel_rfl) CLn (fun W2 hW => ?_)
    subst hW
    simp only [Act.put, List.setIfInBounds_toArray, List.set_cons_succ, List.set_cons_zero]
    apply wpList_nil
    clear CLn hl hm hn
    go_wp2_with (go_at_call 9; refine CK.mono ?_; rintro e w9 ⟨rfl, hb9⟩)
    have HB := Lib.hid (hb1.trans (hb9.mono hb1.size))
    clear hb1 hb9 CK
    go_ret
    exact ⟨rfl, HB.out⟩
  · have hd : decide ((160 : Int) < (L.length : Int)) = false := decide_eq_false (by omega)
    rw [hd] at CLn
    have CPl := play_core hC a c L _ (hL.below hb1) (by omega)
    rw [hn] at hb1 CLn CK CPl ⊢
    clear hX1 hL hd HL CK
    go_enter Try.func4, Try.ntmps4
    go_upto_region 1 with fail
    apply wp_region_lit
    refine gw_val (by kernel_rfl) (some 13) rfl (.slice a n c) (by kernel_rfl) ?_
    simp only [Act.put, List.setIfInBounds_toArray, List.set_cons_succ, List.set_cons_zero]
    refine gw_build (by kernel_rfl) (some 14) rfl 51 1 #[(0, .tmp 13)] rfl #[(0, .slice a n c)] (by kernel_rfl) (.slice (some ⟨w.heap.size, 0, none⟩) 1 1) _ (one_row a n c w) ?_
    simp only [Act.put, List.setIfInBounds_toArray, List.set_cons_succ, List.set_cons_zero]
    generalize w.alloc (.cells #[.slice a n c] 22) = W1 at *
    refine gw_call (by kernel_rfl) (some 15) rfl 8 #[.slice (some ⟨w.heap.size, 0, none⟩) 1 1] (.bool false) (fun w' => W1 = w') (by kernel_rfl) CLn (fun W2 hW => ?_)
    subst hW
    simp only [Act.put, List.setIfInBounds_toArray, List.set_cons_succ, List.set_cons_zero]
    apply wpList_nil
    clear CLn hl hm hn
    go_upto_region 3 with fail
    apply wp_region_lit
    refine gw_val (by kernel_rfl) (some 18) rfl (.slice a n c) (by kernel_rfl) ?_
    simp only [Act.put, List.setIfInBounds_toArray, List.set_cons_succ, List.set_cons_zero]
    refine gw_callE (by kernel_rfl) (some 19) rfl 10 #[.slice a n c] (fun v w' => ∃ gl ea fa ec fc m, v = .tuple #[.pointer (some ⟨gl, 0, none⟩), .agg (lv ea fa ec fc m), .bool true] ∧ KN R w gl m w' ∧ LV w' ea fa ec fc m ∧ Wm m ∧ Ok m 200) (by kernel_rfl) (CPl.mono fun e w' h => by
      obtain ⟨gl, S, ea, fa, ec, fc, m, he, hr, hlv, hw, ho, hb, hs⟩ := h
      exact ⟨_, he, gl, ea, fa, ec, fc, m, rfl, ⟨S, hr, fun k hk => Nat.le_trans hb1.size (hs k hk), hb1.trans (hb.mono hb1.size)⟩, hlv, hw, ho⟩) (fun v V2 hq => ?_)
    obtain ⟨gl, ea, fa, ec, fc, m, rfl, hk2, hl2, hw2, ho2⟩ := hq
    simp only [Act.put, List.setIfInBounds_toArray, List.set_cons_succ, List.set_cons_zero]
    refine gw_val (by kernel_rfl) (some 17) rfl (.tuple #[.pointer (some ⟨gl, 0, none⟩), .agg (lv ea fa ec fc m), .bool true]) (by kernel_rfl) ?_
    simp only [Act.put, List.setIfInBounds_toArray, List.set_cons_succ, List.set_cons_zero]
    refine gw_val (by kernel_rfl) (some 20) rfl (.pointer (some ⟨gl, 0, none⟩)) (by kernel_rfl) ?_
    simp only [Act.put, List.setIfInBounds_toArray, List.set_cons_succ, List.set_cons_zero]
    refine gw_val (by kernel_rfl) (some 21) rfl (.agg (lv ea fa ec fc m)) (by kernel_rfl) ?_
    simp only [Act.put, List.setIfInBounds_toArray, List.set_cons_succ, List.set_cons_zero]
    refine gw_val (by kernel_rfl) (some 22) rfl (.bool true) (by kernel_rfl) ?_
    simp only [Act.put, List.setIfInBounds_toArray, List.set_cons_succ, List.set_cons_zero]
    refine run_to rfl (some 6) rfl (.pointer (some ⟨V2.heap.size, 0, none⟩)) (V2.alloc (.cells zl 28)) (by kernel_rfl) ?_
    simp only [Act.put, List.setIfInBounds_toArray, List.set_cons_succ, List.set_cons_zero]
    refine gw_val (by kernel_rfl) (some 5) rfl (.pointer (some ⟨gl, 0, none⟩)) (by kernel_rfl) ?_
    simp only [Act.put, List.setIfInBounds_toArray, List.set_cons_succ, List.set_cons_zero]
    apply wpList_store_new (w := V2) (ty := 28) (x := .tmp 6) (y := .tmp 21) (c := zl) (c' := lv ea fa ec fc m)
    case hgd => rfl
    case ho => rfl
    case hx => kernel_rfl
    case hy => kernel_rfl
    case hi => kernel_rfl
    case hz => rfl
    case h1 => exact one_lv _ _ _ _ _ _ _
    simp only [Act.put]
    refine gw_val (by kernel_rfl) (some 7) rfl (.bool true) (by kernel_rfl) ?_
    simp only [Act.put, List.setIfInBounds_toArray, List.set_cons_succ, List.set_cons_zero]
    apply wpList_nil
    have hb3 : Below V2.heap.size V2 (V2.alloc (.cells (lv ea fa ec fc m) 28)) := (Below.refl _ V2).alloc (Nat.le_refl _) _
    have hbx : Bx (V2.alloc (.cells (lv ea fa ec fc m) 28)) V2.heap.size (lv ea fa ec fc m) 28 := heap_alloc_last V2 _
    have hk3 := hk2.below hC hb3
    have hl3 := hl2.below hb3
    generalize V2.alloc (.cells (lv ea fa ec fc m) 28) = V3 at *
    generalize V2.heap.size = g6 at *
    have hR0 : RD R w gl g6 ea fa ec fc m V3 := ⟨hk3, hbx, hl3⟩
    have C1 := fun V (h : RD R w gl g6 ea fa ec fc m V) => (by
      obtain ⟨S, hr, -, -⟩ := h.kn
      exact (hC.first V gl S m hr hw2 (ho2.mono (by omega))).mono fun e w' q => ⟨q.1, h.below hC q.2⟩ : Calls Try.prog 15 #[.pointer (some ⟨gl, 0, none⟩)] V fun e w' => e = .returned (.int .i64 (slotAt m 0)) ∧ RD R w gl g6 ea fa ec fc m w')
    have C2 := fun V (h : RD R w gl g6 ea fa ec fc m V) => (by
      obtain ⟨S, hr, -, -⟩ := h.kn
      exact (hC.last V gl S m hr hw2 (ho2.mono (by omega))).mono fun e w' q => ⟨q.1, h.below hC q.2⟩ : Calls Try.prog 17 #[.pointer (some ⟨gl, 0, none⟩)] V fun e w' => e = .returned (.int .i64 (slotAt m ((m.E.length : Int) - 1))) ∧ RD R w gl g6 ea fa ec fc m w')
    have C3 := fun i V (h : RD R w gl g6 ea fa ec fc m V) => ((ref_slotAt m i ea fa ec fc V h.l).mono fun e w' q => ⟨q.1, h.below hC q.2⟩ : Calls Try.prog 16 #[.agg (lv ea fa ec fc m), .int .i64 i] V fun e w' => e = .returned (.int .i64 (slotAt m i)) ∧ RD R w gl g6 ea fa ec fc m w')
    have C3a := C3 0
    have C3b := C3 ((m.E.length : Int) - 1)
    have hwl : IntKind.i64.wrap ((m.E.length : Int) - 1) = (m.E.length : Int) - 1 := by have := ho2.1; rw [IntKind.wrap_i64]; omega
    generalize slotAt m 0 = f at *
    generalize slotAt m ((m.E.length : Int) - 1) = l at *
    clear hk2 hl2 hb3 hb1 CPl C3 hk3 hbx hl3
    go_upto_region 4 with fail
    refine wp_region_class (C := RD R w gl g6 ea fa ec fc m) (by kernel_rfl) (by kernel_rfl) (hR0.below hC (Below.refl _ V3).drew) ?_
    refine gq_val (by kernel_rfl) (some 23) rfl (.bool true) (fun w' _ => by kernel_rfl) ?_
    simp only [Act.put, List.setIfInBounds_toArray, List.set_cons_succ, List.set_cons_zero]
    refine gq_val (by kernel_rfl) (some 24) rfl (.bool false) (fun w' _ => by kernel_rfl) ?_
    simp only [Act.put, List.setIfInBounds_toArray, List.set_cons_succ, List.set_cons_zero]
    refine gq_val (by kernel_rfl) (some 25) rfl (.bool false) (fun w' _ => by kernel_rfl) ?_
    simp only [Act.put, List.setIfInBounds_toArray, List.set_cons_succ, List.set_cons_zero]
    refine gq_val (by kernel_rfl) (some 26) rfl (.pointer (some ⟨gl, 0, none⟩)) (fun w' _ => by kernel_rfl) ?_
    simp only [Act.put, List.setIfInBounds_toArray, List.set_cons_succ, List.set_cons_zero]
    refine gq_call (by kernel_rfl) (some 27) rfl 15 #[.pointer (some ⟨gl, 0, none⟩)] (.int .i64 f) (fun w' _ => by kernel_rfl) (fun w' hQ => C1 w' hQ) ?_
    simp only [Act.put, List.setIfInBounds_toArray, List.set_cons_succ, List.set_cons_zero]
    refine gq_load (by kernel_rfl) (some 28) rfl 28 (.tmp 6) rfl ⟨g6, 0, none⟩ (.agg (lv ea fa ec fc m)) (by kernel_rfl) (fun w' hQ => load_lv hQ.bx) ?_
    simp only [Act.put, List.setIfInBounds_toArray, List.set_cons_succ, List.set_cons_zero]
    refine gq_call (by kernel_rfl) (some 29) rfl 16 #[.agg (lv ea fa ec fc m), .int .i64 0] (.int .i64 f) (fun w' _ => by kernel_rfl) (fun w' hQ => C3a w' hQ) ?_
    simp only [Act.put, List.setIfInBounds_toArray, List.set_cons_succ, List.set_cons_zero]
    refine gq_val (by kernel_rfl) (some 30) rfl (.bool (f != f)) (fun w' _ => by kernel_rfl) ?_
    rw [bne_self_eq_false]
    simp only [Act.put, List.setIfInBounds_toArray, List.set_cons_succ, List.set_cons_zero]
    refine gq_val (by kernel_rfl) (some 31) rfl (.bool false) (fun w' _ => by kernel_rfl) ?_
    simp only [Act.put, List.setIfInBounds_toArray, List.set_cons_succ, List.set_cons_zero]
    refine gq_val (by kernel_rfl) (some 32) rfl (.bool false) (fun w' _ => by kernel_rfl) ?_
    simp only [Act.put, List.setIfInBounds_toArray, List.set_cons_succ, List.set_cons_zero]
    refine gq_val (by kernel_rfl) (some 33) rfl (.pointer (some ⟨gl, 0, none⟩)) (fun w' _ => by kernel_rfl) ?_
    simp only [Act.put, List.setIfInBounds_toArray, List.set_cons_succ, List.set_cons_zero]
    refine gq_call (by kernel_rfl) (some 34) rfl 17 #[.pointer (some ⟨gl, 0, none⟩)] (.int .i64 l) (fun w' _ => by kernel_rfl) (fun w' hQ => C2 w' hQ) ?_
    simp only [Act.put, List.setIfInBounds_toArray, List.set_cons_succ, List.set_cons_zero]
    refine gq_load (by kernel_rfl) (some 35) rfl 28 (.tmp 6) rfl ⟨g6, 0, none⟩ (.agg (lv ea fa ec fc m)) (by kernel_rfl) (fun w' hQ => load_lv hQ.bx) ?_
    simp only [Act.put, List.setIfInBounds_toArray, List.set_cons_succ, List.set_cons_zero]
    refine gq_val (by kernel_rfl) (some 36) rfl (.pointer (some ⟨g6, 0, none⟩)) (fun w' _ => by kernel_rfl) ?_
    simp only [Act.put, List.setIfInBounds_toArray, List.set_cons_succ, List.set_cons_zero]
    refine gq_load (by kernel_rfl) (some 37) rfl 26 (.tmp 36) rfl ⟨g6, 0, none⟩ (.slice ea m.E.length ec) (by kernel_rfl) (fun w' hQ => hQ.bx.load rfl (by kernel_rfl)) ?_
    simp only [Act.put, List.setIfInBounds_toArray, List.set_cons_succ, List.set_cons_zero]
    refine gq_val (by kernel_rfl) (some 38) rfl (.int .i64 m.E.length) (fun w' _ => by kernel_rfl) ?_
    simp only [Act.put, List.setIfInBounds_toArray, List.set_cons_succ, List.set_cons_zero]
    refine gq_val (by kernel_rfl) (some 39) rfl (.int .i64 (IntKind.i64.wrap ((m.E.length : Int) - 1))) (fun w' _ => by kernel_rfl) ?_
    simp only [Act.put, List.setIfInBounds_toArray, List.set_cons_succ, List.set_cons_zero]
    rw [hwl]
    refine gq_call (by kernel_rfl) (some 40) rfl 16 #[.agg (lv ea fa ec fc m), .int .i64 ((m.E.length : Int) - 1)] (.int .i64 l) (fun w' _ => by kernel_rfl) (fun w' hQ => C3b w' hQ) ?_
    simp only [Act.put, List.setIfInBounds_toArray, List.set_cons_succ, List.set_cons_zero]
    refine gq_val (by kernel_rfl) (some 41) rfl (.bool (l != l)) (fun w' _ => by kernel_rfl) ?_
    rw [bne_self_eq_false]
    simp only [Act.put, List.setIfInBounds_toArray, List.set_cons_succ, List.set_cons_zero]
    refine gq_val (by kernel_rfl) (some 42) rfl (.bool false) (fun w' _ => by kernel_rfl) ?_
    simp only [Act.put, List.setIfInBounds_toArray, List.set_cons_succ, List.set_cons_zero]
    refine wpQuiet_nil ?_
    intro V4 hR4
    clear hR0 C1 C2 C3a C3b hwl
    go_upto_region 6 with fail
    apply wp_region_lit
    refine gw_val (by kernel_rfl) (some 43) rfl (.int .i64 sl) (by kernel_rfl) ?_
    simp only [Act.put, List.setIfInBounds_toArray, List.set_cons_succ, List.set_cons_zero]
    refine gw_val (by kernel_rfl) (some 44) rfl (.pointer (some ⟨g6, 2, none⟩)) (by kernel_rfl) ?_
    simp only [Act.put, List.setIfInBounds_toArray, List.set_cons_succ, List.set_cons_zero]
    refine gw_load (by kernel_rfl) (some 45) rfl 3 (.tmp 44) rfl ⟨g6, 2, none⟩ (.int .i64 m.U) (by kernel_rfl) (hR4.bx.load rfl (by kernel_rfl)) ?_
    simp only [Act.put, List.setIfInBounds_toArray, List.set_cons_succ, List.set_cons_zero]
    refine gw_build (by kernel_rfl) (some 46) rfl 22 9 #[(0, .tmp 43), (1, .const (.int .i64 (-1))), (2, .const (.int .i64 0)), (3, .const (.int .i64 1)), (4, .const (.int .i64 2)), (5, .const (.int .i64 3)), (6, .const (.int .i64 4)), (7, .const (.int .i64 5)), (8, .tmp 45)] rfl #[(0, .int .i64 sl), (1, .int .i64 (-1)), (2, .int .i64 0), (3, .int .i64 1), (4, .int .i64 2), (5, .int .i64 3), (6, .int .i64 4), (7, .int .i64 5), (8, .int .i64 m.U)] (by kernel_rfl) (.slice (some ⟨V4.heap.size, 0, none⟩) 9 9) _ (nine_int sl (-1) 0 1 2 3 4 5 m.U V4) ?_
    simp only [Act.put, List.setIfInBounds_toArray, List.set_cons_succ, List.set_cons_zero]
    refine gw_val (by kernel_rfl) (some 47) rfl (.int .i64 (9 : Nat)) (by kernel_rfl) ?_
    simp only [Act.put, List.setIfInBounds_toArray, List.set_cons_succ, List.set_cons_zero]
    refine gw_val (by kernel_rfl) (some 48) rfl (.int .i64 (0 : Nat)) (by kernel_rfl) ?_
    simp only [Act.put, List.setIfInBounds_toArray, List.set_cons_succ, List.set_cons_zero]
    apply wpList_nil
    have hb5 : Below V4.heap.size V4 (V4.alloc (.cells #[.int .i64 sl, .int .i64 (-1), .int .i64 0, .int .i64 1, .int .i64 2, .int .i64 3, .int .i64 4, .int .i64 5, .int .i64 m.U] 3)) := (Below.refl _ V4).alloc (Nat.le_refl _) _
    have hr5 : Cs (V4.alloc (.cells #[.int .i64 sl, .int .i64 (-1), .int .i64 0, .int .i64 1, .int .i64 2, .int .i64 3, .int .i64 4, .int .i64 5, .int .i64 m.U] 3)) (some ⟨V4.heap.size, 0, none⟩) (icells [sl, -1, 0, 1, 2, 3, 4, 5, (m.U : Int)]) := Cs.block (t := 3) (fr := (0, 0)) (heap_alloc_last V4 _)
    have hR5 := hR4.below hC hb5
    have hxs : ∀ k, k < 9 → I64 ([sl, -1, 0, 1, 2, 3, 4, 5, (m.U : Int)].getD k 0) := fun k hk => by
      have hu := ho2.2.2
      rcases (show k = 0 ∨ k = 1 ∨ k = 2 ∨ k = 3 ∨ k = 4 ∨ k = 5 ∨ k = 6 ∨ k = 7 ∨ k = 8 by omega) with rfl | rfl | rfl | rfl | rfl | rfl | rfl | rfl | rfl
      · exact hsl
      all_goals (simp only [List.getD_cons_succ, List.getD_cons_zero]; exact ⟨by omega, by omega⟩)
    generalize V4.alloc (.cells #[.int .i64 sl, .int .i64 (-1), .int .i64 0, .int .i64 1, .int .i64 2, .int .i64 3, .int .i64 4, .int .i64 5, .int .i64 m.U] 3) = V5 at *
    generalize V4.heap.size = g9 at *
    have hlx : [sl, -1, 0, 1, 2, 3, 4, 5, (m.U : Int)].length = 9 := rfl
    generalize [sl, -1, 0, 1, 2, 3, 4, 5, (m.U : Int)] = xs at *
    have HXS := Lib.hid hxs
    have HLX := Lib.hid hlx
    clear hR4 hb5 hxs hlx
    go_wp2_with fail
    go_loopg [48] 9 (fun gg s48 wx => ∃ k : Nat, s48 = .int .i64 k ∧ k ≤ 9 ∧ RD R w gl g6 ea fa ec fc m wx ∧ Cs wx (some ⟨g9, 0, none⟩) (icells xs) ∧ 9 - k = gg)
    case atStart => exact ⟨0, rfl, by omega, hR5, hr5, rfl⟩
    case round =>
      obtain ⟨k, rfl, hk, hR, hr, hg⟩ := hrel
      by_cases hlt : k < 9
      · have hd : decide ((k : Int) < 9) = true := decide_eq_true (by omega)
        have hd2 : decide (k < 9) = true := decide_eq_true hlt
        obtain ⟨b, off, e9, hbb, hcx⟩ := int_at hr (k := k) (by rw [HLX.out]; exact hlt)
        simp only [Option.some.injEq, Addr.mk.injEq, and_true] at e9
        obtain ⟨rfl, rfl⟩ := e9
        have hx64 := HXS.out k hlt
        generalize xs.getD k 0 = x at *
        have HG : Hid (9 - (k + 1) = gk - 1 ∧ 0 < gk ∧ k + 1 ≤ 9) := Lib.hid ⟨by omega, by omega, by omega⟩
        clear hg hR5 hr5
        obtain ⟨p, hp⟩ : ∃ p, placeM m x = p := ⟨_, rfl⟩
        have hpr := placeM_range m x
        rw [hp] at hpr
        by_cases hp0 : p < 0
        · have hvm : valueM m x = (0, false) := by unfold valueM; rw [hp, if_pos hp0]
          have hpd : decide (0 ≤ p) = false := decide_eq_false (by omega)
          have CV := fun V (h : RD R w gl g6 ea fa ec fc m V ∧ Cs V (some ⟨g9, 0, none⟩) (icells xs)) => (by
            obtain ⟨S, hr, -, -⟩ := h.1.kn
            have q := hC.value V gl S m x hr hw2 (ho2.mono (by omega)) hx64
            rw [hvm] at q
            exact q.mono fun e w' q => ⟨q.1, h.1.below hC q.2, h.2.below q.2⟩ : Calls Try.prog 18 #[.pointer (some ⟨gl, 0, none⟩), .int .i64 x] V fun e w' => e = .returned (.tuple #[.int .i64 0, .bool false]) ∧ (RD R w gl g6 ea fa ec fc m w' ∧ Cs w' (some ⟨g9, 0, none⟩) (icells xs)))
          have CQ := fun V (h : RD R w gl g6 ea fa ec fc m V ∧ Cs V (some ⟨g9, 0, none⟩) (icells xs)) => (by
            have q := ref_place m x ea fa ec fc V h.1.l
            rw [hp] at q
            exact q.mono fun e w' q => ⟨q.1, h.1.below hC q.2, h.2.below q.2⟩ : Calls Try.prog 19 #[.agg (lv ea fa ec fc m), .int .i64 x] V fun e w' => e = .returned (.int .i64 p) ∧ (RD R w gl g6 ea fa ec fc m w' ∧ Cs w' (some ⟨g9, 0, none⟩) (icells xs)))
          have N1 := fun V (h : (RD R w gl g6 ea fa ec fc m V ∧ Cs V (some ⟨g9, 0, none⟩) (icells xs))) => (by
            obtain ⟨S, hr, -, -⟩ := h.1.kn
            exact (hC.next V gl S m x hr hw2 (ho2.mono (by omega)) hx64).mono fun e w' q => ⟨q.1, h.1.below hC q.2, h.2.below q.2⟩ : Calls Try.prog 20 #[.pointer (some ⟨gl, 0, none⟩), .int .i64 x] V fun e w' => e = .returned (.int .i64 (nextM m x 1)) ∧ (RD R w gl g6 ea fa ec fc m w' ∧ Cs w' (some ⟨g9, 0, none⟩) (icells xs)))
          have N2 := fun V (h : (RD R w gl g6 ea fa ec fc m V ∧ Cs V (some ⟨g9, 0, none⟩) (icells xs))) => (by
            exact (ref_next m x 1 ea fa ec fc V h.1.l (by omega) (by omega)).mono fun e w' q => ⟨q.1, h.1.below hC q.2, h.2.below q.2⟩ : Calls Try.prog 21 #[.agg (lv ea fa ec fc m), .int .i64 x, .int .i64 1] V fun e w' => e = .returned (.int .i64 (nextM m x 1)) ∧ (RD R w gl g6 ea fa ec fc m w' ∧ Cs w' (some ⟨g9, 0, none⟩) (icells xs)))
          have N3 := fun V (h : (RD R w gl g6 ea fa ec fc m V ∧ Cs V (some ⟨g9, 0, none⟩) (icells xs))) => (by
            obtain ⟨S, hr, -, -⟩ := h.1.kn
            exact (hC.prev V gl S m x hr hw2 (ho2.mono (by omega)) hx64).mono fun e w' q => ⟨q.1, h.1.below hC q.2, h.2.below q.2⟩ : Calls Try.prog 22 #[.pointer (some ⟨gl, 0, none⟩), .int .i64 x] V fun e w' => e = .returned (.int .i64 (nextM m x (-1))) ∧ (RD R w gl g6 ea fa ec fc m w' ∧ Cs w' (some ⟨g9, 0, none⟩) (icells xs)))
          have N4 := fun V (h : (RD R w gl g6 ea fa ec fc m V ∧ Cs V (some ⟨g9, 0, none⟩) (icells xs))) => (by
            exact (ref_next m x (-1) ea fa ec fc V h.1.l (by omega) (by omega)).mono fun e w' q => ⟨q.1, h.1.below hC q.2, h.2.below q.2⟩ : Calls Try.prog 21 #[.agg (lv ea fa ec fc m), .int .i64 x, .int .i64 (-1)] V fun e w' => e = .returned (.int .i64 (nextM m x (-1))) ∧ (RD R w gl g6 ea fa ec fc m w' ∧ Cs w' (some ⟨g9, 0, none⟩) (icells xs)))
          generalize nextM m x 1 = nx at *
          generalize nextM m x (-1) = pr at *
          clear hvm hp
          go_upto_region 8 with fail
          apply wp_region_lit
          refine gw_val (by kernel_rfl) (some 50) rfl (.pointer (some ⟨g9, 0 + k, none⟩)) (idx_int g9 0 9 9 k hlt wr _ _ rfl (by kernel_rfl) (by kernel_rfl)) ?_
          simp only [Act.put, List.setIfInBounds_toArray, List.set_cons_succ, List.set_cons_zero]
          refine gw_load (by kernel_rfl) (some 51) rfl 3 (.tmp 50) rfl ⟨g9, 0 + k, none⟩ (.int .i64 x) (by kernel_rfl) (load_cell hcx (by kernel_rfl)) ?_
          simp only [Act.put, List.setIfInBounds_toArray, List.set_cons_succ, List.set_cons_zero]
          refine gw_val (by kernel_rfl) (some 9) rfl (.int .i64 x) (by kernel_rfl) ?_
          simp only [Act.put, List.setIfInBounds_toArray, List.set_cons_succ, List.set_cons_zero]
          apply wpList_nil
          go_upto_region 9 with fail
          apply wp_region_lit
          refine gw_val (by kernel_rfl) (some 53) rfl (.pointer (some ⟨gl, 0, none⟩)) (by kernel_rfl) ?_
          simp only [Act.put, List.setIfInBounds_toArray, List.set_cons_succ, List.set_cons_zero]
          refine gw_val (by kernel_rfl) (some 54) rfl (.int .i64 x) (by kernel_rfl) ?_
          simp only [Act.put, List.setIfInBounds_toArray, List.set_cons_succ, List.set_cons_zero]
          refine gw_call (by kernel_rfl) (some 55) rfl 18 #[.pointer (some ⟨gl, 0, none⟩), .int .i64 x] (.tuple #[.int .i64 0, .bool false]) (fun w' => RD R w gl g6 ea fa ec fc m w' ∧ Cs w' (some ⟨g9, 0, none⟩) (icells xs)) (by kernel_rfl) (CV wr ⟨hR, hr⟩) (fun V1 hq1 => ?_)
          clear hR hr CV hcx hbb
          simp only [Act.put, List.setIfInBounds_toArray, List.set_cons_succ, List.set_cons_zero]
          refine gw_val (by kernel_rfl) (some 52) rfl (.tuple #[.int .i64 0, .bool false]) (by kernel_rfl) ?_
          simp only [Act.put, List.setIfInBounds_toArray, List.set_cons_succ, List.set_cons_zero]
          refine gw_val (by kernel_rfl) (some 56) rfl (.int .i64 0) (by kernel_rfl) ?_
          simp only [Act.put, List.setIfInBounds_toArray, List.set_cons_succ, List.set_cons_zero]
          refine gw_val (by kernel_rfl) (some 57) rfl (.bool false) (by kernel_rfl) ?_
          simp only [Act.put, List.setIfInBounds_toArray, List.set_cons_succ, List.set_cons_zero]
          refine gw_val (by kernel_rfl) (some 10) rfl (.int .i64 0) (by kernel_rfl) ?_
          simp only [Act.put, List.setIfInBounds_toArray, List.set_cons_succ, List.set_cons_zero]
          refine gw_val (by kernel_rfl) (some 11) rfl (.bool false) (by kernel_rfl) ?_
          simp only [Act.put, List.setIfInBounds_toArray, List.set_cons_succ, List.set_cons_zero]
          apply wpList_nil
          go_upto_region 10 with fail
          apply wp_region_lit
          refine gw_load (by kernel_rfl) (some 58) rfl 28 (.tmp 6) rfl ⟨g6, 0, none⟩ (.agg (lv ea fa ec fc m)) (by kernel_rfl) (load_lv hq1.1.bx) ?_
          simp only [Act.put, List.setIfInBounds_toArray, List.set_cons_succ, List.set_cons_zero]
          refine gw_val (by kernel_rfl) (some 59) rfl (.int .i64 x) (by kernel_rfl) ?_
          simp only [Act.put, List.setIfInBounds_toArray, List.set_cons_succ, List.set_cons_zero]
          refine gw_call (by kernel_rfl) (some 60) rfl 19 #[.agg (lv ea fa ec fc m), .int .i64 x] (.int .i64 p) (fun w' => RD R w gl g6 ea fa ec fc m w' ∧ Cs w' (some ⟨g9, 0, none⟩) (icells xs)) (by kernel_rfl) (CQ V1 hq1) (fun V2 hq2 => ?_)
          obtain ⟨hR2, hr2⟩ := hq2
          clear hq1 CQ
          simp only [Act.put, List.setIfInBounds_toArray, List.set_cons_succ, List.set_cons_zero]
          refine gw_val (by kernel_rfl) (some 12) rfl (.int .i64 p) (by kernel_rfl) ?_
          simp only [Act.put, List.setIfInBounds_toArray, List.set_cons_succ, List.set_cons_zero]
          apply wpList_nil
          go_upto_region 11 with fail
          refine wp_region_class (C := fun w' => RD R w gl g6 ea fa ec fc m w' ∧ Cs w' (some ⟨g9, 0, none⟩) (icells xs)) (by kernel_rfl) (by kernel_rfl) ⟨hR2.below hC (Below.refl _ V2).drew, hr2.below (Below.refl _ V2).drew⟩ ?_
          refine gq_val (by kernel_rfl) (some 61) rfl (.bool false) (fun w' _ => by kernel_rfl) ?_
          simp only [Act.put, List.setIfInBounds_toArray, List.set_cons_succ, List.set_cons_zero]
          refine gq_val (by kernel_rfl) (some 62) rfl (.int .i64 p) (fun w' _ => by kernel_rfl) ?_
          simp only [Act.put, List.setIfInBounds_toArray, List.set_cons_succ, List.set_cons_zero]
          refine gq_val (by kernel_rfl) (some 63) rfl (.bool (decide (0 ≤ p))) (fun w' _ => by kernel_rfl) ?_
          rw [hpd]
          simp only [Act.put, List.setIfInBounds_toArray, List.set_cons_succ, List.set_cons_zero]
          refine gq_val (by kernel_rfl) (some 64) rfl (.bool false) (fun w' _ => by kernel_rfl) ?_
          simp only [Act.put, List.setIfInBounds_toArray, List.set_cons_succ, List.set_cons_zero]
          refine gq_val (by kernel_rfl) (some 65) rfl (.bool false) (fun w' _ => by kernel_rfl) ?_
          simp only [Act.put, List.setIfInBounds_toArray, List.set_cons_succ, List.set_cons_zero]
          refine gq_val (by kernel_rfl) (some 66) rfl (.bool false) (fun w' _ => by kernel_rfl) ?_
          simp only [Act.put, List.setIfInBounds_toArray, List.set_cons_succ, List.set_cons_zero]
          refine gq_val (by kernel_rfl) (some 67) rfl (.bool false) (fun w' _ => by kernel_rfl) ?_
          simp only [Act.put, List.setIfInBounds_toArray, List.set_cons_succ, List.set_cons_zero]
          with_reducible refine gq_not (by kernel_rfl) (some 68) rfl ?_
          simp only [Act.put, List.setIfInBounds_toArray, List.set_cons_succ, List.set_cons_zero]
          with_reducible refine gq_not (by kernel_rfl) (some 69) rfl ?_
          simp only [Act.put, List.setIfInBounds_toArray, List.set_cons_succ, List.set_cons_zero]
          with_reducible refine gq_not (by kernel_rfl) (some 70) rfl ?_
          simp only [Act.put, List.setIfInBounds_toArray, List.set_cons_succ, List.set_cons_zero]
          with_reducible refine gq_not (by kernel_rfl) (some 71) rfl ?_
          simp only [Act.put, List.setIfInBounds_toArray, List.set_cons_succ, List.set_cons_zero]
          with_reducible refine gq_not (by kernel_rfl) (some 72) rfl ?_
          simp only [Act.put, List.setIfInBounds_toArray, List.set_cons_succ, List.set_cons_zero]
          with_reducible refine gq_not (by kernel_rfl) (some 73) rfl ?_
          simp only [Act.put, List.setIfInBounds_toArray, List.set_cons_succ, List.set_cons_zero]
          with_reducible refine gq_not (by kernel_rfl) (some 74) rfl ?_
          simp only [Act.put, List.setIfInBounds_toArray, List.set_cons_succ, List.set_cons_zero]
          with_reducible refine gq_not (by kernel_rfl) (some 75) rfl ?_
          simp only [Act.put, List.setIfInBounds_toArray, List.set_cons_succ, List.set_cons_zero]
          refine gq_val (by kernel_rfl) (some 76) rfl (.bool false) (fun w' _ => by kernel_rfl) ?_
          simp only [Act.put, List.setIfInBounds_toArray, List.set_cons_succ, List.set_cons_zero]
          refine gq_val (by kernel_rfl) (some 77) rfl (.bool false) (fun w' _ => by kernel_rfl) ?_
          simp only [Act.put, List.setIfInBounds_toArray, List.set_cons_succ, List.set_cons_zero]
          refine gq_val (by kernel_rfl) (some 78) rfl (.bool false) (fun w' _ => by kernel_rfl) ?_
          simp only [Act.put, List.setIfInBounds_toArray, List.set_cons_succ, List.set_cons_zero]
          refine gq_val (by kernel_rfl) (some 79) rfl (.bool false) (fun w' _ => by kernel_rfl) ?_
          simp only [Act.put, List.setIfInBounds_toArray, List.set_cons_succ, List.set_cons_zero]
          refine gq_val (by kernel_rfl) (some 80) rfl (.bool true) (fun w' _ => by kernel_rfl) ?_
          simp only [Act.put, List.setIfInBounds_toArray, List.set_cons_succ, List.set_cons_zero]
          refine gq_val (by kernel_rfl) (some 81) rfl (.bool true) (fun w' _ => by kernel_rfl) ?_
          simp only [Act.put, List.setIfInBounds_toArray, List.set_cons_succ, List.set_cons_zero]
          refine gq_val (by kernel_rfl) (some 82) rfl (.int .i64 0) (fun w' _ => by kernel_rfl) ?_
          simp only [Act.put, List.setIfInBounds_toArray, List.set_cons_succ, List.set_cons_zero]
          refine gq_val (by kernel_rfl) (some 83) rfl (.bool false) (fun w' _ => by kernel_rfl) ?_
          simp only [Act.put, List.setIfInBounds_toArray, List.set_cons_succ, List.set_cons_zero]
          refine gq_val (by kernel_rfl) (some 84) rfl (.bool false) (fun w' _ => by kernel_rfl) ?_
          simp only [Act.put, List.setIfInBounds_toArray, List.set_cons_succ, List.set_cons_zero]
          refine gq_val (by kernel_rfl) (some 85) rfl (.bool false) (fun w' _ => by kernel_rfl) ?_
          simp only [Act.put, List.setIfInBounds_toArray, List.set_cons_succ, List.set_cons_zero]
          refine gq_val (by kernel_rfl) (some 86) rfl (.bool false) (fun w' _ => by kernel_rfl) ?_
          simp only [Act.put, List.setIfInBounds_toArray, List.set_cons_succ, List.set_cons_zero]
          refine gq_val (by kernel_rfl) (some 87) rfl (.pointer (some ⟨gl, 0, none⟩)) (fun w' _ => by kernel_rfl) ?_
          simp only [Act.put, List.setIfInBounds_toArray, List.set_cons_succ, List.set_cons_zero]
          refine gq_val (by kernel_rfl) (some 88) rfl (.int .i64 x) (fun w' _ => by kernel_rfl) ?_
          simp only [Act.put, List.setIfInBounds_toArray, List.set_cons_succ, List.set_cons_zero]
          refine gq_call (by kernel_rfl) (some 89) rfl 20 #[.pointer (some ⟨gl, 0, none⟩), .int .i64 x] (.int .i64 nx) (fun w' _ => by kernel_rfl) (fun w' hQ => N1 w' hQ) ?_
          simp only [Act.put, List.setIfInBounds_toArray, List.set_cons_succ, List.set_cons_zero]
          refine gq_load (by kernel_rfl) (some 90) rfl 28 (.tmp 6) rfl ⟨g6, 0, none⟩ (.agg (lv ea fa ec fc m)) (by kernel_rfl) (fun w' hQ => load_lv hQ.1.bx) ?_
          simp only [Act.put, List.setIfInBounds_toArray, List.set_cons_succ, List.set_cons_zero]
          refine gq_val (by kernel_rfl) (some 91) rfl (.int .i64 x) (fun w' _ => by kernel_rfl) ?_
          simp only [Act.put, List.setIfInBounds_toArray, List.set_cons_succ, List.set_cons_zero]
          refine gq_call (by kernel_rfl) (some 92) rfl 21 #[.agg (lv ea fa ec fc m), .int .i64 x, .int .i64 1] (.int .i64 nx) (fun w' _ => by kernel_rfl) (fun w' hQ => N2 w' hQ) ?_
          simp only [Act.put, List.setIfInBounds_toArray, List.set_cons_succ, List.set_cons_zero]
          refine gq_val (by kernel_rfl) (some 93) rfl (.bool (nx != nx)) (fun w' _ => by kernel_rfl) ?_
          rw [bne_self_eq_false]
          simp only [Act.put, List.setIfInBounds_toArray, List.set_cons_succ, List.set_cons_zero]
          refine gq_val (by kernel_rfl) (some 94) rfl (.bool false) (fun w' _ => by kernel_rfl) ?_
          simp only [Act.put, List.setIfInBounds_toArray, List.set_cons_succ, List.set_cons_zero]
          refine gq_val (by kernel_rfl) (some 95) rfl (.bool false) (fun w' _ => by kernel_rfl) ?_
          simp only [Act.put, List.setIfInBounds_toArray, List.set_cons_succ, List.set_cons_zero]
          refine gq_val (by kernel_rfl) (some 96) rfl (.pointer (some ⟨gl, 0, none⟩)) (fun w' _ => by kernel_rfl) ?_
          simp only [Act.put, List.setIfInBounds_toArray, List.set_cons_succ, List.set_cons_zero]
          refine gq_val (by kernel_rfl) (some 97) rfl (.int .i64 x) (fun w' _ => by kernel_rfl) ?_
          simp only [Act.put, List.setIfInBounds_toArray, List.set_cons_succ, List.set_cons_zero]
          refine gq_call (by kernel_rfl) (some 98) rfl 22 #[.pointer (some ⟨gl, 0, none⟩), .int .i64 x] (.int .i64 pr) (fun w' _ => by kernel_rfl) (fun w' hQ => N3 w' hQ) ?_
          simp only [Act.put, List.setIfInBounds_toArray, List.set_cons_succ, List.set_cons_zero]
          refine gq_load (by kernel_rfl) (some 99) rfl 28 (.tmp 6) rfl ⟨g6, 0, none⟩ (.agg (lv ea fa ec fc m)) (by kernel_rfl) (fun w' hQ => load_lv hQ.1.bx) ?_
          simp only [Act.put, List.setIfInBounds_toArray, List.set_cons_succ, List.set_cons_zero]
          refine gq_val (by kernel_rfl) (some 100) rfl (.int .i64 x) (fun w' _ => by kernel_rfl) ?_
          simp only [Act.put, List.setIfInBounds_toArray, List.set_cons_succ, List.set_cons_zero]
          refine gq_call (by kernel_rfl) (some 101) rfl 21 #[.agg (lv ea fa ec fc m), .int .i64 x, .int .i64 (-1)] (.int .i64 pr) (fun w' _ => by kernel_rfl) (fun w' hQ => N4 w' hQ) ?_
          simp only [Act.put, List.setIfInBounds_toArray, List.set_cons_succ, List.set_cons_zero]
          refine gq_val (by kernel_rfl) (some 102) rfl (.bool (pr != pr)) (fun w' _ => by kernel_rfl) ?_
          rw [bne_self_eq_false]
          simp only [Act.put, List.setIfInBounds_toArray, List.set_cons_succ, List.set_cons_zero]
          refine gq_val (by kernel_rfl) (some 103) rfl (.bool false) (fun w' _ => by kernel_rfl) ?_
          simp only [Act.put, List.setIfInBounds_toArray, List.set_cons_succ, List.set_cons_zero]
          refine wpQuiet_nil ?_
          intro V3 hQ3
          have HR3 := Lib.hid hQ3.1
          have HC3 := Lib.hid hQ3.2
          clear hQ3 N1 N2 N3 N4 hR2 hr2
          go_wp2_with fail
          go_roundg (gk - 1)
          case measure => have := HG.out; omega
          case rel => exact ⟨k + 1, by congr 1, HG.out.2.2, HR3.out, HC3.out, HG.out.1⟩
        · obtain ⟨i, rfl⟩ := Int.eq_ofNat_of_zero_le (show 0 ≤ p by omega)
          have hil : i < m.E.length := by omega
          obtain ⟨vv, hvv⟩ : ∃ vv, (m.E.getD i (0, 0)).2 = vv := ⟨_, rfl⟩
          have hvm : valueM m x = (vv, true) := by unfold valueM; rw [hp, if_neg hp0, Int.toNat_natCast, hvv]
          have hpd : decide (0 ≤ (i : Int)) = true := decide_eq_true (by omega)
          obtain ⟨be, oe, rfl, -, -, -⟩ := el_at hR.l.e hil
          have ELV := fun V (h : LV V (some ⟨be, oe, none⟩) fa ec fc m) => (by
            obtain ⟨b2, o2, e2, -, -, h2⟩ := el_at h.e hil
            simp only [Option.some.injEq, Addr.mk.injEq, and_true] at e2
            obtain ⟨rfl, rfl⟩ := e2
            rw [← hvv]
            exact h2 : V.cell? ⟨be, oe + i * 2 + 1, none⟩ = some (.int .i64 vv))
          clear hvv hpr hp0
          have CV := fun V (h : RD R w gl g6 (some ⟨be, oe, none⟩) fa ec fc m V ∧ Cs V (some ⟨g9, 0, none⟩) (icells xs)) => (by
            obtain ⟨S, hr, -, -⟩ := h.1.kn
            have q := hC.value V gl S m x hr hw2 (ho2.mono (by omega)) hx64
            rw [hvm] at q
            exact q.mono fun e w' q => ⟨q.1, h.1.below hC q.2, h.2.below q.2⟩ : Calls Try.prog 18 #[.pointer (some ⟨gl, 0, none⟩), .int .i64 x] V fun e w' => e = .returned (.tuple #[.int .i64 vv, .bool true]) ∧ (RD R w gl g6 (some ⟨be, oe, none⟩) fa ec fc m w' ∧ Cs w' (some ⟨g9, 0, none⟩) (icells xs)))
          have CQ := fun V (h : RD R w gl g6 (some ⟨be, oe, none⟩) fa ec fc m V ∧ Cs V (some ⟨g9, 0, none⟩) (icells xs)) => (by
            have q := ref_place m x (some ⟨be, oe, none⟩) fa ec fc V h.1.l
            rw [hp] at q
            exact q.mono fun e w' q => ⟨q.1, h.1.below hC q.2, h.2.below q.2⟩ : Calls Try.prog 19 #[.agg (lv (some ⟨be, oe, none⟩) fa ec fc m), .int .i64 x] V fun e w' => e = .returned (.int .i64 i) ∧ (RD R w gl g6 (some ⟨be, oe, none⟩) fa ec fc m w' ∧ Cs w' (some ⟨g9, 0, none⟩) (icells xs)))
          have N1 := fun V (h : (RD R w gl g6 (some ⟨be, oe, none⟩) fa ec fc m V ∧ Cs V (some ⟨g9, 0, none⟩) (icells xs))) => (by
            obtain ⟨S, hr, -, -⟩ := h.1.kn
            exact (hC.next V gl S m x hr hw2 (ho2.mono (by omega)) hx64).mono fun e w' q => ⟨q.1, h.1.below hC q.2, h.2.below q.2⟩ : Calls Try.prog 20 #[.pointer (some ⟨gl, 0, none⟩), .int .i64 x] V fun e w' => e = .returned (.int .i64 (nextM m x 1)) ∧ (RD R w gl g6 (some ⟨be, oe, none⟩) fa ec fc m w' ∧ Cs w' (some ⟨g9, 0, none⟩) (icells xs)))
          have N2 := fun V (h : (RD R w gl g6 (some ⟨be, oe, none⟩) fa ec fc m V ∧ Cs V (some ⟨g9, 0, none⟩) (icells xs))) => (by
            exact (ref_next m x 1 (some ⟨be, oe, none⟩) fa ec fc V h.1.l (by omega) (by omega)).mono fun e w' q => ⟨q.1, h.1.below hC q.2, h.2.below q.2⟩ : Calls Try.prog 21 #[.agg (lv (some ⟨be, oe, none⟩) fa ec fc m), .int .i64 x, .int .i64 1] V fun e w' => e = .returned (.int .i64 (nextM m x 1)) ∧ (RD R w gl g6 (some ⟨be, oe, none⟩) fa ec fc m w' ∧ Cs w' (some ⟨g9, 0, none⟩) (icells xs)))
          have N3 := fun V (h : (RD R w gl g6 (some ⟨be, oe, none⟩) fa ec fc m V ∧ Cs V (some ⟨g9, 0, none⟩) (icells xs))) => (by
            obtain ⟨S, hr, -, -⟩ := h.1.kn
            exact (hC.prev V gl S m x hr hw2 (ho2.mono (by omega)) hx64).mono fun e w' q => ⟨q.1, h.1.below hC q.2, h.2.below q.2⟩ : Calls Try.prog 22 #[.pointer (some ⟨gl, 0, none⟩), .int .i64 x] V fun e w' => e = .returned (.int .i64 (nextM m x (-1))) ∧ (RD R w gl g6 (some ⟨be, oe, none⟩) fa ec fc m w' ∧ Cs w' (some ⟨g9, 0, none⟩) (icells xs)))
          have N4 := fun V (h : (RD R w gl g6 (some ⟨be, oe, none⟩) fa ec fc m V ∧ Cs V (some ⟨g9, 0, none⟩) (icells xs))) => (by
            exact (ref_next m x (-1) (some ⟨be, oe, none⟩) fa ec fc V h.1.l (by omega) (by omega)).mono fun e w' q => ⟨q.1, h.1.below hC q.2, h.2.below q.2⟩ : Calls Try.prog 21 #[.agg (lv (some ⟨be, oe, none⟩) fa ec fc m), .int .i64 x, .int .i64 (-1)] V fun e w' => e = .returned (.int .i64 (nextM m x (-1))) ∧ (RD R w gl g6 (some ⟨be, oe, none⟩) fa ec fc m w' ∧ Cs w' (some ⟨g9, 0, none⟩) (icells xs)))
          generalize nextM m x 1 = nx at *
          generalize nextM m x (-1) = pr at *
          clear hvm hp
          go_upto_region 8 with fail
          apply wp_region_lit
          refine gw_val (by kernel_rfl) (some 50) rfl (.pointer (some ⟨g9, 0 + k, none⟩)) (idx_int g9 0 9 9 k hlt wr _ _ rfl (by kernel_rfl) (by kernel_rfl)) ?_
          simp only [Act.put, List.setIfInBounds_toArray, List.set_cons_succ, List.set_cons_zero]
          refine gw_load (by kernel_rfl) (some 51) rfl 3 (.tmp 50) rfl ⟨g9, 0 + k, none⟩ (.int .i64 x) (by kernel_rfl) (load_cell hcx (by kernel_rfl)) ?_
          simp only [Act.put, List.setIfInBounds_toArray, List.set_cons_succ, List.set_cons_zero]
          refine gw_val (by kernel_rfl) (some 9) rfl (.int .i64 x) (by kernel_rfl) ?_
          simp only [Act.put, List.setIfInBounds_toArray, List.set_cons_succ, List.set_cons_zero]
          apply wpList_nil
          go_upto_region 9 with fail
          apply wp_region_lit
          refine gw_val (by kernel_rfl) (some 53) rfl (.pointer (some ⟨gl, 0, none⟩)) (by kernel_rfl) ?_
          simp only [Act.put, List.setIfInBounds_toArray, List.set_cons_succ, List.set_cons_zero]
          refine gw_val (by kernel_rfl) (some 54) rfl (.int .i64 x) (by kernel_rfl) ?_
          simp only [Act.put, List.setIfInBounds_toArray, List.set_cons_succ, List.set_cons_zero]
          refine gw_call (by kernel_rfl) (some 55) rfl 18 #[.pointer (some ⟨gl, 0, none⟩), .int .i64 x] (.tuple #[.int .i64 vv, .bool true]) (fun w' => RD R w gl g6 (some ⟨be, oe, none⟩) fa ec fc m w' ∧ Cs w' (some ⟨g9, 0, none⟩) (icells xs)) (by kernel_rfl) (CV wr ⟨hR, hr⟩) (fun V1 hq1 => ?_)
          clear hR hr CV hcx hbb
          simp only [Act.put, List.setIfInBounds_toArray, List.set_cons_succ, List.set_cons_zero]
          refine gw_val (by kernel_rfl) (some 52) rfl (.tuple #[.int .i64 vv, .bool true]) (by kernel_rfl) ?_
          simp only [Act.put, List.setIfInBounds_toArray, List.set_cons_succ, List.set_cons_zero]
          refine gw_val (by kernel_rfl) (some 56) rfl (.int .i64 vv) (by kernel_rfl) ?_
          simp only [Act.put, List.setIfInBounds_toArray, List.set_cons_succ, List.set_cons_zero]
          refine gw_val (by kernel_rfl) (some 57) rfl (.bool true) (by kernel_rfl) ?_
          simp only [Act.put, List.setIfInBounds_toArray, List.set_cons_succ, List.set_cons_zero]
          refine gw_val (by kernel_rfl) (some 10) rfl (.int .i64 vv) (by kernel_rfl) ?_
          simp only [Act.put, List.setIfInBounds_toArray, List.set_cons_succ, List.set_cons_zero]
          refine gw_val (by kernel_rfl) (some 11) rfl (.bool true) (by kernel_rfl) ?_
          simp only [Act.put, List.setIfInBounds_toArray, List.set_cons_succ, List.set_cons_zero]
          apply wpList_nil
          go_upto_region 10 with fail
          apply wp_region_lit
          refine gw_load (by kernel_rfl) (some 58) rfl 28 (.tmp 6) rfl ⟨g6, 0, none⟩ (.agg (lv (some ⟨be, oe, none⟩) fa ec fc m)) (by kernel_rfl) (load_lv hq1.1.bx) ?_
          simp only [Act.put, List.setIfInBounds_toArray, List.set_cons_succ, List.set_cons_zero]
          refine gw_val (by kernel_rfl) (some 59) rfl (.int .i64 x) (by kernel_rfl) ?_
          simp only [Act.put, List.setIfInBounds_toArray, List.set_cons_succ, List.set_cons_zero]
          refine gw_call (by kernel_rfl) (some 60) rfl 19 #[.agg (lv (some ⟨be, oe, none⟩) fa ec fc m), .int .i64 x] (.int .i64 i) (fun w' => RD R w gl g6 (some ⟨be, oe, none⟩) fa ec fc m w' ∧ Cs w' (some ⟨g9, 0, none⟩) (icells xs)) (by kernel_rfl) (CQ V1 hq1) (fun V2 hq2 => ?_)
          obtain ⟨hR2, hr2⟩ := hq2
          clear hq1 CQ
          simp only [Act.put, List.setIfInBounds_toArray, List.set_cons_succ, List.set_cons_zero]
          refine gw_val (by kernel_rfl) (some 12) rfl (.int .i64 i) (by kernel_rfl) ?_
          simp only [Act.put, List.setIfInBounds_toArray, List.set_cons_succ, List.set_cons_zero]
          apply wpList_nil
          go_upto_region 11 with fail
          refine wp_region_class (C := fun w' => RD R w gl g6 (some ⟨be, oe, none⟩) fa ec fc m w' ∧ Cs w' (some ⟨g9, 0, none⟩) (icells xs)) (by kernel_rfl) (by kernel_rfl) ⟨hR2.below hC (Below.refl _ V2).drew, hr2.below (Below.refl _ V2).drew⟩ ?_
          refine gq_val (by kernel_rfl) (some 61) rfl (.bool true) (fun w' _ => by kernel_rfl) ?_
          simp only [Act.put, List.setIfInBounds_toArray, List.set_cons_succ, List.set_cons_zero]
          refine gq_val (by kernel_rfl) (some 62) rfl (.int .i64 i) (fun w' _ => by kernel_rfl) ?_
          simp only [Act.put, List.setIfInBounds_toArray, List.set_cons_succ, List.set_cons_zero]
          refine gq_val (by kernel_rfl) (some 63) rfl (.bool (decide (0 ≤ (i : Int)))) (fun w' _ => by kernel_rfl) ?_
          rw [hpd]
          simp only [Act.put, List.setIfInBounds_toArray, List.set_cons_succ, List.set_cons_zero]
          refine gq_val (by kernel_rfl) (some 64) rfl (.bool false) (fun w' _ => by kernel_rfl) ?_
          simp only [Act.put, List.setIfInBounds_toArray, List.set_cons_succ, List.set_cons_zero]
          refine gq_val (by kernel_rfl) (some 65) rfl (.bool false) (fun w' _ => by kernel_rfl) ?_
          simp only [Act.put, List.setIfInBounds_toArray, List.set_cons_succ, List.set_cons_zero]
          refine gq_val (by kernel_rfl) (some 66) rfl (.bool true) (fun w' _ => by kernel_rfl) ?_
          simp only [Act.put, List.setIfInBounds_toArray, List.set_cons_succ, List.set_cons_zero]
          refine gq_val (by kernel_rfl) (some 67) rfl (.bool true) (fun w' _ => by kernel_rfl) ?_
          simp only [Act.put, List.setIfInBounds_toArray, List.set_cons_succ, List.set_cons_zero]
          refine gq_val (by kernel_rfl) (some 68) rfl (.int .i64 vv) (fun w' _ => by kernel_rfl) ?_
          simp only [Act.put, List.setIfInBounds_toArray, List.set_cons_succ, List.set_cons_zero]
          refine gq_val (by kernel_rfl) (some 69) rfl (.pointer (some ⟨g6, 0, none⟩)) (fun w' _ => by kernel_rfl) ?_
          simp only [Act.put, List.setIfInBounds_toArray, List.set_cons_succ, List.set_cons_zero]
          refine gq_load (by kernel_rfl) (some 70) rfl 26 (.tmp 69) rfl ⟨g6, 0, none⟩ (.slice (some ⟨be, oe, none⟩) m.E.length ec) (by kernel_rfl) (fun w' hQ => hQ.1.bx.load rfl (by kernel_rfl)) ?_
          simp only [Act.put, List.setIfInBounds_toArray, List.set_cons_succ, List.set_cons_zero]
          refine gq_val (by kernel_rfl) (some 71) rfl (.int .i64 i) (fun w' _ => by kernel_rfl) ?_
          simp only [Act.put, List.setIfInBounds_toArray, List.set_cons_succ, List.set_cons_zero]
          refine gq_val (by kernel_rfl) (some 72) rfl (.pointer (some ⟨be, oe + i * 2, none⟩)) (fun w' _ => idx_el be oe m.E.length ec i hil w' _ _ rfl (by kernel_rfl) (by kernel_rfl)) ?_
          simp only [Act.put, List.setIfInBounds_toArray, List.set_cons_succ, List.set_cons_zero]
          refine gq_val (by kernel_rfl) (some 73) rfl (.pointer (some ⟨be, oe + i * 2 + 1, none⟩)) (fun w' _ => by kernel_rfl) ?_
          simp only [Act.put, List.setIfInBounds_toArray, List.set_cons_succ, List.set_cons_zero]
          refine gq_load (by kernel_rfl) (some 74) rfl 3 (.tmp 73) rfl ⟨be, oe + i * 2 + 1, none⟩ (.int .i64 vv) (by kernel_rfl) (fun w' hQ => load_cell (ELV w' hQ.1.l) (by kernel_rfl)) ?_
          simp only [Act.put, List.setIfInBounds_toArray, List.set_cons_succ, List.set_cons_zero]
          refine gq_val (by kernel_rfl) (some 75) rfl (.bool (vv != vv)) (fun w' _ => by kernel_rfl) ?_
          rw [bne_self_eq_false]
          simp only [Act.put, List.setIfInBounds_toArray, List.set_cons_succ, List.set_cons_zero]
          refine gq_val (by kernel_rfl) (some 76) rfl (.bool false) (fun w' _ => by kernel_rfl) ?_
          simp only [Act.put, List.setIfInBounds_toArray, List.set_cons_succ, List.set_cons_zero]
          refine gq_val (by kernel_rfl) (some 77) rfl (.bool false) (fun w' _ => by kernel_rfl) ?_
          simp only [Act.put, List.setIfInBounds_toArray, List.set_cons_succ, List.set_cons_zero]
          refine gq_val (by kernel_rfl) (some 78) rfl (.bool false) (fun w' _ => by kernel_rfl) ?_
          simp only [Act.put, List.setIfInBounds_toArray, List.set_cons_succ, List.set_cons_zero]
          refine gq_val (by kernel_rfl) (some 79) rfl (.bool true) (fun w' _ => by kernel_rfl) ?_
          simp only [Act.put, List.setIfInBounds_toArray, List.set_cons_succ, List.set_cons_zero]
          refine gq_val (by kernel_rfl) (some 80) rfl (.bool false) (fun w' _ => by kernel_rfl) ?_
          simp only [Act.put, List.setIfInBounds_toArray, List.set_cons_succ, List.set_cons_zero]
          refine gq_val (by kernel_rfl) (some 81) rfl (.bool false) (fun w' _ => by kernel_rfl) ?_
          simp only [Act.put, List.setIfInBounds_toArray, List.set_cons_succ, List.set_cons_zero]
          with_reducible refine gq_not (by kernel_rfl) (some 82) rfl ?_
          simp only [Act.put, List.setIfInBounds_toArray, List.set_cons_succ, List.set_cons_zero]
          with_reducible refine gq_not (by kernel_rfl) (some 83) rfl ?_
          simp only [Act.put, List.setIfInBounds_toArray, List.set_cons_succ, List.set_cons_zero]
          refine gq_val (by kernel_rfl) (some 84) rfl (.bool false) (fun w' _ => by kernel_rfl) ?_
          simp only [Act.put, List.setIfInBounds_toArray, List.set_cons_succ, List.set_cons_zero]
          refine gq_val (by kernel_rfl) (some 85) rfl (.bool false) (fun w' _ => by kernel_rfl) ?_
          simp only [Act.put, List.setIfInBounds_toArray, List.set_cons_succ, List.set_cons_zero]
          refine gq_val (by kernel_rfl) (some 86) rfl (.bool false) (fun w' _ => by kernel_rfl) ?_
          simp only [Act.put, List.setIfInBounds_toArray, List.set_cons_succ, List.set_cons_zero]
          refine gq_val (by kernel_rfl) (some 87) rfl (.pointer (some ⟨gl, 0, none⟩)) (fun w' _ => by kernel_rfl) ?_
          simp only [Act.put, List.setIfInBounds_toArray, List.set_cons_succ, List.set_cons_zero]
          refine gq_val (by kernel_rfl) (some 88) rfl (.int .i64 x) (fun w' _ => by kernel_rfl) ?_
          simp only [Act.put, List.setIfInBounds_toArray, List.set_cons_succ, List.set_cons_zero]
          refine gq_call (by kernel_rfl) (some 89) rfl 20 #[.pointer (some ⟨gl, 0, none⟩), .int .i64 x] (.int .i64 nx) (fun w' _ => by kernel_rfl) (fun w' hQ => N1 w' hQ) ?_
          simp only [Act.put, List.setIfInBounds_toArray, List.set_cons_succ, List.set_cons_zero]
          refine gq_load (by kernel_rfl) (some 90) rfl 28 (.tmp 6) rfl ⟨g6, 0, none⟩ (.agg (lv (some ⟨be, oe, none⟩) fa ec fc m)) (by kernel_rfl) (fun w' hQ => load_lv hQ.1.bx) ?_
          simp only [Act.put, List.setIfInBounds_toArray, List.set_cons_succ, List.set_cons_zero]
          refine gq_val (by kernel_rfl) (some 91) rfl (.int .i64 x) (fun w' _ => by kernel_rfl) ?_
          simp only [Act.put, List.setIfInBounds_toArray, List.set_cons_succ, List.set_cons_zero]
          refine gq_call (by kernel_rfl) (some 92) rfl 21 #[.agg (lv (some ⟨be, oe, none⟩) fa ec fc m), .int .i64 x, .int .i64 1] (.int .i64 nx) (fun w' _ => by kernel_rfl) (fun w' hQ => N2 w' hQ) ?_
          simp only [Act.put, List.setIfInBounds_toArray, List.set_cons_succ, List.set_cons_zero]
          refine gq_val (by kernel_rfl) (some 93) rfl (.bool (nx != nx)) (fun w' _ => by kernel_rfl) ?_
          rw [bne_self_eq_false]
          simp only [Act.put, List.setIfInBounds_toArray, List.set_cons_succ, List.set_cons_zero]
          refine gq_val (by kernel_rfl) (some 94) rfl (.bool false) (fun w' _ => by kernel_rfl) ?_
          simp only [Act.put, List.setIfInBounds_toArray, List.set_cons_succ, List.set_cons_zero]
          refine gq_val (by kernel_rfl) (some 95) rfl (.bool false) (fun w' _ => by kernel_rfl) ?_
          simp only [Act.put, List.setIfInBounds_toArray, List.set_cons_succ, List.set_cons_zero]
          refine gq_val (by kernel_rfl) (some 96) rfl (.pointer (some ⟨gl, 0, none⟩)) (fun w' _ => by kernel_rfl) ?_
          simp only [Act.put, List.setIfInBounds_toArray, List.set_cons_succ, List.set_cons_zero]
          refine gq_val (by kernel_rfl) (some 97) rfl (.int .i64 x) (fun w' _ => by kernel_rfl) ?_
          simp only [Act.put, List.setIfInBounds_toArray, List.set_cons_succ, List.set_cons_zero]
          refine gq_call (by kernel_rfl) (some 98) rfl 22 #[.pointer (some ⟨gl, 0, none⟩), .int .i64 x] (.int .i64 pr) (fun w' _ => by kernel_rfl) (fun w' hQ => N3 w' hQ) ?_
          simp only [Act.put, List.setIfInBounds_toArray, List.set_cons_succ, List.set_cons_zero]
          refine gq_load (by kernel_rfl) (some 99) rfl 28 (.tmp 6) rfl ⟨g6, 0, none⟩ (.agg (lv (some ⟨be, oe, none⟩) fa ec fc m)) (by kernel_rfl) (fun w' hQ => load_lv hQ.1.bx) ?_
          simp only [Act.put, List.setIfInBounds_toArray, List.set_cons_succ, List.set_cons_zero]
          refine gq_val (by kernel_rfl) (some 100) rfl (.int .i64 x) (fun w' _ => by kernel_rfl) ?_
          simp only [Act.put, List.setIfInBounds_toArray, List.set_cons_succ, List.set_cons_zero]
          refine gq_call (by kernel_rfl) (some 101) rfl 21 #[.agg (lv (some ⟨be, oe, none⟩) fa ec fc m), .int .i64 x, .int .i64 (-1)] (.int .i64 pr) (fun w' _ => by kernel_rfl) (fun w' hQ => N4 w' hQ) ?_
          simp only [Act.put, List.setIfInBounds_toArray, List.set_cons_succ, List.set_cons_zero]
          refine gq_val (by kernel_rfl) (some 102) rfl (.bool (pr != pr)) (fun w' _ => by kernel_rfl) ?_
          rw [bne_self_eq_false]
          simp only [Act.put, List.setIfInBounds_toArray, List.set_cons_succ, List.set_cons_zero]
          refine gq_val (by kernel_rfl) (some 103) rfl (.bool false) (fun w' _ => by kernel_rfl) ?_
          simp only [Act.put, List.setIfInBounds_toArray, List.set_cons_succ, List.set_cons_zero]
          refine wpQuiet_nil ?_
          intro V3 hQ3
          have HR3 := Lib.hid hQ3.1
          have HC3 := Lib.hid hQ3.2
          clear hQ3 N1 N2 N3 N4 hR2 hr2 ELV
          go_wp2_with fail
          go_roundg (gk - 1)
          case measure => have := HG.out; omega
          case rel => exact ⟨k + 1, by congr 1, HG.out.2.2, HR3.out, HC3.out, HG.out.1⟩
      · have hd : decide ((k : Int) < 9) = false := decide_eq_false (by omega)
        have hd2 : decide (k < 9) = false := decide_eq_false hlt
        have CK := known_true hC wr
        obtain ⟨S, -, -, hB⟩ := hR.kn
        clear hR hr hg hR5 hr5
        go_wp2_with (go_at_call 9; refine CK.mono ?_; rintro e w9 ⟨rfl, hb9⟩)
        have HB := Lib.hid (hB.trans (hb9.mono hB.size))
        clear hB hb9 CK
        go_ret
        exact ⟨rfl, HB.out⟩
end Go.Proofs.Ytefinpapkjgpoaa
