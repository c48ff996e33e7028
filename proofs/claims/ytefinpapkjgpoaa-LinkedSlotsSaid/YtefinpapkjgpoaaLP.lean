/-
  The walk of the statement on sequences of insertions, removals and moves, over what the program's functions are held to.
-/
import Derived.Test.YtefinpapkjgpoaaLO
namespace Go.Proofs.Ytefinpapkjgpoaa
open Go.RowKit
set_option linter.unusedSimpArgs false
set_option linter.unusedVariables false

theorem idx_row (b off n c k : Nat) (hk : k < n) (V : World) (ρ : Operand → Value) (o : Oper) {x y : Operand} (ho : o.op = .indexAddr 51 x y) (hx : ρ x = .slice (some ⟨b, off, none⟩) n c) (hy : ρ y = .int .i64 k) : (execOp ρ o).run Try.prog V = .ok (.value (.pointer (some ⟨b, off + k, none⟩))) V := by
  have hs : (sizeOf (Try.prog.elem 51)).run Try.prog V = .ok 1 V := by kernel_rfl
  have hlm : (k : Int) < (n : Int) := by omega
  unfold execOp
  simp only [ho, hx, hy]
  go_simp
theorem infoS : (Try.prog.info? 22).map (fun i => (i.zero, i.size, i.bytes)) = some (some (.slice none 0 0), 1, 24) := by kernel_rfl
theorem one_row (a : Option Addr) (n c : Nat) (w : World) : (Instr.buildSlice 51 1 #[(0, .slice a n c)]).run Try.prog w = .ok (.slice (some ⟨w.heap.size, 0, none⟩) 1 1) (w.alloc (.cells #[.slice a n c] 22)) := by
  obtain ⟨i0, hi, hz0, hz1, hz2⟩ := info_parts infoS
  refine run_buildSlice w 51 22 1 _ #[.slice a n c] i0 _ Try.underlying51 hi hz0 (by rw [hz1]; omega) (by rw [hz1]; omega) ?_
  rw [hz1]
  kernel_rfl
theorem add_nat {ρ : Operand → Value} {o : Oper} {x y : Operand} (ho : o.op = .binOp .add 3 x y 3) (a b : Nat) (h : a + b ≤ 9223372036854775807) (hx : ρ x = .int .i64 a) (hy : ρ y = .int .i64 b) (w : World) : (execOp ρ o).run Try.prog w = .ok (.value (.int .i64 (a + b : Nat))) w := by
  unfold execOp
  simp only [ho, hx, hy]
  simp [go_sem]
  rw [IntKind.wrap_i64]
  omega
set_option maxRecDepth 100000 in
set_option maxHeartbeats 2000000 in
theorem long_one (g : Nat) (a : Option Addr) (n c : Nat) (w : World) (hX : Bx w g #[.slice a n c] 22) (hn : n ≤ 9223372036854775807) : Calls Try.prog 8 #[.slice (some ⟨g, 0, none⟩) 1 1] w fun e w' => e = .returned (.bool (decide ((160 : Int) < (n : Int)))) ∧ w = w' := by
  have hl : (Instr.loadAt 22 (.pointer (some ⟨g, 0, none⟩))).run Try.prog w = .ok (.slice a n c) w := hX.load rfl (by kernel_rfl)
  clear hX
  go_enter Try.func8, Try.ntmps8
  go_wp2_with fail
  go_loopg [3, 8] 1 (fun gg s3 s8 wx => ((s3 = .int .i64 (0 : Nat) ∧ s8 = .int .i64 (0 : Nat) ∧ gg = 1) ∨ (s3 = .int .i64 (n : Nat) ∧ s8 = .int .i64 (1 : Nat) ∧ gg = 0)) ∧ w = wx)
  case atStart => exact ⟨.inl ⟨rfl, rfl, rfl⟩, rfl⟩
  case round =>
    obtain ⟨⟨rfl, rfl, rfl⟩ | ⟨rfl, rfl, rfl⟩, rfl⟩ := hrel
    · go_upto_region 4 with fail
      apply wp_region_lit
      refine gw_val (by kernel_rfl) (some 10) rfl (.pointer (some ⟨g, 0, none⟩)) (idx_row g 0 1 1 0 (by omega) w _ _ rfl (by kernel_rfl) (by kernel_rfl)) ?_
      simp only [Act.put, List.setIfInBounds_toArray, List.set_cons_succ, List.set_cons_zero]
      refine gw_load (by kernel_rfl) (some 11) rfl 22 (.tmp 10) rfl ⟨g, 0, none⟩ (.slice a n c) (by kernel_rfl) (hl) ?_
      simp only [Act.put, List.setIfInBounds_toArray, List.set_cons_succ, List.set_cons_zero]
      refine gw_val (by kernel_rfl) (some 5) rfl (.slice a n c) (by kernel_rfl) ?_
      simp only [Act.put, List.setIfInBounds_toArray, List.set_cons_succ, List.set_cons_zero]
      apply wpList_nil
      go_upto_region 5 with fail
      apply wp_region_lit
      refine gw_val (by kernel_rfl) (some 12) rfl (.int .i64 (0 : Nat)) (by kernel_rfl) ?_
      simp only [Act.put, List.setIfInBounds_toArray, List.set_cons_succ, List.set_cons_zero]
      refine gw_val (by kernel_rfl) (some 13) rfl (.slice a n c) (by kernel_rfl) ?_
      simp only [Act.put, List.setIfInBounds_toArray, List.set_cons_succ, List.set_cons_zero]
      refine gw_val (by kernel_rfl) (some 14) rfl (.int .i64 n) (by kernel_rfl) ?_
      simp only [Act.put, List.setIfInBounds_toArray, List.set_cons_succ, List.set_cons_zero]
      refine gw_val (by kernel_rfl) (some 15) rfl (.int .i64 (0 + n : Nat)) (add_nat rfl 0 n (by omega) (by kernel_rfl) (by kernel_rfl) w) ?_
      rw [Nat.zero_add]
      simp only [Act.put, List.setIfInBounds_toArray, List.set_cons_succ, List.set_cons_zero]
      refine gw_val (by kernel_rfl) (some 3) rfl (.int .i64 n) (by kernel_rfl) ?_
      simp only [Act.put, List.setIfInBounds_toArray, List.set_cons_succ, List.set_cons_zero]
      apply wpList_nil
      clear hl
      go_wp2_with fail
      go_roundg 0
      case measure => omega
      case rel => exact ⟨.inr ⟨rfl, rfl, rfl⟩, rfl⟩
    · clear hl
      go_wp2_with fail
      go_ret
      exact ⟨rfl, rfl⟩
/-- What the last line keeps. -/
structure YF (R : Rep) (w : World) (gl g4 : Nat) (ea fa : Option Addr) (ec fc : Nat) (m : LM) (b3 b5 : Bool) (x3 x5 : Value) (V : World) : Prop where
  kn : KN R w gl m V
  bx : Bx V g4 (lv ea fa ec fc m) 28
  l : LV V ea fa ec fc m
  v3 : b3 = true → ∃ a c, x3 = .slice a m.E.length c ∧ Cs V a (icells (valuesM m))
  v5 : b5 = true → ∃ a c, x5 = .slice a m.E.length c ∧ Cs V a (icells (valuesM m))
theorem YF.below {R : Rep} (hC : ListC R 23 25 27 28 29 18 15 17 20 22 12 14) {w V V2 : World} {gl g4 : Nat} {ea fa : Option Addr} {ec fc : Nat} {m : LM} {b3 b5 : Bool} {x3 x5 : Value} (h : YF R w gl g4 ea fa ec fc m b3 b5 x3 x5 V) (hb : Below V.heap.size V V2) : YF R w gl g4 ea fa ec fc m b3 b5 x3 x5 V2 where
  kn := h.kn.below hC hb
  bx := h.bx.below h.bx.lt hb
  l := h.l.below hb
  v3 := fun h1 => let ⟨a, c, e, hc⟩ := h.v3 h1; ⟨a, c, e, hc.below hb⟩
  v5 := fun h1 => let ⟨a, c, e, hc⟩ := h.v5 h1; ⟨a, c, e, hc.below hb⟩
theorem valuesM_len (m : LM) : (valuesM m).length = m.E.length := by simp [valuesM]
set_option maxRecDepth 100000 in
set_option maxHeartbeats 4000000 in
theorem plays_core {R : Rep} (hC : ListC R 23 25 27 28 29 18 15 17 20 22 12 14) (a : Option Addr) (c : Nat) (L : List Int) (w : World) (hL : Cs w a (icells L)) (hl : L.length ≤ 9223372036854775807) :
    Calls Try.prog 3 #[.slice a L.length c] w fun e w' => e = .returned (.bool true) ∧ Below w.heap.size w w' := by
  have hb1 : Below w.heap.size w (w.alloc (.cells #[.slice a L.length c] 22)) := (Below.refl _ w).alloc (Nat.le_refl _) _
  have hX1 : Bx (w.alloc (.cells #[.slice a L.length c] 22)) w.heap.size #[.slice a L.length c] 22 := heap_alloc_last w _
  have CLn := long_one w.heap.size a L.length c _ hX1 hl
  have CK := known_true hC (w.alloc (.cells #[.slice a L.length c] 22))
  have HL := Lib.hid hL
  obtain ⟨n, hn⟩ : ∃ n, L.length = n := ⟨_, rfl⟩
  by_cases hm : 160 < L.length
  · have hd : decide ((160 : Int) < (L.length : Int)) = true := decide_eq_true (by omega)
    rw [hd] at CLn
    rw [hn] at hb1 CLn CK ⊢
    clear hX1 hL hd HL
    go_enter Try.func3, Try.ntmps3
    go_upto_region 1 with fail
    apply wp_region_lit
    refine gw_val (by kernel_rfl) (some 6) rfl (.slice a n c) (by kernel_rfl) ?_
    simp only [Act.put, List.setIfInBounds_toArray, List.set_cons_succ, List.set_cons_zero]
    refine gw_build (by kernel_rfl) (some 7) rfl 51 1 #[(0, .tmp 6)] rfl #[(0, .slice a n c)] (by kernel_rfl) (.slice (some ⟨w.heap.size, 0, none⟩) 1 1) _ (one_row a n c w) ?_
    simp only [Act.put, List.setIfInBounds_toArray, List.set_cons_succ, List.set_cons_zero]
    generalize w.alloc (.cells #[.slice a n c] 22) = W1 at *
    refine gw_call (by kernel_rfl) (some 8) rfl 8 #[.slice (some ⟨w.heap.size, 0, none⟩) 1 1] (.bool true) (fun w' => W1 = w') (by kernel_rfl) CLn (fun W2 hW => ?_)
    subst hW
    simp only [Act.put, List.setIfInBounds_toArray, List.set_cons_succ, List.set_cons_zero]
    apply wpList_nil
    clear CLn hl hm hn
    go_wp2_with (go_at_call 9; refine CK.mono ?_; rintro e w9 ⟨rfl, hb9⟩)
    have HB := Lib.hid (hb1.trans (hb9.mono hb1.size))
    clear hb1 hb9 CK
    go_ret
    exact ⟨rfl, HB.out⟩
  · have hd : decide ((160 : Int) < (L.length : Int)) = false := decide_eq_false (by omega)
    rw [hd] at CLn
    have CPl := play_core hC a c L _ (hL.below hb1) (by omega)
    rw [hn] at hb1 CLn CK CPl ⊢
    clear hX1 hL hd HL CK
    go_enter Try.func3, Try.ntmps3
    go_upto_region 1 with fail
    apply wp_region_lit
    refine gw_val (by kernel_rfl) (some 6) rfl (.slice a n c) (by kernel_rfl) ?_
    simp only [Act.put, List.setIfInBounds_toArray, List.set_cons_succ, List.set_cons_zero]
    refine gw_build (by kernel_rfl) (some 7) rfl 51 1 #[(0, .tmp 6)] rfl #[(0, .slice a n c)] (by kernel_rfl) (.slice (some ⟨w.heap.size, 0, none⟩) 1 1) _ (one_row a n c w) ?_
    simp only [Act.put, List.setIfInBounds_toArray, List.set_cons_succ, List.set_cons_zero]
    generalize w.alloc (.cells #[.slice a n c] 22) = W1 at *
    refine gw_call (by kernel_rfl) (some 8) rfl 8 #[.slice (some ⟨w.heap.size, 0, none⟩) 1 1] (.bool false) (fun w' => W1 = w') (by kernel_rfl) CLn (fun W2 hW => ?_)
    subst hW
    simp only [Act.put, List.setIfInBounds_toArray, List.set_cons_succ, List.set_cons_zero]
    apply wpList_nil
    clear CLn hl hm hn
    go_upto_region 3 with fail
    apply wp_region_lit
    refine gw_val (by kernel_rfl) (some 11) rfl (.slice a n c) (by kernel_rfl) ?_
    simp only [Act.put, List.setIfInBounds_toArray, List.set_cons_succ, List.set_cons_zero]
    refine gw_callE (by kernel_rfl) (some 12) rfl 10 #[.slice a n c] (fun v w' => ∃ gl ea fa ec fc m, v = .tuple #[.pointer (some ⟨gl, 0, none⟩), .agg (lv ea fa ec fc m), .bool true] ∧ KN R w gl m w' ∧ LV w' ea fa ec fc m ∧ Wm m ∧ Ok m 200) (by kernel_rfl) (CPl.mono fun e w' h => by
      obtain ⟨gl, S, ea, fa, ec, fc, m, he, hr, hlv, hw, ho, hb, hs⟩ := h
      exact ⟨_, he, gl, ea, fa, ec, fc, m, rfl, ⟨S, hr, fun k hk => Nat.le_trans hb1.size (hs k hk), hb1.trans (hb.mono hb1.size)⟩, hlv, hw, ho⟩) (fun v V2 hq => ?_)
    obtain ⟨gl, ea, fa, ec, fc, m, rfl, hk2, hl2, hw2, ho2⟩ := hq
    simp only [Act.put, List.setIfInBounds_toArray, List.set_cons_succ, List.set_cons_zero]
    refine gw_val (by kernel_rfl) (some 10) rfl (.tuple #[.pointer (some ⟨gl, 0, none⟩), .agg (lv ea fa ec fc m), .bool true]) (by kernel_rfl) ?_
    simp only [Act.put, List.setIfInBounds_toArray, List.set_cons_succ, List.set_cons_zero]
    refine gw_val (by kernel_rfl) (some 13) rfl (.pointer (some ⟨gl, 0, none⟩)) (by kernel_rfl) ?_
    simp only [Act.put, List.setIfInBounds_toArray, List.set_cons_succ, List.set_cons_zero]
    refine gw_val (by kernel_rfl) (some 14) rfl (.agg (lv ea fa ec fc m)) (by kernel_rfl) ?_
    simp only [Act.put, List.setIfInBounds_toArray, List.set_cons_succ, List.set_cons_zero]
    refine gw_val (by kernel_rfl) (some 15) rfl (.bool true) (by kernel_rfl) ?_
    simp only [Act.put, List.setIfInBounds_toArray, List.set_cons_succ, List.set_cons_zero]
    refine run_to rfl (some 4) rfl (.pointer (some ⟨V2.heap.size, 0, none⟩)) (V2.alloc (.cells zl 28)) (by kernel_rfl) ?_
    simp only [Act.put, List.setIfInBounds_toArray, List.set_cons_succ, List.set_cons_zero]
    refine gw_val (by kernel_rfl) (some 3) rfl (.pointer (some ⟨gl, 0, none⟩)) (by kernel_rfl) ?_
    simp only [Act.put, List.setIfInBounds_toArray, List.set_cons_succ, List.set_cons_zero]
    apply wpList_store_new (w := V2) (ty := 28) (x := .tmp 4) (y := .tmp 14) (c := zl) (c' := lv ea fa ec fc m)
    case hgd => rfl
    case ho => rfl
    case hx => kernel_rfl
    case hy => kernel_rfl
    case hi => kernel_rfl
    case hz => rfl
    case h1 => exact one_lv _ _ _ _ _ _ _
    simp only [Act.put]
    refine gw_val (by kernel_rfl) (some 5) rfl (.bool true) (by kernel_rfl) ?_
    simp only [Act.put, List.setIfInBounds_toArray, List.set_cons_succ, List.set_cons_zero]
    apply wpList_nil
    have hb3 : Below V2.heap.size V2 (V2.alloc (.cells (lv ea fa ec fc m) 28)) := (Below.refl _ V2).alloc (Nat.le_refl _) _
    have hbx : Bx (V2.alloc (.cells (lv ea fa ec fc m) 28)) V2.heap.size (lv ea fa ec fc m) 28 := heap_alloc_last V2 _
    have hk3 := hk2.below hC hb3
    have hl3 := hl2.below hb3
    generalize V2.alloc (.cells (lv ea fa ec fc m) 28) = V3 at *
    generalize V2.heap.size = g4 at *
    have C12 := fun V (h : KN R w gl m V) => h.values hC hw2 (ho2.mono (by omega))
    have C13 := fun V (h : LV V ea fa ec fc m) => ref_values m ea fa ec fc V h
    have C14 := fun V (h : KN R w gl m V) => (by
      obtain ⟨S, hr, -, -⟩ := h
      exact hC.len V gl S m hr hw2 (ho2.mono (by omega)) : Calls Try.prog 14 #[.pointer (some ⟨gl, 0, none⟩)] V fun e w' => e = .returned (.int .i64 m.E.length) ∧ Below V.heap.size V w')
    have C11 := fun V (p1 p2 : Option Addr) (c1 c2 : Nat) (h1 : Cs V p1 (icells (valuesM m))) (h2 : Cs V p2 (icells (valuesM m))) => ref_same (valuesM m) (valuesM m) p1 p2 c1 c2 V h1 h2 (by rw [valuesM_len]; have := ho2.1; omega)
    rw [valuesM_len, show decide (valuesM m = valuesM m) = true from decide_eq_true rfl] at C11
    have C9 := fun V => known_true hC V
    clear hk2 hl2 hb3 hb1 CPl
    go_upto_region 4 with fail
    have h0 : YF R w gl g4 ea fa ec fc m false false undef undef { V3 with drawn := V3.drawn + 1 } := YF.below hC (V := V3) ⟨hk3, hbx, hl3, fun h => (by cases h), fun h => (by cases h)⟩ (Below.refl _ V3).drew
    refine wp_region_inv (fun listed act9 V => ∃ b0 b1 b2 b3 b4 b5 b6 b7 b8 b9 b10 b11 b12 b13 b14 b15 b16 b17 b18 b19 : Bool, ∃ x19 x21 : Value, listed = #[b0, b1, b2, b3, b4, b5, b6, b7, b8, b9, b10, b11, b12, b13, b14, b15, b16, b17, b18, b19] ∧ act9 = { tmps := #[.slice a n c, undef, (cond b19 (.bool true) (.bool false)), .pointer (some ⟨gl, 0, none⟩), .pointer (some ⟨g4, 0, none⟩), .bool true, .slice a n c, .slice (some ⟨w.heap.size, 0, none⟩) 1 1, .bool false, undef, .tuple #[.pointer (some ⟨gl, 0, none⟩), .agg (lv ea fa ec fc m), .bool true], .slice a n c, .tuple #[.pointer (some ⟨gl, 0, none⟩), .agg (lv ea fa ec fc m), .bool true], .pointer (some ⟨gl, 0, none⟩), .agg (lv ea fa ec fc m), .bool true, (cond b0 (.bool true) undef), (cond b1 (.bool true) undef), (cond b2 (.pointer (some ⟨gl, 0, none⟩)) undef), x19, (cond b4 (.agg (lv ea fa ec fc m)) undef), x21, (cond b6 (.bool true) undef), (cond b7 (.bool true) undef), (cond b8 (.bool true) undef), (cond b9 (.pointer (some ⟨gl, 0, none⟩)) undef), (cond b10 (.int .i64 m.E.length) undef), (cond b11 (.pointer (some ⟨g4, 0, none⟩)) undef), (cond b12 (.slice ea m.E.length ec) undef), (cond b13 (.int .i64 m.E.length) undef), (cond b14 (.bool true) undef), (cond b15 (.bool true) undef), (cond b16 (.bool true) undef), (cond b17 (.bool true) undef), (cond b18 (.bool true) undef)], defers := [] } ∧ YF R w gl g4 ea fa ec fc m b3 b5 x19 x21 V) (by kernel_rfl) (by kernel_rfl) ?_ ?_ ?_
    · exact ⟨false, false, false, false, false, false, false, false, false, false, false, false, false, false, false, false, false, false, false, false, undef, undef, rfl, rfl, h0⟩
    · intro i9 listed act9 V hi hr hJ
      obtain ⟨b0, b1, b2, b3, b4, b5, b6, b7, b8, b9, b10, b11, b12, b13, b14, b15, b16, b17, b18, b19, x19, x21, rfl, rfl, hF⟩ := hJ
      have hi2 : i9 < 20 := hi
      have hi3 : i9 = 0 ∨ i9 = 1 ∨ i9 = 2 ∨ i9 = 3 ∨ i9 = 4 ∨ i9 = 5 ∨ i9 = 6 ∨ i9 = 7 ∨ i9 = 8 ∨ i9 = 9 ∨ i9 = 10 ∨ i9 = 11 ∨ i9 = 12 ∨ i9 = 13 ∨ i9 = 14 ∨ i9 = 15 ∨ i9 = 16 ∨ i9 = 17 ∨ i9 = 18 ∨ i9 = 19 := by omega
      rcases hi3 with rfl | rfl | rfl | rfl | rfl | rfl | rfl | rfl | rfl | rfl | rfl | rfl | rfl | rfl | rfl | rfl | rfl | rfl | rfl | rfl
      · obtain rfl : b0 = false := ready_self hr
        refine st_val rfl (by kernel_rfl) (some 16) rfl (.bool true) V (by kernel_rfl) ?_
        exact ⟨true, b1, b2, b3, b4, b5, b6, b7, b8, b9, b10, b11, b12, b13, b14, b15, b16, b17, b18, b19, x19, x21, rfl, rfl, hF⟩
      · obtain rfl : b1 = false := ready_self hr
        obtain rfl : b0 = true := ready_dep hr 0 (by kernel_rfl)
        refine st_val rfl (by kernel_rfl) (some 17) rfl (.bool true) V (by kernel_rfl) ?_
        exact ⟨true, true, b2, b3, b4, b5, b6, b7, b8, b9, b10, b11, b12, b13, b14, b15, b16, b17, b18, b19, x19, x21, rfl, rfl, hF⟩
      · obtain rfl : b2 = false := ready_self hr
        obtain rfl : b1 = true := ready_dep hr 1 (by kernel_rfl)
        refine st_val rfl (by kernel_rfl) (some 18) rfl (.pointer (some ⟨gl, 0, none⟩)) V (by kernel_rfl) ?_
        exact ⟨b0, true, true, b3, b4, b5, b6, b7, b8, b9, b10, b11, b12, b13, b14, b15, b16, b17, b18, b19, x19, x21, rfl, rfl, hF⟩
      · obtain rfl : b3 = false := ready_self hr
        obtain rfl : b1 = true := ready_dep hr 1 (by kernel_rfl)
        obtain rfl : b2 = true := ready_dep hr 2 (by kernel_rfl)
        refine st_call rfl (by kernel_rfl) (some 19) rfl 12 #[.pointer (some ⟨gl, 0, none⟩)] (by kernel_rfl) ((C12 V hF.kn).mono ?_)
        rintro e V2 ⟨x, y, rfl, hc, -, hk, hb⟩
        exact ⟨_, rfl, b0, true, true, true, b4, b5, b6, b7, b8, b9, b10, b11, b12, b13, b14, b15, b16, b17, b18, b19, _, x21, rfl, rfl, { hF.below hC hb with v3 := fun _ => ⟨x, y, rfl, hc⟩ }⟩
      · obtain rfl : b4 = false := ready_self hr
        obtain rfl : b1 = true := ready_dep hr 1 (by kernel_rfl)
        refine st_load rfl (by kernel_rfl) (some 20) rfl 28 (.tmp 4) rfl ⟨g4, 0, none⟩ (.agg (lv ea fa ec fc m)) (by kernel_rfl) (load_lv hF.bx) ?_
        exact ⟨b0, true, b2, b3, true, b5, b6, b7, b8, b9, b10, b11, b12, b13, b14, b15, b16, b17, b18, b19, x19, x21, rfl, rfl, hF⟩
      · obtain rfl : b5 = false := ready_self hr
        obtain rfl : b1 = true := ready_dep hr 1 (by kernel_rfl)
        obtain rfl : b4 = true := ready_dep hr 4 (by kernel_rfl)
        refine st_call rfl (by kernel_rfl) (some 21) rfl 13 #[.agg (lv ea fa ec fc m)] (by kernel_rfl) ((C13 V hF.l).mono ?_)
        rintro e V2 ⟨v, rfl, ho, hb⟩
        obtain ⟨x, y, rfl, hc, -⟩ := own_cs ho
        exact ⟨_, rfl, b0, true, b2, b3, true, true, b6, b7, b8, b9, b10, b11, b12, b13, b14, b15, b16, b17, b18, b19, x19, _, rfl, rfl, { hF.below hC hb with v5 := fun _ => ⟨x, y, rfl, hc⟩ }⟩
      · obtain rfl : b6 = false := ready_self hr
        obtain rfl : b1 = true := ready_dep hr 1 (by kernel_rfl)
        obtain rfl : b3 = true := ready_dep hr 3 (by kernel_rfl)
        obtain rfl : b5 = true := ready_dep hr 5 (by kernel_rfl)
        obtain ⟨p1, c1, rfl, hc1⟩ := hF.v3 rfl
        obtain ⟨p2, c2, rfl, hc2⟩ := hF.v5 rfl
        have hb5 := hF
        refine st_call rfl (by kernel_rfl) (some 22) rfl 11 #[.slice p1 m.E.length c1, .slice p2 m.E.length c2] (by kernel_rfl) ((C11 V p1 p2 c1 c2 hc1 hc2).mono ?_)
        rintro e V2 ⟨rfl, hb⟩
        exact ⟨_, rfl, b0, true, b2, true, b4, true, true, b7, b8, b9, b10, b11, b12, b13, b14, b15, b16, b17, b18, b19, _, _, rfl, rfl, hF.below hC hb⟩
      · obtain rfl : b7 = false := ready_self hr
        obtain rfl : b1 = true := ready_dep hr 1 (by kernel_rfl)
        obtain rfl : b6 = true := ready_dep hr 6 (by kernel_rfl)
        refine st_val rfl (by kernel_rfl) (some 23) rfl (.bool true) V (by kernel_rfl) ?_
        exact ⟨b0, true, b2, b3, b4, b5, true, true, b8, b9, b10, b11, b12, b13, b14, b15, b16, b17, b18, b19, x19, x21, rfl, rfl, hF⟩
      · obtain rfl : b8 = false := ready_self hr
        obtain rfl : b7 = true := ready_dep hr 7 (by kernel_rfl)
        refine st_val rfl (by kernel_rfl) (some 24) rfl (.bool true) V (by kernel_rfl) ?_
        exact ⟨b0, b1, b2, b3, b4, b5, b6, true, true, b9, b10, b11, b12, b13, b14, b15, b16, b17, b18, b19, x19, x21, rfl, rfl, hF⟩
      · obtain rfl : b9 = false := ready_self hr
        obtain rfl : b8 = true := ready_dep hr 8 (by kernel_rfl)
        refine st_val rfl (by kernel_rfl) (some 25) rfl (.pointer (some ⟨gl, 0, none⟩)) V (by kernel_rfl) ?_
        exact ⟨b0, b1, b2, b3, b4, b5, b6, b7, true, true, b10, b11, b12, b13, b14, b15, b16, b17, b18, b19, x19, x21, rfl, rfl, hF⟩
      · obtain rfl : b10 = false := ready_self hr
        obtain rfl : b8 = true := ready_dep hr 8 (by kernel_rfl)
        obtain rfl : b9 = true := ready_dep hr 9 (by kernel_rfl)
        have hkn := hF.kn
        refine st_call rfl (by kernel_rfl) (some 26) rfl 14 #[.pointer (some ⟨gl, 0, none⟩)] (by kernel_rfl) ((C14 V hF.kn).mono ?_)
        rintro e V2 ⟨rfl, hb⟩
        exact ⟨_, rfl, b0, b1, b2, b3, b4, b5, b6, b7, true, true, true, b11, b12, b13, b14, b15, b16, b17, b18, b19, x19, x21, rfl, rfl, hF.below hC hb⟩
      · obtain rfl : b11 = false := ready_self hr
        obtain rfl : b8 = true := ready_dep hr 8 (by kernel_rfl)
        refine st_val rfl (by kernel_rfl) (some 27) rfl (.pointer (some ⟨g4, 0, none⟩)) V (by kernel_rfl) ?_
        exact ⟨b0, b1, b2, b3, b4, b5, b6, b7, true, b9, b10, true, b12, b13, b14, b15, b16, b17, b18, b19, x19, x21, rfl, rfl, hF⟩
      · obtain rfl : b12 = false := ready_self hr
        obtain rfl : b8 = true := ready_dep hr 8 (by kernel_rfl)
        obtain rfl : b11 = true := ready_dep hr 11 (by kernel_rfl)
        refine st_load rfl (by kernel_rfl) (some 28) rfl 26 (.tmp 27) rfl ⟨g4, 0, none⟩ (.slice ea m.E.length ec) (by kernel_rfl) (hF.bx.load rfl (by kernel_rfl)) ?_
        exact ⟨b0, b1, b2, b3, b4, b5, b6, b7, true, b9, b10, true, true, b13, b14, b15, b16, b17, b18, b19, x19, x21, rfl, rfl, hF⟩
      · obtain rfl : b13 = false := ready_self hr
        obtain rfl : b8 = true := ready_dep hr 8 (by kernel_rfl)
        obtain rfl : b12 = true := ready_dep hr 12 (by kernel_rfl)
        refine st_val rfl (by kernel_rfl) (some 29) rfl (.int .i64 m.E.length) V (by kernel_rfl) ?_
        exact ⟨b0, b1, b2, b3, b4, b5, b6, b7, true, b9, b10, b11, true, true, b14, b15, b16, b17, b18, b19, x19, x21, rfl, rfl, hF⟩
      · obtain rfl : b14 = false := ready_self hr
        obtain rfl : b8 = true := ready_dep hr 8 (by kernel_rfl)
        obtain rfl : b10 = true := ready_dep hr 10 (by kernel_rfl)
        obtain rfl : b13 = true := ready_dep hr 13 (by kernel_rfl)
        refine st_val rfl (by kernel_rfl) (some 30) rfl (.bool ((m.E.length : Int) == (m.E.length : Int))) V (by kernel_rfl) ?_
        rw [beq_self_eq_true]
        exact ⟨b0, b1, b2, b3, b4, b5, b6, b7, true, b9, true, b11, b12, true, true, b15, b16, b17, b18, b19, x19, x21, rfl, rfl, hF⟩
      · obtain rfl : b15 = false := ready_self hr
        obtain rfl : b8 = true := ready_dep hr 8 (by kernel_rfl)
        obtain rfl : b14 = true := ready_dep hr 14 (by kernel_rfl)
        refine st_val rfl (by kernel_rfl) (some 31) rfl (.bool true) V (by kernel_rfl) ?_
        exact ⟨b0, b1, b2, b3, b4, b5, b6, b7, true, b9, b10, b11, b12, b13, true, true, b16, b17, b18, b19, x19, x21, rfl, rfl, hF⟩
      · obtain rfl : b16 = false := ready_self hr
        obtain rfl : b15 = true := ready_dep hr 15 (by kernel_rfl)
        refine st_val rfl (by kernel_rfl) (some 32) rfl (.bool true) V (by kernel_rfl) ?_
        exact ⟨b0, b1, b2, b3, b4, b5, b6, b7, b8, b9, b10, b11, b12, b13, b14, true, true, b17, b18, b19, x19, x21, rfl, rfl, hF⟩
      · obtain rfl : b17 = false := ready_self hr
        obtain rfl : b16 = true := ready_dep hr 16 (by kernel_rfl)
        refine st_call rfl (by kernel_rfl) (some 33) rfl 9 #[] (by kernel_rfl) ((C9 V).mono ?_)
        rintro e V2 ⟨rfl, hb⟩
        exact ⟨_, rfl, b0, b1, b2, b3, b4, b5, b6, b7, b8, b9, b10, b11, b12, b13, b14, b15, true, true, b18, b19, x19, x21, rfl, rfl, hF.below hC hb⟩
      · obtain rfl : b18 = false := ready_self hr
        obtain rfl : b16 = true := ready_dep hr 16 (by kernel_rfl)
        obtain rfl : b17 = true := ready_dep hr 17 (by kernel_rfl)
        refine st_val rfl (by kernel_rfl) (some 34) rfl (.bool true) V (by kernel_rfl) ?_
        exact ⟨b0, b1, b2, b3, b4, b5, b6, b7, b8, b9, b10, b11, b12, b13, b14, b15, true, true, true, b19, x19, x21, rfl, rfl, hF⟩
      · obtain rfl : b19 = false := ready_self hr
        obtain rfl : b18 = true := ready_dep hr 18 (by kernel_rfl)
        refine st_val rfl (by kernel_rfl) (some 2) rfl (.bool true) V (by kernel_rfl) ?_
        exact ⟨b0, b1, b2, b3, b4, b5, b6, b7, b8, b9, b10, b11, b12, b13, b14, b15, b16, b17, true, true, x19, x21, rfl, rfl, hF⟩
    · intro act9 V hJ
      obtain ⟨b0, b1, b2, b3, b4, b5, b6, b7, b8, b9, b10, b11, b12, b13, b14, b15, b16, b17, b18, b19, x19, x21, he, rfl, hF⟩ := hJ
      have he : (#[true, true, true, true, true, true, true, true, true, true, true, true, true, true, true, true, true, true, true, true] : Array Bool) = #[b0, b1, b2, b3, b4, b5, b6, b7, b8, b9, b10, b11, b12, b13, b14, b15, b16, b17, b18, b19] := he
      simp only [Array.mk.injEq, List.cons.injEq, and_true] at he
      obtain ⟨rfl, rfl, rfl, rfl, rfl, rfl, rfl, rfl, rfl, rfl, rfl, rfl, rfl, rfl, rfl, rfl, rfl, rfl, rfl, rfl⟩ := he
      simp only [cond_true]
      obtain ⟨S, -, -, hB⟩ := hF.kn
      have HB := Lib.hid hB
      clear hB hF h0 C9 C11 C12 C13 C14 hk3 hl3 hbx he
      go_wp2_with fail
      go_ret
      exact ⟨rfl, HB.out⟩
end Go.Proofs.Ytefinpapkjgpoaa
