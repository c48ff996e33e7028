/-
  The contract of the reference's MoveToBack.
-/
import Derived.Test.YtefinpapkjgpoaaLJ
namespace Go.Proofs.Ytefinpapkjgpoaa
open Go.RowKit
set_option linter.unusedSimpArgs false
set_option linter.unusedVariables false

/-- What the region of MoveToBack keeps. -/
structure VF (w : World) (C : Array Value) (E : List (Int × Int)) (fa : Option Addr) (fn fc i U : Nat) (y : Int × Int) (b3 b9 b10 b15 b16 : Bool) (x3 x9 x10 : Value) (V : World) : Prop where
  t : T2 w C #[x10, .slice fa fn fc, .int .i64 U] b16 V
  wo : b3 = true → b10 = false → V.ownsRow (w.heap.size + 2) 40 2 x3 (E.length - 1) (ecells (without E i))
  key : b9 = true → b10 = false → ∃ g, x9 = .slice (some ⟨g, 0, none⟩) 1 1 ∧ Cs V (some ⟨g, 0, none⟩) (ecells [y])
  all : b10 = true → V.ownsRow (w.heap.size + 2) 40 2 x10 (E.length - 1 + 1) (ecells (without E i ++ [y]))
  s10 : b10 = true → b3 = true ∧ b9 = true
  s15 : b15 = true → b10 = true
  s16 : b16 = true → b15 = true
section
variable {w V V2 : World} {C : Array Value} {E : List (Int × Int)} {fa : Option Addr} {fn fc i U : Nat} {y : Int × Int} {b3 b9 b10 b15 b16 : Bool} {x3 x9 x10 v : Value}
theorem VF.start (h : T2 w C #[x10, .slice fa fn fc, .int .i64 U] false V) : VF w C E fa fn fc i U y false false false false false x3 x9 x10 { V with drawn := V.drawn + 1 } :=
  ⟨h.below (Below.refl _ V).drew, fun h => (by cases h), fun h => (by cases h), fun h => (by cases h), fun h => (by cases h), fun h => (by cases h), fun h => (by cases h)⟩
theorem VF.below (h : VF w C E fa fn fc i U y b3 b9 b10 b15 b16 x3 x9 x10 V) (hb : Below V.heap.size V V2) : VF w C E fa fn fc i U y b3 b9 b10 b15 b16 x3 x9 x10 V2 where
  t := h.t.below hb
  wo := fun h1 h2 => own_below (h.wo h1 h2) hb
  key := fun h1 h2 => let ⟨g, e, hc⟩ := h.key h1 h2; ⟨g, e, hc.below hb⟩
  all := fun h1 => own_below (h.all h1) hb
  s10 := h.s10
  s15 := h.s15
  s16 := h.s16
theorem VF.out (h : VF w C E fa fn fc i U y false b9 false b15 b16 x3 x9 x10 V) (hO : V2.ownsRow V.heap.size 40 2 v (E.length - 1) (ecells (without E i))) (hb : Below V.heap.size V V2) : VF w C E fa fn fc i U y true b9 false b15 b16 v x9 x10 V2 :=
  have q := h.below hb
  { t := q.t, wo := fun _ _ => own_base hO h.t.siz, key := q.key, all := q.all, s10 := fun h => (by cases h), s15 := q.s15, s16 := q.s16 }
theorem VF.built (h : VF w C E fa fn fc i U y b3 false false b15 b16 x3 x9 x10 V) : VF w C E fa fn fc i U y b3 true false b15 b16 x3 (.slice (some ⟨V.heap.size, 0, none⟩) 1 1) x10 (V.alloc (.cells #[.int .i64 y.1, .int .i64 y.2] 40)) :=
  have q := h.below (V2 := V.alloc (.cells #[.int .i64 y.1, .int .i64 y.2] 40)) ((Below.refl _ V).alloc (Nat.le_refl _) _)
  { t := q.t, wo := q.wo, all := q.all, s15 := q.s15, s16 := q.s16
    key := fun _ _ => ⟨V.heap.size, rfl, Cs.block (t := 40) (fr := (0, 0)) (heap_alloc_last V _)⟩
    s10 := fun h => (by cases h) }
theorem VF.done (h : VF w C E fa fn fc i U y true true false false false x3 x9 x10 V) (hO : V2.ownsRow (w.heap.size + 2) 40 2 v (E.length - 1 + 1) (ecells (without E i ++ [y]))) (hb : Below (w.heap.size + 2) V V2) : VF w C E fa fn fc i U y true true true false false x3 x9 v V2 :=
  { t := (h.t.low hb).same, wo := fun _ h2 => (by cases h2), key := fun _ h2 => (by cases h2), all := fun _ => hO, s10 := fun _ => ⟨rfl, rfl⟩, s15 := fun h => (by cases h), s16 := fun h => (by cases h) }
theorem VF.joined (h : VF w C E fa fn fc i U y b3 b9 true b15 b16 x3 x9 x10 V) : VF w C E fa fn fc i U y b3 b9 true true b16 x3 x9 x10 V := { h with s15 := fun _ => rfl, s16 := fun _ => rfl }
theorem VF.stored (h : VF w C E fa fn fc i U y b3 b9 true true false x3 x9 x10 V) : VF w C E fa fn fc i U y b3 b9 true true true x3 x9 x10 (V.setRow (w.heap.size + 1) #[x10, .slice fa fn fc, .int .i64 U]) :=
  have hb : But (w.heap.size + 1) V (V.setRow (w.heap.size + 1) #[x10, .slice fa fn fc, .int .i64 U]) := But.setRow V _
  { t := h.t.stored, wo := fun _ h2 => (by cases h2), key := fun _ h2 => (by cases h2), all := fun h1 => own_but (h.all h1) hb (by omega), s10 := h.s10, s15 := h.s15, s16 := fun _ => rfl }
end

set_option maxRecDepth 100000 in
set_option maxHeartbeats 4000000 in
theorem ref_move (m : LM) (s : Int) (ea fa : Option Addr) (ec fc : Nat) (w : World) (h : LV w ea fa ec fc m) :
    Calls Try.prog 33 #[.agg (lv ea fa ec fc m), .int .i64 s] w fun e w' => ∃ ea2 fa2 ec2 fc2, e = .returned (.tuple #[.agg (lv ea2 fa2 ec2 fc2 (moveM m s).1), .bool (moveM m s).2]) ∧ LV w' ea2 fa2 ec2 fc2 (moveM m s).1 ∧ Below w.heap.size w w' ∧ Fr w w' ea ea2 ∧ Fr w w' fa fa2 := by
  have hT := fun R => T2.start w (lv ea fa ec fc m) R
  have h0 := h.below (hT #[]).bel
  have CP := fun V (h : LV V ea fa ec fc m) => ref_place m s ea fa ec fc V h
  have hr := placeM_range m s
  obtain ⟨p, hp⟩ : ∃ p, placeM m s = p := ⟨_, rfl⟩
  obtain ⟨S, hS⟩ : ∃ S, S = moveM m s := ⟨_, rfl⟩
  rw [← hS]
  unfold moveM at hS
  rw [hp] at hr hS CP
  by_cases hp0 : p < 0
  · rw [if_pos hp0] at hS
    have hd : decide (p < 0) = true := decide_eq_true hp0
    have HS := Lib.hid hS
    clear hS hp hr
    go_enter Try.func33, Try.ntmps33
    go_upto_region 1 with fail
    change Code.wp _ _ _ _ ((w.alloc (.cells (lv ea fa ec fc m) 28)).alloc (.cells zl 28))
    generalize ((w.alloc (.cells (lv ea fa ec fc m) 28)).alloc (.cells zl 28)) = W at *
    apply wp_region_lit
    refine gw_load (by kernel_rfl) (some 7) rfl 28 (.tmp 2) rfl ⟨w.heap.size, 0, none⟩ (.agg (lv ea fa ec fc m)) (by kernel_rfl) (load_lv (hT #[]).bx) ?_
    simp only [Act.put, List.setIfInBounds_toArray, List.set_cons_succ, List.set_cons_zero]
    refine gw_val (by kernel_rfl) (some 8) rfl (.int .i64 s) (by kernel_rfl) ?_
    simp only [Act.put, List.setIfInBounds_toArray, List.set_cons_succ, List.set_cons_zero]
    refine gw_call (by kernel_rfl) (some 9) rfl 19 #[.agg (lv ea fa ec fc m), .int .i64 s] (.int .i64 p) (Below W.heap.size W) (by kernel_rfl) (CP W h0) (fun V1 hb1 => ?_)
    simp only [Act.put, List.setIfInBounds_toArray, List.set_cons_succ, List.set_cons_zero]
    refine gw_val (by kernel_rfl) (some 6) rfl (.int .i64 p) (by kernel_rfl) ?_
    simp only [Act.put, List.setIfInBounds_toArray, List.set_cons_succ, List.set_cons_zero]
    apply wpList_nil
    have hT1 := fun R => (hT R).below hb1
    have hL1 := h0.below hb1
    clear hT h0 hb1 CP
    go_upto_region 3 with fail
    apply wp_region_lit
    refine gw_load (by kernel_rfl) (some 12) rfl 28 (.tmp 2) rfl ⟨w.heap.size, 0, none⟩ (.agg (lv ea fa ec fc m)) (by kernel_rfl) (load_lv (hT1 #[]).bx) ?_
    simp only [Act.put, List.setIfInBounds_toArray, List.set_cons_succ, List.set_cons_zero]
    refine gw_store (by kernel_rfl) rfl 28 (.tmp 4) (.tmp 12) rfl (.pointer (some ⟨w.heap.size + 1, 0, none⟩)) (.agg (lv ea fa ec fc m)) (by kernel_rfl) (by kernel_rfl) _ (run_store_all (hT1 #[]).z rfl (one_lv _ _ _ _ _ _ _) (by kernel_rfl)) ?_
    refine gw_val (by kernel_rfl) (some 5) rfl (.bool false) (by kernel_rfl) ?_
    simp only [Act.put, List.setIfInBounds_toArray, List.set_cons_succ, List.set_cons_zero]
    apply wpList_nil
    have hT2 := (hT1 (lv ea fa ec fc m)).stored
    have hz : Bx (V1.setRow (w.heap.size + 1) (lv ea fa ec fc m)) (w.heap.size + 1) (lv ea fa ec fc m) 28 := hT2.z
    have HL := Lib.hid (h.below hT2.bel)
    have HZ := Lib.hid hz
    have HB := Lib.hid hT2.bel
    generalize V1.setRow (w.heap.size + 1) (lv ea fa ec fc m) = V2 at *
    clear hT1 hT2 hz hL1
    go_wp2_with fail
    exact bodyPost_ret (results_lv (p := 4) (q := 5) (by kernel_rfl) (by kernel_rfl) (by kernel_rfl) HZ.out (by kernel_rfl)) rfl ⟨ea, fa, ec, fc, by rw [HS.out], by rw [HS.out]; exact HL.out, HB.out, .inl rfl, .inl rfl⟩
  · rw [if_neg hp0] at hS
    have hd : decide (p < 0) = false := decide_eq_false hp0
    obtain ⟨i, rfl⟩ := Int.eq_ofNat_of_zero_le (show 0 ≤ p by omega)
    rw [Int.toNat_natCast] at hS
    have HE := Lib.hid h.e
    have HC := Lib.hid h.f
    obtain ⟨E, hE⟩ : ∃ E, E = m.E := ⟨_, rfl⟩
    obtain ⟨F, hF⟩ : ∃ F, F = m.F := ⟨_, rfl⟩
    obtain ⟨U, hU⟩ : ∃ U, U = m.U := ⟨_, rfl⟩
    obtain ⟨en, hen⟩ : ∃ en, E.length = en := ⟨_, rfl⟩
    obtain ⟨fn, hfn⟩ : ∃ fn, F.length = fn := ⟨_, rfl⟩
    have hec := h.ec
    have hfc := h.fc
    have hen9 := h.en
    have hfn9 := h.fn
    have hun9 := h.un
    have hlv : lv ea fa ec fc m = #[.slice ea en ec, .slice fa fn fc, .int .i64 U] := by rw [← hen, ← hfn, hE, hF, hU]; rfl
    rw [← hE] at HE hS hec hen9 hr
    rw [← hF] at HC hS hfc hfn9
    rw [← hU] at hS hun9
    have HN := Lib.hid hfn
    have HEN := Lib.hid hen
    have HLV := Lib.hid hlv
    have CW := fun (V : World) (hb : Below w.heap.size w V) => ref_without E ea ec i V (HE.out.below hb) hec hen9 (by omega)
    rw [hen] at CW hec hen9 hr
    rw [hfn] at hfc hfn9
    obtain ⟨be, oe, rfl, hbe, hc0, hc1⟩ := el_at HE.out (k := i) (by rw [hen]; omega)
    obtain ⟨y, hy⟩ : ∃ y, E.getD i (0, 0) = y := ⟨_, rfl⟩
    rw [hy] at hc0 hc1 hS
    obtain ⟨y1, y2⟩ := y
    simp only at hc0 hc1
    have HS := Lib.hid hS
    have HU := Lib.hid hU
    clear hS hp hE hF hU hen hfn hlv hy
    go_enter Try.func33, Try.ntmps33
    go_upto_region 1 with fail
    change Code.wp _ _ _ _ ((w.alloc (.cells (lv (some ⟨be, oe, none⟩) fa ec fc m) 28)).alloc (.cells zl 28))
    generalize ((w.alloc (.cells (lv (some ⟨be, oe, none⟩) fa ec fc m) 28)).alloc (.cells zl 28)) = W at *
    apply wp_region_lit
    refine gw_load (by kernel_rfl) (some 7) rfl 28 (.tmp 2) rfl ⟨w.heap.size, 0, none⟩ (.agg (lv (some ⟨be, oe, none⟩) fa ec fc m)) (by kernel_rfl) (load_lv (hT #[]).bx) ?_
    simp only [Act.put, List.setIfInBounds_toArray, List.set_cons_succ, List.set_cons_zero]
    refine gw_val (by kernel_rfl) (some 8) rfl (.int .i64 s) (by kernel_rfl) ?_
    simp only [Act.put, List.setIfInBounds_toArray, List.set_cons_succ, List.set_cons_zero]
    refine gw_call (by kernel_rfl) (some 9) rfl 19 #[.agg (lv (some ⟨be, oe, none⟩) fa ec fc m), .int .i64 s] (.int .i64 i) (Below W.heap.size W) (by kernel_rfl) (CP W h0) (fun V1 hb1 => ?_)
    simp only [Act.put, List.setIfInBounds_toArray, List.set_cons_succ, List.set_cons_zero]
    refine gw_val (by kernel_rfl) (some 6) rfl (.int .i64 i) (by kernel_rfl) ?_
    simp only [Act.put, List.setIfInBounds_toArray, List.set_cons_succ, List.set_cons_zero]
    apply wpList_nil
    have hT1 := fun R => (hT R).below hb1
    clear hT h0 hb1 CP h
    go_upto_region 4 with fail
    have h0 : VF w #[.slice (some ⟨be, oe, none⟩) en ec, .slice fa fn fc, .int .i64 U] E fa fn fc i U (y1, y2) false false false false false undef undef undef { V1 with drawn := V1.drawn + 1 } := by
      rw [← HLV.out]
      exact VF.start (hT1 _)
    clear hT1
    refine wp_region_inv (fun listed act9 V => ∃ b0 b1 b2 b3 b4 b5 b6 b7 b8 b9 b10 b11 b12 b13 b14 b15 b16 b17 : Bool, ∃ x16 x22 x23 : Value, listed = #[b0, b1, b2, b3, b4, b5, b6, b7, b8, b9, b10, b11, b12, b13, b14, b15, b16, b17] ∧ act9 = { tmps := #[.agg (lv (some ⟨be, oe, none⟩) fa ec fc m), .int .i64 s, .pointer (some ⟨w.heap.size, 0, none⟩), undef, .pointer (some ⟨w.heap.size + 1, 0, none⟩), (cond b17 (.bool true) (.bool false)), .int .i64 i, .agg (lv (some ⟨be, oe, none⟩) fa ec fc m), .int .i64 s, .int .i64 i, .int .i64 i, .bool false, undef, (cond b0 (.pointer (some ⟨w.heap.size, 0, none⟩)) undef), (cond b1 (.slice (some ⟨be, oe, none⟩) en ec) undef), (cond b2 (.int .i64 i) undef), x16, (cond b4 (.pointer (some ⟨w.heap.size, 0, none⟩)) undef), (cond b5 (.slice (some ⟨be, oe, none⟩) en ec) undef), (cond b6 (.int .i64 i) undef), (cond b7 (.pointer (some ⟨be, oe + i * 2, none⟩)) undef), (cond b8 (.agg #[.int .i64 y1, .int .i64 y2]) undef), x22, x23, (cond b11 (.pointer (some ⟨w.heap.size, 1, none⟩)) undef), (cond b12 (.slice fa fn fc) undef), (cond b13 (.pointer (some ⟨w.heap.size, 2, none⟩)) undef), (cond b14 (.int .i64 U) undef), (cond b15 (.agg #[x23, .slice fa fn fc, .int .i64 U]) undef)], defers := [] } ∧ VF w #[.slice (some ⟨be, oe, none⟩) en ec, .slice fa fn fc, .int .i64 U] E fa fn fc i U (y1, y2) b3 b9 b10 b15 b16 x16 x22 x23 V) (by kernel_rfl) (by kernel_rfl) ?_ ?_ ?_
    · exact ⟨false, false, false, false, false, false, false, false, false, false, false, false, false, false, false, false, false, false, undef, undef, undef, rfl, rfl, h0⟩
    · intro i9 listed act9 V hi hr hJ
      obtain ⟨b0, b1, b2, b3, b4, b5, b6, b7, b8, b9, b10, b11, b12, b13, b14, b15, b16, b17, x16, x22, x23, rfl, rfl, hF⟩ := hJ
      have hi2 : i9 < 18 := hi
      have hi3 : i9 = 0 ∨ i9 = 1 ∨ i9 = 2 ∨ i9 = 3 ∨ i9 = 4 ∨ i9 = 5 ∨ i9 = 6 ∨ i9 = 7 ∨ i9 = 8 ∨ i9 = 9 ∨ i9 = 10 ∨ i9 = 11 ∨ i9 = 12 ∨ i9 = 13 ∨ i9 = 14 ∨ i9 = 15 ∨ i9 = 16 ∨ i9 = 17 := by omega
      rcases hi3 with rfl | rfl | rfl | rfl | rfl | rfl | rfl | rfl | rfl | rfl | rfl | rfl | rfl | rfl | rfl | rfl | rfl | rfl
      · obtain rfl : b0 = false := ready_self hr
        refine st_val rfl (by kernel_rfl) (some 13) rfl (.pointer (some ⟨w.heap.size, 0, none⟩)) V (by kernel_rfl) ?_
        exact ⟨true, b1, b2, b3, b4, b5, b6, b7, b8, b9, b10, b11, b12, b13, b14, b15, b16, b17, x16, x22, x23, rfl, rfl, hF⟩
      · obtain rfl : b1 = false := ready_self hr
        obtain rfl : b0 = true := ready_dep hr 0 (by kernel_rfl)
        refine st_load rfl (by kernel_rfl) (some 14) rfl 26 (.tmp 13) rfl ⟨w.heap.size, 0, none⟩ (.slice (some ⟨be, oe, none⟩) en ec) (by kernel_rfl) (hF.t.bx.load rfl (by kernel_rfl)) ?_
        exact ⟨true, true, b2, b3, b4, b5, b6, b7, b8, b9, b10, b11, b12, b13, b14, b15, b16, b17, x16, x22, x23, rfl, rfl, hF⟩
      · obtain rfl : b2 = false := ready_self hr
        refine st_val rfl (by kernel_rfl) (some 15) rfl (.int .i64 i) V (by kernel_rfl) ?_
        exact ⟨b0, b1, true, b3, b4, b5, b6, b7, b8, b9, b10, b11, b12, b13, b14, b15, b16, b17, x16, x22, x23, rfl, rfl, hF⟩
      · obtain rfl : b3 = false := ready_self hr
        obtain rfl : b1 = true := ready_dep hr 1 (by kernel_rfl)
        obtain rfl : b2 = true := ready_dep hr 2 (by kernel_rfl)
        obtain rfl : b10 = false := by cases b10; rfl; exact absurd (hF.s10 rfl).1 (by decide)
        refine st_call rfl (by kernel_rfl) (some 16) rfl 40 #[.slice (some ⟨be, oe, none⟩) en ec, .int .i64 i] (by kernel_rfl) ((CW V hF.t.bel).mono ?_)
        rintro e V2 ⟨v, rfl, hO, hb⟩
        exact ⟨v, rfl, b0, true, true, true, b4, b5, b6, b7, b8, b9, false, b11, b12, b13, b14, b15, b16, b17, v, x22, x23, rfl, rfl, hF.out (by rw [HEN.out]; exact hO) hb⟩
      · obtain rfl : b4 = false := ready_self hr
        refine st_val rfl (by kernel_rfl) (some 17) rfl (.pointer (some ⟨w.heap.size, 0, none⟩)) V (by kernel_rfl) ?_
        exact ⟨b0, b1, b2, b3, true, b5, b6, b7, b8, b9, b10, b11, b12, b13, b14, b15, b16, b17, x16, x22, x23, rfl, rfl, hF⟩
      · obtain rfl : b5 = false := ready_self hr
        obtain rfl : b4 = true := ready_dep hr 4 (by kernel_rfl)
        refine st_load rfl (by kernel_rfl) (some 18) rfl 26 (.tmp 17) rfl ⟨w.heap.size, 0, none⟩ (.slice (some ⟨be, oe, none⟩) en ec) (by kernel_rfl) (hF.t.bx.load rfl (by kernel_rfl)) ?_
        exact ⟨b0, b1, b2, b3, true, true, b6, b7, b8, b9, b10, b11, b12, b13, b14, b15, b16, b17, x16, x22, x23, rfl, rfl, hF⟩
      · obtain rfl : b6 = false := ready_self hr
        refine st_val rfl (by kernel_rfl) (some 19) rfl (.int .i64 i) V (by kernel_rfl) ?_
        exact ⟨b0, b1, b2, b3, b4, b5, true, b7, b8, b9, b10, b11, b12, b13, b14, b15, b16, b17, x16, x22, x23, rfl, rfl, hF⟩
      · obtain rfl : b7 = false := ready_self hr
        obtain rfl : b5 = true := ready_dep hr 5 (by kernel_rfl)
        obtain rfl : b6 = true := ready_dep hr 6 (by kernel_rfl)
        refine st_val rfl (by kernel_rfl) (some 20) rfl (.pointer (some ⟨be, oe + i * 2, none⟩)) V (idx_el be oe en ec i (by omega) V _ _ rfl (by kernel_rfl) (by kernel_rfl)) ?_
        exact ⟨b0, b1, b2, b3, b4, true, true, true, b8, b9, b10, b11, b12, b13, b14, b15, b16, b17, x16, x22, x23, rfl, rfl, hF⟩
      · obtain rfl : b8 = false := ready_self hr
        obtain rfl : b7 = true := ready_dep hr 7 (by kernel_rfl)
        refine st_load rfl (by kernel_rfl) (some 21) rfl 40 (.tmp 20) rfl ⟨be, oe + i * 2, none⟩ (.agg #[.int .i64 y1, .int .i64 y2]) (by kernel_rfl) (load_el ((hF.t.bel.cell (p := ⟨be, oe + i * 2, none⟩) hbe).trans hc0) ((hF.t.bel.cell (p := ⟨be, oe + i * 2 + 1, none⟩) hbe).trans hc1)) ?_
        exact ⟨b0, b1, b2, b3, b4, b5, b6, true, true, b9, b10, b11, b12, b13, b14, b15, b16, b17, x16, x22, x23, rfl, rfl, hF⟩
      · obtain rfl : b9 = false := ready_self hr
        obtain rfl : b8 = true := ready_dep hr 8 (by kernel_rfl)
        obtain rfl : b10 = false := by cases b10; rfl; exact absurd (hF.s10 rfl).2 (by decide)
        refine st_build rfl (by kernel_rfl) (some 22) rfl 26 1 #[(0, .tmp 21)] rfl #[(0, .agg #[.int .i64 y1, .int .i64 y2])] (by kernel_rfl) (.slice (some ⟨V.heap.size, 0, none⟩) 1 1) _ (one_el y1 y2 V) ?_
        exact ⟨b0, b1, b2, b3, b4, b5, b6, b7, true, true, false, b11, b12, b13, b14, b15, b16, b17, x16, _, x23, rfl, rfl, hF.built⟩
      · obtain rfl : b10 = false := ready_self hr
        obtain rfl : b3 = true := ready_dep hr 3 (by kernel_rfl)
        obtain rfl : b9 = true := ready_dep hr 9 (by kernel_rfl)
        obtain rfl : b15 = false := by cases b15; rfl; exact absurd (hF.s15 rfl) (by decide)
        obtain rfl : b16 = false := by cases b16; rfl; exact absurd (hF.s16 rfl) (by decide)
        have hO := hF.wo rfl rfl
        obtain ⟨g9, rfl, hC9⟩ := hF.key rfl rfl
        obtain ⟨v, V2, hap, hO2, hb2, -⟩ := append_el hO (some ⟨g9, 0, none⟩) 1 [(y1, y2)] hC9 (m := 1) rfl hF.t.siz (by rw [HEN.out]; omega) (by omega)
        rw [← ecells_app] at hO2
        refine st_append rfl (by kernel_rfl) (some 23) rfl 26 rfl (.tmp 16) (.tmp 22) 26 rfl x16 (.slice (some ⟨g9, 0, none⟩) 1 1) v V2 (by kernel_rfl) (by kernel_rfl) hap ?_
        exact ⟨b0, b1, b2, true, b4, b5, b6, b7, b8, true, true, b11, b12, b13, b14, false, false, b17, x16, _, v, rfl, rfl, hF.done hO2 hb2⟩
      · obtain rfl : b11 = false := ready_self hr
        refine st_val rfl (by kernel_rfl) (some 24) rfl (.pointer (some ⟨w.heap.size, 1, none⟩)) V (by kernel_rfl) ?_
        exact ⟨b0, b1, b2, b3, b4, b5, b6, b7, b8, b9, b10, true, b12, b13, b14, b15, b16, b17, x16, x22, x23, rfl, rfl, hF⟩
      · obtain rfl : b12 = false := ready_self hr
        obtain rfl : b11 = true := ready_dep hr 11 (by kernel_rfl)
        refine st_load rfl (by kernel_rfl) (some 25) rfl 22 (.tmp 24) rfl ⟨w.heap.size, 1, none⟩ (.slice fa fn fc) (by kernel_rfl) (hF.t.bx.load rfl (by kernel_rfl)) ?_
        exact ⟨b0, b1, b2, b3, b4, b5, b6, b7, b8, b9, b10, true, true, b13, b14, b15, b16, b17, x16, x22, x23, rfl, rfl, hF⟩
      · obtain rfl : b13 = false := ready_self hr
        refine st_val rfl (by kernel_rfl) (some 26) rfl (.pointer (some ⟨w.heap.size, 2, none⟩)) V (by kernel_rfl) ?_
        exact ⟨b0, b1, b2, b3, b4, b5, b6, b7, b8, b9, b10, b11, b12, true, b14, b15, b16, b17, x16, x22, x23, rfl, rfl, hF⟩
      · obtain rfl : b14 = false := ready_self hr
        obtain rfl : b13 = true := ready_dep hr 13 (by kernel_rfl)
        refine st_load rfl (by kernel_rfl) (some 27) rfl 3 (.tmp 26) rfl ⟨w.heap.size, 2, none⟩ (.int .i64 U) (by kernel_rfl) (hF.t.bx.load rfl (by kernel_rfl)) ?_
        exact ⟨b0, b1, b2, b3, b4, b5, b6, b7, b8, b9, b10, b11, b12, true, true, b15, b16, b17, x16, x22, x23, rfl, rfl, hF⟩
      · obtain rfl : b15 = false := ready_self hr
        obtain rfl : b10 = true := ready_dep hr 10 (by kernel_rfl)
        obtain rfl : b12 = true := ready_dep hr 12 (by kernel_rfl)
        obtain rfl : b14 = true := ready_dep hr 14 (by kernel_rfl)
        obtain ⟨a9, c9, rfl, -, -⟩ := own_cs (hF.all rfl)
        refine st_val rfl (by kernel_rfl) (some 28) rfl (.agg #[.slice a9 (E.length - 1 + 1) c9, .slice fa fn fc, .int .i64 U]) V (by kernel_rfl) ?_
        exact ⟨b0, b1, b2, b3, b4, b5, b6, b7, b8, b9, true, b11, true, b13, true, true, b16, b17, x16, x22, _, rfl, rfl, hF.joined⟩
      · obtain rfl : b16 = false := ready_self hr
        obtain rfl : b15 = true := ready_dep hr 15 (by kernel_rfl)
        obtain rfl : b10 = true := hF.s15 rfl
        obtain ⟨a9, c9, rfl, -, -⟩ := own_cs (hF.all rfl)
        refine st_store rfl (by kernel_rfl) rfl 28 (.tmp 4) (.tmp 28) rfl (w.heap.size + 1) zl #[.slice a9 (E.length - 1 + 1) c9, .slice fa fn fc, .int .i64 U] (by kernel_rfl) (by kernel_rfl) hF.t.z (by kernel_rfl) rfl (one_lv _ _ _ _ _ _ _) ?_
        exact ⟨b0, b1, b2, b3, b4, b5, b6, b7, b8, b9, true, b11, b12, b13, b14, true, true, b17, x16, x22, _, rfl, rfl, hF.stored⟩
      · obtain rfl : b17 = false := ready_self hr
        obtain rfl : b0 = true := ready_dep hr 0 (by kernel_rfl)
        obtain rfl : b1 = true := ready_dep hr 1 (by kernel_rfl)
        obtain rfl : b2 = true := ready_dep hr 2 (by kernel_rfl)
        obtain rfl : b3 = true := ready_dep hr 3 (by kernel_rfl)
        obtain rfl : b4 = true := ready_dep hr 4 (by kernel_rfl)
        obtain rfl : b5 = true := ready_dep hr 5 (by kernel_rfl)
        obtain rfl : b6 = true := ready_dep hr 6 (by kernel_rfl)
        obtain rfl : b7 = true := ready_dep hr 7 (by kernel_rfl)
        obtain rfl : b8 = true := ready_dep hr 8 (by kernel_rfl)
        obtain rfl : b9 = true := ready_dep hr 9 (by kernel_rfl)
        obtain rfl : b10 = true := ready_dep hr 10 (by kernel_rfl)
        obtain rfl : b11 = true := ready_dep hr 11 (by kernel_rfl)
        obtain rfl : b12 = true := ready_dep hr 12 (by kernel_rfl)
        obtain rfl : b13 = true := ready_dep hr 13 (by kernel_rfl)
        obtain rfl : b14 = true := ready_dep hr 14 (by kernel_rfl)
        obtain rfl : b15 = true := ready_dep hr 15 (by kernel_rfl)
        obtain rfl : b16 = true := ready_dep hr 16 (by kernel_rfl)
        refine st_val rfl (by kernel_rfl) (some 5) rfl (.bool true) V (by kernel_rfl) ?_
        exact ⟨true, true, true, true, true, true, true, true, true, true, true, true, true, true, true, true, true, true, x16, x22, x23, rfl, rfl, hF⟩
    · intro act9 V hJ
      obtain ⟨b0, b1, b2, b3, b4, b5, b6, b7, b8, b9, b10, b11, b12, b13, b14, b15, b16, b17, x16, x22, x23, he, rfl, hF⟩ := hJ
      have he : (#[true, true, true, true, true, true, true, true, true, true, true, true, true, true, true, true, true, true] : Array Bool) = #[b0, b1, b2, b3, b4, b5, b6, b7, b8, b9, b10, b11, b12, b13, b14, b15, b16, b17] := he
      simp only [Array.mk.injEq, List.cons.injEq, and_true] at he
      obtain ⟨rfl, rfl, rfl, rfl, rfl, rfl, rfl, rfl, rfl, rfl, rfl, rfl, rfl, rfl, rfl, rfl, rfl, rfl⟩ := he
      simp only [cond_true]
      obtain ⟨a9, c9, rfl, hC9, hc9⟩ := own_cs (hF.all rfl)
      have hz : Bx V (w.heap.size + 1) #[.slice a9 (E.length - 1 + 1) c9, .slice fa fn fc, .int .i64 U] 28 := hF.t.z
      have hwl : (without E i ++ [(y1, y2)]).length = E.length - 1 + 1 := by rw [List.length_append, without_len E i (by rw [HEN.out]; omega)]; rfl
      have hlv2 : lv a9 fa c9 fc S.1 = #[.slice a9 (E.length - 1 + 1) c9, .slice fa fn fc, .int .i64 U] := by
        rw [HS.out]
        unfold lv
        simp only [hwl, HN.out]
      rw [← hlv2] at hz
      have HL : Hid (LV V a9 fa c9 fc S.1) := Lib.hid (by
        rw [HS.out]
        exact ⟨hC9, by rw [hwl]; exact hc9, HC.out.below hF.t.bel, by rw [HN.out]; exact hfc, by rw [hwl, HEN.out]; omega, by rw [HN.out]; exact hfn9, hun9⟩)
      have HZ := Lib.hid hz
      have HB := Lib.hid hF.t.bel
      have HS2 : Hid (S.2 = true) := Lib.hid (by rw [HS.out])
      have HFR : Hid (Fr w V (some ⟨be, oe, none⟩) a9) := Lib.hid (own_fr (hF.all rfl) (by omega))
      clear hF h0 hz hC9 hlv2 hwl CW
      go_wp2_with fail
      exact bodyPost_ret (results_lv (p := 4) (q := 5) (by kernel_rfl) (by kernel_rfl) (by kernel_rfl) HZ.out (by kernel_rfl)) rfl ⟨a9, fa, c9, fc, by rw [HS2.out], HL.out, HB.out, HFR.out, .inl rfl⟩
end Go.Proofs.Ytefinpapkjgpoaa
