/-
  The walk of LedgerValidates.
-/
import Derived.Test.YtebnlklodokhkaaLY
namespace Go.Proofs.Ytebnlklodokhkaa
open Go.RowKit
set_option linter.unusedSimpArgs false
set_option linter.unusedVariables false

theorem infoLg : (Try.prog.info? 25).map (fun i => (i.zero, i.size, i.bytes)) = some (some (.agg (lgA none 0 0 0)), 2, 32) := by kernel_rfl
def six (a a' a'' : Option Addr) (n n' n'' k k' k'' : Nat) (c c' c'' : Int) : Array Value := #[.slice a n k, .int .u64 c, .slice a' n' k', .int .u64 c', .slice a'' n'' k'', .int .u64 c'']
theorem build_3l (a a' a'' : Option Addr) (n n' n'' k k' k'' : Nat) (c c' c'' : Int) (V : World) : (Instr.buildSlice 34 3 #[(0, .agg (lgA a n k c)), (1, .agg (lgA a' n' k' c')), (2, .agg (lgA a'' n'' k'' c''))]).run Try.prog V = .ok (.slice (some ⟨V.heap.size, 0, none⟩) 3 3) (V.alloc (.cells (six a a' a'' n n' n'' k k' k'' c c' c'') 25)) := by
  obtain ⟨i0, hi, hz0, hz1, hz2⟩ := info_parts infoLg
  refine run_buildSlice V 34 25 3 _ _ i0 _ Try.underlying34 hi hz0 (by rw [hz1]; omega) (by rw [hz1]; omega) ?_
  rw [hz1]
  kernel_rfl
theorem load_3l {w : World} {g t : Nat} {a a' a'' : Option Addr} {n n' n'' k k' k'' : Nat} {c c' c'' : Int} (h : Bx w g (six a a' a'' n n' n'' k k' k'' c c' c'') t) : (Instr.loadAt 25 (.pointer (some ⟨g, 0 + 0 * 2, none⟩))).run Try.prog w = .ok (.agg (lgA a n k c)) w ∧ (Instr.loadAt 25 (.pointer (some ⟨g, 0 + 1 * 2, none⟩))).run Try.prog w = .ok (.agg (lgA a' n' k' c')) w ∧ (Instr.loadAt 25 (.pointer (some ⟨g, 0 + 2 * 2, none⟩))).run Try.prog w = .ok (.agg (lgA a'' n'' k'' c'')) w :=
  ⟨run_loadAt_mid w g 0 25 [.slice a n k, .int .u64 c] _ (fun j v hv => by
    rw [cell_of_row w g _ _ _ (0, 0) h]
    match j, hv with
    | 0, hv => simpa [six] using hv
    | 1, hv => simpa [six] using hv) Try.underlying25 rfl (by kernel_rfl),
   run_loadAt_mid w g 2 25 [.slice a' n' k', .int .u64 c'] _ (fun j v hv => by
    rw [cell_of_row w g _ _ _ (0, 0) h]
    match j, hv with
    | 0, hv => simpa [six] using hv
    | 1, hv => simpa [six] using hv) Try.underlying25 rfl (by kernel_rfl),
   run_loadAt_mid w g 4 25 [.slice a'' n'' k'', .int .u64 c''] _ (fun j v hv => by
    rw [cell_of_row w g _ _ _ (0, 0) h]
    match j, hv with
    | 0, hv => simpa [six] using hv
    | 1, hv => simpa [six] using hv) Try.underlying25 rfl (by kernel_rfl)⟩
theorem idx_lg (b off n c k : Nat) (hk : k < n) (V : World) (ρ : Operand → Value) (o : Oper) {x y : Operand} (ho : o.op = .indexAddr 34 x y) (hx : ρ x = .slice (some ⟨b, off, none⟩) n c) (hy : ρ y = .int .i64 k) : (execOp ρ o).run Try.prog V = .ok (.value (.pointer (some ⟨b, off + k * 2, none⟩))) V := by
  have hs : (sizeOf (Try.prog.elem 34)).run Try.prog V = .ok 2 V := by kernel_rfl
  have hlm : (k : Int) < (n : Int) := by omega
  unfold execOp
  simp only [ho, hx, hy]
  go_simp
theorem and_i {ρ : Operand → Value} {o : Oper} {x y : Operand} (ho : o.op = .binOp .and 3 x y 3) (a : Int) (hx : ρ x = .int .i64 a) (hy : ρ y = .int .i64 1) (w : World) : (execOp ρ o).run Try.prog w = .ok (.value (.int .i64 (bits .and .i64 a 1))) w := by
  unfold execOp
  simp only [ho, hx, hy]
  go_simp
theorem conv_u {ρ : Operand → Value} {o : Oper} {x : Operand} (ho : o.op = .convert 3 23 x) (a : Int) (hx : ρ x = .int .i64 a) (w : World) : (execOp ρ o).run Try.prog w = .ok (.value (.int .u64 (IntKind.u64.wrap a))) w := by
  unfold execOp
  simp only [ho, hx]
  go_simp
theorem mul_uw {ρ : Operand → Value} {o : Oper} {x y : Operand} (ho : o.op = .binOp .mul 23 x y 23) (a b : Int) (hx : ρ x = .int .u64 a) (hy : ρ y = .int .u64 b) (w : World) : (execOp ρ o).run Try.prog w = .ok (.value (.int .u64 (IntKind.u64.wrap (a * b)))) w := by
  unfold execOp
  simp only [ho, hx, hy]
  go_simp
theorem sub_uw {ρ : Operand → Value} {o : Oper} {x y : Operand} (ho : o.op = .binOp .sub 23 x y 23) (a b : Int) (hx : ρ x = .int .u64 a) (hy : ρ y = .int .u64 b) (w : World) : (execOp ρ o).run Try.prog w = .ok (.value (.int .u64 (IntKind.u64.wrap (a - b)))) w := by
  unfold execOp
  simp only [ho, hx, hy]
  go_simp
theorem wrap_w (a : Int) : W64 (IntKind.u64.wrap a) := by
  rw [IntKind.wrap_u64]
  constructor <;> omega
theorem neq_bb {ρ : Operand → Value} {o : Oper} {x y : Operand} (ho : o.op = .binOp .neq 4 x y 4) (a : Bool) (hx : ρ x = .bool a) (hy : ρ y = .bool a) (w : World) : (execOp ρ o).run Try.prog w = .ok (.value (.bool false)) w := by
  unfold execOp
  simp only [ho, hx, hy]
  cases a <;> go_simp
theorem K4.sl {W V : World} {M : List Ac} {c : Int} {b0 b6 b7 b8 : Bool} {x39 x42 x12 : Value} (h : K4 W M c b0 true b6 b7 b8 x39 x42 x12 V) : ∃ a k, x42 = .slice a M.length k := by
  cases b8
  · obtain ⟨a, k, e, -, -⟩ := own_cs (h.r1 rfl rfl)
    exact ⟨a, k, e⟩
  · obtain ⟨g, a, k, -, e, -⟩ := h.fn rfl
    exact ⟨a, k, e⟩
abbrev Ld := Option Addr × Nat × List Ac × Int
/-- What is known of a ledger that is asked about. -/
structure DQ (W : World) (d : Ld) : Prop where
  cs : Cs W d.1 (acc d.2.2.1)
  l : d.2.2.1.length ≤ 4398046511104
  w : AcW d.2.2.1
  z : ∀ x, x ∈ d.2.2.1 → x.1.size ≤ 140737488355328
  c : W64 d.2.2.2
set_option maxRecDepth 100000 in
set_option maxHeartbeats 8000000 in
theorem validates_core (la : Option Addr) (lk : Nat) (A : List Ac) (lc : Int) (ak : Option Addr) (ck : Nat) (L : List Int) (a : Ac) (x3 x4 : Int) (w : World) (hla : Cs w la (acc A)) (hn : A.length ≤ 4398046511104) (haw : AcW A) (haz : ∀ x, x ∈ A → x.1.size ≤ 140737488355328) (hlc : W64 lc) (hck : Cs w ak (icells L)) (hl : L.length ≤ 9223372036854775807) (hyq : (W64 a.2.1 ∧ W64 a.2.2) ∧ a.1.size ≤ 140737488355328) :
    Calls Try.prog 3 #[.agg (lgA la A.length lk lc), .slice ak L.length ck, .agg (acA a), .int .i64 x3, .int .i64 x4] w fun e w' => e = .returned (.bool true) ∧ Below w.heap.size w w' := by
  have HK := Lib.hid (fun (V : World) (h : Below w.heap.size w V) => (known_true V).mono fun e w' (q : e = .returned (.bool true) ∧ Below V.heap.size V w') => (⟨q.1, h.trans (q.2.mono h.size)⟩ : e = .returned (.bool true) ∧ Below w.heap.size w w'))
  obtain ⟨hb0, hX0, hY0⟩ := two_boxes w (lgA la A.length lk lc) (acA a) 25 28
  have HNL := Lib.hid hl
  have HAL := Lib.hid hn
  have HAW := Lib.hid haw
  have HAZ := Lib.hid haz
  have HLC := Lib.hid hlc
  have HYQ := Lib.hid hyq
  have HLA := Lib.hid (hla.below hb0)
  have HCK := Lib.hid (hck.below hb0)
  clear hla hck hl hn haw haz hlc hyq
  go_enter Try.func3, Try.ntmps3
  go_upto_region 1 with fail
  change Code.wp _ _ _ _ ((w.alloc (.cells (lgA la A.length lk lc) 25)).alloc (.cells (acA a) 28))
  generalize (w.alloc (.cells (lgA la A.length lk lc) 25)).alloc (.cells (acA a) 28) = W at *
  obtain ⟨g0, hg0⟩ : ∃ g0, w.heap.size = g0 := ⟨_, rfl⟩
  obtain ⟨g1, hg1⟩ : ∃ g1, g0 + 1 = g1 := ⟨_, rfl⟩
  have HB0 := Lib.hid hb0
  rw [hg0] at hX0 hY0
  simp only [hg0]
  rw [hg1] at hY0
  simp only [hg1]
  have HX := Lib.hid hX0
  have HY := Lib.hid hY0
  clear hb0 hX0 hY0 hg0 hg1
  have CLn := long_one W.heap.size ak L.length ck (W.alloc (.cells #[.slice ak L.length ck] 26)) (heap_alloc_last W _) HNL.out
  have hor := one_row ak L.length ck W
  have hb1 : Below W.heap.size W (W.alloc (.cells #[.slice ak L.length ck] 26)) := (Below.refl _ W).alloc (Nat.le_refl _) _
  generalize W.alloc (.cells #[.slice ak L.length ck] 26) = W1 at *
  have HB1 := Lib.hid (HB0.out.trans (hb1.mono HB0.out.size))
  have HCK1 := Lib.hid (HCK.out.below hb1)
  have HLA1 := Lib.hid (HLA.out.below hb1)
  have HX1 := Lib.hid (HX.out.below HX.out.lt hb1)
  have HY1 := Lib.hid (HY.out.below HY.out.lt hb1)
  by_cases hlong : 160 < L.length
  · skip
    rw [decide_eq_true (by omega)] at CLn
    apply wp_region_lit
    refine gw_val (by kernel_rfl) (some 22) rfl (.slice ak L.length ck) (by kernel_rfl) ?_
    simp only [pu1, pu2, pu3, pu4]
    refine gw_build (by kernel_rfl) (some 23) rfl 54 1 #[(0, .tmp 22)] rfl #[(0, .slice ak L.length ck)] (by kernel_rfl) (.slice (some ⟨W.heap.size, 0, none⟩) 1 1) _ hor ?_
    simp only [pu1, pu2, pu3, pu4]
    refine gw_call (by kernel_rfl) (some 24) rfl 8 #[.slice (some ⟨W.heap.size, 0, none⟩) 1 1] (.bool true) (fun w' => W1 = w') (by kernel_rfl) (CLn) (fun V9 hV9 => ?_)
    subst hV9
    simp only [pu1, pu2, pu3, pu4]
    refine gw_val (by kernel_rfl) (some 25) rfl (.bool true) (by kernel_rfl) ?_
    simp only [pu1, pu2, pu3, pu4]
    with_reducible refine gw_not (by kernel_rfl) (some 26) rfl ?_
    simp only [pu1, pu2, pu3, pu4]
    with_reducible refine gw_not (by kernel_rfl) (some 27) rfl ?_
    simp only [pu1, pu2, pu3, pu4]
    with_reducible refine gw_not (by kernel_rfl) (some 28) rfl ?_
    simp only [pu1, pu2, pu3, pu4]
    refine gw_val (by kernel_rfl) (some 29) rfl (.bool true) (by kernel_rfl) ?_
    simp only [pu1, pu2, pu3, pu4]
    refine gw_val (by kernel_rfl) (some 30) rfl (.bool true) (by kernel_rfl) ?_
    simp only [pu1, pu2, pu3, pu4]
    with_reducible refine gw_not (by kernel_rfl) (some 31) rfl ?_
    simp only [pu1, pu2, pu3, pu4]
    with_reducible refine gw_not (by kernel_rfl) (some 32) rfl ?_
    simp only [pu1, pu2, pu3, pu4]
    with_reducible refine gw_not (by kernel_rfl) (some 33) rfl ?_
    simp only [pu1, pu2, pu3, pu4]
    with_reducible refine gw_not (by kernel_rfl) (some 34) rfl ?_
    simp only [pu1, pu2, pu3, pu4]
    refine gw_val (by kernel_rfl) (some 35) rfl (.bool true) (by kernel_rfl) ?_
    simp only [pu1, pu2, pu3, pu4]
    apply wpList_nil
    clear CLn hor
    go_upto_region 2 with fail
    apply wp_region_lit
    refine gw_call (by kernel_rfl) (some 36) rfl 10 #[] (.bool true) (fun w' => Below w.heap.size w w') (by kernel_rfl) (HK.out W1 (HB1.out)) (fun V9 hV9 => ?_)
    simp only [pu1, pu2, pu3, pu4]
    refine gw_val (by kernel_rfl) (some 10) rfl (.bool true) (by kernel_rfl) ?_
    simp only [pu1, pu2, pu3, pu4]
    apply wpList_nil
    have HE := Lib.hid hV9
    clear hV9
    go_wp2_with fail
    go_ret
    exact ⟨rfl, HE.out⟩
  · skip
    rw [decide_eq_false (by omega)] at CLn
    have CB := big_any la lk A W1 HLA1.out HAL.out
    apply wp_region_lit
    refine gw_val (by kernel_rfl) (some 22) rfl (.slice ak L.length ck) (by kernel_rfl) ?_
    simp only [pu1, pu2, pu3, pu4]
    refine gw_build (by kernel_rfl) (some 23) rfl 54 1 #[(0, .tmp 22)] rfl #[(0, .slice ak L.length ck)] (by kernel_rfl) (.slice (some ⟨W.heap.size, 0, none⟩) 1 1) _ hor ?_
    simp only [pu1, pu2, pu3, pu4]
    refine gw_call (by kernel_rfl) (some 24) rfl 8 #[.slice (some ⟨W.heap.size, 0, none⟩) 1 1] (.bool false) (fun w' => W1 = w') (by kernel_rfl) (CLn) (fun V9 hV9 => ?_)
    subst hV9
    simp only [pu1, pu2, pu3, pu4]
    refine gw_val (by kernel_rfl) (some 25) rfl (.bool false) (by kernel_rfl) ?_
    simp only [pu1, pu2, pu3, pu4]
    refine gw_val (by kernel_rfl) (some 26) rfl (.pointer (some ⟨g0, 0, none⟩)) (by kernel_rfl) ?_
    simp only [pu1, pu2, pu3, pu4]
    refine gw_load (by kernel_rfl) (some 27) rfl 22 (.tmp 26) rfl ⟨g0, 0, none⟩ (.slice la A.length lk) (by kernel_rfl) (HX1.out.load (i := 0) rfl (by kernel_rfl)) ?_
    simp only [pu1, pu2, pu3, pu4]
    refine gw_callE (by kernel_rfl) (some 28) rfl 9 #[.slice la A.length lk] (fun v w' => ∃ b, v = .bool b ∧ Below W1.heap.size W1 w') (by kernel_rfl) (CB.mono fun e w' q => by obtain ⟨⟨b, h1⟩, h2⟩ := q; exact ⟨_, h1, b, rfl, h2⟩) (fun vv W2 hq => ?_)
    obtain ⟨bg, rfl, hb2⟩ := hq
    simp only [pu1, pu2, pu3, pu4]
    have HB2 := Lib.hid (HB1.out.trans (hb2.mono HB1.out.size))
    have HCK2 := Lib.hid (HCK1.out.below hb2)
    have HLA2 := Lib.hid (HLA1.out.below hb2)
    have HX2 := Lib.hid (HX1.out.below HX1.out.lt hb2)
    have HY2 := Lib.hid (HY1.out.below HY1.out.lt hb2)
    clear CB CLn hor hb1 hb2 HB1 HCK1 HLA1 HX1 HY1 HB0 HCK HLA HX HY
    cases bg
    · skip
      obtain ⟨sz, hsz⟩ : ∃ sz, a.1.size = sz := ⟨_, rfl⟩
      by_cases hs60 : 60 < sz
      · skip
        refine gw_val (by kernel_rfl) (some 29) rfl (.bool false) (by kernel_rfl) ?_
        simp only [pu1, pu2, pu3, pu4]
        refine gw_val (by kernel_rfl) (some 30) rfl (.bool false) (by kernel_rfl) ?_
        simp only [pu1, pu2, pu3, pu4]
        refine gw_val (by kernel_rfl) (some 31) rfl (.pointer (some ⟨g1, 0, none⟩)) (by kernel_rfl) ?_
        simp only [pu1, pu2, pu3, pu4]
        refine gw_load (by kernel_rfl) (some 32) rfl 9 (.tmp 31) rfl ⟨g1, 0, none⟩ (.string a.1) (by kernel_rfl) (HY2.out.load (i := 0) rfl (by kernel_rfl)) ?_
        simp only [pu1, pu2, pu3, pu4]
        refine gw_val (by kernel_rfl) (some 33) rfl (.int .i64 sz) (by rw [← hsz]; kernel_rfl) ?_
        simp only [pu1, pu2, pu3, pu4]
        refine gw_val (by kernel_rfl) (some 34) rfl (.bool true) (gtr_n rfl (sz) (60) (decide_eq_true (by omega)) (by kernel_rfl) (by kernel_rfl) _) ?_
        simp only [pu1, pu2, pu3, pu4]
        refine gw_val (by kernel_rfl) (some 35) rfl (.bool true) (by kernel_rfl) ?_
        simp only [pu1, pu2, pu3, pu4]
        apply wpList_nil
        go_upto_region 2 with fail
        apply wp_region_lit
        refine gw_call (by kernel_rfl) (some 36) rfl 10 #[] (.bool true) (fun w' => Below w.heap.size w w') (by kernel_rfl) (HK.out W2 (HB2.out)) (fun V9 hV9 => ?_)
        simp only [pu1, pu2, pu3, pu4]
        refine gw_val (by kernel_rfl) (some 10) rfl (.bool true) (by kernel_rfl) ?_
        simp only [pu1, pu2, pu3, pu4]
        apply wpList_nil
        have HE := Lib.hid hV9
        clear hV9
        go_wp2_with fail
        go_ret
        exact ⟨rfl, HE.out⟩
      · skip
        refine gw_val (by kernel_rfl) (some 29) rfl (.bool false) (by kernel_rfl) ?_
        simp only [pu1, pu2, pu3, pu4]
        refine gw_val (by kernel_rfl) (some 30) rfl (.bool false) (by kernel_rfl) ?_
        simp only [pu1, pu2, pu3, pu4]
        refine gw_val (by kernel_rfl) (some 31) rfl (.pointer (some ⟨g1, 0, none⟩)) (by kernel_rfl) ?_
        simp only [pu1, pu2, pu3, pu4]
        refine gw_load (by kernel_rfl) (some 32) rfl 9 (.tmp 31) rfl ⟨g1, 0, none⟩ (.string a.1) (by kernel_rfl) (HY2.out.load (i := 0) rfl (by kernel_rfl)) ?_
        simp only [pu1, pu2, pu3, pu4]
        refine gw_val (by kernel_rfl) (some 33) rfl (.int .i64 sz) (by rw [← hsz]; kernel_rfl) ?_
        simp only [pu1, pu2, pu3, pu4]
        refine gw_val (by kernel_rfl) (some 34) rfl (.bool false) (gtr_n rfl (sz) (60) (decide_eq_false (by omega)) (by kernel_rfl) (by kernel_rfl) _) ?_
        simp only [pu1, pu2, pu3, pu4]
        refine gw_val (by kernel_rfl) (some 35) rfl (.bool false) (by kernel_rfl) ?_
        simp only [pu1, pu2, pu3, pu4]
        apply wpList_nil
        have CM := made_any ak ck L W2 HCK2.out (by omega)
        clear hsz hs60
        go_upto_region 3 with fail
        apply wp_region_lit
        refine gw_val (by kernel_rfl) (some 37) rfl (.slice ak L.length ck) (by kernel_rfl) ?_
        simp only [pu1, pu2, pu3, pu4]
        refine gw_callE (by kernel_rfl) (some 38) rfl 11 #[.slice ak L.length ck] (fun v w' => ∃ ad kk P c, v = .agg (lgA ad (List.length P) kk c) ∧ Cs w' ad (acc P) ∧ P.length ≤ kk ∧ LQ P c ∧ Below W2.heap.size W2 w') (by kernel_rfl) (CM.mono fun e w' q => by obtain ⟨ad, kk, P, c, h1, h2⟩ := q; exact ⟨_, h1, ad, kk, P, c, rfl, h2⟩) (fun vv W3 hq => ?_)
        obtain ⟨ma, mk, M, mc, rfl, hcm, hkm, hlq, hb3⟩ := hq
        obtain ⟨W4, hst4, hb4, hbx4⟩ := new_lg W3 ma M.length mk mc
        simp only [pu1, pu2, pu3, pu4]
        refine run_to rfl (some 11) rfl (.pointer (some ⟨W3.heap.size, 0, none⟩)) (W3.alloc (.cells (lgA none 0 0 0) 25)) (by kernel_rfl) ?_
        simp only [pu1, pu2, pu3, pu4]
        refine gw_store (by kernel_rfl) rfl 25 (.tmp 11) (.tmp 38) rfl (.pointer (some ⟨W3.heap.size, 0, none⟩)) (.agg (lgA ma M.length mk mc)) (by kernel_rfl) (by kernel_rfl) (W4) (hst4) ?_
        apply wpList_nil
        obtain ⟨g11, hg11⟩ : ∃ g, W3.heap.size = g := ⟨_, rfl⟩
        have hb34 := hb3.trans (hb4.mono hb3.size)
        have HB4 := Lib.hid (HB2.out.trans (hb34.mono HB2.out.size))
        have HLA4 := Lib.hid (HLA2.out.below hb34)
        have HX4 := Lib.hid (HX2.out.below HX2.out.lt hb34)
        have HY4 := Lib.hid (HY2.out.below HY2.out.lt hb34)
        have HMA4 := Lib.hid (hcm.below hb4)
        have HMK := Lib.hid hkm
        have HLQ := Lib.hid hlq
        have HML : Hid (M.length ≤ 300) := Lib.hid hlq.l
        have HQM : Hid (QN M) := Lib.hid ⟨hlq.w, hlq.z2, Nat.le_trans hlq.l (by decide)⟩
        rw [hg11] at hbx4 ⊢
        have HX114 := Lib.hid hbx4
        have h0 := K4.start W4 M mc undef undef undef
        clear CM hcm hkm hlq hb3 hb4 hbx4 hb34 hg11 hst4 HB2 HCK2 HLA2 HX2 HY2
        go_upto_region 4 with fail
        refine wp_region_inv (fun listed act9 V => ∃ b0 b1 b2 b3 b4 b5 b6 b7 b8 : Bool, ∃ x39 x42 x12 : Value, listed = #[b0, b1, b2, b3, b4, b5, b6, b7, b8] ∧ act9 = { tmps := #[.agg (lgA la A.length lk lc), .slice ak L.length ck, .agg (acA a), .int .i64 x3, .int .i64 x4, .pointer (some ⟨g0, 0, none⟩), undef, .pointer (some ⟨g1, 0, none⟩), undef, undef, .bool false, .pointer (some ⟨g11, 0, none⟩), x12, undef, undef, undef, undef, undef, undef, undef, undef, undef, .slice ak L.length ck, .slice (some ⟨W.heap.size, 0, none⟩) 1 1, .bool false, .bool false, .pointer (some ⟨g0, 0, none⟩), .slice la A.length lk, .bool false, .bool false, .bool false, .pointer (some ⟨g1, 0, none⟩), .string a.1, .int .i64 sz, .bool false, .bool false, undef, .slice ak L.length ck, .agg (lgA ma M.length mk mc), x39, (cond b1 (.pointer (some ⟨g11, 0, none⟩)) undef), (cond b2 (.slice ma M.length mk) undef), x42, (cond b4 (.pointer (some ⟨g11, 1, none⟩)) undef), (cond b5 (.int .u64 mc) undef), (cond b6 (.agg #[x42, .int .u64 mc]) undef), undef, undef, undef, undef, undef, undef, undef, undef, undef, undef, undef, undef, undef, undef, undef, undef, undef, undef, undef, undef, undef, undef, undef, undef, undef, undef, undef, undef, undef, undef, undef, undef, undef, undef, undef, undef, undef, undef, undef, undef, undef, undef, undef, undef, undef, undef, undef, undef, undef, undef, undef, undef, undef, undef, undef, undef, undef, undef, undef, undef, undef, undef, undef, undef, undef, undef, undef, undef, undef, undef, undef, undef, undef, undef, undef, undef, undef, undef, undef, undef, undef, undef, undef, undef, undef, undef, undef, undef, undef, undef, undef, undef, undef, undef, undef, undef], defers := [] } ∧ K4 W4 M mc b0 b3 b6 b7 b8 x39 x42 x12 V) (by kernel_rfl) (by kernel_rfl) ?_ ?_ ?_
        · exact ⟨false, false, false, false, false, false, false, false, false, undef, undef, undef, rfl, rfl, h0⟩
        · intro i9 listed act9 V hi9 hr hJ
          obtain ⟨b0, b1, b2, b3, b4, b5, b6, b7, b8, x39, x42, x12, rfl, rfl, hF⟩ := hJ
          have hi2 : i9 < 9 := hi9
          have hi3 : i9 = 0 ∨ i9 = 1 ∨ i9 = 2 ∨ i9 = 3 ∨ i9 = 4 ∨ i9 = 5 ∨ i9 = 6 ∨ i9 = 7 ∨ i9 = 8 := by omega
          rcases hi3 with rfl | rfl | rfl | rfl | rfl | rfl | rfl | rfl | rfl
          · obtain rfl : b0 = false := ready_self hr
            obtain rfl : b3 = false := ff hF.c3 rfl
            obtain rfl : b6 = false := ff hF.c6 rfl
            obtain rfl : b8 = false := ff (fun e => (hF.d8 e).1) rfl
            refine st_build rfl (by kernel_rfl) (some 39) rfl 22 0 #[] rfl #[] (by kernel_rfl) (.slice (some ⟨V.heap.size, 0, none⟩) 0 0) _ (nil_ac V) ?_
            exact ⟨true, b1, b2, false, b4, b5, false, b7, false, _, x42, x12, rfl, rfl, hF.nil⟩
          · obtain rfl : b1 = false := ready_self hr
            refine st_val rfl (by kernel_rfl) (some 40) rfl (.pointer (some ⟨g11, 0, none⟩)) V (by kernel_rfl) ?_
            exact ⟨b0, true, b2, b3, b4, b5, b6, b7, b8, x39, x42, x12, rfl, rfl, hF⟩
          · obtain rfl : b2 = false := ready_self hr
            obtain rfl : b1 = true := ready_dep hr 1 (by kernel_rfl)
            refine st_load rfl (by kernel_rfl) (some 41) rfl 22 (.tmp 40) rfl ⟨g11, 0, none⟩ (.slice ma M.length mk) (by kernel_rfl) ((HX114.out.below HX114.out.lt hF.bel).load (i := 0) rfl (by kernel_rfl)) ?_
            exact ⟨b0, true, true, b3, b4, b5, b6, b7, b8, x39, x42, x12, rfl, rfl, hF⟩
          · obtain rfl : b3 = false := ready_self hr
            obtain rfl : b0 = true := ready_dep hr 0 (by kernel_rfl)
            obtain rfl : b2 = true := ready_dep hr 2 (by kernel_rfl)
            obtain rfl : b6 = false := ff hF.c6 rfl
            obtain rfl : b8 = false := ff (fun e => (hF.d8 e).2.1) rfl
            obtain ⟨v, V2, hap, hO2, hb2, hg2, hat2⟩ := (hF.r0 rfl rfl).app hF.bel.size ma M.length mk M (HMA4.out.below hF.bel) rfl (by simp) (by have := HML.out; omega)
            refine st_append rfl (by kernel_rfl) (some 42) rfl 22 rfl (.tmp 39) (.tmp 41) 22 rfl x39 (.slice ma M.length mk) v V2 (by kernel_rfl) (by kernel_rfl) hap ?_
            exact ⟨true, b1, true, true, b4, b5, false, b7, false, x39, v, x12, rfl, rfl, hF.app (by rw [List.nil_append] at hO2; exact hO2) hb2 hg2 hat2⟩
          · obtain rfl : b4 = false := ready_self hr
            refine st_val rfl (by kernel_rfl) (some 43) rfl (.pointer (some ⟨g11, 1, none⟩)) V (by kernel_rfl) ?_
            exact ⟨b0, b1, b2, b3, true, b5, b6, b7, b8, x39, x42, x12, rfl, rfl, hF⟩
          · obtain rfl : b5 = false := ready_self hr
            obtain rfl : b4 = true := ready_dep hr 4 (by kernel_rfl)
            refine st_load rfl (by kernel_rfl) (some 44) rfl 23 (.tmp 43) rfl ⟨g11, 1, none⟩ (.int .u64 mc) (by kernel_rfl) ((HX114.out.below HX114.out.lt hF.bel).load (i := 1) rfl (by kernel_rfl)) ?_
            exact ⟨b0, b1, b2, b3, true, true, b6, b7, b8, x39, x42, x12, rfl, rfl, hF⟩
          · obtain rfl : b6 = false := ready_self hr
            obtain rfl : b3 = true := ready_dep hr 3 (by kernel_rfl)
            obtain rfl : b5 = true := ready_dep hr 5 (by kernel_rfl)
            obtain ⟨a9, k9, rfl⟩ := hF.sl
            refine st_val rfl (by kernel_rfl) (some 45) rfl (.agg #[.slice a9 M.length k9, .int .u64 mc]) V (by kernel_rfl) ?_
            exact ⟨b0, b1, b2, true, b4, true, true, b7, b8, x39, _, x12, rfl, rfl, { hF with c6 := fun _ => rfl }⟩
          · obtain rfl : b7 = false := ready_self hr
            refine st_val rfl (by kernel_rfl) (some 12) rfl (.pointer (some ⟨V.heap.size, 0, none⟩)) (V.alloc (.cells (lgA none 0 0 0) 25)) (by kernel_rfl) ?_
            exact ⟨b0, b1, b2, b3, b4, b5, b6, true, b8, x39, x42, _, rfl, rfl, hF.alloc⟩
          · obtain rfl : b8 = false := ready_self hr
            obtain rfl : b0 = true := ready_dep hr 0 (by kernel_rfl)
            obtain rfl : b1 = true := ready_dep hr 1 (by kernel_rfl)
            obtain rfl : b2 = true := ready_dep hr 2 (by kernel_rfl)
            obtain rfl : b3 = true := ready_dep hr 3 (by kernel_rfl)
            obtain rfl : b4 = true := ready_dep hr 4 (by kernel_rfl)
            obtain rfl : b5 = true := ready_dep hr 5 (by kernel_rfl)
            obtain rfl : b6 = true := ready_dep hr 6 (by kernel_rfl)
            obtain rfl : b7 = true := ready_dep hr 7 (by kernel_rfl)
            obtain ⟨g9, a9, k9, V2, rfl, rfl, hst, hF2⟩ := hF.store
            refine st_storeA rfl (by kernel_rfl) rfl 25 (.tmp 12) (.tmp 45) rfl (.pointer (some ⟨g9, 0, none⟩)) (.agg (lgA a9 M.length k9 mc)) (by kernel_rfl) (by kernel_rfl) _ hst ?_
            exact ⟨true, true, true, true, true, true, true, true, true, x39, _, _, rfl, rfl, hF2⟩
        · intro act9 V hJ
          obtain ⟨b0, b1, b2, b3, b4, b5, b6, b7, b8, x39, x42, x12, he, rfl, hF⟩ := hJ
          have he : (#[true, true, true, true, true, true, true, true, true] : Array Bool) = #[b0, b1, b2, b3, b4, b5, b6, b7, b8] := he
          simp only [Array.mk.injEq, List.cons.injEq, and_true] at he
          obtain ⟨rfl, rfl, rfl, rfl, rfl, rfl, rfl, rfl, rfl⟩ := he
          simp only [cond_true]
          obtain ⟨g12, na, nk, rfl, rfl, hz5⟩ := hF.fn rfl
          clear hF h0
          generalize V = V5 at *
          have HZ5 := Lib.hid hz5
          have CP := mk_place x3 (M.length + 1 : Nat) V5 (by omega) (by have := HML.out; omega)
          have hpr := pl_range x3 (M.length + 1 : Nat) (by omega)
          obtain ⟨i, hi⟩ : ∃ i : Nat, pl x3 (M.length + 1 : Nat) = i := ⟨(pl x3 (M.length + 1 : Nat)).toNat, by omega⟩
          rw [hi] at CP hpr
          have HIL : Hid (i ≤ M.length) := Lib.hid (by omega)
          have CQ := mk_place x4 3 V5 (by decide) (by decide)
          have hp3 := pl_range x4 3 (by decide)
          clear hz5 hi hpr
          go_upto_region 5 with fail
          apply wp_region_lit
          refine gw_val (by kernel_rfl) (some 46) rfl (.int .i64 x3) (by kernel_rfl) ?_
          simp only [pu1, pu2, pu3, pu4]
          refine gw_val (by kernel_rfl) (some 47) rfl (.pointer (some ⟨g12, 0, none⟩)) (by kernel_rfl) ?_
          simp only [pu1, pu2, pu3, pu4]
          refine gw_load (by kernel_rfl) (some 48) rfl 22 (.tmp 47) rfl ⟨g12, 0, none⟩ (.slice na M.length nk) (by kernel_rfl) (HZ5.out.bx.load (i := 0) rfl (by kernel_rfl)) ?_
          simp only [pu1, pu2, pu3, pu4]
          refine gw_val (by kernel_rfl) (some 49) rfl (.int .i64 M.length) (by kernel_rfl) ?_
          simp only [pu1, pu2, pu3, pu4]
          refine gw_val (by kernel_rfl) (some 50) rfl (.int .i64 (M.length + 1 : Nat)) (add_nat rfl M.length 1 (by have := HML.out; omega) (by kernel_rfl) (by kernel_rfl) _) ?_
          simp only [pu1, pu2, pu3, pu4]
          refine gw_call (by kernel_rfl) (some 51) rfl 12 #[.int .i64 x3, .int .i64 (M.length + 1 : Nat)] (.int .i64 i) (fun w' => V5 = w') (by kernel_rfl) (CP) (fun V9 hV9 => ?_)
          subst hV9
          simp only [pu1, pu2, pu3, pu4]
          refine gw_val (by kernel_rfl) (some 13) rfl (.int .i64 i) (by kernel_rfl) ?_
          simp only [pu1, pu2, pu3, pu4]
          apply wpList_nil
          clear CP
          rcases (show pl x4 3 = 0 ∨ pl x4 3 = 1 ∨ pl x4 3 = 2 by omega) with hp | hp | hp
          · skip
            rw [hp] at CQ
            clear hp hp3
            go_upto_region 6 with fail
            apply wp_region_lit
            refine gw_val (by kernel_rfl) (some 52) rfl (.int .i64 x4) (by kernel_rfl) ?_
            simp only [pu1, pu2, pu3, pu4]
            refine gw_call (by kernel_rfl) (some 53) rfl 12 #[.int .i64 x4, .int .i64 3] (.int .i64 0) (fun w' => V5 = w') (by kernel_rfl) (CQ) (fun V9 hV9 => ?_)
            subst hV9
            simp only [pu1, pu2, pu3, pu4]
            apply wpList_nil
            clear CQ
            go_upto_region 13 with fail
            apply wp_region_lit
            refine gw_val (by kernel_rfl) (some 76) rfl (.bool true) (by kernel_rfl) ?_
            simp only [pu1, pu2, pu3, pu4]
            refine gw_val (by kernel_rfl) (some 75) rfl (.bool true) (by kernel_rfl) ?_
            simp only [pu1, pu2, pu3, pu4]
            apply wpList_nil
            have h0 := CH.start V5 a (M.take i) (M.take i ++ [a]) (M.take i ++ [a] ++ M.drop i) undef undef undef undef undef
            have HTL : Hid ((M.take i).length = i) := Lib.hid (by have := HIL.out; rw [List.length_take]; omega)
            have HDL : Hid ((M.drop i).length = M.length - i) := Lib.hid (by rw [List.length_drop])
            go_upto_region 14 with fail
            have HX115 := Lib.hid (HX114.out.below HX114.out.lt HZ5.out.bel)
            have HMA5 := Lib.hid (HMA4.out.below HZ5.out.bel)
            have HY5 := Lib.hid (HY4.out.below HY4.out.lt HZ5.out.bel)
            refine wp_region_inv (fun listed act9 V => ∃ b0 b1 b2 b3 b4 b5 b6 b7 b8 b9 b10 b11 b12 b13 b14 b15 : Bool, ∃ x77 x82 x84 x85 x90 : Value, listed = #[b0, b1, b2, b3, b4, b5, b6, b7, b8, b9, b10, b11, b12, b13, b14, b15] ∧ act9 = { tmps := #[.agg (lgA la A.length lk lc), .slice ak L.length ck, .agg (acA a), .int .i64 x3, .int .i64 x4, .pointer (some ⟨g0, 0, none⟩), undef, .pointer (some ⟨g1, 0, none⟩), undef, undef, .bool false, .pointer (some ⟨g11, 0, none⟩), .pointer (some ⟨g12, 0, none⟩), .int .i64 i, undef, undef, undef, undef, undef, undef, undef, undef, .slice ak L.length ck, .slice (some ⟨W.heap.size, 0, none⟩) 1 1, .bool false, .bool false, .pointer (some ⟨g0, 0, none⟩), .slice la A.length lk, .bool false, .bool false, .bool false, .pointer (some ⟨g1, 0, none⟩), .string a.1, .int .i64 sz, .bool false, .bool false, undef, .slice ak L.length ck, .agg (lgA ma M.length mk mc), x39, .pointer (some ⟨g11, 0, none⟩), .slice ma M.length mk, .slice na M.length nk, .pointer (some ⟨g11, 1, none⟩), .int .u64 mc, .agg #[.slice na M.length nk, .int .u64 mc], .int .i64 x3, .pointer (some ⟨g12, 0, none⟩), .slice na M.length nk, .int .i64 M.length, .int .i64 (M.length + 1 : Nat), .int .i64 i, .int .i64 x4, .int .i64 0, undef, undef, undef, undef, undef, undef, undef, undef, undef, undef, undef, undef, undef, undef, undef, undef, undef, undef, undef, undef, undef, .bool true, .bool true, x77, (cond b1 (.pointer (some ⟨g11, 0, none⟩)) undef), (cond b2 (.slice ma M.length mk) undef), (cond b3 (.int .i64 i) undef), (cond b4 (.slice ma i mk) undef), x82, (cond b6 (.agg (acA a)) undef), x84, x85, (cond b9 (.pointer (some ⟨g11, 0, none⟩)) undef), (cond b10 (.slice ma M.length mk) undef), (cond b11 (.int .i64 i) undef), (cond b12 (.slice (fromS 3 ma mk i) (M.length - i) (mk - i)) undef), x90, (cond b14 (.pointer (some ⟨g12, 0, none⟩)) undef), undef, undef, undef, undef, undef, undef, undef, undef, undef, undef, undef, undef, undef, undef, undef, undef, undef, undef, undef, undef, undef, undef, undef, undef, undef, undef, undef, undef, undef, undef, undef, undef, undef, undef, undef, undef, undef, undef, undef, undef, undef, undef, undef, undef, undef, undef, undef, undef, undef, undef], defers := [] } ∧ (b15 = false → CH V5 a (M.take i) (M.take i ++ [a]) (M.take i ++ [a] ++ M.drop i) b0 b5 b8 b13 b7 x77 x82 x85 x90 x84 V) ∧ (b15 = true → ∃ a9 k9, x90 = .slice a9 (M.take i ++ [a] ++ M.drop i).length k9 ∧ NZ W4 g12 a9 k9 (M.take i ++ [a] ++ M.drop i) mc V) ∧ (b15 = true → (b0 && b1 && b2 && b3 && b4 && b5 && b6 && b7 && b8 && b9 && b10 && b11 && b12 && b13 && b14) = true)) (by kernel_rfl) (by kernel_rfl) ?_ ?_ ?_
            · exact ⟨false, false, false, false, false, false, false, false, false, false, false, false, false, false, false, false, undef, undef, undef, undef, undef, rfl, rfl, fun _ => h0, (fun e => nomatch e), (fun e => nomatch e)⟩
            · intro i9 listed act9 V hi9 hr hJ
              obtain ⟨b0, b1, b2, b3, b4, b5, b6, b7, b8, b9, b10, b11, b12, b13, b14, b15, x77, x82, x84, x85, x90, rfl, rfl, hC, hN, hD⟩ := hJ
              have hi2 : i9 < 16 := hi9
              have hi3 : i9 = 0 ∨ i9 = 1 ∨ i9 = 2 ∨ i9 = 3 ∨ i9 = 4 ∨ i9 = 5 ∨ i9 = 6 ∨ i9 = 7 ∨ i9 = 8 ∨ i9 = 9 ∨ i9 = 10 ∨ i9 = 11 ∨ i9 = 12 ∨ i9 = 13 ∨ i9 = 14 ∨ i9 = 15 := by omega
              rcases hi3 with rfl | rfl | rfl | rfl | rfl | rfl | rfl | rfl | rfl | rfl | rfl | rfl | rfl | rfl | rfl | rfl
              · obtain rfl : b0 = false := ready_self hr
                obtain rfl : b15 = false := by cases b15; rfl; exact absurd (hD rfl) (by simp)
                have hF := hC rfl
                clear hC hN hD
                obtain rfl : b5 = false := by cases b5; rfl; exact absurd (hF.c1 rfl) (by decide)
                obtain rfl : b8 = false := by cases b8; rfl; exact absurd (hF.c2 rfl) (by decide)
                obtain rfl : b13 = false := by cases b13; rfl; exact absurd (hF.c3 rfl) (by decide)
                refine st_build rfl (by kernel_rfl) (some 77) rfl 22 0 #[] rfl #[] (by kernel_rfl) (.slice (some ⟨V.heap.size, 0, none⟩) 0 0) _ (nil_ac V) ?_
                exact ⟨true, b1, b2, b3, b4, false, b6, b7, false, b9, b10, b11, b12, false, b14, false, _, x82, x84, x85, x90, rfl, rfl, fun _ => hF.nil, (fun e => nomatch e), (fun e => nomatch e)⟩
              · obtain rfl : b1 = false := ready_self hr
                obtain rfl : b15 = false := by cases b15; rfl; exact absurd (hD rfl) (by simp)
                have hF := hC rfl
                clear hC hN hD
                refine st_val rfl (by kernel_rfl) (some 78) rfl (.pointer (some ⟨g11, 0, none⟩)) V (by kernel_rfl) ?_
                exact ⟨b0, true, b2, b3, b4, b5, b6, b7, b8, b9, b10, b11, b12, b13, b14, false, x77, x82, x84, x85, x90, rfl, rfl, fun _ => hF, (fun e => nomatch e), (fun e => nomatch e)⟩
              · obtain rfl : b2 = false := ready_self hr
                obtain rfl : b1 = true := ready_dep hr 1 (by kernel_rfl)
                obtain rfl : b15 = false := by cases b15; rfl; exact absurd (hD rfl) (by simp)
                have hF := hC rfl
                clear hC hN hD
                refine st_load rfl (by kernel_rfl) (some 79) rfl 22 (.tmp 78) rfl ⟨g11, 0, none⟩ (.slice ma M.length mk) (by kernel_rfl) ((HX115.out.below HX115.out.lt hF.bel).load (i := 0) rfl (by kernel_rfl)) ?_
                exact ⟨b0, true, true, b3, b4, b5, b6, b7, b8, b9, b10, b11, b12, b13, b14, false, x77, x82, x84, x85, x90, rfl, rfl, fun _ => hF, (fun e => nomatch e), (fun e => nomatch e)⟩
              · obtain rfl : b3 = false := ready_self hr
                obtain rfl : b15 = false := by cases b15; rfl; exact absurd (hD rfl) (by simp)
                have hF := hC rfl
                clear hC hN hD
                refine st_val rfl (by kernel_rfl) (some 80) rfl (.int .i64 i) V (by kernel_rfl) ?_
                exact ⟨b0, b1, b2, true, b4, b5, b6, b7, b8, b9, b10, b11, b12, b13, b14, false, x77, x82, x84, x85, x90, rfl, rfl, fun _ => hF, (fun e => nomatch e), (fun e => nomatch e)⟩
              · obtain rfl : b4 = false := ready_self hr
                obtain rfl : b2 = true := ready_dep hr 2 (by kernel_rfl)
                obtain rfl : b3 = true := ready_dep hr 3 (by kernel_rfl)
                obtain rfl : b15 = false := by cases b15; rfl; exact absurd (hD rfl) (by simp)
                have hF := hC rfl
                clear hC hN hD
                refine st_slice_to rfl (by kernel_rfl) (some 81) rfl 22 (.tmp 79) (.tmp 80) rfl (.slice ma M.length mk) (.int .i64 (i : Int)) (.slice ma i mk) (by kernel_rfl) (by kernel_rfl) (cut_ac_to ma M.length mk i V (by have := HIL.out; have := HMK.out; omega)) ?_
                exact ⟨b0, b1, true, true, true, b5, b6, b7, b8, b9, b10, b11, b12, b13, b14, false, x77, x82, x84, x85, x90, rfl, rfl, fun _ => hF, (fun e => nomatch e), (fun e => nomatch e)⟩
              · obtain rfl : b5 = false := ready_self hr
                obtain rfl : b0 = true := ready_dep hr 0 (by kernel_rfl)
                obtain rfl : b4 = true := ready_dep hr 4 (by kernel_rfl)
                obtain rfl : b15 = false := by cases b15; rfl; exact absurd (hD rfl) (by simp)
                have hF := hC rfl
                clear hC hN hD
                obtain rfl : b8 = false := by cases b8; rfl; exact absurd (hF.c2 rfl) (by decide)
                obtain rfl : b13 = false := by cases b13; rfl; exact absurd (hF.c3 rfl) (by decide)
                have hO := hF.r0 rfl rfl
                obtain ⟨v, V2, hap, hO2, hb2, hg2, hat2⟩ := hO.app hF.bel.size ma i mk (M.take i) (by rw [← acc_take]; exact (HMA5.out.below hF.bel).take _) HTL.out (by simp) (by have := HIL.out; have := HML.out; omega)
                refine st_append rfl (by kernel_rfl) (some 82) rfl 22 rfl (.tmp 77) (.tmp 81) 22 rfl x77 (.slice ma i mk) v V2 (by kernel_rfl) (by kernel_rfl) hap ?_
                exact ⟨true, b1, b2, b3, true, true, b6, b7, false, b9, b10, b11, b12, false, b14, false, x77, v, x84, x85, x90, rfl, rfl, fun _ => hF.one (by rw [List.nil_append] at hO2; exact hO2) hb2 hg2 hat2, (fun e => nomatch e), (fun e => nomatch e)⟩
              · obtain rfl : b6 = false := ready_self hr
                obtain rfl : b15 = false := by cases b15; rfl; exact absurd (hD rfl) (by simp)
                have hF := hC rfl
                clear hC hN hD
                refine st_load rfl (by kernel_rfl) (some 83) rfl 28 (.tmp 7) rfl ⟨g1, 0, none⟩ (.agg (acA a)) (by kernel_rfl) (load_acb (HY5.out.below HY5.out.lt hF.bel)) ?_
                exact ⟨b0, b1, b2, b3, b4, b5, true, b7, b8, b9, b10, b11, b12, b13, b14, false, x77, x82, x84, x85, x90, rfl, rfl, fun _ => hF, (fun e => nomatch e), (fun e => nomatch e)⟩
              · obtain rfl : b7 = false := ready_self hr
                obtain rfl : b6 = true := ready_dep hr 6 (by kernel_rfl)
                obtain rfl : b15 = false := by cases b15; rfl; exact absurd (hD rfl) (by simp)
                have hF := hC rfl
                clear hC hN hD
                refine st_build rfl (by kernel_rfl) (some 84) rfl 22 1 #[(0, .tmp 83)] rfl #[(0, .agg (acA a))] (by kernel_rfl) (.slice (some ⟨V.heap.size, 0, none⟩) 1 1) _ (build_ac a V) ?_
                exact ⟨b0, b1, b2, b3, b4, b5, true, true, b8, b9, b10, b11, b12, b13, b14, false, x77, x82, _, x85, x90, rfl, rfl, fun _ => hF.key, (fun e => nomatch e), (fun e => nomatch e)⟩
              · obtain rfl : b8 = false := ready_self hr
                obtain rfl : b5 = true := ready_dep hr 5 (by kernel_rfl)
                obtain rfl : b7 = true := ready_dep hr 7 (by kernel_rfl)
                obtain rfl : b15 = false := by cases b15; rfl; exact absurd (hD rfl) (by simp)
                have hF := hC rfl
                clear hC hN hD
                obtain rfl : b13 = false := by cases b13; rfl; exact absurd (hF.c3 rfl) (by decide)
                have hO := hF.r1 rfl rfl
                obtain ⟨gq, rfl, hgx, -⟩ := hF.kx rfl
                have hgc : Cs V (some ⟨gq, 0, none⟩) (acc [a]) := Cs.block (cs := acl a) hgx
                obtain ⟨v, V2, hap, hO2, hb2, hg2, hat2⟩ := hO.app hF.bel.size (some ⟨gq, 0, none⟩) 1 1 [a] hgc rfl (by have := HIL.out; have := HML.out; rw [HTL.out]; omega) (by omega)
                refine st_append rfl (by kernel_rfl) (some 85) rfl 22 rfl (.tmp 82) (.tmp 84) 22 rfl x82 (.slice (some ⟨gq, 0, none⟩) 1 1) v V2 (by kernel_rfl) (by kernel_rfl) hap ?_
                exact ⟨b0, b1, b2, b3, b4, true, b6, true, true, b9, b10, b11, b12, false, b14, false, x77, x82, _, v, x90, rfl, rfl, fun _ => hF.two hO2 hb2 hg2 hat2, (fun e => nomatch e), (fun e => nomatch e)⟩
              · obtain rfl : b9 = false := ready_self hr
                obtain rfl : b15 = false := by cases b15; rfl; exact absurd (hD rfl) (by simp)
                have hF := hC rfl
                clear hC hN hD
                refine st_val rfl (by kernel_rfl) (some 86) rfl (.pointer (some ⟨g11, 0, none⟩)) V (by kernel_rfl) ?_
                exact ⟨b0, b1, b2, b3, b4, b5, b6, b7, b8, true, b10, b11, b12, b13, b14, false, x77, x82, x84, x85, x90, rfl, rfl, fun _ => hF, (fun e => nomatch e), (fun e => nomatch e)⟩
              · obtain rfl : b10 = false := ready_self hr
                obtain rfl : b9 = true := ready_dep hr 9 (by kernel_rfl)
                obtain rfl : b15 = false := by cases b15; rfl; exact absurd (hD rfl) (by simp)
                have hF := hC rfl
                clear hC hN hD
                refine st_load rfl (by kernel_rfl) (some 87) rfl 22 (.tmp 86) rfl ⟨g11, 0, none⟩ (.slice ma M.length mk) (by kernel_rfl) ((HX115.out.below HX115.out.lt hF.bel).load (i := 0) rfl (by kernel_rfl)) ?_
                exact ⟨b0, b1, b2, b3, b4, b5, b6, b7, b8, true, true, b11, b12, b13, b14, false, x77, x82, x84, x85, x90, rfl, rfl, fun _ => hF, (fun e => nomatch e), (fun e => nomatch e)⟩
              · obtain rfl : b11 = false := ready_self hr
                obtain rfl : b15 = false := by cases b15; rfl; exact absurd (hD rfl) (by simp)
                have hF := hC rfl
                clear hC hN hD
                refine st_val rfl (by kernel_rfl) (some 88) rfl (.int .i64 i) V (by kernel_rfl) ?_
                exact ⟨b0, b1, b2, b3, b4, b5, b6, b7, b8, b9, b10, true, b12, b13, b14, false, x77, x82, x84, x85, x90, rfl, rfl, fun _ => hF, (fun e => nomatch e), (fun e => nomatch e)⟩
              · obtain rfl : b12 = false := ready_self hr
                obtain rfl : b10 = true := ready_dep hr 10 (by kernel_rfl)
                obtain rfl : b11 = true := ready_dep hr 11 (by kernel_rfl)
                obtain rfl : b15 = false := by cases b15; rfl; exact absurd (hD rfl) (by simp)
                have hF := hC rfl
                clear hC hN hD
                refine st_slice_from rfl (by kernel_rfl) (some 89) rfl 22 (.tmp 87) (.tmp 88) rfl (.slice ma M.length mk) (.int .i64 ((i : Nat) : Int)) (.slice (fromS 3 ma mk i) (M.length - i) (mk - i)) (by kernel_rfl) (by kernel_rfl) (cut_ac_from ma M.length mk i V HIL.out) ?_
                exact ⟨b0, b1, b2, b3, b4, b5, b6, b7, b8, b9, true, true, true, b13, b14, false, x77, x82, x84, x85, x90, rfl, rfl, fun _ => hF, (fun e => nomatch e), (fun e => nomatch e)⟩
              · obtain rfl : b13 = false := ready_self hr
                obtain rfl : b8 = true := ready_dep hr 8 (by kernel_rfl)
                obtain rfl : b12 = true := ready_dep hr 12 (by kernel_rfl)
                obtain rfl : b15 = false := by cases b15; rfl; exact absurd (hD rfl) (by simp)
                have hF := hC rfl
                clear hC hN hD
                have hO := hF.r2 rfl rfl
                obtain ⟨v, V2, hap, hO2, hb2, hg2, hat2⟩ := hO.app hF.bel.size (fromS 3 ma mk i) (M.length - i) (mk - i) (M.drop i) (by rw [← acc_drop]; exact (HMA5.out.below hF.bel).from 3 mk i (by have := HIL.out; have := HMK.out; rw [acc_len]; omega)) HDL.out (by have := HIL.out; have := HML.out; rw [List.length_append, HTL.out]; simp; omega) (by have := HML.out; omega)
                refine st_append rfl (by kernel_rfl) (some 90) rfl 22 rfl (.tmp 85) (.tmp 89) 22 rfl x85 (.slice (fromS 3 ma mk i) (M.length - i) (mk - i)) v V2 (by kernel_rfl) (by kernel_rfl) hap ?_
                exact ⟨b0, b1, b2, b3, b4, b5, b6, b7, true, b9, b10, b11, true, true, b14, false, x77, x82, x84, x85, v, rfl, rfl, fun _ => hF.three hO2 hb2 hg2 hat2, (fun e => nomatch e), (fun e => nomatch e)⟩
              · obtain rfl : b14 = false := ready_self hr
                obtain rfl : b0 = true := ready_dep hr 0 (by kernel_rfl)
                obtain rfl : b1 = true := ready_dep hr 1 (by kernel_rfl)
                obtain rfl : b2 = true := ready_dep hr 2 (by kernel_rfl)
                obtain rfl : b3 = true := ready_dep hr 3 (by kernel_rfl)
                obtain rfl : b4 = true := ready_dep hr 4 (by kernel_rfl)
                obtain rfl : b5 = true := ready_dep hr 5 (by kernel_rfl)
                obtain rfl : b6 = true := ready_dep hr 6 (by kernel_rfl)
                obtain rfl : b7 = true := ready_dep hr 7 (by kernel_rfl)
                obtain rfl : b8 = true := ready_dep hr 8 (by kernel_rfl)
                obtain rfl : b9 = true := ready_dep hr 9 (by kernel_rfl)
                obtain rfl : b10 = true := ready_dep hr 10 (by kernel_rfl)
                obtain rfl : b11 = true := ready_dep hr 11 (by kernel_rfl)
                obtain rfl : b12 = true := ready_dep hr 12 (by kernel_rfl)
                obtain rfl : b13 = true := ready_dep hr 13 (by kernel_rfl)
                obtain rfl : b15 = false := by cases b15; rfl; exact absurd (hD rfl) (by simp)
                have hF := hC rfl
                clear hC hN hD
                refine st_val rfl (by kernel_rfl) (some 91) rfl (.pointer (some ⟨g12, 0, none⟩)) V (by kernel_rfl) ?_
                exact ⟨true, true, true, true, true, true, true, true, true, true, true, true, true, true, true, false, x77, x82, x84, x85, x90, rfl, rfl, fun _ => hF, (fun e => nomatch e), (fun e => nomatch e)⟩
              · obtain rfl : b15 = false := ready_self hr
                obtain rfl : b0 = true := ready_dep hr 0 (by kernel_rfl)
                obtain rfl : b1 = true := ready_dep hr 1 (by kernel_rfl)
                obtain rfl : b2 = true := ready_dep hr 2 (by kernel_rfl)
                obtain rfl : b3 = true := ready_dep hr 3 (by kernel_rfl)
                obtain rfl : b4 = true := ready_dep hr 4 (by kernel_rfl)
                obtain rfl : b5 = true := ready_dep hr 5 (by kernel_rfl)
                obtain rfl : b6 = true := ready_dep hr 6 (by kernel_rfl)
                obtain rfl : b7 = true := ready_dep hr 7 (by kernel_rfl)
                obtain rfl : b8 = true := ready_dep hr 8 (by kernel_rfl)
                obtain rfl : b9 = true := ready_dep hr 9 (by kernel_rfl)
                obtain rfl : b10 = true := ready_dep hr 10 (by kernel_rfl)
                obtain rfl : b11 = true := ready_dep hr 11 (by kernel_rfl)
                obtain rfl : b12 = true := ready_dep hr 12 (by kernel_rfl)
                obtain rfl : b13 = true := ready_dep hr 13 (by kernel_rfl)
                obtain rfl : b14 = true := ready_dep hr 14 (by kernel_rfl)
                have hF := hC rfl
                clear hC hN hD
                have hO := hF.r3 rfl
                obtain ⟨a9, k9, rfl, -, -⟩ := own_cs hO
                have hne : (Value.slice a9 (M.take i ++ [a] ++ M.drop i).length k9).ownBlock ≠ some g12 := fun e => by have := (World.ownsRow.lt hO _ e).1; have := HZ5.out.bx.lt; omega
                obtain ⟨V2, hst, hz2⟩ := (HZ5.out.below hF.bel).put (own_base hO HZ5.out.bel.size) rfl hne
                refine st_storeA rfl (by kernel_rfl) rfl 22 (.tmp 91) (.tmp 90) rfl (.pointer (some ⟨g12, 0, none⟩)) (.slice a9 (M.take i ++ [a] ++ M.drop i).length k9) (by kernel_rfl) (by kernel_rfl) _ hst ?_
                exact ⟨true, true, true, true, true, true, true, true, true, true, true, true, true, true, true, true, x77, x82, x84, x85, _, rfl, rfl, (fun e => nomatch e), fun _ => ⟨a9, k9, rfl, hz2⟩, fun _ => rfl⟩
            · intro act9 V hJ
              obtain ⟨b0, b1, b2, b3, b4, b5, b6, b7, b8, b9, b10, b11, b12, b13, b14, b15, x77, x82, x84, x85, x90, he, rfl, hC, hN, hD⟩ := hJ
              have he : (#[true, true, true, true, true, true, true, true, true, true, true, true, true, true, true, true] : Array Bool) = #[b0, b1, b2, b3, b4, b5, b6, b7, b8, b9, b10, b11, b12, b13, b14, b15] := he
              simp only [Array.mk.injEq, List.cons.injEq, and_true] at he
              obtain ⟨rfl, rfl, rfl, rfl, rfl, rfl, rfl, rfl, rfl, rfl, rfl, rfl, rfl, rfl, rfl, rfl⟩ := he
              simp only [cond_true]
              obtain ⟨a9, k9, rfl, hz9⟩ := hN rfl
              have hqn : QN (M.take i ++ [a] ++ M.drop i) := HQM.out.of HYQ.out ins_mem (by have := HIL.out; have := HML.out; simp only [List.length_append, List.length_cons, List.length_nil, HTL.out, HDL.out]; omega)
              clear hC hN hD h0 HTL HDL HZ5 HX115 HMA5 HY5
              generalize V = V6 at *
              generalize M.take i ++ [a] ++ M.drop i = N at *
              have HZ6 := Lib.hid hz9
              have HQN := Lib.hid hqn
              have HNC : Hid (W64 mc) := Lib.hid HLQ.out.c
              clear hz9 hqn
              have hbu := build_3l la ma a9 A.length M.length N.length lk mk k9 lc mc mc V6
              have hb9 : Below V6.heap.size V6 (V6.alloc (.cells (six la ma a9 A.length M.length N.length lk mk k9 lc mc mc) 25)) := (Below.refl _ V6).alloc (Nat.le_refl _) _
              have hx9 : Bx (V6.alloc (.cells (six la ma a9 A.length M.length N.length lk mk k9 lc mc mc) 25)) V6.heap.size (six la ma a9 A.length M.length N.length lk mk k9 lc mc mc) 25 := heap_alloc_last V6 _
              generalize V6.alloc (.cells (six la ma a9 A.length M.length N.length lk mk k9 lc mc mc) 25) = W9 at *
              have HXL := Lib.hid (HX4.out.below HX4.out.lt HZ6.out.bel)
              have HXM := Lib.hid (HX114.out.below HX114.out.lt HZ6.out.bel)
              have HB9 := Lib.hid (HB4.out.trans ((HZ6.out.bel.trans (hb9.mono HZ6.out.bel.size)).mono HB4.out.size))
              obtain ⟨g109, hg109⟩ : ∃ g, V6.heap.size = g := ⟨_, rfl⟩
              rw [hg109] at hbu hx9
              have HDQ : Hid (∀ k, k < 3 → ∃ d : Ld, (∀ V, Below W9.heap.size W9 V → (Instr.loadAt 25 (.pointer (some ⟨g109, 0 + k * 2, none⟩))).run Try.prog V = .ok (.agg (lgA d.1 d.2.2.1.length d.2.1 d.2.2.2)) V) ∧ DQ W9 d) := Lib.hid fun k hk => by
                rcases (show k = 0 ∨ k = 1 ∨ k = 2 by omega) with rfl | rfl | rfl
                · exact ⟨(la, lk, A, lc), fun V h => (load_3l (hx9.below hx9.lt h)).1, (HLA4.out.below HZ6.out.bel).below hb9, HAL.out, HAW.out, HAZ.out, HLC.out⟩
                · exact ⟨(ma, mk, M, mc), fun V h => (load_3l (hx9.below hx9.lt h)).2.1, (HMA4.out.below HZ6.out.bel).below hb9, Nat.le_trans HQM.out.l (by decide), HQM.out.w, HQM.out.z, HLQ.out.c⟩
                · exact ⟨(a9, k9, N, mc), fun V h => (load_3l (hx9.below hx9.lt h)).2.2, HZ6.out.cs.1.below hb9, Nat.le_trans HQN.out.l (by decide), HQN.out.w, HQN.out.z, HNC.out⟩
              clear hb9 hx9 hg109
              go_upto_region 18 with fail
              apply wp_region_lit
              refine gw_load (by kernel_rfl) (some 106) rfl 25 (.tmp 5) rfl ⟨g0, 0, none⟩ (.agg (lgA la A.length lk lc)) (by kernel_rfl) (load_lg HXL.out) ?_
              simp only [pu1, pu2, pu3, pu4]
              refine gw_load (by kernel_rfl) (some 107) rfl 25 (.tmp 11) rfl ⟨g11, 0, none⟩ (.agg (lgA ma M.length mk mc)) (by kernel_rfl) (load_lg HXM.out) ?_
              simp only [pu1, pu2, pu3, pu4]
              refine gw_load (by kernel_rfl) (some 108) rfl 25 (.tmp 12) rfl ⟨g12, 0, none⟩ (.agg (lgA a9 N.length k9 mc)) (by kernel_rfl) (load_lg HZ6.out.bx) ?_
              simp only [pu1, pu2, pu3, pu4]
              refine gw_build (by kernel_rfl) (some 109) rfl 34 3 #[(0, .tmp 106), (1, .tmp 107), (2, .tmp 108)] rfl #[(0, .agg (lgA la A.length lk lc)), (1, .agg (lgA ma M.length mk mc)), (2, .agg (lgA a9 N.length k9 mc))] (by kernel_rfl) (.slice (some ⟨g109, 0, none⟩) 3 3) _ hbu ?_
              simp only [pu1, pu2, pu3, pu4]
              refine gw_val (by kernel_rfl) (some 110) rfl (.int .i64 3) (by kernel_rfl) ?_
              simp only [pu1, pu2, pu3, pu4]
              refine gw_val (by kernel_rfl) (some 111) rfl (.int .i64 0) (by kernel_rfl) ?_
              simp only [pu1, pu2, pu3, pu4]
              apply wpList_nil
              clear hbu HXL HXM
              go_wp2_with fail
              go_loopg [111] 3 (fun gg s111 wx => ∃ j : Nat, s111 = .int .i64 j ∧ j ≤ 3 ∧ Hid (Below W9.heap.size W9 wx) ∧ 3 - j = gg)
              case atStart => exact ⟨0, rfl, by omega, Lib.hid (Below.refl _ _), by omega⟩
              case round =>
                obtain ⟨j, rfl, hj, HB, hg⟩ := hrel
                have HG := Lib.hid hg
                clear hg
                have HBW := Lib.hid (HB9.out.trans (HB.out.mono HB9.out.size))
                by_cases hlt : j < 3
                · skip
                  obtain ⟨⟨da, dk, D, dc⟩, hld, hdq⟩ := HDQ.out j hlt
                  have HLD : Hid ((Instr.loadAt 25 (.pointer (some ⟨g109, 0 + j * 2, none⟩))).run Try.prog wr = .ok (.agg (lgA da D.length dk dc)) wr) := Lib.hid (hld wr HB.out)
                  have HDD := Lib.hid hdq
                  have HLT := Lib.hid hlt
                  obtain ⟨V1, hst1, hb1, hbx1⟩ := new_lg wr da D.length dk dc
                  clear hld hdq hlt
                  go_upto_region 19 with fail
                  apply wp_region_lit
                  refine gw_val (by kernel_rfl) (some 112) rfl (.bool true) (lss_n rfl (j) (3) (decide_eq_true (by have := HLT.out; omega)) (by kernel_rfl) (by kernel_rfl) _) ?_
                  simp only [pu1, pu2, pu3, pu4]
                  apply wpList_nil
                  go_upto_region 20 with fail
                  apply wp_region_lit
                  refine gw_val (by kernel_rfl) (some 113) rfl (.pointer (some ⟨g109, 0 + j * 2, none⟩)) (idx_lg g109 0 3 3 j HLT.out _ _ _ rfl (by kernel_rfl) (by kernel_rfl)) ?_
                  simp only [pu1, pu2, pu3, pu4]
                  refine gw_load (by kernel_rfl) (some 114) rfl 25 (.tmp 113) rfl ⟨g109, 0 + j * 2, none⟩ (.agg (lgA da D.length dk dc)) (by kernel_rfl) (HLD.out) ?_
                  simp only [pu1, pu2, pu3, pu4]
                  refine run_to rfl (some 17) rfl (.pointer (some ⟨wr.heap.size, 0, none⟩)) (wr.alloc (.cells (lgA none 0 0 0) 25)) (by kernel_rfl) ?_
                  simp only [pu1, pu2, pu3, pu4]
                  refine gw_store (by kernel_rfl) rfl 25 (.tmp 17) (.tmp 114) rfl (.pointer (some ⟨wr.heap.size, 0, none⟩)) (.agg (lgA da D.length dk dc)) (by kernel_rfl) (by kernel_rfl) (V1) (hst1) ?_
                  apply wpList_nil
                  obtain ⟨g17, hg17⟩ : ∃ g, wr.heap.size = g := ⟨_, rfl⟩
                  rw [hg17] at hbx1 ⊢
                  have HX1 := Lib.hid hbx1
                  have HB1 := Lib.hid (HB.out.trans (hb1.mono HB.out.size))
                  have CT := q_total da dk D dc V1 (HDD.out.cs.below HB1.out) HDD.out.l HDD.out.c HDD.out.w
                  have HCU := Lib.hid (fun V h => ref_total da dk D dc V h HDD.out.l HDD.out.c HDD.out.w)
                  obtain ⟨tv, htv⟩ : ∃ tv, totV D dc = tv := ⟨_, rfl⟩
                  obtain ⟨tb, htb⟩ : ∃ tb, totB D dc = tb := ⟨_, rfl⟩
                  obtain ⟨ve, hve⟩ : ∃ ve, valE D dc = ve := ⟨_, rfl⟩
                  rw [htv, htb] at CT HCU
                  have HVV := Lib.hid (fun V h => q_validate da dk D dc V h HDD.out.l HDD.out.c HDD.out.w HDD.out.z)
                  have HVW := Lib.hid (fun V h => ref_validate da dk D dc V h HDD.out.l HDD.out.c HDD.out.w HDD.out.z)
                  rw [hve] at HVV HVW
                  clear hst1 hbx1 hb1 hg17 HLD HB htv htb hve
                  go_upto_region 21 with fail
                  apply wp_region_lit
                  refine gw_load (by kernel_rfl) (some 116) rfl 25 (.tmp 17) rfl ⟨g17, 0, none⟩ (.agg (lgA da D.length dk dc)) (by kernel_rfl) (load_lg HX1.out) ?_
                  simp only [pu1, pu2, pu3, pu4]
                  refine gw_call (by kernel_rfl) (some 117) rfl 13 #[.agg (lgA da D.length dk dc)] (.tuple #[.int .u64 tv, .bool tb]) (fun w' => Below V1.heap.size V1 w') (by kernel_rfl) (CT) (fun V2 h2 => ?_)
                  have HX2 := Lib.hid (HX1.out.below HX1.out.lt h2)
                  have HB2 := Lib.hid (HB1.out.trans (h2.mono HB1.out.size))
                  have CU := HCU.out V2 (HDD.out.cs.below HB2.out)
                  simp only [pu1, pu2, pu3, pu4]
                  refine gw_val (by kernel_rfl) (some 115) rfl (.tuple #[.int .u64 tv, .bool tb]) (by kernel_rfl) ?_
                  simp only [pu1, pu2, pu3, pu4]
                  refine gw_val (by kernel_rfl) (some 118) rfl (.int .u64 tv) (by kernel_rfl) ?_
                  simp only [pu1, pu2, pu3, pu4]
                  refine gw_val (by kernel_rfl) (some 119) rfl (.bool tb) (by kernel_rfl) ?_
                  simp only [pu1, pu2, pu3, pu4]
                  refine gw_val (by kernel_rfl) (some 18) rfl (.int .u64 tv) (by kernel_rfl) ?_
                  simp only [pu1, pu2, pu3, pu4]
                  refine gw_val (by kernel_rfl) (some 19) rfl (.bool tb) (by kernel_rfl) ?_
                  simp only [pu1, pu2, pu3, pu4]
                  apply wpList_nil
                  clear CT h2 HX1 HB1 HCU
                  go_upto_region 22 with fail
                  apply wp_region_lit
                  refine gw_load (by kernel_rfl) (some 121) rfl 25 (.tmp 17) rfl ⟨g17, 0, none⟩ (.agg (lgA da D.length dk dc)) (by kernel_rfl) (load_lg HX2.out) ?_
                  simp only [pu1, pu2, pu3, pu4]
                  refine gw_call (by kernel_rfl) (some 122) rfl 14 #[.agg (lgA da D.length dk dc)] (.tuple #[.int .u64 tv, .bool tb]) (fun w' => Below V2.heap.size V2 w') (by kernel_rfl) (CU) (fun V3 h3 => ?_)
                  have HX3 := Lib.hid (HX2.out.below HX2.out.lt h3)
                  have HB3 := Lib.hid (HB2.out.trans (h3.mono HB2.out.size))
                  simp only [pu1, pu2, pu3, pu4]
                  refine gw_val (by kernel_rfl) (some 120) rfl (.tuple #[.int .u64 tv, .bool tb]) (by kernel_rfl) ?_
                  simp only [pu1, pu2, pu3, pu4]
                  refine gw_val (by kernel_rfl) (some 123) rfl (.int .u64 tv) (by kernel_rfl) ?_
                  simp only [pu1, pu2, pu3, pu4]
                  refine gw_val (by kernel_rfl) (some 124) rfl (.bool tb) (by kernel_rfl) ?_
                  simp only [pu1, pu2, pu3, pu4]
                  refine gw_val (by kernel_rfl) (some 20) rfl (.int .u64 tv) (by kernel_rfl) ?_
                  simp only [pu1, pu2, pu3, pu4]
                  refine gw_val (by kernel_rfl) (some 21) rfl (.bool tb) (by kernel_rfl) ?_
                  simp only [pu1, pu2, pu3, pu4]
                  apply wpList_nil
                  clear CU h3 HX2 HB2
                  go_upto_region 23 with fail
                  refine wp_region_class (C := fun U => Below V3.heap.size V3 U) (by kernel_rfl) (by kernel_rfl) ((Below.refl _ V3).drew) ?_
                  refine gq_load (by kernel_rfl) (some 125) rfl 25 (.tmp 17) rfl ⟨g17, 0, none⟩ (.agg (lgA da D.length dk dc)) (by kernel_rfl) (fun U hU => load_lg (HX3.out.below HX3.out.lt hU)) ?_
                  simp only [pu1, pu2, pu3, pu4]
                  refine gq_call (by kernel_rfl) (some 126) rfl 15 #[.agg (lgA da D.length dk dc)] (.int .i64 ve) (fun U hU => by kernel_rfl) (fun U hU => (HVV.out U (HDD.out.cs.below (HB3.out.trans (hU.mono HB3.out.size)))).mono fun e w' q => ⟨q.1, hU.trans (q.2.mono hU.size)⟩) ?_
                  simp only [pu1, pu2, pu3, pu4]
                  refine gq_load (by kernel_rfl) (some 127) rfl 25 (.tmp 17) rfl ⟨g17, 0, none⟩ (.agg (lgA da D.length dk dc)) (by kernel_rfl) (fun U hU => load_lg (HX3.out.below HX3.out.lt hU)) ?_
                  simp only [pu1, pu2, pu3, pu4]
                  refine gq_call (by kernel_rfl) (some 128) rfl 16 #[.agg (lgA da D.length dk dc)] (.int .i64 ve) (fun U hU => by kernel_rfl) (fun U hU => (HVW.out U (HDD.out.cs.below (HB3.out.trans (hU.mono HB3.out.size)))).mono fun e w' q => ⟨q.1, hU.trans (q.2.mono hU.size)⟩) ?_
                  simp only [pu1, pu2, pu3, pu4]
                  refine gq_val (by kernel_rfl) (some 129) rfl (.bool false) (fun U hU => neq_e rfl ve ve (decide_eq_true rfl) (by kernel_rfl) (by kernel_rfl) _) ?_
                  simp only [pu1, pu2, pu3, pu4]
                  refine gq_val (by kernel_rfl) (some 130) rfl (.bool false) (fun U hU => by kernel_rfl) ?_
                  simp only [pu1, pu2, pu3, pu4]
                  refine gq_val (by kernel_rfl) (some 131) rfl (.int .u64 tv) (fun U hU => by kernel_rfl) ?_
                  simp only [pu1, pu2, pu3, pu4]
                  refine gq_val (by kernel_rfl) (some 132) rfl (.int .u64 tv) (fun U hU => by kernel_rfl) ?_
                  simp only [pu1, pu2, pu3, pu4]
                  refine gq_val (by kernel_rfl) (some 133) rfl (.bool false) (fun U hU => neq_u0 rfl tv (by kernel_rfl) (by kernel_rfl) _) ?_
                  simp only [pu1, pu2, pu3, pu4]
                  refine gq_val (by kernel_rfl) (some 134) rfl (.bool false) (fun U hU => by kernel_rfl) ?_
                  simp only [pu1, pu2, pu3, pu4]
                  refine gq_val (by kernel_rfl) (some 135) rfl (.bool false) (fun U hU => by kernel_rfl) ?_
                  simp only [pu1, pu2, pu3, pu4]
                  refine gq_val (by kernel_rfl) (some 136) rfl (.bool tb) (fun U hU => by kernel_rfl) ?_
                  simp only [pu1, pu2, pu3, pu4]
                  refine gq_val (by kernel_rfl) (some 137) rfl (.bool tb) (fun U hU => by kernel_rfl) ?_
                  simp only [pu1, pu2, pu3, pu4]
                  refine gq_val (by kernel_rfl) (some 138) rfl (.bool false) (fun U hU => neq_bb rfl tb (by kernel_rfl) (by kernel_rfl) _) ?_
                  simp only [pu1, pu2, pu3, pu4]
                  refine gq_val (by kernel_rfl) (some 139) rfl (.bool false) (fun U hU => by kernel_rfl) ?_
                  simp only [pu1, pu2, pu3, pu4]
                  apply wpQuiet_nil
                  intro V4 h4
                  have HB4n := Lib.hid (HB3.out.trans (h4.mono HB3.out.size))
                  clear h4 HX3 HB3 HVV HVW
                  go_upto_region 25 with fail
                  apply wp_region_lit
                  refine gw_val (by kernel_rfl) (some 140) rfl (.int .i64 (j + 1 : Nat)) (add_nat rfl j 1 (by have := HLT.out; omega) (by kernel_rfl) (by kernel_rfl) _) ?_
                  simp only [pu1, pu2, pu3, pu4]
                  refine gw_val (by kernel_rfl) (some 111) rfl (.int .i64 (j + 1 : Nat)) (by kernel_rfl) ?_
                  simp only [pu1, pu2, pu3, pu4]
                  apply wpList_nil
                  go_wp2_with fail
                  go_roundg (3 - (j + 1))
                  case measure => have := HG.out; have := HLT.out; omega
                  case rel => exact ⟨j + 1, rfl, HLT.out, HB4n, rfl⟩
                · skip
                  go_upto_region 19 with fail
                  apply wp_region_lit
                  refine gw_val (by kernel_rfl) (some 112) rfl (.bool false) (lss_n rfl (j) (3) (decide_eq_false (by omega)) (by kernel_rfl) (by kernel_rfl) _) ?_
                  simp only [pu1, pu2, pu3, pu4]
                  apply wpList_nil
                  go_upto_region 26 with fail
                  apply wp_region_lit
                  refine gw_call (by kernel_rfl) (some 141) rfl 10 #[] (.bool true) (fun w' => Below w.heap.size w w') (by kernel_rfl) (HK.out wr (HBW.out)) (fun V9 hV9 => ?_)
                  simp only [pu1, pu2, pu3, pu4]
                  refine gw_val (by kernel_rfl) (some 10) rfl (.bool true) (by kernel_rfl) ?_
                  simp only [pu1, pu2, pu3, pu4]
                  apply wpList_nil
                  have HE := Lib.hid hV9
                  clear hV9
                  go_wp2_with fail
                  go_ret
                  exact ⟨rfl, HE.out⟩
          · skip
            rw [hp] at CQ
            clear hp hp3
            go_upto_region 6 with fail
            apply wp_region_lit
            refine gw_val (by kernel_rfl) (some 52) rfl (.int .i64 x4) (by kernel_rfl) ?_
            simp only [pu1, pu2, pu3, pu4]
            refine gw_call (by kernel_rfl) (some 53) rfl 12 #[.int .i64 x4, .int .i64 3] (.int .i64 1) (fun w' => V5 = w') (by kernel_rfl) (CQ) (fun V9 hV9 => ?_)
            subst hV9
            simp only [pu1, pu2, pu3, pu4]
            apply wpList_nil
            clear CQ
            go_upto_region 13 with fail
            apply wp_region_lit
            refine gw_val (by kernel_rfl) (some 76) rfl (.bool false) (by kernel_rfl) ?_
            simp only [pu1, pu2, pu3, pu4]
            refine gw_val (by kernel_rfl) (some 75) rfl (.bool false) (by kernel_rfl) ?_
            simp only [pu1, pu2, pu3, pu4]
            apply wpList_nil
            go_upto_region 15 with fail
            apply wp_region_lit
            refine gw_val (by kernel_rfl) (some 93) rfl (.bool true) (by kernel_rfl) ?_
            simp only [pu1, pu2, pu3, pu4]
            refine gw_val (by kernel_rfl) (some 92) rfl (.bool true) (by kernel_rfl) ?_
            simp only [pu1, pu2, pu3, pu4]
            apply wpList_nil
            by_cases hlt : i < M.length
            · skip
              go_upto_region 16 with fail
              apply wp_region_lit
              refine gw_val (by kernel_rfl) (some 94) rfl (.int .i64 i) (by kernel_rfl) ?_
              simp only [pu1, pu2, pu3, pu4]
              refine gw_val (by kernel_rfl) (some 95) rfl (.pointer (some ⟨g12, 0, none⟩)) (by kernel_rfl) ?_
              simp only [pu1, pu2, pu3, pu4]
              refine gw_load (by kernel_rfl) (some 96) rfl 22 (.tmp 95) rfl ⟨g12, 0, none⟩ (.slice na M.length nk) (by kernel_rfl) (HZ5.out.bx.load (i := 0) rfl (by kernel_rfl)) ?_
              simp only [pu1, pu2, pu3, pu4]
              refine gw_val (by kernel_rfl) (some 97) rfl (.int .i64 M.length) (by kernel_rfl) ?_
              simp only [pu1, pu2, pu3, pu4]
              refine gw_val (by kernel_rfl) (some 98) rfl (.bool true) (lss_n rfl (i) (M.length) (decide_eq_true (by omega)) (by kernel_rfl) (by kernel_rfl) _) ?_
              simp only [pu1, pu2, pu3, pu4]
              apply wpList_nil
              obtain ⟨gn, en, -, -⟩ := own_at HZ5.out.row (by omega)
              subst en
              obtain ⟨V6, hst6, hz6⟩ := HZ5.out.bal (i := i) hlt a.2.1
              obtain ⟨oi, hoi⟩ : ∃ oi, 0 + i * 3 = oi := ⟨_, rfl⟩
              rw [hoi] at hst6
              have HOI := Lib.hid hoi
              have HLTI := Lib.hid hlt
              have HYG := Lib.hid (HY4.out.below HY4.out.lt HZ5.out.bel)
              clear hoi hlt
              go_upto_region 17 with fail
              apply wp_region_lit
              refine gw_val (by kernel_rfl) (some 99) rfl (.pointer (some ⟨g12, 0, none⟩)) (by kernel_rfl) ?_
              simp only [pu1, pu2, pu3, pu4]
              refine gw_load (by kernel_rfl) (some 100) rfl 22 (.tmp 99) rfl ⟨g12, 0, none⟩ (.slice (some ⟨gn, 0, none⟩) M.length nk) (by kernel_rfl) (HZ5.out.bx.load (i := 0) rfl (by kernel_rfl)) ?_
              simp only [pu1, pu2, pu3, pu4]
              refine gw_val (by kernel_rfl) (some 101) rfl (.int .i64 i) (by kernel_rfl) ?_
              simp only [pu1, pu2, pu3, pu4]
              refine gw_val (by kernel_rfl) (some 102) rfl (.pointer (some ⟨g1, 1, none⟩)) (by kernel_rfl) ?_
              simp only [pu1, pu2, pu3, pu4]
              refine gw_load (by kernel_rfl) (some 103) rfl 23 (.tmp 102) rfl ⟨g1, 1, none⟩ (.int .u64 a.2.1) (by kernel_rfl) (HYG.out.load (i := 1) rfl (by kernel_rfl)) ?_
              simp only [pu1, pu2, pu3, pu4]
              refine gw_val (by kernel_rfl) (some 104) rfl (.pointer (some ⟨gn, oi, none⟩)) (by rw [← HOI.out]; exact idx_ac gn 0 M.length nk i HLTI.out _ _ _ rfl (by kernel_rfl) (by kernel_rfl)) ?_
              simp only [pu1, pu2, pu3, pu4]
              refine gw_val (by kernel_rfl) (some 105) rfl (.pointer (some ⟨gn, oi + 1, none⟩)) (by kernel_rfl) ?_
              simp only [pu1, pu2, pu3, pu4]
              refine gw_store (by kernel_rfl) rfl 23 (.tmp 105) (.tmp 103) rfl (.pointer (some ⟨gn, oi + 1, none⟩)) (.int .u64 a.2.1) (by kernel_rfl) (by kernel_rfl) (V6) (hst6) ?_
              apply wpList_nil
              have hqn : QN (M.set i ((aca M i).1, a.2.1, (aca M i).2.2)) := HQM.out.of (a := ((aca M i).1, a.2.1, (aca M i).2.2)) ⟨⟨HYQ.out.1.1, (HQM.out.w i HLTI.out).2⟩, HQM.out.z (aca M i) (aca_mem HLTI.out)⟩ set_mem (by have := HML.out; rw [List.length_set]; omega)
              generalize M.set i ((aca M i).1, a.2.1, (aca M i).2.2) = N at *
              have HZ6 := Lib.hid hz6
              have HQN := Lib.hid hqn
              have HNC : Hid (W64 mc) := Lib.hid HLQ.out.c
              clear hst6 hz6 hqn HZ5 HYG
              have hbu := build_3l la ma (some ⟨gn, 0, none⟩) A.length M.length N.length lk mk nk lc mc mc V6
              have hb9 : Below V6.heap.size V6 (V6.alloc (.cells (six la ma (some ⟨gn, 0, none⟩) A.length M.length N.length lk mk nk lc mc mc) 25)) := (Below.refl _ V6).alloc (Nat.le_refl _) _
              have hx9 : Bx (V6.alloc (.cells (six la ma (some ⟨gn, 0, none⟩) A.length M.length N.length lk mk nk lc mc mc) 25)) V6.heap.size (six la ma (some ⟨gn, 0, none⟩) A.length M.length N.length lk mk nk lc mc mc) 25 := heap_alloc_last V6 _
              generalize V6.alloc (.cells (six la ma (some ⟨gn, 0, none⟩) A.length M.length N.length lk mk nk lc mc mc) 25) = W9 at *
              have HXL := Lib.hid (HX4.out.below HX4.out.lt HZ6.out.bel)
              have HXM := Lib.hid (HX114.out.below HX114.out.lt HZ6.out.bel)
              have HB9 := Lib.hid (HB4.out.trans ((HZ6.out.bel.trans (hb9.mono HZ6.out.bel.size)).mono HB4.out.size))
              obtain ⟨g109, hg109⟩ : ∃ g, V6.heap.size = g := ⟨_, rfl⟩
              rw [hg109] at hbu hx9
              have HDQ : Hid (∀ k, k < 3 → ∃ d : Ld, (∀ V, Below W9.heap.size W9 V → (Instr.loadAt 25 (.pointer (some ⟨g109, 0 + k * 2, none⟩))).run Try.prog V = .ok (.agg (lgA d.1 d.2.2.1.length d.2.1 d.2.2.2)) V) ∧ DQ W9 d) := Lib.hid fun k hk => by
                rcases (show k = 0 ∨ k = 1 ∨ k = 2 by omega) with rfl | rfl | rfl
                · exact ⟨(la, lk, A, lc), fun V h => (load_3l (hx9.below hx9.lt h)).1, (HLA4.out.below HZ6.out.bel).below hb9, HAL.out, HAW.out, HAZ.out, HLC.out⟩
                · exact ⟨(ma, mk, M, mc), fun V h => (load_3l (hx9.below hx9.lt h)).2.1, (HMA4.out.below HZ6.out.bel).below hb9, Nat.le_trans HQM.out.l (by decide), HQM.out.w, HQM.out.z, HLQ.out.c⟩
                · exact ⟨((some ⟨gn, 0, none⟩), nk, N, mc), fun V h => (load_3l (hx9.below hx9.lt h)).2.2, HZ6.out.cs.1.below hb9, Nat.le_trans HQN.out.l (by decide), HQN.out.w, HQN.out.z, HNC.out⟩
              clear hb9 hx9 hg109
              go_upto_region 18 with fail
              apply wp_region_lit
              refine gw_load (by kernel_rfl) (some 106) rfl 25 (.tmp 5) rfl ⟨g0, 0, none⟩ (.agg (lgA la A.length lk lc)) (by kernel_rfl) (load_lg HXL.out) ?_
              simp only [pu1, pu2, pu3, pu4]
              refine gw_load (by kernel_rfl) (some 107) rfl 25 (.tmp 11) rfl ⟨g11, 0, none⟩ (.agg (lgA ma M.length mk mc)) (by kernel_rfl) (load_lg HXM.out) ?_
              simp only [pu1, pu2, pu3, pu4]
              refine gw_load (by kernel_rfl) (some 108) rfl 25 (.tmp 12) rfl ⟨g12, 0, none⟩ (.agg (lgA (some ⟨gn, 0, none⟩) N.length nk mc)) (by kernel_rfl) (load_lg HZ6.out.bx) ?_
              simp only [pu1, pu2, pu3, pu4]
              refine gw_build (by kernel_rfl) (some 109) rfl 34 3 #[(0, .tmp 106), (1, .tmp 107), (2, .tmp 108)] rfl #[(0, .agg (lgA la A.length lk lc)), (1, .agg (lgA ma M.length mk mc)), (2, .agg (lgA (some ⟨gn, 0, none⟩) N.length nk mc))] (by kernel_rfl) (.slice (some ⟨g109, 0, none⟩) 3 3) _ hbu ?_
              simp only [pu1, pu2, pu3, pu4]
              refine gw_val (by kernel_rfl) (some 110) rfl (.int .i64 3) (by kernel_rfl) ?_
              simp only [pu1, pu2, pu3, pu4]
              refine gw_val (by kernel_rfl) (some 111) rfl (.int .i64 0) (by kernel_rfl) ?_
              simp only [pu1, pu2, pu3, pu4]
              apply wpList_nil
              clear hbu HXL HXM
              go_wp2_with fail
              go_loopg [111] 3 (fun gg s111 wx => ∃ j : Nat, s111 = .int .i64 j ∧ j ≤ 3 ∧ Hid (Below W9.heap.size W9 wx) ∧ 3 - j = gg)
              case atStart => exact ⟨0, rfl, by omega, Lib.hid (Below.refl _ _), by omega⟩
              case round =>
                obtain ⟨j, rfl, hj, HB, hg⟩ := hrel
                have HG := Lib.hid hg
                clear hg
                have HBW := Lib.hid (HB9.out.trans (HB.out.mono HB9.out.size))
                by_cases hlt : j < 3
                · skip
                  obtain ⟨⟨da, dk, D, dc⟩, hld, hdq⟩ := HDQ.out j hlt
                  have HLD : Hid ((Instr.loadAt 25 (.pointer (some ⟨g109, 0 + j * 2, none⟩))).run Try.prog wr = .ok (.agg (lgA da D.length dk dc)) wr) := Lib.hid (hld wr HB.out)
                  have HDD := Lib.hid hdq
                  have HLT := Lib.hid hlt
                  obtain ⟨V1, hst1, hb1, hbx1⟩ := new_lg wr da D.length dk dc
                  clear hld hdq hlt
                  go_upto_region 19 with fail
                  apply wp_region_lit
                  refine gw_val (by kernel_rfl) (some 112) rfl (.bool true) (lss_n rfl (j) (3) (decide_eq_true (by have := HLT.out; omega)) (by kernel_rfl) (by kernel_rfl) _) ?_
                  simp only [pu1, pu2, pu3, pu4]
                  apply wpList_nil
                  go_upto_region 20 with fail
                  apply wp_region_lit
                  refine gw_val (by kernel_rfl) (some 113) rfl (.pointer (some ⟨g109, 0 + j * 2, none⟩)) (idx_lg g109 0 3 3 j HLT.out _ _ _ rfl (by kernel_rfl) (by kernel_rfl)) ?_
                  simp only [pu1, pu2, pu3, pu4]
                  refine gw_load (by kernel_rfl) (some 114) rfl 25 (.tmp 113) rfl ⟨g109, 0 + j * 2, none⟩ (.agg (lgA da D.length dk dc)) (by kernel_rfl) (HLD.out) ?_
                  simp only [pu1, pu2, pu3, pu4]
                  refine run_to rfl (some 17) rfl (.pointer (some ⟨wr.heap.size, 0, none⟩)) (wr.alloc (.cells (lgA none 0 0 0) 25)) (by kernel_rfl) ?_
                  simp only [pu1, pu2, pu3, pu4]
                  refine gw_store (by kernel_rfl) rfl 25 (.tmp 17) (.tmp 114) rfl (.pointer (some ⟨wr.heap.size, 0, none⟩)) (.agg (lgA da D.length dk dc)) (by kernel_rfl) (by kernel_rfl) (V1) (hst1) ?_
                  apply wpList_nil
                  obtain ⟨g17, hg17⟩ : ∃ g, wr.heap.size = g := ⟨_, rfl⟩
                  rw [hg17] at hbx1 ⊢
                  have HX1 := Lib.hid hbx1
                  have HB1 := Lib.hid (HB.out.trans (hb1.mono HB.out.size))
                  have CT := q_total da dk D dc V1 (HDD.out.cs.below HB1.out) HDD.out.l HDD.out.c HDD.out.w
                  have HCU := Lib.hid (fun V h => ref_total da dk D dc V h HDD.out.l HDD.out.c HDD.out.w)
                  obtain ⟨tv, htv⟩ : ∃ tv, totV D dc = tv := ⟨_, rfl⟩
                  obtain ⟨tb, htb⟩ : ∃ tb, totB D dc = tb := ⟨_, rfl⟩
                  obtain ⟨ve, hve⟩ : ∃ ve, valE D dc = ve := ⟨_, rfl⟩
                  rw [htv, htb] at CT HCU
                  have HVV := Lib.hid (fun V h => q_validate da dk D dc V h HDD.out.l HDD.out.c HDD.out.w HDD.out.z)
                  have HVW := Lib.hid (fun V h => ref_validate da dk D dc V h HDD.out.l HDD.out.c HDD.out.w HDD.out.z)
                  rw [hve] at HVV HVW
                  clear hst1 hbx1 hb1 hg17 HLD HB htv htb hve
                  go_upto_region 21 with fail
                  apply wp_region_lit
                  refine gw_load (by kernel_rfl) (some 116) rfl 25 (.tmp 17) rfl ⟨g17, 0, none⟩ (.agg (lgA da D.length dk dc)) (by kernel_rfl) (load_lg HX1.out) ?_
                  simp only [pu1, pu2, pu3, pu4]
                  refine gw_call (by kernel_rfl) (some 117) rfl 13 #[.agg (lgA da D.length dk dc)] (.tuple #[.int .u64 tv, .bool tb]) (fun w' => Below V1.heap.size V1 w') (by kernel_rfl) (CT) (fun V2 h2 => ?_)
                  have HX2 := Lib.hid (HX1.out.below HX1.out.lt h2)
                  have HB2 := Lib.hid (HB1.out.trans (h2.mono HB1.out.size))
                  have CU := HCU.out V2 (HDD.out.cs.below HB2.out)
                  simp only [pu1, pu2, pu3, pu4]
                  refine gw_val (by kernel_rfl) (some 115) rfl (.tuple #[.int .u64 tv, .bool tb]) (by kernel_rfl) ?_
                  simp only [pu1, pu2, pu3, pu4]
                  refine gw_val (by kernel_rfl) (some 118) rfl (.int .u64 tv) (by kernel_rfl) ?_
                  simp only [pu1, pu2, pu3, pu4]
                  refine gw_val (by kernel_rfl) (some 119) rfl (.bool tb) (by kernel_rfl) ?_
                  simp only [pu1, pu2, pu3, pu4]
                  refine gw_val (by kernel_rfl) (some 18) rfl (.int .u64 tv) (by kernel_rfl) ?_
                  simp only [pu1, pu2, pu3, pu4]
                  refine gw_val (by kernel_rfl) (some 19) rfl (.bool tb) (by kernel_rfl) ?_
                  simp only [pu1, pu2, pu3, pu4]
                  apply wpList_nil
                  clear CT h2 HX1 HB1 HCU
                  go_upto_region 22 with fail
                  apply wp_region_lit
                  refine gw_load (by kernel_rfl) (some 121) rfl 25 (.tmp 17) rfl ⟨g17, 0, none⟩ (.agg (lgA da D.length dk dc)) (by kernel_rfl) (load_lg HX2.out) ?_
                  simp only [pu1, pu2, pu3, pu4]
                  refine gw_call (by kernel_rfl) (some 122) rfl 14 #[.agg (lgA da D.length dk dc)] (.tuple #[.int .u64 tv, .bool tb]) (fun w' => Below V2.heap.size V2 w') (by kernel_rfl) (CU) (fun V3 h3 => ?_)
                  have HX3 := Lib.hid (HX2.out.below HX2.out.lt h3)
                  have HB3 := Lib.hid (HB2.out.trans (h3.mono HB2.out.size))
                  simp only [pu1, pu2, pu3, pu4]
                  refine gw_val (by kernel_rfl) (some 120) rfl (.tuple #[.int .u64 tv, .bool tb]) (by kernel_rfl) ?_
                  simp only [pu1, pu2, pu3, pu4]
                  refine gw_val (by kernel_rfl) (some 123) rfl (.int .u64 tv) (by kernel_rfl) ?_
                  simp only [pu1, pu2, pu3, pu4]
                  refine gw_val (by kernel_rfl) (some 124) rfl (.bool tb) (by kernel_rfl) ?_
                  simp only [pu1, pu2, pu3, pu4]
                  refine gw_val (by kernel_rfl) (some 20) rfl (.int .u64 tv) (by kernel_rfl) ?_
                  simp only [pu1, pu2, pu3, pu4]
                  refine gw_val (by kernel_rfl) (some 21) rfl (.bool tb) (by kernel_rfl) ?_
                  simp only [pu1, pu2, pu3, pu4]
                  apply wpList_nil
                  clear CU h3 HX2 HB2
                  go_upto_region 23 with fail
                  refine wp_region_class (C := fun U => Below V3.heap.size V3 U) (by kernel_rfl) (by kernel_rfl) ((Below.refl _ V3).drew) ?_
                  refine gq_load (by kernel_rfl) (some 125) rfl 25 (.tmp 17) rfl ⟨g17, 0, none⟩ (.agg (lgA da D.length dk dc)) (by kernel_rfl) (fun U hU => load_lg (HX3.out.below HX3.out.lt hU)) ?_
                  simp only [pu1, pu2, pu3, pu4]
                  refine gq_call (by kernel_rfl) (some 126) rfl 15 #[.agg (lgA da D.length dk dc)] (.int .i64 ve) (fun U hU => by kernel_rfl) (fun U hU => (HVV.out U (HDD.out.cs.below (HB3.out.trans (hU.mono HB3.out.size)))).mono fun e w' q => ⟨q.1, hU.trans (q.2.mono hU.size)⟩) ?_
                  simp only [pu1, pu2, pu3, pu4]
                  refine gq_load (by kernel_rfl) (some 127) rfl 25 (.tmp 17) rfl ⟨g17, 0, none⟩ (.agg (lgA da D.length dk dc)) (by kernel_rfl) (fun U hU => load_lg (HX3.out.below HX3.out.lt hU)) ?_
                  simp only [pu1, pu2, pu3, pu4]
                  refine gq_call (by kernel_rfl) (some 128) rfl 16 #[.agg (lgA da D.length dk dc)] (.int .i64 ve) (fun U hU => by kernel_rfl) (fun U hU => (HVW.out U (HDD.out.cs.below (HB3.out.trans (hU.mono HB3.out.size)))).mono fun e w' q => ⟨q.1, hU.trans (q.2.mono hU.size)⟩) ?_
                  simp only [pu1, pu2, pu3, pu4]
                  refine gq_val (by kernel_rfl) (some 129) rfl (.bool false) (fun U hU => neq_e rfl ve ve (decide_eq_true rfl) (by kernel_rfl) (by kernel_rfl) _) ?_
                  simp only [pu1, pu2, pu3, pu4]
                  refine gq_val (by kernel_rfl) (some 130) rfl (.bool false) (fun U hU => by kernel_rfl) ?_
                  simp only [pu1, pu2, pu3, pu4]
                  refine gq_val (by kernel_rfl) (some 131) rfl (.int .u64 tv) (fun U hU => by kernel_rfl) ?_
                  simp only [pu1, pu2, pu3, pu4]
                  refine gq_val (by kernel_rfl) (some 132) rfl (.int .u64 tv) (fun U hU => by kernel_rfl) ?_
                  simp only [pu1, pu2, pu3, pu4]
                  refine gq_val (by kernel_rfl) (some 133) rfl (.bool false) (fun U hU => neq_u0 rfl tv (by kernel_rfl) (by kernel_rfl) _) ?_
                  simp only [pu1, pu2, pu3, pu4]
                  refine gq_val (by kernel_rfl) (some 134) rfl (.bool false) (fun U hU => by kernel_rfl) ?_
                  simp only [pu1, pu2, pu3, pu4]
                  refine gq_val (by kernel_rfl) (some 135) rfl (.bool false) (fun U hU => by kernel_rfl) ?_
                  simp only [pu1, pu2, pu3, pu4]
                  refine gq_val (by kernel_rfl) (some 136) rfl (.bool tb) (fun U hU => by kernel_rfl) ?_
                  simp only [pu1, pu2, pu3, pu4]
                  refine gq_val (by kernel_rfl) (some 137) rfl (.bool tb) (fun U hU => by kernel_rfl) ?_
                  simp only [pu1, pu2, pu3, pu4]
                  refine gq_val (by kernel_rfl) (some 138) rfl (.bool false) (fun U hU => neq_bb rfl tb (by kernel_rfl) (by kernel_rfl) _) ?_
                  simp only [pu1, pu2, pu3, pu4]
                  refine gq_val (by kernel_rfl) (some 139) rfl (.bool false) (fun U hU => by kernel_rfl) ?_
                  simp only [pu1, pu2, pu3, pu4]
                  apply wpQuiet_nil
                  intro V4 h4
                  have HB4n := Lib.hid (HB3.out.trans (h4.mono HB3.out.size))
                  clear h4 HX3 HB3 HVV HVW
                  go_upto_region 25 with fail
                  apply wp_region_lit
                  refine gw_val (by kernel_rfl) (some 140) rfl (.int .i64 (j + 1 : Nat)) (add_nat rfl j 1 (by have := HLT.out; omega) (by kernel_rfl) (by kernel_rfl) _) ?_
                  simp only [pu1, pu2, pu3, pu4]
                  refine gw_val (by kernel_rfl) (some 111) rfl (.int .i64 (j + 1 : Nat)) (by kernel_rfl) ?_
                  simp only [pu1, pu2, pu3, pu4]
                  apply wpList_nil
                  go_wp2_with fail
                  go_roundg (3 - (j + 1))
                  case measure => have := HG.out; have := HLT.out; omega
                  case rel => exact ⟨j + 1, rfl, HLT.out, HB4n, rfl⟩
                · skip
                  go_upto_region 19 with fail
                  apply wp_region_lit
                  refine gw_val (by kernel_rfl) (some 112) rfl (.bool false) (lss_n rfl (j) (3) (decide_eq_false (by omega)) (by kernel_rfl) (by kernel_rfl) _) ?_
                  simp only [pu1, pu2, pu3, pu4]
                  apply wpList_nil
                  go_upto_region 26 with fail
                  apply wp_region_lit
                  refine gw_call (by kernel_rfl) (some 141) rfl 10 #[] (.bool true) (fun w' => Below w.heap.size w w') (by kernel_rfl) (HK.out wr (HBW.out)) (fun V9 hV9 => ?_)
                  simp only [pu1, pu2, pu3, pu4]
                  refine gw_val (by kernel_rfl) (some 10) rfl (.bool true) (by kernel_rfl) ?_
                  simp only [pu1, pu2, pu3, pu4]
                  apply wpList_nil
                  have HE := Lib.hid hV9
                  clear hV9
                  go_wp2_with fail
                  go_ret
                  exact ⟨rfl, HE.out⟩
            · skip
              go_upto_region 16 with fail
              apply wp_region_lit
              refine gw_val (by kernel_rfl) (some 94) rfl (.int .i64 i) (by kernel_rfl) ?_
              simp only [pu1, pu2, pu3, pu4]
              refine gw_val (by kernel_rfl) (some 95) rfl (.pointer (some ⟨g12, 0, none⟩)) (by kernel_rfl) ?_
              simp only [pu1, pu2, pu3, pu4]
              refine gw_load (by kernel_rfl) (some 96) rfl 22 (.tmp 95) rfl ⟨g12, 0, none⟩ (.slice na M.length nk) (by kernel_rfl) (HZ5.out.bx.load (i := 0) rfl (by kernel_rfl)) ?_
              simp only [pu1, pu2, pu3, pu4]
              refine gw_val (by kernel_rfl) (some 97) rfl (.int .i64 M.length) (by kernel_rfl) ?_
              simp only [pu1, pu2, pu3, pu4]
              refine gw_val (by kernel_rfl) (some 98) rfl (.bool false) (lss_n rfl (i) (M.length) (decide_eq_false (by omega)) (by kernel_rfl) (by kernel_rfl) _) ?_
              simp only [pu1, pu2, pu3, pu4]
              apply wpList_nil
              have HZ6 := HZ5
              have HQN := HQM
              have HNC : Hid (W64 mc) := Lib.hid HLQ.out.c
              have hbu := build_3l la ma na A.length M.length M.length lk mk nk lc mc mc V5
              have hb9 : Below V5.heap.size V5 (V5.alloc (.cells (six la ma na A.length M.length M.length lk mk nk lc mc mc) 25)) := (Below.refl _ V5).alloc (Nat.le_refl _) _
              have hx9 : Bx (V5.alloc (.cells (six la ma na A.length M.length M.length lk mk nk lc mc mc) 25)) V5.heap.size (six la ma na A.length M.length M.length lk mk nk lc mc mc) 25 := heap_alloc_last V5 _
              generalize V5.alloc (.cells (six la ma na A.length M.length M.length lk mk nk lc mc mc) 25) = W9 at *
              have HXL := Lib.hid (HX4.out.below HX4.out.lt HZ6.out.bel)
              have HXM := Lib.hid (HX114.out.below HX114.out.lt HZ6.out.bel)
              have HB9 := Lib.hid (HB4.out.trans ((HZ6.out.bel.trans (hb9.mono HZ6.out.bel.size)).mono HB4.out.size))
              obtain ⟨g109, hg109⟩ : ∃ g, V5.heap.size = g := ⟨_, rfl⟩
              rw [hg109] at hbu hx9
              have HDQ : Hid (∀ k, k < 3 → ∃ d : Ld, (∀ V, Below W9.heap.size W9 V → (Instr.loadAt 25 (.pointer (some ⟨g109, 0 + k * 2, none⟩))).run Try.prog V = .ok (.agg (lgA d.1 d.2.2.1.length d.2.1 d.2.2.2)) V) ∧ DQ W9 d) := Lib.hid fun k hk => by
                rcases (show k = 0 ∨ k = 1 ∨ k = 2 by omega) with rfl | rfl | rfl
                · exact ⟨(la, lk, A, lc), fun V h => (load_3l (hx9.below hx9.lt h)).1, (HLA4.out.below HZ6.out.bel).below hb9, HAL.out, HAW.out, HAZ.out, HLC.out⟩
                · exact ⟨(ma, mk, M, mc), fun V h => (load_3l (hx9.below hx9.lt h)).2.1, (HMA4.out.below HZ6.out.bel).below hb9, Nat.le_trans HQM.out.l (by decide), HQM.out.w, HQM.out.z, HLQ.out.c⟩
                · exact ⟨(na, nk, M, mc), fun V h => (load_3l (hx9.below hx9.lt h)).2.2, HZ6.out.cs.1.below hb9, Nat.le_trans HQN.out.l (by decide), HQN.out.w, HQN.out.z, HNC.out⟩
              clear hb9 hx9 hg109
              go_upto_region 18 with fail
              apply wp_region_lit
              refine gw_load (by kernel_rfl) (some 106) rfl 25 (.tmp 5) rfl ⟨g0, 0, none⟩ (.agg (lgA la A.length lk lc)) (by kernel_rfl) (load_lg HXL.out) ?_
              simp only [pu1, pu2, pu3, pu4]
              refine gw_load (by kernel_rfl) (some 107) rfl 25 (.tmp 11) rfl ⟨g11, 0, none⟩ (.agg (lgA ma M.length mk mc)) (by kernel_rfl) (load_lg HXM.out) ?_
              simp only [pu1, pu2, pu3, pu4]
              refine gw_load (by kernel_rfl) (some 108) rfl 25 (.tmp 12) rfl ⟨g12, 0, none⟩ (.agg (lgA na M.length nk mc)) (by kernel_rfl) (load_lg HZ6.out.bx) ?_
              simp only [pu1, pu2, pu3, pu4]
              refine gw_build (by kernel_rfl) (some 109) rfl 34 3 #[(0, .tmp 106), (1, .tmp 107), (2, .tmp 108)] rfl #[(0, .agg (lgA la A.length lk lc)), (1, .agg (lgA ma M.length mk mc)), (2, .agg (lgA na M.length nk mc))] (by kernel_rfl) (.slice (some ⟨g109, 0, none⟩) 3 3) _ hbu ?_
              simp only [pu1, pu2, pu3, pu4]
              refine gw_val (by kernel_rfl) (some 110) rfl (.int .i64 3) (by kernel_rfl) ?_
              simp only [pu1, pu2, pu3, pu4]
              refine gw_val (by kernel_rfl) (some 111) rfl (.int .i64 0) (by kernel_rfl) ?_
              simp only [pu1, pu2, pu3, pu4]
              apply wpList_nil
              clear hbu HXL HXM
              go_wp2_with fail
              go_loopg [111] 3 (fun gg s111 wx => ∃ j : Nat, s111 = .int .i64 j ∧ j ≤ 3 ∧ Hid (Below W9.heap.size W9 wx) ∧ 3 - j = gg)
              case atStart => exact ⟨0, rfl, by omega, Lib.hid (Below.refl _ _), by omega⟩
              case round =>
                obtain ⟨j, rfl, hj, HB, hg⟩ := hrel
                have HG := Lib.hid hg
                clear hg
                have HBW := Lib.hid (HB9.out.trans (HB.out.mono HB9.out.size))
                by_cases hlt : j < 3
                · skip
                  obtain ⟨⟨da, dk, D, dc⟩, hld, hdq⟩ := HDQ.out j hlt
                  have HLD : Hid ((Instr.loadAt 25 (.pointer (some ⟨g109, 0 + j * 2, none⟩))).run Try.prog wr = .ok (.agg (lgA da D.length dk dc)) wr) := Lib.hid (hld wr HB.out)
                  have HDD := Lib.hid hdq
                  have HLT := Lib.hid hlt
                  obtain ⟨V1, hst1, hb1, hbx1⟩ := new_lg wr da D.length dk dc
                  clear hld hdq hlt
                  go_upto_region 19 with fail
                  apply wp_region_lit
                  refine gw_val (by kernel_rfl) (some 112) rfl (.bool true) (lss_n rfl (j) (3) (decide_eq_true (by have := HLT.out; omega)) (by kernel_rfl) (by kernel_rfl) _) ?_
                  simp only [pu1, pu2, pu3, pu4]
                  apply wpList_nil
                  go_upto_region 20 with fail
                  apply wp_region_lit
                  refine gw_val (by kernel_rfl) (some 113) rfl (.pointer (some ⟨g109, 0 + j * 2, none⟩)) (idx_lg g109 0 3 3 j HLT.out _ _ _ rfl (by kernel_rfl) (by kernel_rfl)) ?_
                  simp only [pu1, pu2, pu3, pu4]
                  refine gw_load (by kernel_rfl) (some 114) rfl 25 (.tmp 113) rfl ⟨g109, 0 + j * 2, none⟩ (.agg (lgA da D.length dk dc)) (by kernel_rfl) (HLD.out) ?_
                  simp only [pu1, pu2, pu3, pu4]
                  refine run_to rfl (some 17) rfl (.pointer (some ⟨wr.heap.size, 0, none⟩)) (wr.alloc (.cells (lgA none 0 0 0) 25)) (by kernel_rfl) ?_
                  simp only [pu1, pu2, pu3, pu4]
                  refine gw_store (by kernel_rfl) rfl 25 (.tmp 17) (.tmp 114) rfl (.pointer (some ⟨wr.heap.size, 0, none⟩)) (.agg (lgA da D.length dk dc)) (by kernel_rfl) (by kernel_rfl) (V1) (hst1) ?_
                  apply wpList_nil
                  obtain ⟨g17, hg17⟩ : ∃ g, wr.heap.size = g := ⟨_, rfl⟩
                  rw [hg17] at hbx1 ⊢
                  have HX1 := Lib.hid hbx1
                  have HB1 := Lib.hid (HB.out.trans (hb1.mono HB.out.size))
                  have CT := q_total da dk D dc V1 (HDD.out.cs.below HB1.out) HDD.out.l HDD.out.c HDD.out.w
                  have HCU := Lib.hid (fun V h => ref_total da dk D dc V h HDD.out.l HDD.out.c HDD.out.w)
                  obtain ⟨tv, htv⟩ : ∃ tv, totV D dc = tv := ⟨_, rfl⟩
                  obtain ⟨tb, htb⟩ : ∃ tb, totB D dc = tb := ⟨_, rfl⟩
                  obtain ⟨ve, hve⟩ : ∃ ve, valE D dc = ve := ⟨_, rfl⟩
                  rw [htv, htb] at CT HCU
                  have HVV := Lib.hid (fun V h => q_validate da dk D dc V h HDD.out.l HDD.out.c HDD.out.w HDD.out.z)
                  have HVW := Lib.hid (fun V h => ref_validate da dk D dc V h HDD.out.l HDD.out.c HDD.out.w HDD.out.z)
                  rw [hve] at HVV HVW
                  clear hst1 hbx1 hb1 hg17 HLD HB htv htb hve
                  go_upto_region 21 with fail
                  apply wp_region_lit
                  refine gw_load (by kernel_rfl) (some 116) rfl 25 (.tmp 17) rfl ⟨g17, 0, none⟩ (.agg (lgA da D.length dk dc)) (by kernel_rfl) (load_lg HX1.out) ?_
                  simp only [pu1, pu2, pu3, pu4]
                  refine gw_call (by kernel_rfl) (some 117) rfl 13 #[.agg (lgA da D.length dk dc)] (.tuple #[.int .u64 tv, .bool tb]) (fun w' => Below V1.heap.size V1 w') (by kernel_rfl) (CT) (fun V2 h2 => ?_)
                  have HX2 := Lib.hid (HX1.out.below HX1.out.lt h2)
                  have HB2 := Lib.hid (HB1.out.trans (h2.mono HB1.out.size))
                  have CU := HCU.out V2 (HDD.out.cs.below HB2.out)
                  simp only [pu1, pu2, pu3, pu4]
                  refine gw_val (by kernel_rfl) (some 115) rfl (.tuple #[.int .u64 tv, .bool tb]) (by kernel_rfl) ?_
                  simp only [pu1, pu2, pu3, pu4]
                  refine gw_val (by kernel_rfl) (some 118) rfl (.int .u64 tv) (by kernel_rfl) ?_
                  simp only [pu1, pu2, pu3, pu4]
                  refine gw_val (by kernel_rfl) (some 119) rfl (.bool tb) (by kernel_rfl) ?_
                  simp only [pu1, pu2, pu3, pu4]
                  refine gw_val (by kernel_rfl) (some 18) rfl (.int .u64 tv) (by kernel_rfl) ?_
                  simp only [pu1, pu2, pu3, pu4]
                  refine gw_val (by kernel_rfl) (some 19) rfl (.bool tb) (by kernel_rfl) ?_
                  simp only [pu1, pu2, pu3, pu4]
                  apply wpList_nil
                  clear CT h2 HX1 HB1 HCU
                  go_upto_region 22 with fail
                  apply wp_region_lit
                  refine gw_load (by kernel_rfl) (some 121) rfl 25 (.tmp 17) rfl ⟨g17, 0, none⟩ (.agg (lgA da D.length dk dc)) (by kernel_rfl) (load_lg HX2.out) ?_
                  simp only [pu1, pu2, pu3, pu4]
                  refine gw_call (by kernel_rfl) (some 122) rfl 14 #[.agg (lgA da D.length dk dc)] (.tuple #[.int .u64 tv, .bool tb]) (fun w' => Below V2.heap.size V2 w') (by kernel_rfl) (CU) (fun V3 h3 => ?_)
                  have HX3 := Lib.hid (HX2.out.below HX2.out.lt h3)
                  have HB3 := Lib.hid (HB2.out.trans (h3.mono HB2.out.size))
                  simp only [pu1, pu2, pu3, pu4]
                  refine gw_val (by kernel_rfl) (some 120) rfl (.tuple #[.int .u64 tv, .bool tb]) (by kernel_rfl) ?_
                  simp only [pu1, pu2, pu3, pu4]
                  refine gw_val (by kernel_rfl) (some 123) rfl (.int .u64 tv) (by kernel_rfl) ?_
                  simp only [pu1, pu2, pu3, pu4]
                  refine gw_val (by kernel_rfl) (some 124) rfl (.bool tb) (by kernel_rfl) ?_
                  simp only [pu1, pu2, pu3, pu4]
                  refine gw_val (by kernel_rfl) (some 20) rfl (.int .u64 tv) (by kernel_rfl) ?_
                  simp only [pu1, pu2, pu3, pu4]
                  refine gw_val (by kernel_rfl) (some 21) rfl (.bool tb) (by kernel_rfl) ?_
                  simp only [pu1, pu2, pu3, pu4]
                  apply wpList_nil
                  clear CU h3 HX2 HB2
                  go_upto_region 23 with fail
                  refine wp_region_class (C := fun U => Below V3.heap.size V3 U) (by kernel_rfl) (by kernel_rfl) ((Below.refl _ V3).drew) ?_
                  refine gq_load (by kernel_rfl) (some 125) rfl 25 (.tmp 17) rfl ⟨g17, 0, none⟩ (.agg (lgA da D.length dk dc)) (by kernel_rfl) (fun U hU => load_lg (HX3.out.below HX3.out.lt hU)) ?_
                  simp only [pu1, pu2, pu3, pu4]
                  refine gq_call (by kernel_rfl) (some 126) rfl 15 #[.agg (lgA da D.length dk dc)] (.int .i64 ve) (fun U hU => by kernel_rfl) (fun U hU => (HVV.out U (HDD.out.cs.below (HB3.out.trans (hU.mono HB3.out.size)))).mono fun e w' q => ⟨q.1, hU.trans (q.2.mono hU.size)⟩) ?_
                  simp only [pu1, pu2, pu3, pu4]
                  refine gq_load (by kernel_rfl) (some 127) rfl 25 (.tmp 17) rfl ⟨g17, 0, none⟩ (.agg (lgA da D.length dk dc)) (by kernel_rfl) (fun U hU => load_lg (HX3.out.below HX3.out.lt hU)) ?_
                  simp only [pu1, pu2, pu3, pu4]
                  refine gq_call (by kernel_rfl) (some 128) rfl 16 #[.agg (lgA da D.length dk dc)] (.int .i64 ve) (fun U hU => by kernel_rfl) (fun U hU => (HVW.out U (HDD.out.cs.below (HB3.out.trans (hU.mono HB3.out.size)))).mono fun e w' q => ⟨q.1, hU.trans (q.2.mono hU.size)⟩) ?_
                  simp only [pu1, pu2, pu3, pu4]
                  refine gq_val (by kernel_rfl) (some 129) rfl (.bool false) (fun U hU => neq_e rfl ve ve (decide_eq_true rfl) (by kernel_rfl) (by kernel_rfl) _) ?_
                  simp only [pu1, pu2, pu3, pu4]
                  refine gq_val (by kernel_rfl) (some 130) rfl (.bool false) (fun U hU => by kernel_rfl) ?_
                  simp only [pu1, pu2, pu3, pu4]
                  refine gq_val (by kernel_rfl) (some 131) rfl (.int .u64 tv) (fun U hU => by kernel_rfl) ?_
                  simp only [pu1, pu2, pu3, pu4]
                  refine gq_val (by kernel_rfl) (some 132) rfl (.int .u64 tv) (fun U hU => by kernel_rfl) ?_
                  simp only [pu1, pu2, pu3, pu4]
                  refine gq_val (by kernel_rfl) (some 133) rfl (.bool false) (fun U hU => neq_u0 rfl tv (by kernel_rfl) (by kernel_rfl) _) ?_
                  simp only [pu1, pu2, pu3, pu4]
                  refine gq_val (by kernel_rfl) (some 134) rfl (.bool false) (fun U hU => by kernel_rfl) ?_
                  simp only [pu1, pu2, pu3, pu4]
                  refine gq_val (by kernel_rfl) (some 135) rfl (.bool false) (fun U hU => by kernel_rfl) ?_
                  simp only [pu1, pu2, pu3, pu4]
                  refine gq_val (by kernel_rfl) (some 136) rfl (.bool tb) (fun U hU => by kernel_rfl) ?_
                  simp only [pu1, pu2, pu3, pu4]
                  refine gq_val (by kernel_rfl) (some 137) rfl (.bool tb) (fun U hU => by kernel_rfl) ?_
                  simp only [pu1, pu2, pu3, pu4]
                  refine gq_val (by kernel_rfl) (some 138) rfl (.bool false) (fun U hU => neq_bb rfl tb (by kernel_rfl) (by kernel_rfl) _) ?_
                  simp only [pu1, pu2, pu3, pu4]
                  refine gq_val (by kernel_rfl) (some 139) rfl (.bool false) (fun U hU => by kernel_rfl) ?_
                  simp only [pu1, pu2, pu3, pu4]
                  apply wpQuiet_nil
                  intro V4 h4
                  have HB4n := Lib.hid (HB3.out.trans (h4.mono HB3.out.size))
                  clear h4 HX3 HB3 HVV HVW
                  go_upto_region 25 with fail
                  apply wp_region_lit
                  refine gw_val (by kernel_rfl) (some 140) rfl (.int .i64 (j + 1 : Nat)) (add_nat rfl j 1 (by have := HLT.out; omega) (by kernel_rfl) (by kernel_rfl) _) ?_
                  simp only [pu1, pu2, pu3, pu4]
                  refine gw_val (by kernel_rfl) (some 111) rfl (.int .i64 (j + 1 : Nat)) (by kernel_rfl) ?_
                  simp only [pu1, pu2, pu3, pu4]
                  apply wpList_nil
                  go_wp2_with fail
                  go_roundg (3 - (j + 1))
                  case measure => have := HG.out; have := HLT.out; omega
                  case rel => exact ⟨j + 1, rfl, HLT.out, HB4n, rfl⟩
                · skip
                  go_upto_region 19 with fail
                  apply wp_region_lit
                  refine gw_val (by kernel_rfl) (some 112) rfl (.bool false) (lss_n rfl (j) (3) (decide_eq_false (by omega)) (by kernel_rfl) (by kernel_rfl) _) ?_
                  simp only [pu1, pu2, pu3, pu4]
                  apply wpList_nil
                  go_upto_region 26 with fail
                  apply wp_region_lit
                  refine gw_call (by kernel_rfl) (some 141) rfl 10 #[] (.bool true) (fun w' => Below w.heap.size w w') (by kernel_rfl) (HK.out wr (HBW.out)) (fun V9 hV9 => ?_)
                  simp only [pu1, pu2, pu3, pu4]
                  refine gw_val (by kernel_rfl) (some 10) rfl (.bool true) (by kernel_rfl) ?_
                  simp only [pu1, pu2, pu3, pu4]
                  apply wpList_nil
                  have HE := Lib.hid hV9
                  clear hV9
                  go_wp2_with fail
                  go_ret
                  exact ⟨rfl, HE.out⟩
          · skip
            rw [hp] at CQ
            clear hp hp3
            go_upto_region 6 with fail
            apply wp_region_lit
            refine gw_val (by kernel_rfl) (some 52) rfl (.int .i64 x4) (by kernel_rfl) ?_
            simp only [pu1, pu2, pu3, pu4]
            refine gw_call (by kernel_rfl) (some 53) rfl 12 #[.int .i64 x4, .int .i64 3] (.int .i64 2) (fun w' => V5 = w') (by kernel_rfl) (CQ) (fun V9 hV9 => ?_)
            subst hV9
            simp only [pu1, pu2, pu3, pu4]
            apply wpList_nil
            clear CQ
            go_upto_region 13 with fail
            apply wp_region_lit
            refine gw_val (by kernel_rfl) (some 76) rfl (.bool false) (by kernel_rfl) ?_
            simp only [pu1, pu2, pu3, pu4]
            refine gw_val (by kernel_rfl) (some 75) rfl (.bool false) (by kernel_rfl) ?_
            simp only [pu1, pu2, pu3, pu4]
            apply wpList_nil
            go_upto_region 15 with fail
            apply wp_region_lit
            refine gw_val (by kernel_rfl) (some 93) rfl (.bool false) (by kernel_rfl) ?_
            simp only [pu1, pu2, pu3, pu4]
            refine gw_val (by kernel_rfl) (some 92) rfl (.bool false) (by kernel_rfl) ?_
            simp only [pu1, pu2, pu3, pu4]
            apply wpList_nil
            obtain ⟨V6, hst6, hz6⟩ := HZ5.out.coll a.2.1
            have HYG := Lib.hid (HY4.out.below HY4.out.lt HZ5.out.bel)
            have HZ0 : Hid (∃ c, W64 c ∧ NZ W4 g12 na nk M c V6) := Lib.hid ⟨_, HYQ.out.1.1, hz6⟩
            have HX116 := Lib.hid (HX114.out.below HX114.out.lt hz6.bel)
            go_upto_region 7 with fail
            apply wp_region_lit
            refine gw_val (by kernel_rfl) (some 54) rfl (.pointer (some ⟨g1, 1, none⟩)) (by kernel_rfl) ?_
            simp only [pu1, pu2, pu3, pu4]
            refine gw_load (by kernel_rfl) (some 55) rfl 23 (.tmp 54) rfl ⟨g1, 1, none⟩ (.int .u64 a.2.1) (by kernel_rfl) (HYG.out.load (i := 1) rfl (by kernel_rfl)) ?_
            simp only [pu1, pu2, pu3, pu4]
            refine gw_val (by kernel_rfl) (some 56) rfl (.pointer (some ⟨g12, 1, none⟩)) (by kernel_rfl) ?_
            simp only [pu1, pu2, pu3, pu4]
            refine gw_store (by kernel_rfl) rfl 23 (.tmp 56) (.tmp 55) rfl (.pointer (some ⟨g12, 1, none⟩)) (.int .u64 a.2.1) (by kernel_rfl) (by kernel_rfl) (V6) (hst6) ?_
            apply wpList_nil
            clear hst6 hz6 HYG HZ5
            go_upto_region 8 with fail
            apply wp_region_lit
            refine gw_val (by kernel_rfl) (some 57) rfl (.pointer (some ⟨g11, 0, none⟩)) (by kernel_rfl) ?_
            simp only [pu1, pu2, pu3, pu4]
            refine gw_load (by kernel_rfl) (some 58) rfl 22 (.tmp 57) rfl ⟨g11, 0, none⟩ (.slice ma M.length mk) (by kernel_rfl) (HX116.out.load (i := 0) rfl (by kernel_rfl)) ?_
            simp only [pu1, pu2, pu3, pu4]
            refine gw_val (by kernel_rfl) (some 59) rfl (.int .i64 M.length) (by kernel_rfl) ?_
            simp only [pu1, pu2, pu3, pu4]
            refine gw_val (by kernel_rfl) (some 60) rfl (.int .i64 0) (by kernel_rfl) ?_
            simp only [pu1, pu2, pu3, pu4]
            apply wpList_nil
            clear HX116
            go_wp2_with fail
            go_loopg [60] M.length (fun gg s60 wx => ∃ j : Nat, s60 = .int .i64 j ∧ j ≤ M.length ∧ Hid (∃ c, W64 c ∧ NZ W4 g12 na nk M c wx) ∧ M.length - j = gg)
            case atStart => exact ⟨0, rfl, by omega, HZ0, by omega⟩
            case round =>
              clear HZ0
              obtain ⟨j, rfl, hj, HZ, hg⟩ := hrel
              have HG := Lib.hid hg
              clear hg
              obtain ⟨c, hcw, hzc⟩ := HZ.out
              by_cases hlt : j < M.length
              · skip
                obtain ⟨b1, o1, rfl, -, hrx⟩ := ac_range (HMA4.out.below hzc.bel) (k := j) hlt
                have HLD := Lib.hid (load_ac hrx)
                generalize aca M j = x at *
                obtain ⟨V7, hst7, hb7, hbx7⟩ := new_ac wr x
                have HZ7 := Lib.hid (hzc.below hb7)
                have HLT := Lib.hid hlt
                clear hrx hlt hzc HZ
                go_upto_region 9 with fail
                apply wp_region_lit
                refine gw_val (by kernel_rfl) (some 61) rfl (.bool true) (lss_n rfl (j) (M.length) (decide_eq_true (by have := HLT.out; omega)) (by kernel_rfl) (by kernel_rfl) _) ?_
                simp only [pu1, pu2, pu3, pu4]
                apply wpList_nil
                go_upto_region 10 with fail
                apply wp_region_lit
                refine gw_val (by kernel_rfl) (some 62) rfl (.pointer (some ⟨b1, o1 + j * 3, none⟩)) (idx_ac b1 o1 M.length mk j HLT.out _ _ _ rfl (by kernel_rfl) (by kernel_rfl)) ?_
                simp only [pu1, pu2, pu3, pu4]
                refine gw_load (by kernel_rfl) (some 63) rfl 28 (.tmp 62) rfl ⟨b1, o1 + j * 3, none⟩ (.agg (acA x)) (by kernel_rfl) (HLD.out) ?_
                simp only [pu1, pu2, pu3, pu4]
                refine run_to rfl (some 15) rfl (.pointer (some ⟨wr.heap.size, 0, none⟩)) (wr.alloc (.cells (acA zAc) 28)) (by kernel_rfl) ?_
                simp only [pu1, pu2, pu3, pu4]
                refine gw_store (by kernel_rfl) rfl 28 (.tmp 15) (.tmp 63) rfl (.pointer (some ⟨wr.heap.size, 0, none⟩)) (.agg (acA x)) (by kernel_rfl) (by kernel_rfl) (V7) (hst7) ?_
                apply wpList_nil
                obtain ⟨g15, hg15⟩ : ∃ g, wr.heap.size = g := ⟨_, rfl⟩
                rw [hg15] at hbx7 ⊢
                have HX15 := Lib.hid hbx7
                obtain ⟨r69, h69⟩ : ∃ r, bits .and .i64 x3 1 = r := ⟨_, rfl⟩
                obtain ⟨r70, h70⟩ : ∃ r, IntKind.u64.wrap r69 = r := ⟨_, rfl⟩
                obtain ⟨r71, h71⟩ : ∃ r, IntKind.u64.wrap (x.2.1 * r70) = r := ⟨_, rfl⟩
                obtain ⟨r72, h72⟩ : ∃ r, IntKind.u64.wrap (c - r71) = r := ⟨_, rfl⟩
                have hcw2 : W64 r72 := by rw [← h72]; exact wrap_w _
                obtain ⟨V8, hst8, hz8⟩ := HZ7.out.coll r72
                have HZ8 : Hid (∃ c, W64 c ∧ NZ W4 g12 na nk M c V8) := Lib.hid ⟨_, hcw2, hz8⟩
                have H69 := Lib.hid h69
                have H70 := Lib.hid h70
                have H71 := Lib.hid h71
                have H72 := Lib.hid h72
                clear hst7 hbx7 hb7 hg15 HLD h69 h70 h71 h72 hcw2 hz8
                go_upto_region 11 with fail
                apply wp_region_lit
                refine gw_val (by kernel_rfl) (some 64) rfl (.pointer (some ⟨g12, 1, none⟩)) (by kernel_rfl) ?_
                simp only [pu1, pu2, pu3, pu4]
                refine gw_load (by kernel_rfl) (some 65) rfl 23 (.tmp 64) rfl ⟨g12, 1, none⟩ (.int .u64 c) (by kernel_rfl) (HZ7.out.bx.load (i := 1) rfl (by kernel_rfl)) ?_
                simp only [pu1, pu2, pu3, pu4]
                refine gw_val (by kernel_rfl) (some 66) rfl (.pointer (some ⟨g15, 1, none⟩)) (by kernel_rfl) ?_
                simp only [pu1, pu2, pu3, pu4]
                refine gw_load (by kernel_rfl) (some 67) rfl 23 (.tmp 66) rfl ⟨g15, 1, none⟩ (.int .u64 x.2.1) (by kernel_rfl) (HX15.out.load (i := 1) rfl (by kernel_rfl)) ?_
                simp only [pu1, pu2, pu3, pu4]
                refine gw_val (by kernel_rfl) (some 68) rfl (.int .i64 x3) (by kernel_rfl) ?_
                simp only [pu1, pu2, pu3, pu4]
                refine gw_val (by kernel_rfl) (some 69) rfl (.int .i64 r69) (by rw [← H69.out]; exact and_i rfl x3 (by kernel_rfl) (by kernel_rfl) _) ?_
                simp only [pu1, pu2, pu3, pu4]
                refine gw_val (by kernel_rfl) (some 70) rfl (.int .u64 r70) (by rw [← H70.out]; exact conv_u rfl r69 (by kernel_rfl) _) ?_
                simp only [pu1, pu2, pu3, pu4]
                refine gw_val (by kernel_rfl) (some 71) rfl (.int .u64 r71) (by rw [← H71.out]; exact mul_uw rfl x.2.1 r70 (by kernel_rfl) (by kernel_rfl) _) ?_
                simp only [pu1, pu2, pu3, pu4]
                refine gw_val (by kernel_rfl) (some 72) rfl (.int .u64 r72) (by rw [← H72.out]; exact sub_uw rfl c r71 (by kernel_rfl) (by kernel_rfl) _) ?_
                simp only [pu1, pu2, pu3, pu4]
                refine gw_val (by kernel_rfl) (some 73) rfl (.pointer (some ⟨g12, 1, none⟩)) (by kernel_rfl) ?_
                simp only [pu1, pu2, pu3, pu4]
                refine gw_store (by kernel_rfl) rfl 23 (.tmp 73) (.tmp 72) rfl (.pointer (some ⟨g12, 1, none⟩)) (.int .u64 r72) (by kernel_rfl) (by kernel_rfl) (V8) (hst8) ?_
                apply wpList_nil
                clear hst8
                go_upto_region 12 with fail
                apply wp_region_lit
                refine gw_val (by kernel_rfl) (some 74) rfl (.int .i64 (j + 1 : Nat)) (add_nat rfl j 1 (by have := HLT.out; have := HML.out; omega) (by kernel_rfl) (by kernel_rfl) _) ?_
                simp only [pu1, pu2, pu3, pu4]
                refine gw_val (by kernel_rfl) (some 60) rfl (.int .i64 (j + 1 : Nat)) (by kernel_rfl) ?_
                simp only [pu1, pu2, pu3, pu4]
                apply wpList_nil
                go_wp2_with fail
                go_roundg (M.length - (j + 1))
                case measure => have := HG.out; have := HLT.out; omega
                case rel => exact ⟨j + 1, rfl, HLT.out, HZ8, rfl⟩
              · skip
                go_upto_region 9 with fail
                apply wp_region_lit
                refine gw_val (by kernel_rfl) (some 61) rfl (.bool false) (lss_n rfl (j) (M.length) (decide_eq_false (by omega)) (by kernel_rfl) (by kernel_rfl) _) ?_
                simp only [pu1, pu2, pu3, pu4]
                apply wpList_nil
                generalize wr = V6 at *
                have HZ6 := Lib.hid hzc
                have HQN := HQM
                have HNC := Lib.hid hcw
                clear hlt hj HG hzc HZ hcw
                have hbu := build_3l la ma na A.length M.length M.length lk mk nk lc mc c V6
                have hb9 : Below V6.heap.size V6 (V6.alloc (.cells (six la ma na A.length M.length M.length lk mk nk lc mc c) 25)) := (Below.refl _ V6).alloc (Nat.le_refl _) _
                have hx9 : Bx (V6.alloc (.cells (six la ma na A.length M.length M.length lk mk nk lc mc c) 25)) V6.heap.size (six la ma na A.length M.length M.length lk mk nk lc mc c) 25 := heap_alloc_last V6 _
                generalize V6.alloc (.cells (six la ma na A.length M.length M.length lk mk nk lc mc c) 25) = W9 at *
                have HXL := Lib.hid (HX4.out.below HX4.out.lt HZ6.out.bel)
                have HXM := Lib.hid (HX114.out.below HX114.out.lt HZ6.out.bel)
                have HB9 := Lib.hid (HB4.out.trans ((HZ6.out.bel.trans (hb9.mono HZ6.out.bel.size)).mono HB4.out.size))
                obtain ⟨g109, hg109⟩ : ∃ g, V6.heap.size = g := ⟨_, rfl⟩
                rw [hg109] at hbu hx9
                have HDQ : Hid (∀ k, k < 3 → ∃ d : Ld, (∀ V, Below W9.heap.size W9 V → (Instr.loadAt 25 (.pointer (some ⟨g109, 0 + k * 2, none⟩))).run Try.prog V = .ok (.agg (lgA d.1 d.2.2.1.length d.2.1 d.2.2.2)) V) ∧ DQ W9 d) := Lib.hid fun k hk => by
                  rcases (show k = 0 ∨ k = 1 ∨ k = 2 by omega) with rfl | rfl | rfl
                  · exact ⟨(la, lk, A, lc), fun V h => (load_3l (hx9.below hx9.lt h)).1, (HLA4.out.below HZ6.out.bel).below hb9, HAL.out, HAW.out, HAZ.out, HLC.out⟩
                  · exact ⟨(ma, mk, M, mc), fun V h => (load_3l (hx9.below hx9.lt h)).2.1, (HMA4.out.below HZ6.out.bel).below hb9, Nat.le_trans HQM.out.l (by decide), HQM.out.w, HQM.out.z, HLQ.out.c⟩
                  · exact ⟨(na, nk, M, c), fun V h => (load_3l (hx9.below hx9.lt h)).2.2, HZ6.out.cs.1.below hb9, Nat.le_trans HQN.out.l (by decide), HQN.out.w, HQN.out.z, HNC.out⟩
                clear hb9 hx9 hg109
                go_upto_region 18 with fail
                apply wp_region_lit
                refine gw_load (by kernel_rfl) (some 106) rfl 25 (.tmp 5) rfl ⟨g0, 0, none⟩ (.agg (lgA la A.length lk lc)) (by kernel_rfl) (load_lg HXL.out) ?_
                simp only [pu1, pu2, pu3, pu4]
                refine gw_load (by kernel_rfl) (some 107) rfl 25 (.tmp 11) rfl ⟨g11, 0, none⟩ (.agg (lgA ma M.length mk mc)) (by kernel_rfl) (load_lg HXM.out) ?_
                simp only [pu1, pu2, pu3, pu4]
                refine gw_load (by kernel_rfl) (some 108) rfl 25 (.tmp 12) rfl ⟨g12, 0, none⟩ (.agg (lgA na M.length nk c)) (by kernel_rfl) (load_lg HZ6.out.bx) ?_
                simp only [pu1, pu2, pu3, pu4]
                refine gw_build (by kernel_rfl) (some 109) rfl 34 3 #[(0, .tmp 106), (1, .tmp 107), (2, .tmp 108)] rfl #[(0, .agg (lgA la A.length lk lc)), (1, .agg (lgA ma M.length mk mc)), (2, .agg (lgA na M.length nk c))] (by kernel_rfl) (.slice (some ⟨g109, 0, none⟩) 3 3) _ hbu ?_
                simp only [pu1, pu2, pu3, pu4]
                refine gw_val (by kernel_rfl) (some 110) rfl (.int .i64 3) (by kernel_rfl) ?_
                simp only [pu1, pu2, pu3, pu4]
                refine gw_val (by kernel_rfl) (some 111) rfl (.int .i64 0) (by kernel_rfl) ?_
                simp only [pu1, pu2, pu3, pu4]
                apply wpList_nil
                clear hbu HXL HXM
                go_wp2_with fail
                go_loopg [111] 3 (fun gg s111 wx => ∃ j : Nat, s111 = .int .i64 j ∧ j ≤ 3 ∧ Hid (Below W9.heap.size W9 wx) ∧ 3 - j = gg)
                case atStart => exact ⟨0, rfl, by omega, Lib.hid (Below.refl _ _), by omega⟩
                case round =>
                  obtain ⟨j, rfl, hj, HB, hg⟩ := hrel
                  have HG := Lib.hid hg
                  clear hg
                  have HBW := Lib.hid (HB9.out.trans (HB.out.mono HB9.out.size))
                  by_cases hlt : j < 3
                  · skip
                    obtain ⟨⟨da, dk, D, dc⟩, hld, hdq⟩ := HDQ.out j hlt
                    have HLD : Hid ((Instr.loadAt 25 (.pointer (some ⟨g109, 0 + j * 2, none⟩))).run Try.prog wr = .ok (.agg (lgA da D.length dk dc)) wr) := Lib.hid (hld wr HB.out)
                    have HDD := Lib.hid hdq
                    have HLT := Lib.hid hlt
                    obtain ⟨V1, hst1, hb1, hbx1⟩ := new_lg wr da D.length dk dc
                    clear hld hdq hlt
                    go_upto_region 19 with fail
                    apply wp_region_lit
                    refine gw_val (by kernel_rfl) (some 112) rfl (.bool true) (lss_n rfl (j) (3) (decide_eq_true (by have := HLT.out; omega)) (by kernel_rfl) (by kernel_rfl) _) ?_
                    simp only [pu1, pu2, pu3, pu4]
                    apply wpList_nil
                    go_upto_region 20 with fail
                    apply wp_region_lit
                    refine gw_val (by kernel_rfl) (some 113) rfl (.pointer (some ⟨g109, 0 + j * 2, none⟩)) (idx_lg g109 0 3 3 j HLT.out _ _ _ rfl (by kernel_rfl) (by kernel_rfl)) ?_
                    simp only [pu1, pu2, pu3, pu4]
                    refine gw_load (by kernel_rfl) (some 114) rfl 25 (.tmp 113) rfl ⟨g109, 0 + j * 2, none⟩ (.agg (lgA da D.length dk dc)) (by kernel_rfl) (HLD.out) ?_
                    simp only [pu1, pu2, pu3, pu4]
                    refine run_to rfl (some 17) rfl (.pointer (some ⟨wr.heap.size, 0, none⟩)) (wr.alloc (.cells (lgA none 0 0 0) 25)) (by kernel_rfl) ?_
                    simp only [pu1, pu2, pu3, pu4]
                    refine gw_store (by kernel_rfl) rfl 25 (.tmp 17) (.tmp 114) rfl (.pointer (some ⟨wr.heap.size, 0, none⟩)) (.agg (lgA da D.length dk dc)) (by kernel_rfl) (by kernel_rfl) (V1) (hst1) ?_
                    apply wpList_nil
                    obtain ⟨g17, hg17⟩ : ∃ g, wr.heap.size = g := ⟨_, rfl⟩
                    rw [hg17] at hbx1 ⊢
                    have HX1 := Lib.hid hbx1
                    have HB1 := Lib.hid (HB.out.trans (hb1.mono HB.out.size))
                    have CT := q_total da dk D dc V1 (HDD.out.cs.below HB1.out) HDD.out.l HDD.out.c HDD.out.w
                    have HCU := Lib.hid (fun V h => ref_total da dk D dc V h HDD.out.l HDD.out.c HDD.out.w)
                    obtain ⟨tv, htv⟩ : ∃ tv, totV D dc = tv := ⟨_, rfl⟩
                    obtain ⟨tb, htb⟩ : ∃ tb, totB D dc = tb := ⟨_, rfl⟩
                    obtain ⟨ve, hve⟩ : ∃ ve, valE D dc = ve := ⟨_, rfl⟩
                    rw [htv, htb] at CT HCU
                    have HVV := Lib.hid (fun V h => q_validate da dk D dc V h HDD.out.l HDD.out.c HDD.out.w HDD.out.z)
                    have HVW := Lib.hid (fun V h => ref_validate da dk D dc V h HDD.out.l HDD.out.c HDD.out.w HDD.out.z)
                    rw [hve] at HVV HVW
                    clear hst1 hbx1 hb1 hg17 HLD HB htv htb hve
                    go_upto_region 21 with fail
                    apply wp_region_lit
                    refine gw_load (by kernel_rfl) (some 116) rfl 25 (.tmp 17) rfl ⟨g17, 0, none⟩ (.agg (lgA da D.length dk dc)) (by kernel_rfl) (load_lg HX1.out) ?_
                    simp only [pu1, pu2, pu3, pu4]
                    refine gw_call (by kernel_rfl) (some 117) rfl 13 #[.agg (lgA da D.length dk dc)] (.tuple #[.int .u64 tv, .bool tb]) (fun w' => Below V1.heap.size V1 w') (by kernel_rfl) (CT) (fun V2 h2 => ?_)
                    have HX2 := Lib.hid (HX1.out.below HX1.out.lt h2)
                    have HB2 := Lib.hid (HB1.out.trans (h2.mono HB1.out.size))
                    have CU := HCU.out V2 (HDD.out.cs.below HB2.out)
                    simp only [pu1, pu2, pu3, pu4]
                    refine gw_val (by kernel_rfl) (some 115) rfl (.tuple #[.int .u64 tv, .bool tb]) (by kernel_rfl) ?_
                    simp only [pu1, pu2, pu3, pu4]
                    refine gw_val (by kernel_rfl) (some 118) rfl (.int .u64 tv) (by kernel_rfl) ?_
                    simp only [pu1, pu2, pu3, pu4]
                    refine gw_val (by kernel_rfl) (some 119) rfl (.bool tb) (by kernel_rfl) ?_
                    simp only [pu1, pu2, pu3, pu4]
                    refine gw_val (by kernel_rfl) (some 18) rfl (.int .u64 tv) (by kernel_rfl) ?_
                    simp only [pu1, pu2, pu3, pu4]
                    refine gw_val (by kernel_rfl) (some 19) rfl (.bool tb) (by kernel_rfl) ?_
                    simp only [pu1, pu2, pu3, pu4]
                    apply wpList_nil
                    clear CT h2 HX1 HB1 HCU
                    go_upto_region 22 with fail
                    apply wp_region_lit
                    refine gw_load (by kernel_rfl) (some 121) rfl 25 (.tmp 17) rfl ⟨g17, 0, none⟩ (.agg (lgA da D.length dk dc)) (by kernel_rfl) (load_lg HX2.out) ?_
                    simp only [pu1, pu2, pu3, pu4]
                    refine gw_call (by kernel_rfl) (some 122) rfl 14 #[.agg (lgA da D.length dk dc)] (.tuple #[.int .u64 tv, .bool tb]) (fun w' => Below V2.heap.size V2 w') (by kernel_rfl) (CU) (fun V3 h3 => ?_)
                    have HX3 := Lib.hid (HX2.out.below HX2.out.lt h3)
                    have HB3 := Lib.hid (HB2.out.trans (h3.mono HB2.out.size))
                    simp only [pu1, pu2, pu3, pu4]
                    refine gw_val (by kernel_rfl) (some 120) rfl (.tuple #[.int .u64 tv, .bool tb]) (by kernel_rfl) ?_
                    simp only [pu1, pu2, pu3, pu4]
                    refine gw_val (by kernel_rfl) (some 123) rfl (.int .u64 tv) (by kernel_rfl) ?_
                    simp only [pu1, pu2, pu3, pu4]
                    refine gw_val (by kernel_rfl) (some 124) rfl (.bool tb) (by kernel_rfl) ?_
                    simp only [pu1, pu2, pu3, pu4]
                    refine gw_val (by kernel_rfl) (some 20) rfl (.int .u64 tv) (by kernel_rfl) ?_
                    simp only [pu1, pu2, pu3, pu4]
                    refine gw_val (by kernel_rfl) (some 21) rfl (.bool tb) (by kernel_rfl) ?_
                    simp only [pu1, pu2, pu3, pu4]
                    apply wpList_nil
                    clear CU h3 HX2 HB2
                    go_upto_region 23 with fail
                    refine wp_region_class (C := fun U => Below V3.heap.size V3 U) (by kernel_rfl) (by kernel_rfl) ((Below.refl _ V3).drew) ?_
                    refine gq_load (by kernel_rfl) (some 125) rfl 25 (.tmp 17) rfl ⟨g17, 0, none⟩ (.agg (lgA da D.length dk dc)) (by kernel_rfl) (fun U hU => load_lg (HX3.out.below HX3.out.lt hU)) ?_
                    simp only [pu1, pu2, pu3, pu4]
                    refine gq_call (by kernel_rfl) (some 126) rfl 15 #[.agg (lgA da D.length dk dc)] (.int .i64 ve) (fun U hU => by kernel_rfl) (fun U hU => (HVV.out U (HDD.out.cs.below (HB3.out.trans (hU.mono HB3.out.size)))).mono fun e w' q => ⟨q.1, hU.trans (q.2.mono hU.size)⟩) ?_
                    simp only [pu1, pu2, pu3, pu4]
                    refine gq_load (by kernel_rfl) (some 127) rfl 25 (.tmp 17) rfl ⟨g17, 0, none⟩ (.agg (lgA da D.length dk dc)) (by kernel_rfl) (fun U hU => load_lg (HX3.out.below HX3.out.lt hU)) ?_
                    simp only [pu1, pu2, pu3, pu4]
                    refine gq_call (by kernel_rfl) (some 128) rfl 16 #[.agg (lgA da D.length dk dc)] (.int .i64 ve) (fun U hU => by kernel_rfl) (fun U hU => (HVW.out U (HDD.out.cs.below (HB3.out.trans (hU.mono HB3.out.size)))).mono fun e w' q => ⟨q.1, hU.trans (q.2.mono hU.size)⟩) ?_
                    simp only [pu1, pu2, pu3, pu4]
                    refine gq_val (by kernel_rfl) (some 129) rfl (.bool false) (fun U hU => neq_e rfl ve ve (decide_eq_true rfl) (by kernel_rfl) (by kernel_rfl) _) ?_
                    simp only [pu1, pu2, pu3, pu4]
                    refine gq_val (by kernel_rfl) (some 130) rfl (.bool false) (fun U hU => by kernel_rfl) ?_
                    simp only [pu1, pu2, pu3, pu4]
                    refine gq_val (by kernel_rfl) (some 131) rfl (.int .u64 tv) (fun U hU => by kernel_rfl) ?_
                    simp only [pu1, pu2, pu3, pu4]
                    refine gq_val (by kernel_rfl) (some 132) rfl (.int .u64 tv) (fun U hU => by kernel_rfl) ?_
                    simp only [pu1, pu2, pu3, pu4]
                    refine gq_val (by kernel_rfl) (some 133) rfl (.bool false) (fun U hU => neq_u0 rfl tv (by kernel_rfl) (by kernel_rfl) _) ?_
                    simp only [pu1, pu2, pu3, pu4]
                    refine gq_val (by kernel_rfl) (some 134) rfl (.bool false) (fun U hU => by kernel_rfl) ?_
                    simp only [pu1, pu2, pu3, pu4]
                    refine gq_val (by kernel_rfl) (some 135) rfl (.bool false) (fun U hU => by kernel_rfl) ?_
                    simp only [pu1, pu2, pu3, pu4]
                    refine gq_val (by kernel_rfl) (some 136) rfl (.bool tb) (fun U hU => by kernel_rfl) ?_
                    simp only [pu1, pu2, pu3, pu4]
                    refine gq_val (by kernel_rfl) (some 137) rfl (.bool tb) (fun U hU => by kernel_rfl) ?_
                    simp only [pu1, pu2, pu3, pu4]
                    refine gq_val (by kernel_rfl) (some 138) rfl (.bool false) (fun U hU => neq_bb rfl tb (by kernel_rfl) (by kernel_rfl) _) ?_
                    simp only [pu1, pu2, pu3, pu4]
                    refine gq_val (by kernel_rfl) (some 139) rfl (.bool false) (fun U hU => by kernel_rfl) ?_
                    simp only [pu1, pu2, pu3, pu4]
                    apply wpQuiet_nil
                    intro V4 h4
                    have HB4n := Lib.hid (HB3.out.trans (h4.mono HB3.out.size))
                    clear h4 HX3 HB3 HVV HVW
                    go_upto_region 25 with fail
                    apply wp_region_lit
                    refine gw_val (by kernel_rfl) (some 140) rfl (.int .i64 (j + 1 : Nat)) (add_nat rfl j 1 (by have := HLT.out; omega) (by kernel_rfl) (by kernel_rfl) _) ?_
                    simp only [pu1, pu2, pu3, pu4]
                    refine gw_val (by kernel_rfl) (some 111) rfl (.int .i64 (j + 1 : Nat)) (by kernel_rfl) ?_
                    simp only [pu1, pu2, pu3, pu4]
                    apply wpList_nil
                    go_wp2_with fail
                    go_roundg (3 - (j + 1))
                    case measure => have := HG.out; have := HLT.out; omega
                    case rel => exact ⟨j + 1, rfl, HLT.out, HB4n, rfl⟩
                  · skip
                    go_upto_region 19 with fail
                    apply wp_region_lit
                    refine gw_val (by kernel_rfl) (some 112) rfl (.bool false) (lss_n rfl (j) (3) (decide_eq_false (by omega)) (by kernel_rfl) (by kernel_rfl) _) ?_
                    simp only [pu1, pu2, pu3, pu4]
                    apply wpList_nil
                    go_upto_region 26 with fail
                    apply wp_region_lit
                    refine gw_call (by kernel_rfl) (some 141) rfl 10 #[] (.bool true) (fun w' => Below w.heap.size w w') (by kernel_rfl) (HK.out wr (HBW.out)) (fun V9 hV9 => ?_)
                    simp only [pu1, pu2, pu3, pu4]
                    refine gw_val (by kernel_rfl) (some 10) rfl (.bool true) (by kernel_rfl) ?_
                    simp only [pu1, pu2, pu3, pu4]
                    apply wpList_nil
                    have HE := Lib.hid hV9
                    clear hV9
                    go_wp2_with fail
                    go_ret
                    exact ⟨rfl, HE.out⟩
    · skip
      refine gw_val (by kernel_rfl) (some 29) rfl (.bool true) (by kernel_rfl) ?_
      simp only [pu1, pu2, pu3, pu4]
      refine gw_val (by kernel_rfl) (some 30) rfl (.bool true) (by kernel_rfl) ?_
      simp only [pu1, pu2, pu3, pu4]
      with_reducible refine gw_not (by kernel_rfl) (some 31) rfl ?_
      simp only [pu1, pu2, pu3, pu4]
      with_reducible refine gw_not (by kernel_rfl) (some 32) rfl ?_
      simp only [pu1, pu2, pu3, pu4]
      with_reducible refine gw_not (by kernel_rfl) (some 33) rfl ?_
      simp only [pu1, pu2, pu3, pu4]
      with_reducible refine gw_not (by kernel_rfl) (some 34) rfl ?_
      simp only [pu1, pu2, pu3, pu4]
      refine gw_val (by kernel_rfl) (some 35) rfl (.bool true) (by kernel_rfl) ?_
      simp only [pu1, pu2, pu3, pu4]
      apply wpList_nil
      go_upto_region 2 with fail
      apply wp_region_lit
      refine gw_call (by kernel_rfl) (some 36) rfl 10 #[] (.bool true) (fun w' => Below w.heap.size w w') (by kernel_rfl) (HK.out W2 (HB2.out)) (fun V9 hV9 => ?_)
      simp only [pu1, pu2, pu3, pu4]
      refine gw_val (by kernel_rfl) (some 10) rfl (.bool true) (by kernel_rfl) ?_
      simp only [pu1, pu2, pu3, pu4]
      apply wpList_nil
      have HE := Lib.hid hV9
      clear hV9
      go_wp2_with fail
      go_ret
      exact ⟨rfl, HE.out⟩
end Go.Proofs.Ytebnlklodokhkaa
