/-
  The walk of LedgerSets.
-/
import Derived.Test.YtebnlklodokhkaaLX
namespace Go.Proofs.Ytebnlklodokhkaa
open Go.RowKit
set_option linter.unusedSimpArgs false
set_option linter.unusedVariables false

theorem beq_bb (x : ByteArray) : (x == x) = true := by rw [beqB]; exact decide_eq_true rfl
theorem beq_nn {x y : ByteArray} (h : x ≠ y) : (x == y) = false := by rw [beqB]; exact decide_eq_false h
def fiveN : List ByteArray := [⟨#[97, 110, 110]⟩, ⟨#[98, 111, 98]⟩, ⟨#[99, 97, 114, 108]⟩, ⟨#[122, 122]⟩, ⟨#[48]⟩]
theorem fiveN_z : ∀ k, k < 5 → (fiveN.getD k mtS).size ≤ 20 := by decide
theorem build_fiveN (V : World) : (Instr.buildSlice 45 5 #[(0, .string ⟨#[97, 110, 110]⟩), (1, .string ⟨#[98, 111, 98]⟩), (2, .string ⟨#[99, 97, 114, 108]⟩), (3, .string ⟨#[122, 122]⟩), (4, .string ⟨#[48]⟩)]).run Try.prog V = .ok (.slice (some ⟨V.heap.size, 0, none⟩) 5 5) (V.alloc (.cells (strs fiveN).toArray 9)) := by
  obtain ⟨i0, hi, hz0, hz1, hz2⟩ := info_parts infoSt
  refine run_buildSlice V 45 9 5 _ (strs fiveN).toArray i0 _ Try.underlying45 hi hz0 (by rw [hz1]; omega) (by rw [hz1]; omega) ?_
  rw [hz1]
  kernel_rfl
theorem infoLg : (Try.prog.info? 25).map (fun i => (i.zero, i.size, i.bytes)) = some (some (.agg (lgA none 0 0 0)), 2, 32) := by kernel_rfl
theorem build_2l (a a' : Option Addr) (n n' k k' : Nat) (c c' : Int) (V : World) : (Instr.buildSlice 34 2 #[(0, .agg (lgA a n k c)), (1, .agg (lgA a' n' k' c'))]).run Try.prog V = .ok (.slice (some ⟨V.heap.size, 0, none⟩) 2 2) (V.alloc (.cells #[.slice a n k, .int .u64 c, .slice a' n' k', .int .u64 c'] 25)) := by
  obtain ⟨i0, hi, hz0, hz1, hz2⟩ := info_parts infoLg
  refine run_buildSlice V 34 25 2 _ _ i0 _ Try.underlying34 hi hz0 (by rw [hz1]; omega) (by rw [hz1]; omega) ?_
  rw [hz1]
  kernel_rfl
theorem load_2l {w : World} {g t : Nat} {a a' : Option Addr} {n n' k k' : Nat} {c c' : Int} (h : Bx w g #[.slice a n k, .int .u64 c, .slice a' n' k', .int .u64 c'] t) : (Instr.loadAt 25 (.pointer (some ⟨g, 0 + 0 * 2, none⟩))).run Try.prog w = .ok (.agg (lgA a n k c)) w ∧ (Instr.loadAt 25 (.pointer (some ⟨g, 0 + 1 * 2, none⟩))).run Try.prog w = .ok (.agg (lgA a' n' k' c')) w :=
  ⟨run_loadAt_mid w g 0 25 [.slice a n k, .int .u64 c] _ (fun j v hv => by
    rw [cell_of_row w g _ _ _ (0, 0) h]
    match j, hv with
    | 0, hv => simpa using hv
    | 1, hv => simpa using hv) Try.underlying25 rfl (by kernel_rfl),
   run_loadAt_mid w g 2 25 [.slice a' n' k', .int .u64 c'] _ (fun j v hv => by
    rw [cell_of_row w g _ _ _ (0, 0) h]
    match j, hv with
    | 0, hv => simpa using hv
    | 1, hv => simpa using hv) Try.underlying25 rfl (by kernel_rfl)⟩
theorem idx_lg (b off n c k : Nat) (hk : k < n) (V : World) (ρ : Operand → Value) (o : Oper) {x y : Operand} (ho : o.op = .indexAddr 34 x y) (hx : ρ x = .slice (some ⟨b, off, none⟩) n c) (hy : ρ y = .int .i64 k) : (execOp ρ o).run Try.prog V = .ok (.value (.pointer (some ⟨b, off + k * 2, none⟩))) V := by
  have hs : (sizeOf (Try.prog.elem 34)).run Try.prog V = .ok 2 V := by kernel_rfl
  have hlm : (k : Int) < (n : Int) := by omega
  unfold execOp
  simp only [ho, hx, hy]
  go_simp
theorem st_nm {w w0 : World} {g B : Nat} {a : Ac} (s : ByteArray) (h : Bx w g (acA a) 28) (hb : Below B w0 w) (hg : B ≤ g) :
    ∃ V, (Instr.storeAt 9 (.pointer (some ⟨g, 0, none⟩)) (.string s)).run Try.prog w = .ok () V ∧ Bx V g (acA (s, a.2)) 28 ∧ Below B w0 V ∧ But g w V :=
  st_cell h hb hg (by simp) rfl (by kernel_rfl) rfl
theorem st_bl {w w0 : World} {g B : Nat} {a : Ac} (v : Int) (h : Bx w g (acA a) 28) (hb : Below B w0 w) (hg : B ≤ g) :
    ∃ V, (Instr.storeAt 23 (.pointer (some ⟨g, 1, none⟩)) (.int .u64 v)).run Try.prog w = .ok () V ∧ Bx V g (acA (a.1, v, a.2.2)) 28 ∧ Below B w0 V ∧ But g w V :=
  st_cell h hb hg (by simp) rfl (by kernel_rfl) rfl
theorem shr_20 {ρ : Operand → Value} {o : Oper} {x y : Operand} (ho : o.op = .binOp .shr 23 x y 46) (a : Int) (hx : ρ x = .int .u64 a) (hy : ρ y = .int .u64 20) (w : World) : (execOp ρ o).run Try.prog w = .ok (.value (.int .u64 (a / 1048576))) w := by
  unfold execOp
  simp only [ho, hx, hy]
  go_simp
theorem eql_ac0 {ρ : Operand → Value} {o : Oper} {x y : Operand} (ho : o.op = .binOp .eql 28 x y 28) (a : Ac) (hx : ρ x = .agg (acA a)) (hy : ρ y = .agg (acA a)) (w : World) : (execOp ρ o).run Try.prog w = .ok (.value (.bool true)) w := by
  unfold execOp
  simp only [ho, hx, hy]
  go_simp
theorem set_256 (A : List Ac) (c : Int) (a : Ac) : (setX A c a).1.length ≤ 256 := by
  unfold setX
  split
  · exact Nat.zero_le _
  split
  · exact Nat.zero_le _
  split
  · exact Nat.zero_le _
  split
  · show (putL A a).length ≤ 256
    omega
  · exact Nat.zero_le _
/-- An account that is written. -/
structure BQ (b : Ac) : Prop where
  w : W64 b.2.1 ∧ W64 b.2.2
  z : b.1.size ≤ 20
/-- An account that is asked for. -/
structure YQ (b : Ac) : Prop where
  w : W64 b.2.1 ∧ W64 b.2.2
  z : b.1.size ≤ 140737488355328
abbrev Ld := Option Addr × Nat × List Ac × Int
/-- What is known of a ledger that is asked about. -/
structure DQ (W : World) (d : Ld) : Prop where
  cs : Cs W d.1 (acc d.2.2.1)
  k : d.2.2.1.length ≤ d.2.1
  l : d.2.2.1.length ≤ 4398046511104
  w : AcW d.2.2.1
  z : ∀ x, x ∈ d.2.2.1 → x.1.size ≤ 140737488355328
  c : W64 d.2.2.2
set_option maxRecDepth 100000 in
set_option maxHeartbeats 8000000 in
theorem sets_core (la : Option Addr) (lk : Nat) (A : List Ac) (lc : Int) (ak : Option Addr) (ck : Nat) (L : List Int) (a : Ac) (x3 : Int) (w : World) (hla : Cs w la (acc A)) (hlk : A.length ≤ lk) (hn : A.length ≤ 4398046511104) (haw : AcW A) (haz : ∀ x, x ∈ A → x.1.size ≤ 140737488355328) (hlc : W64 lc) (hck : Cs w ak (icells L)) (hl : L.length ≤ 9223372036854775807) (hyq : YQ a) :
    Calls Try.prog 5 #[.agg (lgA la A.length lk lc), .slice ak L.length ck, .agg (acA a), .int .i64 x3] w fun e w' => e = .returned (.bool true) ∧ Below w.heap.size w w' := by
  have HK := Lib.hid (fun (V : World) (h : Below w.heap.size w V) => (known_true V).mono fun e w' (q : e = .returned (.bool true) ∧ Below V.heap.size V w') => (⟨q.1, h.trans (q.2.mono h.size)⟩ : e = .returned (.bool true) ∧ Below w.heap.size w w'))
  obtain ⟨hb0, hX0, hY0⟩ := two_boxes w (lgA la A.length lk lc) (acA a) 25 28
  have HNL := Lib.hid hl
  have HAL := Lib.hid hn
  have HLK := Lib.hid hlk
  have HAW := Lib.hid haw
  have HAZ := Lib.hid haz
  have HLC := Lib.hid hlc
  have HYQ := Lib.hid hyq
  have HLA := Lib.hid (hla.below hb0)
  have HCK := Lib.hid (hck.below hb0)
  clear hla hck hl hn hlk haw haz hlc hyq
  go_enter Try.func5, Try.ntmps5
  go_upto_region 1 with fail
  change Code.wp _ _ _ _ ((w.alloc (.cells (lgA la A.length lk lc) 25)).alloc (.cells (acA a) 28))
  generalize (w.alloc (.cells (lgA la A.length lk lc) 25)).alloc (.cells (acA a) 28) = W at *
  obtain ⟨g0, hg0⟩ : ∃ g0, w.heap.size = g0 := ⟨_, rfl⟩
  obtain ⟨g1, hg1⟩ : ∃ g1, g0 + 1 = g1 := ⟨_, rfl⟩
  have HB0 := Lib.hid hb0
  rw [hg0] at hX0 hY0
  simp only [hg0]
  rw [hg1] at hY0
  simp only [hg1]
  have HX := Lib.hid hX0
  have HY := Lib.hid hY0
  clear hb0 hX0 hY0 hg0 hg1
  have CLn := long_one W.heap.size ak L.length ck (W.alloc (.cells #[.slice ak L.length ck] 26)) (heap_alloc_last W _) HNL.out
  have hor := one_row ak L.length ck W
  have hb1 : Below W.heap.size W (W.alloc (.cells #[.slice ak L.length ck] 26)) := (Below.refl _ W).alloc (Nat.le_refl _) _
  generalize W.alloc (.cells #[.slice ak L.length ck] 26) = W1 at *
  have HB1 := Lib.hid (HB0.out.trans (hb1.mono HB0.out.size))
  have HCK1 := Lib.hid (HCK.out.below hb1)
  have HLA1 := Lib.hid (HLA.out.below hb1)
  have HX1 := Lib.hid (HX.out.below HX.out.lt hb1)
  have HY1 := Lib.hid (HY.out.below HY.out.lt hb1)
  by_cases hlong : 160 < L.length
  · skip
    rw [decide_eq_true (by omega)] at CLn
    apply wp_region_lit
    refine gw_val (by kernel_rfl) (some 27) rfl (.slice ak L.length ck) (by kernel_rfl) ?_
    simp only [pu1, pu2, pu3, pu4]
    refine gw_build (by kernel_rfl) (some 28) rfl 54 1 #[(0, .tmp 27)] rfl #[(0, .slice ak L.length ck)] (by kernel_rfl) (.slice (some ⟨W.heap.size, 0, none⟩) 1 1) _ hor ?_
    simp only [pu1, pu2, pu3, pu4]
    refine gw_call (by kernel_rfl) (some 29) rfl 8 #[.slice (some ⟨W.heap.size, 0, none⟩) 1 1] (.bool true) (fun w' => W1 = w') (by kernel_rfl) (CLn) (fun V9 hV9 => ?_)
    subst hV9
    simp only [pu1, pu2, pu3, pu4]
    refine gw_val (by kernel_rfl) (some 30) rfl (.bool true) (by kernel_rfl) ?_
    simp only [pu1, pu2, pu3, pu4]
    with_reducible refine gw_not (by kernel_rfl) (some 31) rfl ?_
    simp only [pu1, pu2, pu3, pu4]
    with_reducible refine gw_not (by kernel_rfl) (some 32) rfl ?_
    simp only [pu1, pu2, pu3, pu4]
    with_reducible refine gw_not (by kernel_rfl) (some 33) rfl ?_
    simp only [pu1, pu2, pu3, pu4]
    refine gw_val (by kernel_rfl) (some 34) rfl (.bool true) (by kernel_rfl) ?_
    simp only [pu1, pu2, pu3, pu4]
    refine gw_val (by kernel_rfl) (some 35) rfl (.bool true) (by kernel_rfl) ?_
    simp only [pu1, pu2, pu3, pu4]
    with_reducible refine gw_not (by kernel_rfl) (some 36) rfl ?_
    simp only [pu1, pu2, pu3, pu4]
    with_reducible refine gw_not (by kernel_rfl) (some 37) rfl ?_
    simp only [pu1, pu2, pu3, pu4]
    with_reducible refine gw_not (by kernel_rfl) (some 38) rfl ?_
    simp only [pu1, pu2, pu3, pu4]
    with_reducible refine gw_not (by kernel_rfl) (some 39) rfl ?_
    simp only [pu1, pu2, pu3, pu4]
    refine gw_val (by kernel_rfl) (some 40) rfl (.bool true) (by kernel_rfl) ?_
    simp only [pu1, pu2, pu3, pu4]
    apply wpList_nil
    clear CLn hor
    go_upto_region 2 with fail
    apply wp_region_lit
    refine gw_call (by kernel_rfl) (some 41) rfl 10 #[] (.bool true) (fun w' => Below w.heap.size w w') (by kernel_rfl) (HK.out W1 (HB1.out)) (fun V9 hV9 => ?_)
    simp only [pu1, pu2, pu3, pu4]
    refine gw_val (by kernel_rfl) (some 8) rfl (.bool true) (by kernel_rfl) ?_
    simp only [pu1, pu2, pu3, pu4]
    apply wpList_nil
    have HE := Lib.hid hV9
    clear hV9
    go_wp2_with fail
    go_ret
    exact ⟨rfl, HE.out⟩
  · skip
    rw [decide_eq_false (by omega)] at CLn
    have CB := big_any la lk A W1 HLA1.out HAL.out
    apply wp_region_lit
    refine gw_val (by kernel_rfl) (some 27) rfl (.slice ak L.length ck) (by kernel_rfl) ?_
    simp only [pu1, pu2, pu3, pu4]
    refine gw_build (by kernel_rfl) (some 28) rfl 54 1 #[(0, .tmp 27)] rfl #[(0, .slice ak L.length ck)] (by kernel_rfl) (.slice (some ⟨W.heap.size, 0, none⟩) 1 1) _ hor ?_
    simp only [pu1, pu2, pu3, pu4]
    refine gw_call (by kernel_rfl) (some 29) rfl 8 #[.slice (some ⟨W.heap.size, 0, none⟩) 1 1] (.bool false) (fun w' => W1 = w') (by kernel_rfl) (CLn) (fun V9 hV9 => ?_)
    subst hV9
    simp only [pu1, pu2, pu3, pu4]
    refine gw_val (by kernel_rfl) (some 30) rfl (.bool false) (by kernel_rfl) ?_
    simp only [pu1, pu2, pu3, pu4]
    refine gw_val (by kernel_rfl) (some 31) rfl (.pointer (some ⟨g0, 0, none⟩)) (by kernel_rfl) ?_
    simp only [pu1, pu2, pu3, pu4]
    refine gw_load (by kernel_rfl) (some 32) rfl 22 (.tmp 31) rfl ⟨g0, 0, none⟩ (.slice la A.length lk) (by kernel_rfl) (HX1.out.load (i := 0) rfl (by kernel_rfl)) ?_
    simp only [pu1, pu2, pu3, pu4]
    refine gw_callE (by kernel_rfl) (some 33) rfl 9 #[.slice la A.length lk] (fun v w' => ∃ b, v = .bool b ∧ Below W1.heap.size W1 w') (by kernel_rfl) (CB.mono fun e w' q => by obtain ⟨⟨b, h1⟩, h2⟩ := q; exact ⟨_, h1, b, rfl, h2⟩) (fun vv W2 hq => ?_)
    obtain ⟨bg, rfl, hb2⟩ := hq
    simp only [pu1, pu2, pu3, pu4]
    have HB2 := Lib.hid (HB1.out.trans (hb2.mono HB1.out.size))
    have HCK2 := Lib.hid (HCK1.out.below hb2)
    have HLA2 := Lib.hid (HLA1.out.below hb2)
    have HX2 := Lib.hid (HX1.out.below HX1.out.lt hb2)
    have HY2 := Lib.hid (HY1.out.below HY1.out.lt hb2)
    clear CB CLn hor hb1 hb2 HB1 HCK1 HLA1 HX1 HY1 HB0 HCK HLA HX HY
    cases bg
    · skip
      obtain ⟨sz, hsz⟩ : ∃ sz, a.1.size = sz := ⟨_, rfl⟩
      by_cases hs60 : 60 < sz
      · skip
        refine gw_val (by kernel_rfl) (some 34) rfl (.bool false) (by kernel_rfl) ?_
        simp only [pu1, pu2, pu3, pu4]
        refine gw_val (by kernel_rfl) (some 35) rfl (.bool false) (by kernel_rfl) ?_
        simp only [pu1, pu2, pu3, pu4]
        refine gw_val (by kernel_rfl) (some 36) rfl (.pointer (some ⟨g1, 0, none⟩)) (by kernel_rfl) ?_
        simp only [pu1, pu2, pu3, pu4]
        refine gw_load (by kernel_rfl) (some 37) rfl 9 (.tmp 36) rfl ⟨g1, 0, none⟩ (.string a.1) (by kernel_rfl) (HY2.out.load (i := 0) rfl (by kernel_rfl)) ?_
        simp only [pu1, pu2, pu3, pu4]
        refine gw_val (by kernel_rfl) (some 38) rfl (.int .i64 sz) (by rw [← hsz]; kernel_rfl) ?_
        simp only [pu1, pu2, pu3, pu4]
        refine gw_val (by kernel_rfl) (some 39) rfl (.bool true) (gtr_n rfl (sz) (60) (decide_eq_true (by omega)) (by kernel_rfl) (by kernel_rfl) _) ?_
        simp only [pu1, pu2, pu3, pu4]
        refine gw_val (by kernel_rfl) (some 40) rfl (.bool true) (by kernel_rfl) ?_
        simp only [pu1, pu2, pu3, pu4]
        apply wpList_nil
        go_upto_region 2 with fail
        apply wp_region_lit
        refine gw_call (by kernel_rfl) (some 41) rfl 10 #[] (.bool true) (fun w' => Below w.heap.size w w') (by kernel_rfl) (HK.out W2 (HB2.out)) (fun V9 hV9 => ?_)
        simp only [pu1, pu2, pu3, pu4]
        refine gw_val (by kernel_rfl) (some 8) rfl (.bool true) (by kernel_rfl) ?_
        simp only [pu1, pu2, pu3, pu4]
        apply wpList_nil
        have HE := Lib.hid hV9
        clear hV9
        go_wp2_with fail
        go_ret
        exact ⟨rfl, HE.out⟩
      · skip
        refine gw_val (by kernel_rfl) (some 34) rfl (.bool false) (by kernel_rfl) ?_
        simp only [pu1, pu2, pu3, pu4]
        refine gw_val (by kernel_rfl) (some 35) rfl (.bool false) (by kernel_rfl) ?_
        simp only [pu1, pu2, pu3, pu4]
        refine gw_val (by kernel_rfl) (some 36) rfl (.pointer (some ⟨g1, 0, none⟩)) (by kernel_rfl) ?_
        simp only [pu1, pu2, pu3, pu4]
        refine gw_load (by kernel_rfl) (some 37) rfl 9 (.tmp 36) rfl ⟨g1, 0, none⟩ (.string a.1) (by kernel_rfl) (HY2.out.load (i := 0) rfl (by kernel_rfl)) ?_
        simp only [pu1, pu2, pu3, pu4]
        refine gw_val (by kernel_rfl) (some 38) rfl (.int .i64 sz) (by rw [← hsz]; kernel_rfl) ?_
        simp only [pu1, pu2, pu3, pu4]
        refine gw_val (by kernel_rfl) (some 39) rfl (.bool false) (gtr_n rfl (sz) (60) (decide_eq_false (by omega)) (by kernel_rfl) (by kernel_rfl) _) ?_
        simp only [pu1, pu2, pu3, pu4]
        refine gw_val (by kernel_rfl) (some 40) rfl (.bool false) (by kernel_rfl) ?_
        simp only [pu1, pu2, pu3, pu4]
        apply wpList_nil
        have CM := made_any ak ck L W2 HCK2.out (by omega)
        clear hsz hs60
        go_upto_region 3 with fail
        apply wp_region_lit
        refine gw_val (by kernel_rfl) (some 42) rfl (.slice ak L.length ck) (by kernel_rfl) ?_
        simp only [pu1, pu2, pu3, pu4]
        refine gw_callE (by kernel_rfl) (some 43) rfl 11 #[.slice ak L.length ck] (fun v w' => ∃ ad kk P c, v = .agg (lgA ad (List.length P) kk c) ∧ Cs w' ad (acc P) ∧ P.length ≤ kk ∧ LQ P c ∧ Below W2.heap.size W2 w') (by kernel_rfl) (CM.mono fun e w' q => by obtain ⟨ad, kk, P, c, h1, h2⟩ := q; exact ⟨_, h1, ad, kk, P, c, rfl, h2⟩) (fun vv W3 hq => ?_)
        obtain ⟨ma, mk, M, mc, rfl, hcm, hkm, hlq, hb3⟩ := hq
        obtain ⟨W4, hst4, hb4, hbx4⟩ := new_lg W3 ma M.length mk mc
        simp only [pu1, pu2, pu3, pu4]
        refine run_to rfl (some 9) rfl (.pointer (some ⟨W3.heap.size, 0, none⟩)) (W3.alloc (.cells (lgA none 0 0 0) 25)) (by kernel_rfl) ?_
        simp only [pu1, pu2, pu3, pu4]
        refine gw_store (by kernel_rfl) rfl 25 (.tmp 9) (.tmp 43) rfl (.pointer (some ⟨W3.heap.size, 0, none⟩)) (.agg (lgA ma M.length mk mc)) (by kernel_rfl) (by kernel_rfl) (W4) (hst4) ?_
        apply wpList_nil
        obtain ⟨g9, hg9⟩ : ∃ g9, W3.heap.size = g9 := ⟨_, rfl⟩
        have hb34 := hb3.trans (hb4.mono hb3.size)
        obtain ⟨W5, hst5, hb5, hbx5⟩ := new_ac W4 a
        have HB4 := Lib.hid (HB2.out.trans (hb34.mono HB2.out.size))
        have HLA4 := Lib.hid (HLA2.out.below hb34)
        have HX4 := Lib.hid (HX2.out.below HX2.out.lt hb34)
        have HY4 := Lib.hid (HY2.out.below HY2.out.lt hb34)
        have HMA4 := Lib.hid (hcm.below hb4)
        have HMK := Lib.hid hkm
        have HLQ := Lib.hid hlq
        rw [hg9] at hbx4 ⊢
        have HX94 := Lib.hid hbx4
        clear CM hcm hkm hlq hb3 hb4 hbx4 hb34 hg9 hst4 HB2 HCK2 HLA2 HX2 HY2
        go_upto_region 4 with fail
        apply wp_region_lit
        refine gw_load (by kernel_rfl) (some 44) rfl 28 (.tmp 6) rfl ⟨g1, 0, none⟩ (.agg (acA a)) (by kernel_rfl) (load_acb HY4.out) ?_
        simp only [pu1, pu2, pu3, pu4]
        refine run_to rfl (some 10) rfl (.pointer (some ⟨W4.heap.size, 0, none⟩)) (W4.alloc (.cells (acA zAc) 28)) (by kernel_rfl) ?_
        simp only [pu1, pu2, pu3, pu4]
        refine gw_store (by kernel_rfl) rfl 28 (.tmp 10) (.tmp 44) rfl (.pointer (some ⟨W4.heap.size, 0, none⟩)) (.agg (acA a)) (by kernel_rfl) (by kernel_rfl) (W5) (hst5) ?_
        apply wpList_nil
        obtain ⟨g10, hg10⟩ : ∃ g10, W4.heap.size = g10 := ⟨_, rfl⟩
        have hbu := build_fiveN W5
        have hb6 : Below W5.heap.size W5 (W5.alloc (.cells (strs fiveN).toArray 9)) := (Below.refl _ W5).alloc (Nat.le_refl _) _
        have hx6 : Bx (W5.alloc (.cells (strs fiveN).toArray 9)) W5.heap.size (strs fiveN).toArray 9 := heap_alloc_last W5 _
        generalize W5.alloc (.cells (strs fiveN).toArray 9) = W6 at *
        have hb46 := hb5.trans (hb6.mono hb5.size)
        have hX6 := hbx5.below hbx5.lt hb6
        have CP := mk_place x3 5 W6 (by decide) (by decide)
        have hpr := pl_range x3 5 (by decide)
        obtain ⟨q, hq⟩ : ∃ q : Nat, pl x3 5 = q := ⟨(pl x3 5).toNat, by omega⟩
        rw [hq] at CP hpr
        have hq5 : q < 5 := by omega
        have hz5 := fiveN_z q hq5
        have hls := load_str hx6 (k := q) hq5
        generalize fiveN.getD q mtS = nm at *
        obtain ⟨W7, hst7, hx7, hb7, -⟩ := st_nm nm hX6 hb46 (Nat.le_refl _)
        obtain ⟨W8, hst8, hx8, hb8, -⟩ := st_bl (a.2.1 / 1048576) hx7 hb7 (Nat.le_refl _)
        have hx8' : Bx W8 W4.heap.size (acA (nm, a.2.1 / 1048576, a.2.2)) 28 := hx8
        have hbq : BQ (nm, a.2.1 / 1048576, a.2.2) := ⟨⟨⟨by have := HYQ.out.w.1.1; show 0 ≤ a.2.1 / 1048576; omega, by have := HYQ.out.w.1.2; have := HYQ.out.w.1.1; show a.2.1 / 1048576 ≤ _; omega⟩, HYQ.out.w.2⟩, hz5⟩
        have HX7 := Lib.hid hx7
        have HLS := Lib.hid hls
        have HQ5 := Lib.hid hq5
        obtain ⟨oq, hoq⟩ : ∃ oq, 0 + q = oq := ⟨_, rfl⟩
        have HOQ := Lib.hid hoq
        obtain ⟨g45, hg45⟩ : ∃ g45, W5.heap.size = g45 := ⟨_, rfl⟩
        rw [hg45] at hbu HLS
        rw [hoq] at HLS
        have HB8 := Lib.hid (HB4.out.trans (hb8.mono HB4.out.size))
        have HLA8 := Lib.hid (HLA4.out.below hb8)
        have HX8 := Lib.hid (HX4.out.below HX4.out.lt hb8)
        have HY8 := Lib.hid (HY4.out.below HY4.out.lt hb8)
        have HMA8 := Lib.hid (HMA4.out.below hb8)
        have HX98 := Lib.hid (HX94.out.below HX94.out.lt hb8)
        have HBQ := Lib.hid hbq
        have HX108 := Lib.hid hx8'
        rw [hg10] at HX7 HX108 hst7 hst8 ⊢
        clear hoq hpr hq hq5 hz5 hls hx8 hx8' hbq hx7 hb7 hb8 hb46 hX6 hx6 hb6 hb5 hbx5 hst5 hg45 hg10 HB4 HLA4 HX4 HY4 HMA4 HX94
        go_upto_region 5 with fail
        apply wp_region_lit
        refine gw_build (by kernel_rfl) (some 45) rfl 45 5 #[(0, .const (.string ⟨#[97, 110, 110]⟩)), (1, .const (.string ⟨#[98, 111, 98]⟩)), (2, .const (.string ⟨#[99, 97, 114, 108]⟩)), (3, .const (.string ⟨#[122, 122]⟩)), (4, .const (.string ⟨#[48]⟩))] rfl #[(0, .string ⟨#[97, 110, 110]⟩), (1, .string ⟨#[98, 111, 98]⟩), (2, .string ⟨#[99, 97, 114, 108]⟩), (3, .string ⟨#[122, 122]⟩), (4, .string ⟨#[48]⟩)] (by kernel_rfl) (.slice (some ⟨g45, 0, none⟩) 5 5) _ hbu ?_
        simp only [pu1, pu2, pu3, pu4]
        refine gw_val (by kernel_rfl) (some 46) rfl (.int .i64 x3) (by kernel_rfl) ?_
        simp only [pu1, pu2, pu3, pu4]
        refine gw_call (by kernel_rfl) (some 47) rfl 12 #[.int .i64 x3, .int .i64 5] (.int .i64 q) (fun w' => W6 = w') (by kernel_rfl) (CP) (fun V9 hV9 => ?_)
        subst hV9
        simp only [pu1, pu2, pu3, pu4]
        refine gw_val (by kernel_rfl) (some 48) rfl (.pointer (some ⟨g45, oq, none⟩)) (by rw [← HOQ.out]; exact idx_str g45 0 5 5 q HQ5.out _ _ _ rfl (by kernel_rfl) (by kernel_rfl)) ?_
        simp only [pu1, pu2, pu3, pu4]
        refine gw_load (by kernel_rfl) (some 49) rfl 9 (.tmp 48) rfl ⟨g45, oq, none⟩ (.string nm) (by kernel_rfl) (HLS.out) ?_
        simp only [pu1, pu2, pu3, pu4]
        refine gw_val (by kernel_rfl) (some 50) rfl (.pointer (some ⟨g10, 0, none⟩)) (by kernel_rfl) ?_
        simp only [pu1, pu2, pu3, pu4]
        refine gw_store (by kernel_rfl) rfl 9 (.tmp 50) (.tmp 49) rfl (.pointer (some ⟨g10, 0, none⟩)) (.string nm) (by kernel_rfl) (by kernel_rfl) (W7) (hst7) ?_
        apply wpList_nil
        clear hbu CP HLS HQ5 hst7
        go_upto_region 6 with fail
        apply wp_region_lit
        refine gw_val (by kernel_rfl) (some 51) rfl (.pointer (some ⟨g10, 1, none⟩)) (by kernel_rfl) ?_
        simp only [pu1, pu2, pu3, pu4]
        refine gw_load (by kernel_rfl) (some 52) rfl 23 (.tmp 51) rfl ⟨g10, 1, none⟩ (.int .u64 a.2.1) (by kernel_rfl) (HX7.out.load (i := 1) rfl (by kernel_rfl)) ?_
        simp only [pu1, pu2, pu3, pu4]
        refine gw_val (by kernel_rfl) (some 53) rfl (.int .u64 (a.2.1 / 1048576)) (shr_20 rfl a.2.1 (by kernel_rfl) (by kernel_rfl) _) ?_
        simp only [pu1, pu2, pu3, pu4]
        refine gw_val (by kernel_rfl) (some 54) rfl (.pointer (some ⟨g10, 1, none⟩)) (by kernel_rfl) ?_
        simp only [pu1, pu2, pu3, pu4]
        refine gw_store (by kernel_rfl) rfl 23 (.tmp 54) (.tmp 53) rfl (.pointer (some ⟨g10, 1, none⟩)) (.int .u64 (a.2.1 / 1048576)) (by kernel_rfl) (by kernel_rfl) (W8) (hst8) ?_
        apply wpList_nil
        clear hst8 HX7
        generalize (nm, a.2.1 / 1048576, a.2.2) = b at *
        have hbu := build_2l la ma A.length M.length lk mk lc mc W8
        have hb9 : Below W8.heap.size W8 (W8.alloc (.cells #[.slice la A.length lk, .int .u64 lc, .slice ma M.length mk, .int .u64 mc] 25)) := (Below.refl _ W8).alloc (Nat.le_refl _) _
        have hx9 : Bx (W8.alloc (.cells #[.slice la A.length lk, .int .u64 lc, .slice ma M.length mk, .int .u64 mc] 25)) W8.heap.size #[.slice la A.length lk, .int .u64 lc, .slice ma M.length mk, .int .u64 mc] 25 := heap_alloc_last W8 _
        generalize W8.alloc (.cells #[.slice la A.length lk, .int .u64 lc, .slice ma M.length mk, .int .u64 mc] 25) = W9 at *
        have HB9 := Lib.hid (HB8.out.trans (hb9.mono HB8.out.size))
        have HY9 := Lib.hid (HY8.out.below HY8.out.lt hb9)
        have HMA9 := Lib.hid (HMA8.out.below hb9)
        have HX99 := Lib.hid (HX98.out.below HX98.out.lt hb9)
        have HX109 := Lib.hid (HX108.out.below HX108.out.lt hb9)
        obtain ⟨g57, hg57⟩ : ∃ g57, W8.heap.size = g57 := ⟨_, rfl⟩
        rw [hg57] at hbu hx9
        have HDQ : Hid (∀ j, j < 2 → ∃ d : Ld, (∀ V, Below W9.heap.size W9 V → (Instr.loadAt 25 (.pointer (some ⟨g57, 0 + j * 2, none⟩))).run Try.prog V = .ok (.agg (lgA d.1 d.2.2.1.length d.2.1 d.2.2.2)) V) ∧ DQ W9 d) := Lib.hid fun j hj => by
          rcases (show j = 0 ∨ j = 1 by omega) with rfl | rfl
          · exact ⟨(la, lk, A, lc), fun V h => (load_2l (hx9.below hx9.lt h)).1, HLA8.out.below hb9, HLK.out, HAL.out, HAW.out, HAZ.out, HLC.out⟩
          · exact ⟨(ma, mk, M, mc), fun V h => (load_2l (hx9.below hx9.lt h)).2, HMA9.out, HMK.out, Nat.le_trans HLQ.out.l (by decide), HLQ.out.w, HLQ.out.z2, HLQ.out.c⟩
        have HYB : Hid (∀ j, j < 2 → YQ (aca [a, b] j)) := Lib.hid fun j hj => by
          rcases (show j = 0 ∨ j = 1 by omega) with rfl | rfl
          · exact HYQ.out
          · exact ⟨HBQ.out.w, Nat.le_trans HBQ.out.z (by decide)⟩
        clear hb9 hx9 hg57 HLA8 HB8 HMA8 HY8 HX108
        go_upto_region 7 with fail
        apply wp_region_lit
        refine gw_load (by kernel_rfl) (some 55) rfl 25 (.tmp 4) rfl ⟨g0, 0, none⟩ (.agg (lgA la A.length lk lc)) (by kernel_rfl) (load_lg HX8.out) ?_
        simp only [pu1, pu2, pu3, pu4]
        refine gw_load (by kernel_rfl) (some 56) rfl 25 (.tmp 9) rfl ⟨g9, 0, none⟩ (.agg (lgA ma M.length mk mc)) (by kernel_rfl) (load_lg HX98.out) ?_
        simp only [pu1, pu2, pu3, pu4]
        refine gw_build (by kernel_rfl) (some 57) rfl 34 2 #[(0, .tmp 55), (1, .tmp 56)] rfl #[(0, .agg (lgA la A.length lk lc)), (1, .agg (lgA ma M.length mk mc))] (by kernel_rfl) (.slice (some ⟨g57, 0, none⟩) 2 2) _ hbu ?_
        simp only [pu1, pu2, pu3, pu4]
        refine gw_val (by kernel_rfl) (some 58) rfl (.int .i64 2) (by kernel_rfl) ?_
        simp only [pu1, pu2, pu3, pu4]
        refine gw_val (by kernel_rfl) (some 59) rfl (.int .i64 0) (by kernel_rfl) ?_
        simp only [pu1, pu2, pu3, pu4]
        apply wpList_nil
        clear hbu HX8 HX98
        go_wp2_with fail
        go_loopg [59] 2 (fun gg s59 wx => ∃ j : Nat, s59 = .int .i64 j ∧ j ≤ 2 ∧ Hid (Below W9.heap.size W9 wx) ∧ 2 - j = gg)
        case atStart => exact ⟨0, rfl, by omega, Lib.hid (Below.refl _ _), by omega⟩
        case round =>
          obtain ⟨j, rfl, hj, HB, hg⟩ := hrel
          have HG := Lib.hid hg
          clear hg
          by_cases hlt : j < 2
          · skip
            obtain ⟨⟨da, dk, D, dc⟩, hld, hdq⟩ := HDQ.out j hlt
            have HLD : Hid ((Instr.loadAt 25 (.pointer (some ⟨g57, 0 + j * 2, none⟩))).run Try.prog wr = .ok (.agg (lgA da D.length dk dc)) wr) := Lib.hid (hld wr HB.out)
            obtain ⟨oj, hoj⟩ : ∃ oj, 0 + j * 2 = oj := ⟨_, rfl⟩
            have HOJ := Lib.hid hoj
            rw [hoj] at HLD
            have HDD := Lib.hid hdq
            obtain ⟨V12, hst12, hb12, hbx12⟩ := new_lg wr da D.length dk dc
            have HLT := Lib.hid hlt
            clear hld hdq hlt hoj
            go_upto_region 8 with fail
            apply wp_region_lit
            refine gw_val (by kernel_rfl) (some 60) rfl (.bool true) (lss_n rfl (j) (2) (decide_eq_true (by have := HLT.out; omega)) (by kernel_rfl) (by kernel_rfl) _) ?_
            simp only [pu1, pu2, pu3, pu4]
            apply wpList_nil
            go_upto_region 9 with fail
            apply wp_region_lit
            refine gw_val (by kernel_rfl) (some 61) rfl (.pointer (some ⟨g57, oj, none⟩)) (by rw [← HOJ.out]; exact idx_lg g57 0 2 2 j HLT.out _ _ _ rfl (by kernel_rfl) (by kernel_rfl)) ?_
            simp only [pu1, pu2, pu3, pu4]
            refine gw_load (by kernel_rfl) (some 62) rfl 25 (.tmp 61) rfl ⟨g57, oj, none⟩ (.agg (lgA da D.length dk dc)) (by kernel_rfl) (HLD.out) ?_
            simp only [pu1, pu2, pu3, pu4]
            refine run_to rfl (some 12) rfl (.pointer (some ⟨wr.heap.size, 0, none⟩)) (wr.alloc (.cells (lgA none 0 0 0) 25)) (by kernel_rfl) ?_
            simp only [pu1, pu2, pu3, pu4]
            refine gw_store (by kernel_rfl) rfl 25 (.tmp 12) (.tmp 62) rfl (.pointer (some ⟨wr.heap.size, 0, none⟩)) (.agg (lgA da D.length dk dc)) (by kernel_rfl) (by kernel_rfl) (V12) (hst12) ?_
            apply wpList_nil
            obtain ⟨g12, hg12⟩ : ∃ g, wr.heap.size = g := ⟨_, rfl⟩
            rw [hg12] at hbx12 ⊢
            have HB12 := Lib.hid (HB.out.trans (hb12.mono HB.out.size))
            have HX12 := Lib.hid hbx12
            have hbu2 := build_two a b V12
            have hb13 : Below V12.heap.size V12 (V12.alloc (.cells (acc [a, b]).toArray 28)) := (Below.refl _ V12).alloc (Nat.le_refl _) _
            have hc13 : Cs (V12.alloc (.cells (acc [a, b]).toArray 28)) (some ⟨V12.heap.size, 0, none⟩) (acc [a, b]) := Cs.block (t := 28) (fr := (0, 0)) (heap_alloc_last V12 _)
            change (Instr.buildSlice 22 2 _).run Try.prog V12 = .ok _ (V12.alloc (.cells (acc [a, b]).toArray 28)) at hbu2
            generalize V12.alloc (.cells (acc [a, b]).toArray 28) = V13 at *
            obtain ⟨g65, hg65⟩ : ∃ g, V12.heap.size = g := ⟨_, rfl⟩
            rw [hg65] at hbu2 hc13
            have HC13 := Lib.hid hc13
            have HB13 := Lib.hid (HB12.out.trans (hb13.mono HB12.out.size))
            have HX123 := Lib.hid (HX12.out.below HX12.out.lt hb13)
            have HY12 := Lib.hid (HY9.out.below HY9.out.lt HB12.out)
            have HX1012 := Lib.hid (HX109.out.below HX109.out.lt HB12.out)
            clear hst12 hbx12 hb12 hg12 hc13 hb13 hg65 HLD HB
            go_upto_region 10 with fail
            apply wp_region_lit
            refine gw_load (by kernel_rfl) (some 63) rfl 28 (.tmp 6) rfl ⟨g1, 0, none⟩ (.agg (acA a)) (by kernel_rfl) (load_acb HY12.out) ?_
            simp only [pu1, pu2, pu3, pu4]
            refine gw_load (by kernel_rfl) (some 64) rfl 28 (.tmp 10) rfl ⟨g10, 0, none⟩ (.agg (acA b)) (by kernel_rfl) (load_acb HX1012.out) ?_
            simp only [pu1, pu2, pu3, pu4]
            refine gw_build (by kernel_rfl) (some 65) rfl 22 2 #[(0, .tmp 63), (1, .tmp 64)] rfl #[(0, .agg (acA a)), (1, .agg (acA b))] (by kernel_rfl) (.slice (some ⟨g65, 0, none⟩) 2 2) _ hbu2 ?_
            simp only [pu1, pu2, pu3, pu4]
            refine gw_val (by kernel_rfl) (some 66) rfl (.int .i64 2) (by kernel_rfl) ?_
            simp only [pu1, pu2, pu3, pu4]
            refine gw_val (by kernel_rfl) (some 67) rfl (.int .i64 0) (by kernel_rfl) ?_
            simp only [pu1, pu2, pu3, pu4]
            apply wpList_nil
            clear hbu2 HX12 HY12 HX1012 HB12
            go_wp2_with fail
            go_loopg [67] 2 (fun gg s67 wx => ∃ i : Nat, s67 = .int .i64 i ∧ i ≤ 2 ∧ Hid (Below V13.heap.size V13 wx) ∧ 2 - i = gg)
            case atStart => exact ⟨0, rfl, by omega, Lib.hid (Below.refl _ _), by omega⟩
            case round =>
              obtain ⟨i, rfl, hi, HB, hg⟩ := hrel
              have HGI := Lib.hid hg
              clear hg
              by_cases hlt : i < 2
              · skip
                obtain ⟨b1, o1, e1, -, hrx⟩ := ac_range (HC13.out.below HB.out) (k := i) hlt
                simp only [Option.some.injEq, Addr.mk.injEq, and_true] at e1
                obtain ⟨rfl, rfl⟩ := e1
                have HLD := Lib.hid (load_ac hrx)
                have HYY := Lib.hid (HYB.out i hlt)
                generalize aca [a, b] i = y at *
                obtain ⟨V14, hst14, hb14, hbx14⟩ := new_ac wr y
                have HLI := Lib.hid hlt
                clear hrx hlt
                go_upto_region 11 with fail
                apply wp_region_lit
                refine gw_val (by kernel_rfl) (some 68) rfl (.bool true) (lss_n rfl (i) (2) (decide_eq_true (by have := HLI.out; omega)) (by kernel_rfl) (by kernel_rfl) _) ?_
                simp only [pu1, pu2, pu3, pu4]
                apply wpList_nil
                go_upto_region 12 with fail
                apply wp_region_lit
                refine gw_val (by kernel_rfl) (some 69) rfl (.pointer (some ⟨g65, 0 + i * 3, none⟩)) (idx_ac g65 0 2 2 i HLI.out _ _ _ rfl (by kernel_rfl) (by kernel_rfl)) ?_
                simp only [pu1, pu2, pu3, pu4]
                refine gw_load (by kernel_rfl) (some 70) rfl 28 (.tmp 69) rfl ⟨g65, 0 + i * 3, none⟩ (.agg (acA y)) (by kernel_rfl) (HLD.out) ?_
                simp only [pu1, pu2, pu3, pu4]
                refine run_to rfl (some 14) rfl (.pointer (some ⟨wr.heap.size, 0, none⟩)) (wr.alloc (.cells (acA zAc) 28)) (by kernel_rfl) ?_
                simp only [pu1, pu2, pu3, pu4]
                refine gw_store (by kernel_rfl) rfl 28 (.tmp 14) (.tmp 70) rfl (.pointer (some ⟨wr.heap.size, 0, none⟩)) (.agg (acA y)) (by kernel_rfl) (by kernel_rfl) (V14) (hst14) ?_
                apply wpList_nil
                obtain ⟨g14, hg14⟩ : ∃ g, wr.heap.size = g := ⟨_, rfl⟩
                rw [hg14] at hbx14 ⊢
                have HX14 := Lib.hid hbx14
                have HB14 := Lib.hid (HB.out.trans (hb14.mono HB.out.size))
                have HD14 := Lib.hid (HB13.out.trans (HB14.out.mono HB13.out.size))
                have C1 := q_set da dk D dc y V14 (HDD.out.cs.below HD14.out) HDD.out.k HDD.out.l HDD.out.c HDD.out.w HDD.out.z HYY.out.w HYY.out.z
                have hq256 := set_256 D dc y
                obtain ⟨r, hr⟩ : ∃ r, setX D dc y = r := ⟨_, rfl⟩
                rw [hr] at C1 hq256
                have HR := Lib.hid hr
                obtain ⟨Q, dd, ee⟩ := r
                have HQL := Lib.hid hq256
                clear hst14 hbx14 hb14 hg14 hr hq256 HLD HB
                go_upto_region 13 with fail
                apply wp_region_lit
                refine gw_load (by kernel_rfl) (some 72) rfl 25 (.tmp 12) rfl ⟨g12, 0, none⟩ (.agg (lgA da D.length dk dc)) (by kernel_rfl) (load_lg (HX123.out.below HX123.out.lt HB14.out)) ?_
                simp only [pu1, pu2, pu3, pu4]
                refine gw_load (by kernel_rfl) (some 73) rfl 28 (.tmp 14) rfl ⟨g14, 0, none⟩ (.agg (acA y)) (by kernel_rfl) (load_acb HX14.out) ?_
                simp only [pu1, pu2, pu3, pu4]
                refine gw_callE (by kernel_rfl) (some 74) rfl 20 #[.agg (lgA da D.length dk dc), .agg (acA y)] (fun v w' => ∃ ad kk, v = .tuple #[.agg (lgA ad Q.length kk dd), .int .i64 ee] ∧ Cs w' ad (acc Q) ∧ Q.length ≤ kk ∧ Below V14.heap.size V14 w') (by kernel_rfl) ((C1).mono fun e w' q => by obtain ⟨ad, kk, h1, h2, h3⟩ := q; obtain ⟨a9, c9, e9, h4, h5⟩ := own_cs h2; simp only [Value.slice.injEq, true_and] at e9; obtain ⟨rfl, rfl⟩ := e9; exact ⟨_, h1, ad, kk, rfl, h4, h5, h3⟩) (fun vv V15 hq => ?_)
                obtain ⟨a1, k1, rfl, hcV15, hkV15, hbV15⟩ := hq
                obtain ⟨V16, hst16, hb16, hbx16⟩ := new_lg V15 a1 Q.length k1 dd
                simp only [pu1, pu2, pu3, pu4]
                refine gw_val (by kernel_rfl) (some 71) rfl (.tuple #[.agg (lgA a1 Q.length k1 dd), .int .i64 ee]) (by kernel_rfl) ?_
                simp only [pu1, pu2, pu3, pu4]
                refine gw_val (by kernel_rfl) (some 75) rfl (.agg (lgA a1 Q.length k1 dd)) (by kernel_rfl) ?_
                simp only [pu1, pu2, pu3, pu4]
                refine gw_val (by kernel_rfl) (some 76) rfl (.int .i64 ee) (by kernel_rfl) ?_
                simp only [pu1, pu2, pu3, pu4]
                refine run_to rfl (some 15) rfl (.pointer (some ⟨V15.heap.size, 0, none⟩)) (V15.alloc (.cells (lgA none 0 0 0) 25)) (by kernel_rfl) ?_
                simp only [pu1, pu2, pu3, pu4]
                refine gw_store (by kernel_rfl) rfl 25 (.tmp 15) (.tmp 75) rfl (.pointer (some ⟨V15.heap.size, 0, none⟩)) (.agg (lgA a1 Q.length k1 dd)) (by kernel_rfl) (by kernel_rfl) (V16) (hst16) ?_
                refine gw_val (by kernel_rfl) (some 16) rfl (.int .i64 ee) (by kernel_rfl) ?_
                simp only [pu1, pu2, pu3, pu4]
                apply wpList_nil
                obtain ⟨g15, hg15⟩ : ∃ g, V15.heap.size = g := ⟨_, rfl⟩
                have hb156 := hbV15.trans (hb16.mono hbV15.size)
                have HX15 := Lib.hid hbx16
                have HC1 := Lib.hid (hcV15.below hb16)
                have HB16 := Lib.hid (HB14.out.trans (hb156.mono HB14.out.size))
                have HX146 := Lib.hid (HX14.out.below HX14.out.lt hb156)
                have HD16 := Lib.hid (HB13.out.trans (HB16.out.mono HB13.out.size))
                rw [hg15] at HX15 ⊢
                have C2 := ref_set da dk D dc y V16 (HDD.out.cs.below HD16.out) HDD.out.k HDD.out.l HDD.out.c HDD.out.w HDD.out.z HYY.out.w HYY.out.z
                rw [HR.out] at C2
                clear hbx16 hb16 hbV15 hcV15 hkV15 hst16 hg15 hb156 C1 HX14 HB14 HD14
                go_upto_region 14 with fail
                apply wp_region_lit
                refine gw_load (by kernel_rfl) (some 78) rfl 25 (.tmp 12) rfl ⟨g12, 0, none⟩ (.agg (lgA da D.length dk dc)) (by kernel_rfl) (load_lg (HX123.out.below HX123.out.lt HB16.out)) ?_
                simp only [pu1, pu2, pu3, pu4]
                refine gw_load (by kernel_rfl) (some 79) rfl 28 (.tmp 14) rfl ⟨g14, 0, none⟩ (.agg (acA y)) (by kernel_rfl) (load_acb HX146.out) ?_
                simp only [pu1, pu2, pu3, pu4]
                refine gw_callE (by kernel_rfl) (some 80) rfl 21 #[.agg (lgA da D.length dk dc), .agg (acA y)] (fun v w' => ∃ ad kk, v = .tuple #[.agg (lgA ad Q.length kk dd), .int .i64 ee] ∧ Cs w' ad (acc Q) ∧ Q.length ≤ kk ∧ Below V16.heap.size V16 w') (by kernel_rfl) ((C2).mono fun e w' q => by obtain ⟨ad, kk, h1, h2, h3⟩ := q; obtain ⟨a9, c9, e9, h4, h5⟩ := own_cs h2; simp only [Value.slice.injEq, true_and] at e9; obtain ⟨rfl, rfl⟩ := e9; exact ⟨_, h1, ad, kk, rfl, h4, h5, h3⟩) (fun vv V17 hq => ?_)
                obtain ⟨a2, k2, rfl, hcV17, hkV17, hbV17⟩ := hq
                obtain ⟨V18, hst18, hb18, hbx18⟩ := new_lg V17 a2 Q.length k2 dd
                simp only [pu1, pu2, pu3, pu4]
                refine gw_val (by kernel_rfl) (some 77) rfl (.tuple #[.agg (lgA a2 Q.length k2 dd), .int .i64 ee]) (by kernel_rfl) ?_
                simp only [pu1, pu2, pu3, pu4]
                refine gw_val (by kernel_rfl) (some 81) rfl (.agg (lgA a2 Q.length k2 dd)) (by kernel_rfl) ?_
                simp only [pu1, pu2, pu3, pu4]
                refine gw_val (by kernel_rfl) (some 82) rfl (.int .i64 ee) (by kernel_rfl) ?_
                simp only [pu1, pu2, pu3, pu4]
                refine run_to rfl (some 17) rfl (.pointer (some ⟨V17.heap.size, 0, none⟩)) (V17.alloc (.cells (lgA none 0 0 0) 25)) (by kernel_rfl) ?_
                simp only [pu1, pu2, pu3, pu4]
                refine gw_store (by kernel_rfl) rfl 25 (.tmp 17) (.tmp 81) rfl (.pointer (some ⟨V17.heap.size, 0, none⟩)) (.agg (lgA a2 Q.length k2 dd)) (by kernel_rfl) (by kernel_rfl) (V18) (hst18) ?_
                refine gw_val (by kernel_rfl) (some 18) rfl (.int .i64 ee) (by kernel_rfl) ?_
                simp only [pu1, pu2, pu3, pu4]
                apply wpList_nil
                obtain ⟨g17, hg17⟩ : ∃ g, V17.heap.size = g := ⟨_, rfl⟩
                have hb178 := hbV17.trans (hb18.mono hbV17.size)
                have HX17 := Lib.hid hbx18
                have HX158 := Lib.hid (HX15.out.below HX15.out.lt hb178)
                have HB18 := Lib.hid (HB16.out.trans (hb178.mono HB16.out.size))
                have CE := ref_sameled Q dd a1 a2 k1 k2 V18 (HC1.out.below hb178) (hcV17.below hb18) (Nat.le_trans HQL.out (by decide))
                rw [hg17] at HX17 ⊢
                clear hbx18 hb18 hbV17 hcV17 hkV17 hst18 hg17 hb178 C2 HX15 HC1 HB16 HX146 HD16
                go_upto_region 15 with fail
                apply wp_region_lit
                refine gw_val (by kernel_rfl) (some 83) rfl (.int .i64 ee) (by kernel_rfl) ?_
                simp only [pu1, pu2, pu3, pu4]
                refine gw_val (by kernel_rfl) (some 84) rfl (.int .i64 ee) (by kernel_rfl) ?_
                simp only [pu1, pu2, pu3, pu4]
                refine gw_val (by kernel_rfl) (some 85) rfl (.bool false) (neq_e rfl ee ee (decide_eq_true rfl) (by kernel_rfl) (by kernel_rfl) _) ?_
                simp only [pu1, pu2, pu3, pu4]
                refine gw_val (by kernel_rfl) (some 86) rfl (.bool false) (by kernel_rfl) ?_
                simp only [pu1, pu2, pu3, pu4]
                refine gw_load (by kernel_rfl) (some 87) rfl 25 (.tmp 15) rfl ⟨g15, 0, none⟩ (.agg (lgA a1 Q.length k1 dd)) (by kernel_rfl) (load_lg HX158.out) ?_
                simp only [pu1, pu2, pu3, pu4]
                refine gw_load (by kernel_rfl) (some 88) rfl 25 (.tmp 17) rfl ⟨g17, 0, none⟩ (.agg (lgA a2 Q.length k2 dd)) (by kernel_rfl) (load_lg HX17.out) ?_
                simp only [pu1, pu2, pu3, pu4]
                refine gw_call (by kernel_rfl) (some 89) rfl 19 #[.agg (lgA a1 Q.length k1 dd), .agg (lgA a2 Q.length k2 dd)] (.bool true) (fun w' => Below V18.heap.size V18 w') (by kernel_rfl) (CE) (fun V19 h19 => ?_)
                have HB19 := Lib.hid (HB18.out.trans (h19.mono HB18.out.size))
                simp only [pu1, pu2, pu3, pu4]
                refine gw_val (by kernel_rfl) (some 90) rfl (.bool false) (by kernel_rfl) ?_
                simp only [pu1, pu2, pu3, pu4]
                refine gw_val (by kernel_rfl) (some 91) rfl (.bool false) (by kernel_rfl) ?_
                simp only [pu1, pu2, pu3, pu4]
                apply wpList_nil
                clear CE h19 HX158 HX17 HB18
                go_upto_region 17 with fail
                apply wp_region_lit
                refine gw_val (by kernel_rfl) (some 92) rfl (.int .i64 (i + 1 : Nat)) (add_nat rfl i 1 (by have := HLI.out; omega) (by kernel_rfl) (by kernel_rfl) _) ?_
                simp only [pu1, pu2, pu3, pu4]
                refine gw_val (by kernel_rfl) (some 67) rfl (.int .i64 (i + 1 : Nat)) (by kernel_rfl) ?_
                simp only [pu1, pu2, pu3, pu4]
                apply wpList_nil
                go_wp2_with fail
                go_roundg (2 - (i + 1))
                case measure => have := HGI.out; have := HLI.out; omega
                case rel => exact ⟨i + 1, rfl, HLI.out, HB19, rfl⟩
              · skip
                go_upto_region 11 with fail
                apply wp_region_lit
                refine gw_val (by kernel_rfl) (some 68) rfl (.bool false) (lss_n rfl (i) (2) (decide_eq_false (by omega)) (by kernel_rfl) (by kernel_rfl) _) ?_
                simp only [pu1, pu2, pu3, pu4]
                apply wpList_nil
                have HBO := Lib.hid (HB13.out.trans (HB.out.mono HB13.out.size))
                go_upto_region 18 with fail
                apply wp_region_lit
                refine gw_val (by kernel_rfl) (some 93) rfl (.int .i64 (j + 1 : Nat)) (add_nat rfl j 1 (by have := HLT.out; omega) (by kernel_rfl) (by kernel_rfl) _) ?_
                simp only [pu1, pu2, pu3, pu4]
                refine gw_val (by kernel_rfl) (some 59) rfl (.int .i64 (j + 1 : Nat)) (by kernel_rfl) ?_
                simp only [pu1, pu2, pu3, pu4]
                apply wpList_nil
                go_wp2_with fail
                go_roundg (2 - (j + 1))
                case measure => have := HG.out; have := HLT.out; omega
                case rel => exact ⟨j + 1, rfl, HLT.out, HBO, rfl⟩
          · skip
            go_upto_region 8 with fail
            apply wp_region_lit
            refine gw_val (by kernel_rfl) (some 60) rfl (.bool false) (lss_n rfl (j) (2) (decide_eq_false (by omega)) (by kernel_rfl) (by kernel_rfl) _) ?_
            simp only [pu1, pu2, pu3, pu4]
            apply wpList_nil
            clear hlt hj HG HYB HDQ
            have HBW := Lib.hid (HB9.out.trans (HB.out.mono HB9.out.size))
            have C1 := q_set ma mk M mc b wr (HMA9.out.below HB.out) HMK.out (Nat.le_trans HLQ.out.l (by decide)) HLQ.out.c HLQ.out.w HLQ.out.z2 HBQ.out.w (Nat.le_trans HBQ.out.z (by decide))
            have hlq2 := LQ.set (y := b) HLQ.out HBQ.out.z HBQ.out.w
            have HOK := Lib.hid (@setX_ok M mc b)
            obtain ⟨r, hr⟩ : ∃ r, setX M mc b = r := ⟨_, rfl⟩
            rw [hr] at C1 hlq2 HOK
            obtain ⟨Q, dd, ee⟩ := r
            have HLQ2 := Lib.hid hlq2
            clear hr hlq2
            go_upto_region 19 with fail
            apply wp_region_lit
            refine gw_load (by kernel_rfl) (some 95) rfl 25 (.tmp 9) rfl ⟨g9, 0, none⟩ (.agg (lgA ma M.length mk mc)) (by kernel_rfl) (load_lg (HX99.out.below HX99.out.lt HB.out)) ?_
            simp only [pu1, pu2, pu3, pu4]
            refine gw_load (by kernel_rfl) (some 96) rfl 28 (.tmp 10) rfl ⟨g10, 0, none⟩ (.agg (acA b)) (by kernel_rfl) (load_acb (HX109.out.below HX109.out.lt HB.out)) ?_
            simp only [pu1, pu2, pu3, pu4]
            refine gw_callE (by kernel_rfl) (some 97) rfl 20 #[.agg (lgA ma M.length mk mc), .agg (acA b)] (fun v w' => ∃ ad kk, v = .tuple #[.agg (lgA ad Q.length kk dd), .int .i64 ee] ∧ Cs w' ad (acc Q) ∧ Q.length ≤ kk ∧ Below wr.heap.size wr w') (by kernel_rfl) ((C1).mono fun e w' q => by obtain ⟨ad, kk, h1, h2, h3⟩ := q; obtain ⟨a9, c9, e9, h4, h5⟩ := own_cs h2; simp only [Value.slice.injEq, true_and] at e9; obtain ⟨rfl, rfl⟩ := e9; exact ⟨_, h1, ad, kk, rfl, h4, h5, h3⟩) (fun vv V1 hq => ?_)
            obtain ⟨a3, k3, rfl, hcV1, hkV1, hbV1⟩ := hq
            obtain ⟨V2, hst2, hb2, hbx2⟩ := new_lg V1 a3 Q.length k3 dd
            simp only [pu1, pu2, pu3, pu4]
            refine gw_val (by kernel_rfl) (some 94) rfl (.tuple #[.agg (lgA a3 Q.length k3 dd), .int .i64 ee]) (by kernel_rfl) ?_
            simp only [pu1, pu2, pu3, pu4]
            refine gw_val (by kernel_rfl) (some 98) rfl (.agg (lgA a3 Q.length k3 dd)) (by kernel_rfl) ?_
            simp only [pu1, pu2, pu3, pu4]
            refine gw_val (by kernel_rfl) (some 99) rfl (.int .i64 ee) (by kernel_rfl) ?_
            simp only [pu1, pu2, pu3, pu4]
            refine run_to rfl (some 19) rfl (.pointer (some ⟨V1.heap.size, 0, none⟩)) (V1.alloc (.cells (lgA none 0 0 0) 25)) (by kernel_rfl) ?_
            simp only [pu1, pu2, pu3, pu4]
            refine gw_store (by kernel_rfl) rfl 25 (.tmp 19) (.tmp 98) rfl (.pointer (some ⟨V1.heap.size, 0, none⟩)) (.agg (lgA a3 Q.length k3 dd)) (by kernel_rfl) (by kernel_rfl) (V2) (hst2) ?_
            refine gw_val (by kernel_rfl) (some 20) rfl (.int .i64 ee) (by kernel_rfl) ?_
            simp only [pu1, pu2, pu3, pu4]
            apply wpList_nil
            obtain ⟨g19, hg19⟩ : ∃ g, V1.heap.size = g := ⟨_, rfl⟩
            have hb12 := hbV1.trans (hb2.mono hbV1.size)
            have HB2 := Lib.hid (HBW.out.trans (hb12.mono HBW.out.size))
            have hm2 := HB.out.trans (hb12.mono HB.out.size)
            have HX192 := Lib.hid hbx2
            have HC3 := Lib.hid (hcV1.below hb2)
            have HX92 := Lib.hid (HX99.out.below HX99.out.lt hm2)
            have HX102 := Lib.hid (HX109.out.below HX109.out.lt hm2)
            have HM2 := Lib.hid (HMA9.out.below hm2)
            rw [hg19] at HX192 ⊢
            clear hbx2 hb2 hbV1 hcV1 hkV1 hst2 hg19 hb12 hm2 C1 HX99 HX109 HMA9 HB HBW
            by_cases hee : ee = 0
            · skip
              subst hee
              obtain ⟨e1, e2, -, e3⟩ := HOK.out rfl
              simp only [Prod.mk.injEq, and_true] at e1
              obtain ⟨e4, e5⟩ := e1
              subst e4
              obtain rfl := e5.symm
              obtain ⟨-, hsrt, -, -⟩ := valE_ok e2
              have HSR := Lib.hid hsrt
              have HV0 := Lib.hid e3
              have HPO := Lib.hid (fun i hi hn => @put_other M b hsrt i hi hn)
              have HPG := Lib.hid (@put_get M b hsrt)
              generalize putL M b = Q at *
              clear HOK e2 e3 hsrt
              go_upto_region 20 with fail
              apply wp_region_lit
              refine gw_val (by kernel_rfl) (some 100) rfl (.int .i64 0) (by kernel_rfl) ?_
              simp only [pu1, pu2, pu3, pu4]
              refine gw_val (by kernel_rfl) (some 101) rfl (.bool false) (neq_e rfl 0 0 (decide_eq_true rfl) (by kernel_rfl) (by kernel_rfl) _) ?_
              simp only [pu1, pu2, pu3, pu4]
              apply wpList_nil
              go_upto_region 22 with fail
              apply wp_region_lit
              refine gw_val (by kernel_rfl) (some 103) rfl (.pointer (some ⟨g9, 0, none⟩)) (by kernel_rfl) ?_
              simp only [pu1, pu2, pu3, pu4]
              refine gw_load (by kernel_rfl) (some 104) rfl 22 (.tmp 103) rfl ⟨g9, 0, none⟩ (.slice ma M.length mk) (by kernel_rfl) (HX92.out.load (i := 0) rfl (by kernel_rfl)) ?_
              simp only [pu1, pu2, pu3, pu4]
              refine gw_val (by kernel_rfl) (some 105) rfl (.int .i64 M.length) (by kernel_rfl) ?_
              simp only [pu1, pu2, pu3, pu4]
              refine gw_val (by kernel_rfl) (some 106) rfl (.int .i64 0) (by kernel_rfl) ?_
              simp only [pu1, pu2, pu3, pu4]
              apply wpList_nil
              obtain ⟨n, hn⟩ : ∃ n, M.length = n := ⟨_, rfl⟩
              have HN := Lib.hid hn
              have HNL2 : Hid (n ≤ 300) := Lib.hid (by have := HLQ.out.l; omega)
              rw [hn]
              clear hn
              go_wp2_with fail
              go_loopg [106] n (fun gg s106 wx => ∃ j : Nat, s106 = .int .i64 j ∧ j ≤ n ∧ Hid (Below V2.heap.size V2 wx) ∧ n - j = gg)
              case atStart => exact ⟨0, rfl, by omega, Lib.hid (Below.refl _ _), by omega⟩
              case round =>
                obtain ⟨j, rfl, hj, HB, hg⟩ := hrel
                have HG := Lib.hid hg
                clear hg
                by_cases hlt : j < n
                · skip
                  obtain ⟨b1, o1, rfl, -, hrx⟩ := ac_range (HM2.out.below HB.out) (k := j) (by rw [HN.out]; exact hlt)
                  have HLD := Lib.hid (load_ac hrx)
                  have hpo := HPO.out j (by rw [HN.out]; exact hlt)
                  generalize aca M j = x at *
                  obtain ⟨V3, hst3, hb3, hbx3⟩ := new_ac wr x
                  have HPX := Lib.hid hpo
                  have HLT := Lib.hid hlt
                  clear hrx hlt hpo
                  go_upto_region 23 with fail
                  apply wp_region_lit
                  refine gw_val (by kernel_rfl) (some 107) rfl (.bool true) (lss_n rfl (j) (n) (decide_eq_true (by have := HLT.out; omega)) (by kernel_rfl) (by kernel_rfl) _) ?_
                  simp only [pu1, pu2, pu3, pu4]
                  apply wpList_nil
                  go_upto_region 24 with fail
                  apply wp_region_lit
                  refine gw_val (by kernel_rfl) (some 108) rfl (.pointer (some ⟨b1, o1 + j * 3, none⟩)) (idx_ac b1 o1 n mk j HLT.out _ _ _ rfl (by kernel_rfl) (by kernel_rfl)) ?_
                  simp only [pu1, pu2, pu3, pu4]
                  refine gw_load (by kernel_rfl) (some 109) rfl 28 (.tmp 108) rfl ⟨b1, o1 + j * 3, none⟩ (.agg (acA x)) (by kernel_rfl) (HLD.out) ?_
                  simp only [pu1, pu2, pu3, pu4]
                  refine run_to rfl (some 22) rfl (.pointer (some ⟨wr.heap.size, 0, none⟩)) (wr.alloc (.cells (acA zAc) 28)) (by kernel_rfl) ?_
                  simp only [pu1, pu2, pu3, pu4]
                  refine gw_store (by kernel_rfl) rfl 28 (.tmp 22) (.tmp 109) rfl (.pointer (some ⟨wr.heap.size, 0, none⟩)) (.agg (acA x)) (by kernel_rfl) (by kernel_rfl) (V3) (hst3) ?_
                  apply wpList_nil
                  obtain ⟨g22, hg22⟩ : ∃ g, wr.heap.size = g := ⟨_, rfl⟩
                  rw [hg22] at hbx3 ⊢
                  have HX22 := Lib.hid hbx3
                  have HB3 := Lib.hid (HB.out.trans (hb3.mono HB.out.size))
                  have CG := q_get a3 k3 Q mc x.1 V3 (HC3.out.below HB3.out) (Nat.le_trans HLQ2.out.l (by decide))
                  obtain ⟨r, hr⟩ : ∃ r, getX Q x.1 = r := ⟨_, rfl⟩
                  rw [hr] at CG HPX
                  clear hst3 hbx3 hb3 hg22 HLD HB hr
                  go_upto_region 25 with fail
                  apply wp_region_lit
                  refine gw_load (by kernel_rfl) (some 111) rfl 25 (.tmp 19) rfl ⟨g19, 0, none⟩ (.agg (lgA a3 Q.length k3 mc)) (by kernel_rfl) (load_lg (HX192.out.below HX192.out.lt HB3.out)) ?_
                  simp only [pu1, pu2, pu3, pu4]
                  refine gw_val (by kernel_rfl) (some 112) rfl (.pointer (some ⟨g22, 0, none⟩)) (by kernel_rfl) ?_
                  simp only [pu1, pu2, pu3, pu4]
                  refine gw_load (by kernel_rfl) (some 113) rfl 9 (.tmp 112) rfl ⟨g22, 0, none⟩ (.string x.1) (by kernel_rfl) (HX22.out.load (i := 0) rfl (by kernel_rfl)) ?_
                  simp only [pu1, pu2, pu3, pu4]
                  refine gw_call (by kernel_rfl) (some 114) rfl 22 #[.agg (lgA a3 Q.length k3 mc), .string x.1] (.tuple #[.agg (acA r.1), .bool r.2]) (fun w' => Below V3.heap.size V3 w') (by kernel_rfl) (CG) (fun V4 h4 => ?_)
                  obtain ⟨V5, hst5, hb5, hbx5⟩ := new_ac V4 r.1
                  simp only [pu1, pu2, pu3, pu4]
                  refine gw_val (by kernel_rfl) (some 110) rfl (.tuple #[.agg (acA r.1), .bool r.2]) (by kernel_rfl) ?_
                  simp only [pu1, pu2, pu3, pu4]
                  refine gw_val (by kernel_rfl) (some 115) rfl (.agg (acA r.1)) (by kernel_rfl) ?_
                  simp only [pu1, pu2, pu3, pu4]
                  refine gw_val (by kernel_rfl) (some 116) rfl (.bool r.2) (by kernel_rfl) ?_
                  simp only [pu1, pu2, pu3, pu4]
                  refine run_to rfl (some 23) rfl (.pointer (some ⟨V4.heap.size, 0, none⟩)) (V4.alloc (.cells (acA zAc) 28)) (by kernel_rfl) ?_
                  simp only [pu1, pu2, pu3, pu4]
                  refine gw_store (by kernel_rfl) rfl 28 (.tmp 23) (.tmp 115) rfl (.pointer (some ⟨V4.heap.size, 0, none⟩)) (.agg (acA r.1)) (by kernel_rfl) (by kernel_rfl) (V5) (hst5) ?_
                  refine gw_val (by kernel_rfl) (some 24) rfl (.bool r.2) (by kernel_rfl) ?_
                  simp only [pu1, pu2, pu3, pu4]
                  apply wpList_nil
                  obtain ⟨g23, hg23⟩ : ∃ g, V4.heap.size = g := ⟨_, rfl⟩
                  have h45 := h4.trans (hb5.mono h4.size)
                  rw [hg23] at hbx5 ⊢
                  have HX23 := Lib.hid hbx5
                  have HX225 := Lib.hid (HX22.out.below HX22.out.lt h45)
                  have HB5 := Lib.hid (HB3.out.trans (h45.mono HB3.out.size))
                  clear hst5 hbx5 hb5 h4 hg23 h45 CG HX22 HB3
                  by_cases hne : x.1 = b.1
                  · skip
                    go_upto_region 26 with fail
                    apply wp_region_lit
                    refine gw_val (by kernel_rfl) (some 117) rfl (.pointer (some ⟨g22, 0, none⟩)) (by kernel_rfl) ?_
                    simp only [pu1, pu2, pu3, pu4]
                    refine gw_load (by kernel_rfl) (some 118) rfl 9 (.tmp 117) rfl ⟨g22, 0, none⟩ (.string x.1) (by kernel_rfl) (HX225.out.load (i := 0) rfl (by kernel_rfl)) ?_
                    simp only [pu1, pu2, pu3, pu4]
                    refine gw_val (by kernel_rfl) (some 119) rfl (.pointer (some ⟨g10, 0, none⟩)) (by kernel_rfl) ?_
                    simp only [pu1, pu2, pu3, pu4]
                    refine gw_load (by kernel_rfl) (some 120) rfl 9 (.tmp 119) rfl ⟨g10, 0, none⟩ (.string b.1) (by kernel_rfl) ((HX102.out.below HX102.out.lt HB5.out).load (i := 0) rfl (by kernel_rfl)) ?_
                    simp only [pu1, pu2, pu3, pu4]
                    refine gw_val (by kernel_rfl) (some 121) rfl (.bool false) (neq_s (t := true) rfl x.1 b.1 (by rw [hne]; exact beq_bb b.1) (by kernel_rfl) (by kernel_rfl) _) ?_
                    simp only [pu1, pu2, pu3, pu4]
                    refine gw_val (by kernel_rfl) (some 122) rfl (.bool false) (by kernel_rfl) ?_
                    simp only [pu1, pu2, pu3, pu4]
                    with_reducible refine gw_not (by kernel_rfl) (some 123) rfl ?_
                    simp only [pu1, pu2, pu3, pu4]
                    with_reducible refine gw_not (by kernel_rfl) (some 124) rfl ?_
                    simp only [pu1, pu2, pu3, pu4]
                    with_reducible refine gw_not (by kernel_rfl) (some 125) rfl ?_
                    simp only [pu1, pu2, pu3, pu4]
                    with_reducible refine gw_not (by kernel_rfl) (some 126) rfl ?_
                    simp only [pu1, pu2, pu3, pu4]
                    with_reducible refine gw_not (by kernel_rfl) (some 127) rfl ?_
                    simp only [pu1, pu2, pu3, pu4]
                    with_reducible refine gw_not (by kernel_rfl) (some 128) rfl ?_
                    simp only [pu1, pu2, pu3, pu4]
                    with_reducible refine gw_not (by kernel_rfl) (some 129) rfl ?_
                    simp only [pu1, pu2, pu3, pu4]
                    refine gw_val (by kernel_rfl) (some 130) rfl (.bool false) (by kernel_rfl) ?_
                    simp only [pu1, pu2, pu3, pu4]
                    apply wpList_nil
                    go_upto_region 28 with fail
                    apply wp_region_lit
                    refine gw_val (by kernel_rfl) (some 131) rfl (.int .i64 (j + 1 : Nat)) (add_nat rfl j 1 (by have := HLT.out; have := HNL2.out; omega) (by kernel_rfl) (by kernel_rfl) _) ?_
                    simp only [pu1, pu2, pu3, pu4]
                    refine gw_val (by kernel_rfl) (some 106) rfl (.int .i64 (j + 1 : Nat)) (by kernel_rfl) ?_
                    simp only [pu1, pu2, pu3, pu4]
                    apply wpList_nil
                    go_wp2_with fail
                    go_roundg (n - (j + 1))
                    case measure => have := HG.out; have := HLT.out; omega
                    case rel => exact ⟨j + 1, rfl, HLT.out, HB5, rfl⟩
                  · skip
                    obtain rfl := HPX.out hne
                    go_upto_region 26 with fail
                    apply wp_region_lit
                    refine gw_val (by kernel_rfl) (some 117) rfl (.pointer (some ⟨g22, 0, none⟩)) (by kernel_rfl) ?_
                    simp only [pu1, pu2, pu3, pu4]
                    refine gw_load (by kernel_rfl) (some 118) rfl 9 (.tmp 117) rfl ⟨g22, 0, none⟩ (.string x.1) (by kernel_rfl) (HX225.out.load (i := 0) rfl (by kernel_rfl)) ?_
                    simp only [pu1, pu2, pu3, pu4]
                    refine gw_val (by kernel_rfl) (some 119) rfl (.pointer (some ⟨g10, 0, none⟩)) (by kernel_rfl) ?_
                    simp only [pu1, pu2, pu3, pu4]
                    refine gw_load (by kernel_rfl) (some 120) rfl 9 (.tmp 119) rfl ⟨g10, 0, none⟩ (.string b.1) (by kernel_rfl) ((HX102.out.below HX102.out.lt HB5.out).load (i := 0) rfl (by kernel_rfl)) ?_
                    simp only [pu1, pu2, pu3, pu4]
                    refine gw_val (by kernel_rfl) (some 121) rfl (.bool true) (neq_s (t := false) rfl x.1 b.1 (beq_nn hne) (by kernel_rfl) (by kernel_rfl) _) ?_
                    simp only [pu1, pu2, pu3, pu4]
                    refine gw_val (by kernel_rfl) (some 122) rfl (.bool true) (by kernel_rfl) ?_
                    simp only [pu1, pu2, pu3, pu4]
                    refine gw_val (by kernel_rfl) (some 123) rfl (.bool true) (by kernel_rfl) ?_
                    simp only [pu1, pu2, pu3, pu4]
                    refine gw_val (by kernel_rfl) (some 124) rfl (.bool false) (by kernel_rfl) ?_
                    simp only [pu1, pu2, pu3, pu4]
                    refine gw_val (by kernel_rfl) (some 125) rfl (.bool false) (by kernel_rfl) ?_
                    simp only [pu1, pu2, pu3, pu4]
                    refine gw_load (by kernel_rfl) (some 126) rfl 28 (.tmp 22) rfl ⟨g22, 0, none⟩ (.agg (acA x)) (by kernel_rfl) (load_acb HX225.out) ?_
                    simp only [pu1, pu2, pu3, pu4]
                    refine gw_load (by kernel_rfl) (some 127) rfl 28 (.tmp 23) rfl ⟨g23, 0, none⟩ (.agg (acA x)) (by kernel_rfl) (load_acb HX23.out) ?_
                    simp only [pu1, pu2, pu3, pu4]
                    refine gw_val (by kernel_rfl) (some 128) rfl (.bool false) (neq_ac0 rfl x (by kernel_rfl) (by kernel_rfl) _) ?_
                    simp only [pu1, pu2, pu3, pu4]
                    refine gw_val (by kernel_rfl) (some 129) rfl (.bool false) (by kernel_rfl) ?_
                    simp only [pu1, pu2, pu3, pu4]
                    refine gw_val (by kernel_rfl) (some 130) rfl (.bool false) (by kernel_rfl) ?_
                    simp only [pu1, pu2, pu3, pu4]
                    apply wpList_nil
                    go_upto_region 28 with fail
                    apply wp_region_lit
                    refine gw_val (by kernel_rfl) (some 131) rfl (.int .i64 (j + 1 : Nat)) (add_nat rfl j 1 (by have := HLT.out; have := HNL2.out; omega) (by kernel_rfl) (by kernel_rfl) _) ?_
                    simp only [pu1, pu2, pu3, pu4]
                    refine gw_val (by kernel_rfl) (some 106) rfl (.int .i64 (j + 1 : Nat)) (by kernel_rfl) ?_
                    simp only [pu1, pu2, pu3, pu4]
                    apply wpList_nil
                    go_wp2_with fail
                    go_roundg (n - (j + 1))
                    case measure => have := HG.out; have := HLT.out; omega
                    case rel => exact ⟨j + 1, rfl, HLT.out, HB5, rfl⟩
                · skip
                  go_upto_region 23 with fail
                  apply wp_region_lit
                  refine gw_val (by kernel_rfl) (some 107) rfl (.bool false) (lss_n rfl (j) (n) (decide_eq_false (by omega)) (by kernel_rfl) (by kernel_rfl) _) ?_
                  simp only [pu1, pu2, pu3, pu4]
                  apply wpList_nil
                  clear hlt hj HG
                  have HX19 := Lib.hid (HX192.out.below HX192.out.lt HB.out)
                  have HX10 := Lib.hid (HX102.out.below HX102.out.lt HB.out)
                  have HX9 := Lib.hid (HX92.out.below HX92.out.lt HB.out)
                  have HBR := Lib.hid (HB2.out.trans (HB.out.mono HB2.out.size))
                  have HCR := Lib.hid (HC3.out.below HB.out)
                  have CG := q_get a3 k3 Q mc b.1 wr HCR.out (Nat.le_trans HLQ2.out.l (by decide))
                  rw [HPG.out] at CG
                  clear HB HB2 HC3 HX192 HX102 HX92
                  go_upto_region 29 with fail
                  apply wp_region_lit
                  refine gw_load (by kernel_rfl) (some 133) rfl 25 (.tmp 19) rfl ⟨g19, 0, none⟩ (.agg (lgA a3 Q.length k3 mc)) (by kernel_rfl) (load_lg HX19.out) ?_
                  simp only [pu1, pu2, pu3, pu4]
                  refine gw_val (by kernel_rfl) (some 134) rfl (.pointer (some ⟨g10, 0, none⟩)) (by kernel_rfl) ?_
                  simp only [pu1, pu2, pu3, pu4]
                  refine gw_load (by kernel_rfl) (some 135) rfl 9 (.tmp 134) rfl ⟨g10, 0, none⟩ (.string b.1) (by kernel_rfl) (HX10.out.load (i := 0) rfl (by kernel_rfl)) ?_
                  simp only [pu1, pu2, pu3, pu4]
                  refine gw_call (by kernel_rfl) (some 136) rfl 22 #[.agg (lgA a3 Q.length k3 mc), .string b.1] (.tuple #[.agg (acA b), .bool true]) (fun w' => Below wr.heap.size wr w') (by kernel_rfl) (CG) (fun V4 h4 => ?_)
                  obtain ⟨V5, hst5, hb5, hbx5⟩ := new_ac V4 b
                  simp only [pu1, pu2, pu3, pu4]
                  refine gw_val (by kernel_rfl) (some 132) rfl (.tuple #[.agg (acA b), .bool true]) (by kernel_rfl) ?_
                  simp only [pu1, pu2, pu3, pu4]
                  refine gw_val (by kernel_rfl) (some 137) rfl (.agg (acA b)) (by kernel_rfl) ?_
                  simp only [pu1, pu2, pu3, pu4]
                  refine gw_val (by kernel_rfl) (some 138) rfl (.bool true) (by kernel_rfl) ?_
                  simp only [pu1, pu2, pu3, pu4]
                  refine run_to rfl (some 25) rfl (.pointer (some ⟨V4.heap.size, 0, none⟩)) (V4.alloc (.cells (acA zAc) 28)) (by kernel_rfl) ?_
                  simp only [pu1, pu2, pu3, pu4]
                  refine gw_store (by kernel_rfl) rfl 28 (.tmp 25) (.tmp 137) rfl (.pointer (some ⟨V4.heap.size, 0, none⟩)) (.agg (acA b)) (by kernel_rfl) (by kernel_rfl) (V5) (hst5) ?_
                  refine gw_val (by kernel_rfl) (some 26) rfl (.bool true) (by kernel_rfl) ?_
                  simp only [pu1, pu2, pu3, pu4]
                  apply wpList_nil
                  obtain ⟨g25, hg25⟩ : ∃ g, V4.heap.size = g := ⟨_, rfl⟩
                  have h45 := h4.trans (hb5.mono h4.size)
                  rw [hg25] at hbx5 ⊢
                  have HX25 := Lib.hid hbx5
                  have HX195 := Lib.hid (HX19.out.below HX19.out.lt h45)
                  have HX105 := Lib.hid (HX10.out.below HX10.out.lt h45)
                  have HX95 := Lib.hid (HX9.out.below HX9.out.lt h45)
                  have HBR5 := Lib.hid (HBR.out.trans (h45.mono HBR.out.size))
                  have CV := q_validate a3 k3 Q mc V5 (HCR.out.below h45) (Nat.le_trans HLQ2.out.l (by decide)) HLQ2.out.c HLQ2.out.w HLQ2.out.z2
                  rw [HV0.out] at CV
                  clear hst5 hbx5 hb5 h4 hg25 h45 CG HX19 HX10 HX9 HBR HCR
                  go_upto_region 30 with fail
                  apply wp_region_lit
                  refine gw_val (by kernel_rfl) (some 139) rfl (.bool true) (by kernel_rfl) ?_
                  simp only [pu1, pu2, pu3, pu4]
                  refine gw_val (by kernel_rfl) (some 140) rfl (.bool true) (by kernel_rfl) ?_
                  simp only [pu1, pu2, pu3, pu4]
                  refine gw_load (by kernel_rfl) (some 141) rfl 28 (.tmp 25) rfl ⟨g25, 0, none⟩ (.agg (acA b)) (by kernel_rfl) (load_acb HX25.out) ?_
                  simp only [pu1, pu2, pu3, pu4]
                  refine gw_load (by kernel_rfl) (some 142) rfl 28 (.tmp 10) rfl ⟨g10, 0, none⟩ (.agg (acA b)) (by kernel_rfl) (load_acb HX105.out) ?_
                  simp only [pu1, pu2, pu3, pu4]
                  refine gw_val (by kernel_rfl) (some 143) rfl (.bool true) (eql_ac0 rfl b (by kernel_rfl) (by kernel_rfl) _) ?_
                  simp only [pu1, pu2, pu3, pu4]
                  refine gw_val (by kernel_rfl) (some 144) rfl (.bool true) (by kernel_rfl) ?_
                  simp only [pu1, pu2, pu3, pu4]
                  refine gw_val (by kernel_rfl) (some 145) rfl (.bool true) (by kernel_rfl) ?_
                  simp only [pu1, pu2, pu3, pu4]
                  refine gw_val (by kernel_rfl) (some 146) rfl (.pointer (some ⟨g19, 1, none⟩)) (by kernel_rfl) ?_
                  simp only [pu1, pu2, pu3, pu4]
                  refine gw_load (by kernel_rfl) (some 147) rfl 23 (.tmp 146) rfl ⟨g19, 1, none⟩ (.int .u64 mc) (by kernel_rfl) (HX195.out.load (i := 1) rfl (by kernel_rfl)) ?_
                  simp only [pu1, pu2, pu3, pu4]
                  refine gw_val (by kernel_rfl) (some 148) rfl (.pointer (some ⟨g9, 1, none⟩)) (by kernel_rfl) ?_
                  simp only [pu1, pu2, pu3, pu4]
                  refine gw_load (by kernel_rfl) (some 149) rfl 23 (.tmp 148) rfl ⟨g9, 1, none⟩ (.int .u64 mc) (by kernel_rfl) (HX95.out.load (i := 1) rfl (by kernel_rfl)) ?_
                  simp only [pu1, pu2, pu3, pu4]
                  refine gw_val (by kernel_rfl) (some 150) rfl (.bool true) (eql_u6 rfl mc mc (decide_eq_true rfl) (by kernel_rfl) (by kernel_rfl) _) ?_
                  simp only [pu1, pu2, pu3, pu4]
                  refine gw_val (by kernel_rfl) (some 151) rfl (.bool true) (by kernel_rfl) ?_
                  simp only [pu1, pu2, pu3, pu4]
                  refine gw_val (by kernel_rfl) (some 152) rfl (.bool true) (by kernel_rfl) ?_
                  simp only [pu1, pu2, pu3, pu4]
                  refine gw_load (by kernel_rfl) (some 153) rfl 25 (.tmp 19) rfl ⟨g19, 0, none⟩ (.agg (lgA a3 Q.length k3 mc)) (by kernel_rfl) (load_lg HX195.out) ?_
                  simp only [pu1, pu2, pu3, pu4]
                  refine gw_call (by kernel_rfl) (some 154) rfl 15 #[.agg (lgA a3 Q.length k3 mc)] (.int .i64 0) (fun w' => Below V5.heap.size V5 w') (by kernel_rfl) (CV) (fun V6 h6 => ?_)
                  have HBR6 := Lib.hid (HBR5.out.trans (h6.mono HBR5.out.size))
                  simp only [pu1, pu2, pu3, pu4]
                  refine gw_val (by kernel_rfl) (some 155) rfl (.bool true) (eql_e rfl 0 0 (decide_eq_true rfl) (by kernel_rfl) (by kernel_rfl) _) ?_
                  simp only [pu1, pu2, pu3, pu4]
                  refine gw_val (by kernel_rfl) (some 156) rfl (.bool true) (by kernel_rfl) ?_
                  simp only [pu1, pu2, pu3, pu4]
                  refine gw_val (by kernel_rfl) (some 157) rfl (.bool true) (by kernel_rfl) ?_
                  simp only [pu1, pu2, pu3, pu4]
                  refine gw_call (by kernel_rfl) (some 158) rfl 10 #[] (.bool true) (fun w' => Below w.heap.size w w') (by kernel_rfl) (HK.out V6 HBR6.out) (fun V9 hV9 => ?_)
                  simp only [pu1, pu2, pu3, pu4]
                  refine gw_val (by kernel_rfl) (some 159) rfl (.bool true) (by kernel_rfl) ?_
                  simp only [pu1, pu2, pu3, pu4]
                  refine gw_val (by kernel_rfl) (some 8) rfl (.bool true) (by kernel_rfl) ?_
                  simp only [pu1, pu2, pu3, pu4]
                  apply wpList_nil
                  have HE := Lib.hid hV9
                  clear hV9 h6 CV
                  go_wp2_with fail
                  go_ret
                  exact ⟨rfl, HE.out⟩
            · skip
              go_upto_region 20 with fail
              apply wp_region_lit
              refine gw_val (by kernel_rfl) (some 100) rfl (.int .i64 ee) (by kernel_rfl) ?_
              simp only [pu1, pu2, pu3, pu4]
              refine gw_val (by kernel_rfl) (some 101) rfl (.bool true) (neq_e rfl ee 0 (decide_eq_false hee) (by kernel_rfl) (by kernel_rfl) _) ?_
              simp only [pu1, pu2, pu3, pu4]
              apply wpList_nil
              go_upto_region 21 with fail
              apply wp_region_lit
              refine gw_call (by kernel_rfl) (some 102) rfl 10 #[] (.bool true) (fun w' => Below w.heap.size w w') (by kernel_rfl) (HK.out V2 (HB2.out)) (fun V9 hV9 => ?_)
              simp only [pu1, pu2, pu3, pu4]
              refine gw_val (by kernel_rfl) (some 8) rfl (.bool true) (by kernel_rfl) ?_
              simp only [pu1, pu2, pu3, pu4]
              apply wpList_nil
              have HE := Lib.hid hV9
              clear hV9
              go_wp2_with fail
              go_ret
              exact ⟨rfl, HE.out⟩
    · skip
      refine gw_val (by kernel_rfl) (some 34) rfl (.bool true) (by kernel_rfl) ?_
      simp only [pu1, pu2, pu3, pu4]
      refine gw_val (by kernel_rfl) (some 35) rfl (.bool true) (by kernel_rfl) ?_
      simp only [pu1, pu2, pu3, pu4]
      with_reducible refine gw_not (by kernel_rfl) (some 36) rfl ?_
      simp only [pu1, pu2, pu3, pu4]
      with_reducible refine gw_not (by kernel_rfl) (some 37) rfl ?_
      simp only [pu1, pu2, pu3, pu4]
      with_reducible refine gw_not (by kernel_rfl) (some 38) rfl ?_
      simp only [pu1, pu2, pu3, pu4]
      with_reducible refine gw_not (by kernel_rfl) (some 39) rfl ?_
      simp only [pu1, pu2, pu3, pu4]
      refine gw_val (by kernel_rfl) (some 40) rfl (.bool true) (by kernel_rfl) ?_
      simp only [pu1, pu2, pu3, pu4]
      apply wpList_nil
      go_upto_region 2 with fail
      apply wp_region_lit
      refine gw_call (by kernel_rfl) (some 41) rfl 10 #[] (.bool true) (fun w' => Below w.heap.size w w') (by kernel_rfl) (HK.out W2 (HB2.out)) (fun V9 hV9 => ?_)
      simp only [pu1, pu2, pu3, pu4]
      refine gw_val (by kernel_rfl) (some 8) rfl (.bool true) (by kernel_rfl) ?_
      simp only [pu1, pu2, pu3, pu4]
      apply wpList_nil
      have HE := Lib.hid hV9
      clear hV9
      go_wp2_with fail
      go_ret
      exact ⟨rfl, HE.out⟩
end Go.Proofs.Ytebnlklodokhkaa
