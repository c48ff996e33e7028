/-
  The walk of LedgerLimits.
-/
import Derived.Test.YtebnlklodokhkaaLX
namespace Go.Proofs.Ytebnlklodokhkaa
open Go.RowKit
set_option linter.unusedSimpArgs false
set_option linter.unusedVariables false

theorem add_s {ρ : Operand → Value} {o : Oper} {x y : Operand} (ho : o.op = .binOp .add 9 x y 9) (a b : ByteArray) (hs : a.size + b.size ≤ 1000000000) (hx : ρ x = .string a) (hy : ρ y = .string b) (w : World) : (execOp ρ o).run Try.prog w = .ok (.value (.string (a ++ b))) w := by
  unfold execOp
  simp only [ho, hx, hy]
  go_simp
  omega
theorem app_size (a b : ByteArray) : (a ++ b).size = a.size + b.size := ByteArray.size_append
theorem infoU8 : (Try.prog.info? 5).map (fun i => (i.zero, i.size, i.bytes)) = some (some (.int .u8 0), 1, 1) := by kernel_rfl
theorem build_b2 (x y : Int) (V : World) : (Instr.buildSlice 52 2 #[(0, .int .u8 x), (1, .int .u8 y)]).run Try.prog V = .ok (.slice (some ⟨V.heap.size, 0, none⟩) 2 2) (V.alloc (.cells #[.int .u8 x, .int .u8 y] 5)) := by
  obtain ⟨i0, hi, hz0, hz1, hz2⟩ := info_parts infoU8
  refine run_buildSlice V 52 5 2 _ _ i0 _ Try.underlying52 hi hz0 (by rw [hz1]; omega) (by rw [hz1]; omega) ?_
  rw [hz1]
  kernel_rfl
theorem quo_26 {ρ : Operand → Value} {o : Oper} {x y : Operand} (ho : o.op = .binOp .quo 3 x y 3) (a : Nat) (ha : a ≤ 100000) (hx : ρ x = .int .i64 a) (hy : ρ y = .int .i64 26) (w : World) : (execOp ρ o).run Try.prog w = .ok (.value (.int .i64 (a / 26 : Nat))) w := by
  have e : (a : Int).tdiv 26 = ((a / 26 : Nat) : Int) := by rw [Int.tdiv_eq_ediv_of_nonneg (by omega)]; omega
  have hw : IntKind.i64.wrap ((a / 26 : Nat) : Int) = ((a / 26 : Nat) : Int) := by rw [IntKind.wrap_i64]; omega
  have hw2 : IntKind.i64.wrap ((a : Int) / 26) = (a : Int) / 26 := by rw [IntKind.wrap_i64]; omega
  unfold execOp
  simp only [ho, hx, hy]
  go_simp
theorem conv_i8 {ρ : Operand → Value} {o : Oper} {x : Operand} (ho : o.op = .convert 3 5 x) (a : Nat) (h : a ≤ 255) (hx : ρ x = .int .i64 a) (w : World) : (execOp ρ o).run Try.prog w = .ok (.value (.int .u8 a)) w := by
  have hw : IntKind.u8.wrap (a : Int) = a := by rw [IntKind.wrap_u8]; omega
  unfold execOp
  simp only [ho, hx]
  go_simp
theorem conv_bs {ρ : Operand → Value} {o : Oper} {x : Operand} (ho : o.op = .convert 52 9 x) {a : Option Addr} {c : Nat} {L : List Int} {w : World} (h : Sl w a c L) {s : ByteArray} (hs : strOfNums L = s) (hx : ρ x = .slice a L.length c) : (execOp ρ o).run Try.prog w = .ok (.value (.string s)) w := by
  subst hs
  have e := conv_sl h
  unfold execOp
  simp only [ho, hx, Sem.run_bind, e]
  rfl
theorem str2_size (x y : Int) : (strOfNums [x, y]).size = 2 := by
  show (strOfNums [x, y]).data.size = 2
  rw [← Array.length_toList, strOfNums_data]
  rfl
theorem sl_two {w : World} {g : Nat} {x y : Int} (h : Bx w g #[.int .u8 x, .int .u8 y] 5) : Sl w (some ⟨g, 0, none⟩) 2 [x, y] := .inr ⟨_, rfl, fun k hk => ⟨g, 0, rfl, by
  rw [Nat.zero_add, cell_of_row w g _ _ _ (0, 0) h]
  simp at hk
  rcases (show k = 0 ∨ k = 1 by omega) with rfl | rfl <;> rfl⟩⟩
/-- The accounts that are made. -/
structure AQ (A : List Ac) : Prop where
  w : AcW A
  z : ∀ x, x ∈ A → x.1.size ≤ 20
theorem AQ.add {A : List Ac} {s : ByteArray} (h : AQ A) (hs : s.size ≤ 20) : AQ (A ++ [(s, 0, 0)]) :=
  ⟨acw_of fun x hx => (List.mem_append.1 hx).elim (acw_mem h.w x) fun h1 => by rw [List.mem_singleton] at h1; rw [h1]; exact ⟨w64_0, w64_0⟩, fun x hx => (List.mem_append.1 hx).elim (h.z x) fun h1 => by rw [List.mem_singleton] at h1; rw [h1]; exact hs⟩
theorem AQ.z2 {A : List Ac} (h : AQ A) : ∀ x, x ∈ A → x.1.size ≤ 140737488355328 := fun x hx => Nat.le_trans (h.z x hx) (by decide)
set_option maxRecDepth 100000 in
set_option maxHeartbeats 8000000 in
theorem limits_core (x0 : Int) (more : Bool) (w : World) :
    Calls Try.prog 7 #[.int .i64 x0, .bool more] w fun e w' => e = .returned (.bool true) ∧ Below w.heap.size w w' := by
  have HK := Lib.hid (fun (V : World) (h : Below w.heap.size w V) => (known_true V).mono fun e w' (q : e = .returned (.bool true) ∧ Below V.heap.size V w') => (⟨q.1, h.trans (q.2.mono h.size)⟩ : e = .returned (.bool true) ∧ Below w.heap.size w w'))
  have CP := mk_place x0 3 w (by decide) (by decide)
  have hpr := pl_range x0 3 (by decide)
  obtain ⟨q, hq⟩ : ∃ q : Nat, pl x0 3 = q := ⟨(pl x0 3).toNat, by omega⟩
  rw [hq] at CP hpr
  have HQ3 : Hid (q < 3) := Lib.hid (by omega)
  clear hq hpr
  go_enter Try.func7, Try.ntmps7
  go_upto_region 1 with fail
  apply wp_region_lit
  refine gw_val (by kernel_rfl) (some 5) rfl (.slice none 0 0) (by kernel_rfl) ?_
  simp only [pu1, pu2, pu3, pu4]
  apply wpList_nil
  go_upto_region 2 with fail
  apply wp_region_lit
  refine gw_val (by kernel_rfl) (some 16) rfl (.int .i64 x0) (by kernel_rfl) ?_
  simp only [pu1, pu2, pu3, pu4]
  refine gw_call (by kernel_rfl) (some 17) rfl 12 #[.int .i64 x0, .int .i64 3] (.int .i64 q) (fun w' => w = w') (by kernel_rfl) (CP) (fun V9 hV9 => ?_)
  subst hV9
  simp only [pu1, pu2, pu3, pu4]
  refine gw_val (by kernel_rfl) (some 18) rfl (.int .i64 (255 + q : Nat)) (add_nat rfl 255 q (by have := HQ3.out; omega) (by kernel_rfl) (by kernel_rfl) _) ?_
  simp only [pu1, pu2, pu3, pu4]
  refine gw_val (by kernel_rfl) (some 6) rfl (.int .i64 (255 + q : Nat)) (by kernel_rfl) ?_
  simp only [pu1, pu2, pu3, pu4]
  apply wpList_nil
  clear CP
  obtain ⟨i0, hi0⟩ : ∃ i0, 255 + q = i0 := ⟨_, rfl⟩
  rw [hi0]
  have HI0 : Hid (i0 ≤ 257) := Lib.hid (by have := HQ3.out; omega)
  clear hi0
  have HR0 : Hid (∃ A : List Ac, RowA w w.heap.size (.slice none 0 0) A ∧ AQ A ∧ A.length + i0 ≤ 257) := Lib.hid ⟨[], row_nil _ _, ⟨acw_nil, fun x hx => by cases hx⟩, by have := HI0.out; simp only [List.length_nil]; omega⟩
  go_wp2_with fail
  go_loopg [5, 6] i0 (fun gg s5 s6 wx => ∃ (i : Nat) (v5 : Value), s5 = v5 ∧ s6 = .int .i64 i ∧ Hid (∃ A : List Ac, RowA wx w.heap.size v5 A ∧ AQ A ∧ A.length + i ≤ 257) ∧ Hid (Below w.heap.size w wx) ∧ i = gg)
  case atStart => exact ⟨i0, _, rfl, rfl, HR0, Lib.hid (Below.refl _ _), rfl⟩
  case round =>
    clear HR0
    obtain ⟨i, v5, rfl, rfl, HA, HB, hg⟩ := hrel
    have HG := Lib.hid hg
    clear hg
    obtain ⟨A, hra, haq, hal⟩ := HA.out
    by_cases hpos : 0 < i
    · skip
      have hbb := build_b2 (97 + i / 26 : Nat) (97 + i % 26 : Nat) wr
      have hb1 : Below wr.heap.size wr (wr.alloc (.cells #[.int .u8 (97 + i / 26 : Nat), .int .u8 (97 + i % 26 : Nat)] 5)) := (Below.refl _ wr).alloc (Nat.le_refl _) _
      have hx1 : Bx (wr.alloc (.cells #[.int .u8 (97 + i / 26 : Nat), .int .u8 (97 + i % 26 : Nat)] 5)) wr.heap.size #[.int .u8 (97 + i / 26 : Nat), .int .u8 (97 + i % 26 : Nat)] 5 := heap_alloc_last wr _
      have hs2 := str2_size (97 + i / 26 : Nat) (97 + i % 26 : Nat)
      generalize wr.alloc (.cells #[.int .u8 (97 + i / 26 : Nat), .int .u8 (97 + i % 26 : Nat)] 5) = W1 at *
      have hsl := sl_two hx1
      obtain ⟨s2, hss⟩ : ∃ s2, strOfNums [((97 + i / 26 : Nat) : Int), ((97 + i % 26 : Nat) : Int)] = s2 := ⟨_, rfl⟩
      rw [hss] at hs2
      have HS2 := Lib.hid hss
      obtain ⟨g1, hg1⟩ : ∃ g1, wr.heap.size = g1 := ⟨_, rfl⟩
      rw [hg1] at hbb hsl
      have HSL := Lib.hid hsl
      have hra1 := own_below hra hb1
      obtain ⟨s3, hs3⟩ : ∃ s3, (⟨#[117]⟩ : ByteArray) ++ s2 = s3 := ⟨_, rfl⟩
      have hz3 : s3.size = 3 := by rw [← hs3, app_size, hs2]; rfl
      have HS3 := Lib.hid hs3
      have hbu := build_ac (s3, 0, 0) W1
      have hb2 : Below W1.heap.size W1 (W1.alloc (.cells (acA (s3, 0, 0)) 28)) := (Below.refl _ W1).alloc (Nat.le_refl _) _
      have hc2 : Cs (W1.alloc (.cells (acA (s3, 0, 0)) 28)) (some ⟨W1.heap.size, 0, none⟩) (acc [(s3, 0, 0)]) := Cs.block (t := 28) (fr := (0, 0)) (cs := acl (s3, 0, 0)) (heap_alloc_last W1 (.cells (acA (s3, 0, 0)) 28))
      obtain ⟨a3, c3, V3, hap, hr3, hb3, -, -⟩ := app_ac (own_below hra1 hb2) (by have := HB.out.size; have := hb1.size; have := hb2.size; omega) (some ⟨W1.heap.size, 0, none⟩) 1 [(s3, 0, 0)] hc2 (by simp only [List.length_cons, List.length_nil]; omega)
      simp only [List.length_cons, List.length_nil, Nat.zero_add] at hap
      have HA9 : Hid (∃ A9 : List Ac, RowA V3 w.heap.size (.slice a3 (A.length + 1) c3) A9 ∧ AQ A9 ∧ A9.length + (i - 1) ≤ 257) := Lib.hid ⟨A ++ [(s3, 0, 0)], hr3, haq.add (by omega), by rw [List.length_append]; simp only [List.length_cons, List.length_nil]; omega⟩
      have HB9 : Hid (Below w.heap.size w V3) := Lib.hid ((HB.out.trans (hb1.mono HB.out.size)).trans ((hb2.mono (by have := HB.out.size; have := hb1.size; omega)).trans hb3))
      have HIB : Hid (i ≤ 257) := Lib.hid (by omega)
      generalize W1.alloc (.cells (acA (s3, 0, 0)) 28) = W2 at *
      obtain ⟨g2, hg2⟩ : ∃ g2, W1.heap.size = g2 := ⟨_, rfl⟩
      rw [hg2] at hbu hap
      generalize A.length + 1 = m at *
      clear hb1 hx1 hs2 hsl hss hg1 hra1 hs3 hz3 hb2 hc2 hr3 hb3 hg2 hra haq hal HA
      go_upto_region 3 with fail
      apply wp_region_lit
      refine gw_val (by kernel_rfl) (some 19) rfl (.int .i64 i) (by kernel_rfl) ?_
      simp only [pu1, pu2, pu3, pu4]
      refine gw_val (by kernel_rfl) (some 20) rfl (.bool true) (gtr_n rfl (i) (0) (decide_eq_true (by omega)) (by kernel_rfl) (by kernel_rfl) _) ?_
      simp only [pu1, pu2, pu3, pu4]
      apply wpList_nil
      go_upto_region 5 with fail
      apply wp_region_lit
      refine gw_val (by kernel_rfl) (some 23) rfl (u5) (by kernel_rfl) ?_
      simp only [pu1, pu2, pu3, pu4]
      refine gw_val (by kernel_rfl) (some 24) rfl (.int .i64 i) (by kernel_rfl) ?_
      simp only [pu1, pu2, pu3, pu4]
      refine gw_val (by kernel_rfl) (some 25) rfl (.int .i64 (i / 26 : Nat)) (quo_26 rfl i (by have := HIB.out; omega) (by kernel_rfl) (by kernel_rfl) _) ?_
      simp only [pu1, pu2, pu3, pu4]
      refine gw_val (by kernel_rfl) (some 26) rfl (.int .i64 (97 + i / 26 : Nat)) (add_nat rfl 97 (i / 26) (by have := HIB.out; omega) (by kernel_rfl) (by kernel_rfl) _) ?_
      simp only [pu1, pu2, pu3, pu4]
      refine gw_val (by kernel_rfl) (some 27) rfl (.int .u8 (97 + i / 26 : Nat)) (conv_i8 rfl (97 + i / 26) (by have := HIB.out; omega) (by kernel_rfl) _) ?_
      simp only [pu1, pu2, pu3, pu4]
      refine gw_val (by kernel_rfl) (some 28) rfl (.int .i64 i) (by kernel_rfl) ?_
      simp only [pu1, pu2, pu3, pu4]
      refine gw_val (by kernel_rfl) (some 29) rfl (.int .i64 (i % 26 : Nat)) (rem_nat rfl i 26 (by decide) (by kernel_rfl) (by kernel_rfl) _) ?_
      simp only [pu1, pu2, pu3, pu4]
      refine gw_val (by kernel_rfl) (some 30) rfl (.int .i64 (97 + i % 26 : Nat)) (add_nat rfl 97 (i % 26) (by have := HIB.out; omega) (by kernel_rfl) (by kernel_rfl) _) ?_
      simp only [pu1, pu2, pu3, pu4]
      refine gw_val (by kernel_rfl) (some 31) rfl (.int .u8 (97 + i % 26 : Nat)) (conv_i8 rfl (97 + i % 26) (by omega) (by kernel_rfl) _) ?_
      simp only [pu1, pu2, pu3, pu4]
      refine gw_build (by kernel_rfl) (some 32) rfl 52 2 #[(0, .tmp 27), (1, .tmp 31)] rfl #[(0, .int .u8 (97 + i / 26 : Nat)), (1, .int .u8 (97 + i % 26 : Nat))] (by kernel_rfl) (.slice (some ⟨g1, 0, none⟩) 2 2) _ hbb ?_
      simp only [pu1, pu2, pu3, pu4]
      refine gw_val (by kernel_rfl) (some 33) rfl (.string s2) (conv_bs rfl HSL.out HS2.out (by kernel_rfl)) ?_
      simp only [pu1, pu2, pu3, pu4]
      refine gw_val (by kernel_rfl) (some 34) rfl (.string s3) (by rw [← HS3.out]; exact add_s rfl ⟨#[117]⟩ s2 (by have := str2_size (97 + i / 26 : Nat) (97 + i % 26 : Nat); rw [HS2.out] at this; rw [this]; decide) (by kernel_rfl) (by kernel_rfl) _) ?_
      simp only [pu1, pu2, pu3, pu4]
      refine gw_val (by kernel_rfl) (some 35) rfl (.agg (acA (s3, 0, 0))) (by kernel_rfl) ?_
      simp only [pu1, pu2, pu3, pu4]
      refine gw_build (by kernel_rfl) (some 36) rfl 22 1 #[(0, .tmp 35)] rfl #[(0, .agg (acA (s3, 0, 0)))] (by kernel_rfl) (.slice (some ⟨g2, 0, none⟩) 1 1) _ hbu ?_
      simp only [pu1, pu2, pu3, pu4]
      refine append_step rfl (some 37) rfl 22 rfl (.tmp 23) (.tmp 36) 22 rfl (u5) (.slice (some ⟨g2, 0, none⟩) 1 1) (.slice a3 m c3) V3 (by kernel_rfl) (by kernel_rfl) hap ?_
      simp only [pu1, pu2, pu3, pu4]
      refine gw_val (by kernel_rfl) (some 5) rfl (.slice a3 m c3) (by kernel_rfl) ?_
      simp only [pu1, pu2, pu3, pu4]
      apply wpList_nil
      clear hbb hbu hap
      go_upto_region 4 with fail
      apply wp_region_lit
      refine gw_val (by kernel_rfl) (some 21) rfl (.int .i64 i) (by kernel_rfl) ?_
      simp only [pu1, pu2, pu3, pu4]
      refine gw_val (by kernel_rfl) (some 22) rfl (.int .i64 (i - 1 : Nat)) (sub_1 rfl i hpos (by have := HIB.out; omega) (by kernel_rfl) (by kernel_rfl) _) ?_
      simp only [pu1, pu2, pu3, pu4]
      refine gw_val (by kernel_rfl) (some 6) rfl (.int .i64 (i - 1 : Nat)) (by kernel_rfl) ?_
      simp only [pu1, pu2, pu3, pu4]
      apply wpList_nil
      go_wp2_with fail
      go_roundg (i - 1)
      case measure => have := HG.out; omega
      case rel => exact ⟨i - 1, _, rfl, rfl, HA9, HB9, rfl⟩
    · skip
      obtain ⟨a5, k5, rfl, hca, hka⟩ := hra.cs
      have HCA := Lib.hid hca
      have HAQ := Lib.hid haq
      have HAL : Hid (A.length ≤ 257) := Lib.hid (by omega)
      have CG := q_genesis a5 k5 A wr hca (by omega) haq.w haq.z2
      have hlq := LQ.gen haq.w haq.z
      obtain ⟨r, hr⟩ : ∃ r, genY A = r := ⟨_, rfl⟩
      rw [hr] at CG hlq
      have HR := Lib.hid hr
      obtain ⟨Q, dd, ee⟩ := r
      have HLQ := Lib.hid hlq
      clear hca hka hra haq hal HA hr hlq
      go_upto_region 3 with fail
      apply wp_region_lit
      refine gw_val (by kernel_rfl) (some 19) rfl (.int .i64 i) (by kernel_rfl) ?_
      simp only [pu1, pu2, pu3, pu4]
      refine gw_val (by kernel_rfl) (some 20) rfl (.bool false) (gtr_n rfl (i) (0) (decide_eq_false (by omega)) (by kernel_rfl) (by kernel_rfl) _) ?_
      simp only [pu1, pu2, pu3, pu4]
      apply wpList_nil
      go_upto_region 6 with fail
      apply wp_region_lit
      refine gw_val (by kernel_rfl) (some 39) rfl (.slice a5 A.length k5) (by kernel_rfl) ?_
      simp only [pu1, pu2, pu3, pu4]
      refine gw_callE (by kernel_rfl) (some 40) rfl 17 #[.slice a5 A.length k5] (fun v w' => ∃ ad kk, v = .tuple #[.agg (lgA ad Q.length kk dd), .int .i64 ee] ∧ Cs w' ad (acc Q) ∧ Q.length ≤ kk ∧ Below wr.heap.size wr w') (by kernel_rfl) ((CG).mono fun e w' q => by obtain ⟨ad, kk, h1, h2, h3⟩ := q; obtain ⟨a9, c9, e9, h4, h5⟩ := own_cs h2; simp only [Value.slice.injEq, true_and] at e9; obtain ⟨rfl, rfl⟩ := e9; exact ⟨_, h1, ad, kk, rfl, h4, h5, h3⟩) (fun vv V1 hq => ?_)
      obtain ⟨a1, k1, rfl, hcV1, hkV1, hbV1⟩ := hq
      obtain ⟨V2, hst2, hb2, hbx2⟩ := new_lg V1 a1 Q.length k1 dd
      simp only [pu1, pu2, pu3, pu4]
      refine gw_val (by kernel_rfl) (some 38) rfl (.tuple #[.agg (lgA a1 Q.length k1 dd), .int .i64 ee]) (by kernel_rfl) ?_
      simp only [pu1, pu2, pu3, pu4]
      refine gw_val (by kernel_rfl) (some 41) rfl (.agg (lgA a1 Q.length k1 dd)) (by kernel_rfl) ?_
      simp only [pu1, pu2, pu3, pu4]
      refine gw_val (by kernel_rfl) (some 42) rfl (.int .i64 ee) (by kernel_rfl) ?_
      simp only [pu1, pu2, pu3, pu4]
      refine run_to rfl (some 7) rfl (.pointer (some ⟨V1.heap.size, 0, none⟩)) (V1.alloc (.cells (lgA none 0 0 0) 25)) (by kernel_rfl) ?_
      simp only [pu1, pu2, pu3, pu4]
      refine gw_store (by kernel_rfl) rfl 25 (.tmp 7) (.tmp 41) rfl (.pointer (some ⟨V1.heap.size, 0, none⟩)) (.agg (lgA a1 Q.length k1 dd)) (by kernel_rfl) (by kernel_rfl) (V2) (hst2) ?_
      refine gw_val (by kernel_rfl) (some 8) rfl (.int .i64 ee) (by kernel_rfl) ?_
      simp only [pu1, pu2, pu3, pu4]
      apply wpList_nil
      obtain ⟨g7, hg7⟩ : ∃ g7, V1.heap.size = g7 := ⟨_, rfl⟩
      have hb12 := hbV1.trans (hb2.mono hbV1.size)
      have HX7 := Lib.hid hbx2
      have HC1 := Lib.hid (hcV1.below hb2)
      have HK1 := Lib.hid hkV1
      have HBB := Lib.hid (HB.out.trans (hb12.mono HB.out.size))
      have HCA2 := Lib.hid (HCA.out.below hb12)
      rw [hg7] at HX7 ⊢
      have CH := ref_genesis a5 k5 A V2 HCA2.out (by have := HAL.out; omega) HAQ.out.w HAQ.out.z2
      rw [HR.out] at CH
      clear hbx2 hb2 hbV1 hcV1 hkV1 hst2 hg7 hb12 CG HB HCA
      go_upto_region 7 with fail
      apply wp_region_lit
      refine gw_val (by kernel_rfl) (some 44) rfl (.slice a5 A.length k5) (by kernel_rfl) ?_
      simp only [pu1, pu2, pu3, pu4]
      refine gw_callE (by kernel_rfl) (some 45) rfl 18 #[.slice a5 A.length k5] (fun v w' => ∃ ad kk, v = .tuple #[.agg (lgA ad Q.length kk dd), .int .i64 ee] ∧ Cs w' ad (acc Q) ∧ Q.length ≤ kk ∧ Below V2.heap.size V2 w') (by kernel_rfl) ((CH).mono fun e w' q => by obtain ⟨ad, kk, h1, h2, h3⟩ := q; obtain ⟨a9, c9, e9, h4, h5⟩ := own_cs h2; simp only [Value.slice.injEq, true_and] at e9; obtain ⟨rfl, rfl⟩ := e9; exact ⟨_, h1, ad, kk, rfl, h4, h5, h3⟩) (fun vv V3 hq => ?_)
      obtain ⟨a2, k2, rfl, hcV3, hkV3, hbV3⟩ := hq
      obtain ⟨V4, hst4, hb4, hbx4⟩ := new_lg V3 a2 Q.length k2 dd
      simp only [pu1, pu2, pu3, pu4]
      refine gw_val (by kernel_rfl) (some 43) rfl (.tuple #[.agg (lgA a2 Q.length k2 dd), .int .i64 ee]) (by kernel_rfl) ?_
      simp only [pu1, pu2, pu3, pu4]
      refine gw_val (by kernel_rfl) (some 46) rfl (.agg (lgA a2 Q.length k2 dd)) (by kernel_rfl) ?_
      simp only [pu1, pu2, pu3, pu4]
      refine gw_val (by kernel_rfl) (some 47) rfl (.int .i64 ee) (by kernel_rfl) ?_
      simp only [pu1, pu2, pu3, pu4]
      refine run_to rfl (some 9) rfl (.pointer (some ⟨V3.heap.size, 0, none⟩)) (V3.alloc (.cells (lgA none 0 0 0) 25)) (by kernel_rfl) ?_
      simp only [pu1, pu2, pu3, pu4]
      refine gw_store (by kernel_rfl) rfl 25 (.tmp 9) (.tmp 46) rfl (.pointer (some ⟨V3.heap.size, 0, none⟩)) (.agg (lgA a2 Q.length k2 dd)) (by kernel_rfl) (by kernel_rfl) (V4) (hst4) ?_
      refine gw_val (by kernel_rfl) (some 10) rfl (.int .i64 ee) (by kernel_rfl) ?_
      simp only [pu1, pu2, pu3, pu4]
      apply wpList_nil
      obtain ⟨g9, hg9⟩ : ∃ g9, V3.heap.size = g9 := ⟨_, rfl⟩
      have hb34 := hbV3.trans (hb4.mono hbV3.size)
      have HX9 := Lib.hid hbx4
      have HX72 := Lib.hid (HX7.out.below HX7.out.lt hb34)
      have HC12 := Lib.hid (HC1.out.below hb34)
      have HC2 := Lib.hid (hcV3.below hb4)
      have HK2 := Lib.hid hkV3
      have HBB2 := Lib.hid (HBB.out.trans (hb34.mono HBB.out.size))
      have HCA4 := Lib.hid (HCA2.out.below hb34)
      rw [hg9] at HX9 ⊢
      clear hbx4 hb4 hbV3 hcV3 hkV3 hst4 hg9 hb34 CH HBB HCA2 HX7 HC1
      cases more
      · skip
        go_upto_region 8 with fail
        apply wp_region_lit
        refine gw_val (by kernel_rfl) (some 11) rfl (.string ⟨#[117, 97, 98]⟩) (by kernel_rfl) ?_
        simp only [pu1, pu2, pu3, pu4]
        apply wpList_nil
        go_upto_region 9 with fail
        apply wp_region_lit
        refine gw_val (by kernel_rfl) (some 48) rfl (.bool false) (by kernel_rfl) ?_
        simp only [pu1, pu2, pu3, pu4]
        apply wpList_nil
        have CS := q_set a1 k1 Q dd (⟨#[117, 97, 98]⟩, 1, 0) V4 HC12.out HK1.out (Nat.le_trans HLQ.out.l (by decide)) HLQ.out.c HLQ.out.w HLQ.out.z2 ⟨⟨by decide, by decide⟩, w64_0⟩ (by decide)
        have HQ2 := Lib.hid (LQ.set (y := (⟨#[117, 97, 98]⟩, 1, 0)) HLQ.out (by decide) ⟨⟨by decide, by decide⟩, w64_0⟩)
        obtain ⟨r2, hr2⟩ : ∃ r2, setX Q dd (⟨#[117, 97, 98]⟩, 1, 0) = r2 := ⟨_, rfl⟩
        rw [hr2] at CS HQ2
        have HR2 := Lib.hid hr2
        obtain ⟨Q2, d2, e2⟩ := r2
        clear hr2
        go_upto_region 11 with fail
        apply wp_region_lit
        refine gw_load (by kernel_rfl) (some 50) rfl 25 (.tmp 7) rfl ⟨g7, 0, none⟩ (.agg (lgA a1 Q.length k1 dd)) (by kernel_rfl) (load_lg HX72.out) ?_
        simp only [pu1, pu2, pu3, pu4]
        refine gw_val (by kernel_rfl) (some 51) rfl (.string ⟨#[117, 97, 98]⟩) (by kernel_rfl) ?_
        simp only [pu1, pu2, pu3, pu4]
        refine gw_val (by kernel_rfl) (some 52) rfl (.agg (acA (⟨#[117, 97, 98]⟩, 1, 0))) (by kernel_rfl) ?_
        simp only [pu1, pu2, pu3, pu4]
        refine gw_callE (by kernel_rfl) (some 53) rfl 20 #[.agg (lgA a1 Q.length k1 dd), .agg (acA (⟨#[117, 97, 98]⟩, 1, 0))] (fun v w' => ∃ ad kk, v = .tuple #[.agg (lgA ad Q2.length kk d2), .int .i64 e2] ∧ Cs w' ad (acc Q2) ∧ Q2.length ≤ kk ∧ Below V4.heap.size V4 w') (by kernel_rfl) ((CS).mono fun e w' q => by obtain ⟨ad, kk, h1, h2, h3⟩ := q; obtain ⟨a9, c9, e9, h4, h5⟩ := own_cs h2; simp only [Value.slice.injEq, true_and] at e9; obtain ⟨rfl, rfl⟩ := e9; exact ⟨_, h1, ad, kk, rfl, h4, h5, h3⟩) (fun vv V5 hq => ?_)
        obtain ⟨a3, k3, rfl, hcV5, hkV5, hbV5⟩ := hq
        obtain ⟨V6, hst6, hb6, hbx6⟩ := new_lg V5 a3 Q2.length k3 d2
        simp only [pu1, pu2, pu3, pu4]
        refine gw_val (by kernel_rfl) (some 49) rfl (.tuple #[.agg (lgA a3 Q2.length k3 d2), .int .i64 e2]) (by kernel_rfl) ?_
        simp only [pu1, pu2, pu3, pu4]
        refine gw_val (by kernel_rfl) (some 54) rfl (.agg (lgA a3 Q2.length k3 d2)) (by kernel_rfl) ?_
        simp only [pu1, pu2, pu3, pu4]
        refine gw_val (by kernel_rfl) (some 55) rfl (.int .i64 e2) (by kernel_rfl) ?_
        simp only [pu1, pu2, pu3, pu4]
        refine run_to rfl (some 12) rfl (.pointer (some ⟨V5.heap.size, 0, none⟩)) (V5.alloc (.cells (lgA none 0 0 0) 25)) (by kernel_rfl) ?_
        simp only [pu1, pu2, pu3, pu4]
        refine gw_store (by kernel_rfl) rfl 25 (.tmp 12) (.tmp 54) rfl (.pointer (some ⟨V5.heap.size, 0, none⟩)) (.agg (lgA a3 Q2.length k3 d2)) (by kernel_rfl) (by kernel_rfl) (V6) (hst6) ?_
        refine gw_val (by kernel_rfl) (some 13) rfl (.int .i64 e2) (by kernel_rfl) ?_
        simp only [pu1, pu2, pu3, pu4]
        apply wpList_nil
        obtain ⟨g12, hg12⟩ : ∃ g, V5.heap.size = g := ⟨_, rfl⟩
        have hb56 := hbV5.trans (hb6.mono hbV5.size)
        have HX12 := Lib.hid hbx6
        have HX73 := Lib.hid (HX72.out.below HX72.out.lt hb56)
        have HX93 := Lib.hid (HX9.out.below HX9.out.lt hb56)
        have HC13 := Lib.hid (HC12.out.below hb56)
        have HC23 := Lib.hid (HC2.out.below hb56)
        have HC3 := Lib.hid (hcV5.below hb6)
        have HBB3 := Lib.hid (HBB2.out.trans (hb56.mono HBB2.out.size))
        have HCA6 := Lib.hid (HCA4.out.below hb56)
        rw [hg12] at HX12 ⊢
        have CS2 := ref_set a2 k2 Q dd (⟨#[117, 97, 98]⟩, 1, 0) V6 HC23.out HK2.out (Nat.le_trans HLQ.out.l (by decide)) HLQ.out.c HLQ.out.w HLQ.out.z2 ⟨⟨by decide, by decide⟩, w64_0⟩ (by decide)
        rw [HR2.out] at CS2
        clear hbx6 hb6 hbV5 hcV5 hkV5 hst6 hg12 hb56 CS HX72 HX9 HC12 HC2 HBB2 HCA4
        go_upto_region 12 with fail
        apply wp_region_lit
        refine gw_load (by kernel_rfl) (some 57) rfl 25 (.tmp 9) rfl ⟨g9, 0, none⟩ (.agg (lgA a2 Q.length k2 dd)) (by kernel_rfl) (load_lg HX93.out) ?_
        simp only [pu1, pu2, pu3, pu4]
        refine gw_val (by kernel_rfl) (some 58) rfl (.string ⟨#[117, 97, 98]⟩) (by kernel_rfl) ?_
        simp only [pu1, pu2, pu3, pu4]
        refine gw_val (by kernel_rfl) (some 59) rfl (.agg (acA (⟨#[117, 97, 98]⟩, 1, 0))) (by kernel_rfl) ?_
        simp only [pu1, pu2, pu3, pu4]
        refine gw_callE (by kernel_rfl) (some 60) rfl 21 #[.agg (lgA a2 Q.length k2 dd), .agg (acA (⟨#[117, 97, 98]⟩, 1, 0))] (fun v w' => ∃ ad kk, v = .tuple #[.agg (lgA ad Q2.length kk d2), .int .i64 e2] ∧ Cs w' ad (acc Q2) ∧ Q2.length ≤ kk ∧ Below V6.heap.size V6 w') (by kernel_rfl) ((CS2).mono fun e w' q => by obtain ⟨ad, kk, h1, h2, h3⟩ := q; obtain ⟨a9, c9, e9, h4, h5⟩ := own_cs h2; simp only [Value.slice.injEq, true_and] at e9; obtain ⟨rfl, rfl⟩ := e9; exact ⟨_, h1, ad, kk, rfl, h4, h5, h3⟩) (fun vv V7 hq => ?_)
        obtain ⟨a4, k4, rfl, hcV7, hkV7, hbV7⟩ := hq
        obtain ⟨V8, hst8, hb8, hbx8⟩ := new_lg V7 a4 Q2.length k4 d2
        simp only [pu1, pu2, pu3, pu4]
        refine gw_val (by kernel_rfl) (some 56) rfl (.tuple #[.agg (lgA a4 Q2.length k4 d2), .int .i64 e2]) (by kernel_rfl) ?_
        simp only [pu1, pu2, pu3, pu4]
        refine gw_val (by kernel_rfl) (some 61) rfl (.agg (lgA a4 Q2.length k4 d2)) (by kernel_rfl) ?_
        simp only [pu1, pu2, pu3, pu4]
        refine gw_val (by kernel_rfl) (some 62) rfl (.int .i64 e2) (by kernel_rfl) ?_
        simp only [pu1, pu2, pu3, pu4]
        refine run_to rfl (some 14) rfl (.pointer (some ⟨V7.heap.size, 0, none⟩)) (V7.alloc (.cells (lgA none 0 0 0) 25)) (by kernel_rfl) ?_
        simp only [pu1, pu2, pu3, pu4]
        refine gw_store (by kernel_rfl) rfl 25 (.tmp 14) (.tmp 61) rfl (.pointer (some ⟨V7.heap.size, 0, none⟩)) (.agg (lgA a4 Q2.length k4 d2)) (by kernel_rfl) (by kernel_rfl) (V8) (hst8) ?_
        refine gw_val (by kernel_rfl) (some 15) rfl (.int .i64 e2) (by kernel_rfl) ?_
        simp only [pu1, pu2, pu3, pu4]
        apply wpList_nil
        obtain ⟨g14, hg14⟩ : ∃ g, V7.heap.size = g := ⟨_, rfl⟩
        have hb78 := hbV7.trans (hb8.mono hbV7.size)
        have HX14 := Lib.hid hbx8
        have HX74 := Lib.hid (HX73.out.below HX73.out.lt hb78)
        have HX94 := Lib.hid (HX93.out.below HX93.out.lt hb78)
        have HX124 := Lib.hid (HX12.out.below HX12.out.lt hb78)
        have HC14 := Lib.hid (HC13.out.below hb78)
        have HC24 := Lib.hid (HC23.out.below hb78)
        have HC34 := Lib.hid (HC3.out.below hb78)
        have HC4 := Lib.hid (hcV7.below hb8)
        have HBB4 := Lib.hid (HBB3.out.trans (hb78.mono HBB3.out.size))
        have HCA8 := Lib.hid (HCA6.out.below hb78)
        rw [hg14] at HX14 ⊢
        have CE1 := ref_sameled Q dd a1 a2 k1 k2 V8 HC14.out HC24.out (Nat.le_trans HLQ.out.l (by decide))
        clear hbx8 hb8 hbV7 hcV7 hkV7 hst8 hg14 hb78 CS2 HX73 HX93 HX12 HC13 HC23 HC3 HBB3 HCA6
        go_upto_region 13 with fail
        apply wp_region_lit
        refine gw_val (by kernel_rfl) (some 63) rfl (.int .i64 ee) (by kernel_rfl) ?_
        simp only [pu1, pu2, pu3, pu4]
        refine gw_val (by kernel_rfl) (some 64) rfl (.int .i64 ee) (by kernel_rfl) ?_
        simp only [pu1, pu2, pu3, pu4]
        refine gw_val (by kernel_rfl) (some 65) rfl (.bool true) (eql_e rfl ee ee (decide_eq_true rfl) (by kernel_rfl) (by kernel_rfl) _) ?_
        simp only [pu1, pu2, pu3, pu4]
        refine gw_val (by kernel_rfl) (some 66) rfl (.bool true) (by kernel_rfl) ?_
        simp only [pu1, pu2, pu3, pu4]
        refine gw_load (by kernel_rfl) (some 67) rfl 25 (.tmp 7) rfl ⟨g7, 0, none⟩ (.agg (lgA a1 Q.length k1 dd)) (by kernel_rfl) (load_lg HX74.out) ?_
        simp only [pu1, pu2, pu3, pu4]
        refine gw_load (by kernel_rfl) (some 68) rfl 25 (.tmp 9) rfl ⟨g9, 0, none⟩ (.agg (lgA a2 Q.length k2 dd)) (by kernel_rfl) (load_lg HX94.out) ?_
        simp only [pu1, pu2, pu3, pu4]
        refine gw_call (by kernel_rfl) (some 69) rfl 19 #[.agg (lgA a1 Q.length k1 dd), .agg (lgA a2 Q.length k2 dd)] (.bool true) (fun w' => Below V8.heap.size V8 w') (by kernel_rfl) (CE1) (fun U1 hU1 => ?_)
        have CE2 := ref_sameled Q2 d2 a3 a4 k3 k4 U1 (HC34.out.below hU1) (HC4.out.below hU1) (Nat.le_trans HQ2.out.l (by decide))
        simp only [pu1, pu2, pu3, pu4]
        refine gw_val (by kernel_rfl) (some 70) rfl (.bool true) (by kernel_rfl) ?_
        simp only [pu1, pu2, pu3, pu4]
        refine gw_val (by kernel_rfl) (some 71) rfl (.bool true) (by kernel_rfl) ?_
        simp only [pu1, pu2, pu3, pu4]
        refine gw_val (by kernel_rfl) (some 72) rfl (.int .i64 e2) (by kernel_rfl) ?_
        simp only [pu1, pu2, pu3, pu4]
        refine gw_val (by kernel_rfl) (some 73) rfl (.int .i64 e2) (by kernel_rfl) ?_
        simp only [pu1, pu2, pu3, pu4]
        refine gw_val (by kernel_rfl) (some 74) rfl (.bool true) (eql_e rfl e2 e2 (decide_eq_true rfl) (by kernel_rfl) (by kernel_rfl) _) ?_
        simp only [pu1, pu2, pu3, pu4]
        refine gw_val (by kernel_rfl) (some 75) rfl (.bool true) (by kernel_rfl) ?_
        simp only [pu1, pu2, pu3, pu4]
        refine gw_val (by kernel_rfl) (some 76) rfl (.bool true) (by kernel_rfl) ?_
        simp only [pu1, pu2, pu3, pu4]
        refine gw_load (by kernel_rfl) (some 77) rfl 25 (.tmp 12) rfl ⟨g12, 0, none⟩ (.agg (lgA a3 Q2.length k3 d2)) (by kernel_rfl) (load_lg (HX124.out.below HX124.out.lt hU1)) ?_
        simp only [pu1, pu2, pu3, pu4]
        refine gw_load (by kernel_rfl) (some 78) rfl 25 (.tmp 14) rfl ⟨g14, 0, none⟩ (.agg (lgA a4 Q2.length k4 d2)) (by kernel_rfl) (load_lg (HX14.out.below HX14.out.lt hU1)) ?_
        simp only [pu1, pu2, pu3, pu4]
        refine gw_call (by kernel_rfl) (some 79) rfl 19 #[.agg (lgA a3 Q2.length k3 d2), .agg (lgA a4 Q2.length k4 d2)] (.bool true) (fun w' => Below U1.heap.size U1 w') (by kernel_rfl) (CE2) (fun U2 hU2 => ?_)
        have hU12 := hU1.trans (hU2.mono hU1.size)
        have CV1 := q_validate a5 k5 A 0 U2 (HCA8.out.below hU12) (by have := HAL.out; omega) w64_0 HAQ.out.w HAQ.out.z2
        obtain ⟨ve, hve⟩ : ∃ ve, valE A 0 = ve := ⟨_, rfl⟩
        rw [hve] at CV1
        simp only [pu1, pu2, pu3, pu4]
        refine gw_val (by kernel_rfl) (some 80) rfl (.bool true) (by kernel_rfl) ?_
        simp only [pu1, pu2, pu3, pu4]
        refine gw_val (by kernel_rfl) (some 81) rfl (.bool true) (by kernel_rfl) ?_
        simp only [pu1, pu2, pu3, pu4]
        refine gw_val (by kernel_rfl) (some 82) rfl (.slice a5 A.length k5) (by kernel_rfl) ?_
        simp only [pu1, pu2, pu3, pu4]
        refine gw_val (by kernel_rfl) (some 83) rfl (.agg (lgA a5 A.length k5 0)) (by kernel_rfl) ?_
        simp only [pu1, pu2, pu3, pu4]
        refine gw_call (by kernel_rfl) (some 84) rfl 15 #[.agg (lgA a5 A.length k5 0)] (.int .i64 ve) (fun w' => Below U2.heap.size U2 w') (by kernel_rfl) (CV1) (fun U3 hU3 => ?_)
        have hU13 := hU12.trans (hU3.mono hU12.size)
        have CV2 := ref_validate a5 k5 A 0 U3 (HCA8.out.below hU13) (by have := HAL.out; omega) w64_0 HAQ.out.w HAQ.out.z2
        rw [hve] at CV2
        simp only [pu1, pu2, pu3, pu4]
        refine gw_val (by kernel_rfl) (some 85) rfl (.slice a5 A.length k5) (by kernel_rfl) ?_
        simp only [pu1, pu2, pu3, pu4]
        refine gw_val (by kernel_rfl) (some 86) rfl (.agg (lgA a5 A.length k5 0)) (by kernel_rfl) ?_
        simp only [pu1, pu2, pu3, pu4]
        refine gw_call (by kernel_rfl) (some 87) rfl 16 #[.agg (lgA a5 A.length k5 0)] (.int .i64 ve) (fun w' => Below U3.heap.size U3 w') (by kernel_rfl) (CV2) (fun U4 hU4 => ?_)
        have hU14 := hU13.trans (hU4.mono hU13.size)
        simp only [pu1, pu2, pu3, pu4]
        refine gw_val (by kernel_rfl) (some 88) rfl (.bool true) (eql_e rfl ve ve (decide_eq_true rfl) (by kernel_rfl) (by kernel_rfl) _) ?_
        simp only [pu1, pu2, pu3, pu4]
        refine gw_val (by kernel_rfl) (some 89) rfl (.bool true) (by kernel_rfl) ?_
        simp only [pu1, pu2, pu3, pu4]
        refine gw_val (by kernel_rfl) (some 90) rfl (.bool true) (by kernel_rfl) ?_
        simp only [pu1, pu2, pu3, pu4]
        refine gw_call (by kernel_rfl) (some 91) rfl 10 #[] (.bool true) (fun w' => Below w.heap.size w w') (by kernel_rfl) (HK.out U4 (HBB4.out.trans (hU14.mono HBB4.out.size))) (fun V9 hV9 => ?_)
        simp only [pu1, pu2, pu3, pu4]
        refine gw_val (by kernel_rfl) (some 92) rfl (.bool true) (by kernel_rfl) ?_
        simp only [pu1, pu2, pu3, pu4]
        refine gw_val (by kernel_rfl) (some 4) rfl (.bool true) (by kernel_rfl) ?_
        simp only [pu1, pu2, pu3, pu4]
        apply wpList_nil
        have HE := Lib.hid hV9
        clear hV9 hU1 hU2 hU3 hU4 hU12 hU13 hU14 CE1 CE2 CV1 CV2 hve
        go_wp2_with fail
        go_ret
        exact ⟨rfl, HE.out⟩
      · skip
        go_upto_region 8 with fail
        apply wp_region_lit
        refine gw_val (by kernel_rfl) (some 11) rfl (.string ⟨#[117, 97, 98]⟩) (by kernel_rfl) ?_
        simp only [pu1, pu2, pu3, pu4]
        apply wpList_nil
        go_upto_region 9 with fail
        apply wp_region_lit
        refine gw_val (by kernel_rfl) (some 48) rfl (.bool true) (by kernel_rfl) ?_
        simp only [pu1, pu2, pu3, pu4]
        apply wpList_nil
        go_upto_region 10 with fail
        apply wp_region_lit
        refine gw_val (by kernel_rfl) (some 11) rfl (.string ⟨#[118]⟩) (by kernel_rfl) ?_
        simp only [pu1, pu2, pu3, pu4]
        apply wpList_nil
        have CS := q_set a1 k1 Q dd (⟨#[118]⟩, 1, 0) V4 HC12.out HK1.out (Nat.le_trans HLQ.out.l (by decide)) HLQ.out.c HLQ.out.w HLQ.out.z2 ⟨⟨by decide, by decide⟩, w64_0⟩ (by decide)
        have HQ2 := Lib.hid (LQ.set (y := (⟨#[118]⟩, 1, 0)) HLQ.out (by decide) ⟨⟨by decide, by decide⟩, w64_0⟩)
        obtain ⟨r2, hr2⟩ : ∃ r2, setX Q dd (⟨#[118]⟩, 1, 0) = r2 := ⟨_, rfl⟩
        rw [hr2] at CS HQ2
        have HR2 := Lib.hid hr2
        obtain ⟨Q2, d2, e2⟩ := r2
        clear hr2
        go_upto_region 11 with fail
        apply wp_region_lit
        refine gw_load (by kernel_rfl) (some 50) rfl 25 (.tmp 7) rfl ⟨g7, 0, none⟩ (.agg (lgA a1 Q.length k1 dd)) (by kernel_rfl) (load_lg HX72.out) ?_
        simp only [pu1, pu2, pu3, pu4]
        refine gw_val (by kernel_rfl) (some 51) rfl (.string ⟨#[118]⟩) (by kernel_rfl) ?_
        simp only [pu1, pu2, pu3, pu4]
        refine gw_val (by kernel_rfl) (some 52) rfl (.agg (acA (⟨#[118]⟩, 1, 0))) (by kernel_rfl) ?_
        simp only [pu1, pu2, pu3, pu4]
        refine gw_callE (by kernel_rfl) (some 53) rfl 20 #[.agg (lgA a1 Q.length k1 dd), .agg (acA (⟨#[118]⟩, 1, 0))] (fun v w' => ∃ ad kk, v = .tuple #[.agg (lgA ad Q2.length kk d2), .int .i64 e2] ∧ Cs w' ad (acc Q2) ∧ Q2.length ≤ kk ∧ Below V4.heap.size V4 w') (by kernel_rfl) ((CS).mono fun e w' q => by obtain ⟨ad, kk, h1, h2, h3⟩ := q; obtain ⟨a9, c9, e9, h4, h5⟩ := own_cs h2; simp only [Value.slice.injEq, true_and] at e9; obtain ⟨rfl, rfl⟩ := e9; exact ⟨_, h1, ad, kk, rfl, h4, h5, h3⟩) (fun vv V5 hq => ?_)
        obtain ⟨a3, k3, rfl, hcV5, hkV5, hbV5⟩ := hq
        obtain ⟨V6, hst6, hb6, hbx6⟩ := new_lg V5 a3 Q2.length k3 d2
        simp only [pu1, pu2, pu3, pu4]
        refine gw_val (by kernel_rfl) (some 49) rfl (.tuple #[.agg (lgA a3 Q2.length k3 d2), .int .i64 e2]) (by kernel_rfl) ?_
        simp only [pu1, pu2, pu3, pu4]
        refine gw_val (by kernel_rfl) (some 54) rfl (.agg (lgA a3 Q2.length k3 d2)) (by kernel_rfl) ?_
        simp only [pu1, pu2, pu3, pu4]
        refine gw_val (by kernel_rfl) (some 55) rfl (.int .i64 e2) (by kernel_rfl) ?_
        simp only [pu1, pu2, pu3, pu4]
        refine run_to rfl (some 12) rfl (.pointer (some ⟨V5.heap.size, 0, none⟩)) (V5.alloc (.cells (lgA none 0 0 0) 25)) (by kernel_rfl) ?_
        simp only [pu1, pu2, pu3, pu4]
        refine gw_store (by kernel_rfl) rfl 25 (.tmp 12) (.tmp 54) rfl (.pointer (some ⟨V5.heap.size, 0, none⟩)) (.agg (lgA a3 Q2.length k3 d2)) (by kernel_rfl) (by kernel_rfl) (V6) (hst6) ?_
        refine gw_val (by kernel_rfl) (some 13) rfl (.int .i64 e2) (by kernel_rfl) ?_
        simp only [pu1, pu2, pu3, pu4]
        apply wpList_nil
        obtain ⟨g12, hg12⟩ : ∃ g, V5.heap.size = g := ⟨_, rfl⟩
        have hb56 := hbV5.trans (hb6.mono hbV5.size)
        have HX12 := Lib.hid hbx6
        have HX73 := Lib.hid (HX72.out.below HX72.out.lt hb56)
        have HX93 := Lib.hid (HX9.out.below HX9.out.lt hb56)
        have HC13 := Lib.hid (HC12.out.below hb56)
        have HC23 := Lib.hid (HC2.out.below hb56)
        have HC3 := Lib.hid (hcV5.below hb6)
        have HBB3 := Lib.hid (HBB2.out.trans (hb56.mono HBB2.out.size))
        have HCA6 := Lib.hid (HCA4.out.below hb56)
        rw [hg12] at HX12 ⊢
        have CS2 := ref_set a2 k2 Q dd (⟨#[118]⟩, 1, 0) V6 HC23.out HK2.out (Nat.le_trans HLQ.out.l (by decide)) HLQ.out.c HLQ.out.w HLQ.out.z2 ⟨⟨by decide, by decide⟩, w64_0⟩ (by decide)
        rw [HR2.out] at CS2
        clear hbx6 hb6 hbV5 hcV5 hkV5 hst6 hg12 hb56 CS HX72 HX9 HC12 HC2 HBB2 HCA4
        go_upto_region 12 with fail
        apply wp_region_lit
        refine gw_load (by kernel_rfl) (some 57) rfl 25 (.tmp 9) rfl ⟨g9, 0, none⟩ (.agg (lgA a2 Q.length k2 dd)) (by kernel_rfl) (load_lg HX93.out) ?_
        simp only [pu1, pu2, pu3, pu4]
        refine gw_val (by kernel_rfl) (some 58) rfl (.string ⟨#[118]⟩) (by kernel_rfl) ?_
        simp only [pu1, pu2, pu3, pu4]
        refine gw_val (by kernel_rfl) (some 59) rfl (.agg (acA (⟨#[118]⟩, 1, 0))) (by kernel_rfl) ?_
        simp only [pu1, pu2, pu3, pu4]
        refine gw_callE (by kernel_rfl) (some 60) rfl 21 #[.agg (lgA a2 Q.length k2 dd), .agg (acA (⟨#[118]⟩, 1, 0))] (fun v w' => ∃ ad kk, v = .tuple #[.agg (lgA ad Q2.length kk d2), .int .i64 e2] ∧ Cs w' ad (acc Q2) ∧ Q2.length ≤ kk ∧ Below V6.heap.size V6 w') (by kernel_rfl) ((CS2).mono fun e w' q => by obtain ⟨ad, kk, h1, h2, h3⟩ := q; obtain ⟨a9, c9, e9, h4, h5⟩ := own_cs h2; simp only [Value.slice.injEq, true_and] at e9; obtain ⟨rfl, rfl⟩ := e9; exact ⟨_, h1, ad, kk, rfl, h4, h5, h3⟩) (fun vv V7 hq => ?_)
        obtain ⟨a4, k4, rfl, hcV7, hkV7, hbV7⟩ := hq
        obtain ⟨V8, hst8, hb8, hbx8⟩ := new_lg V7 a4 Q2.length k4 d2
        simp only [pu1, pu2, pu3, pu4]
        refine gw_val (by kernel_rfl) (some 56) rfl (.tuple #[.agg (lgA a4 Q2.length k4 d2), .int .i64 e2]) (by kernel_rfl) ?_
        simp only [pu1, pu2, pu3, pu4]
        refine gw_val (by kernel_rfl) (some 61) rfl (.agg (lgA a4 Q2.length k4 d2)) (by kernel_rfl) ?_
        simp only [pu1, pu2, pu3, pu4]
        refine gw_val (by kernel_rfl) (some 62) rfl (.int .i64 e2) (by kernel_rfl) ?_
        simp only [pu1, pu2, pu3, pu4]
        refine run_to rfl (some 14) rfl (.pointer (some ⟨V7.heap.size, 0, none⟩)) (V7.alloc (.cells (lgA none 0 0 0) 25)) (by kernel_rfl) ?_
        simp only [pu1, pu2, pu3, pu4]
        refine gw_store (by kernel_rfl) rfl 25 (.tmp 14) (.tmp 61) rfl (.pointer (some ⟨V7.heap.size, 0, none⟩)) (.agg (lgA a4 Q2.length k4 d2)) (by kernel_rfl) (by kernel_rfl) (V8) (hst8) ?_
        refine gw_val (by kernel_rfl) (some 15) rfl (.int .i64 e2) (by kernel_rfl) ?_
        simp only [pu1, pu2, pu3, pu4]
        apply wpList_nil
        obtain ⟨g14, hg14⟩ : ∃ g, V7.heap.size = g := ⟨_, rfl⟩
        have hb78 := hbV7.trans (hb8.mono hbV7.size)
        have HX14 := Lib.hid hbx8
        have HX74 := Lib.hid (HX73.out.below HX73.out.lt hb78)
        have HX94 := Lib.hid (HX93.out.below HX93.out.lt hb78)
        have HX124 := Lib.hid (HX12.out.below HX12.out.lt hb78)
        have HC14 := Lib.hid (HC13.out.below hb78)
        have HC24 := Lib.hid (HC23.out.below hb78)
        have HC34 := Lib.hid (HC3.out.below hb78)
        have HC4 := Lib.hid (hcV7.below hb8)
        have HBB4 := Lib.hid (HBB3.out.trans (hb78.mono HBB3.out.size))
        have HCA8 := Lib.hid (HCA6.out.below hb78)
        rw [hg14] at HX14 ⊢
        have CE1 := ref_sameled Q dd a1 a2 k1 k2 V8 HC14.out HC24.out (Nat.le_trans HLQ.out.l (by decide))
        clear hbx8 hb8 hbV7 hcV7 hkV7 hst8 hg14 hb78 CS2 HX73 HX93 HX12 HC13 HC23 HC3 HBB3 HCA6
        go_upto_region 13 with fail
        apply wp_region_lit
        refine gw_val (by kernel_rfl) (some 63) rfl (.int .i64 ee) (by kernel_rfl) ?_
        simp only [pu1, pu2, pu3, pu4]
        refine gw_val (by kernel_rfl) (some 64) rfl (.int .i64 ee) (by kernel_rfl) ?_
        simp only [pu1, pu2, pu3, pu4]
        refine gw_val (by kernel_rfl) (some 65) rfl (.bool true) (eql_e rfl ee ee (decide_eq_true rfl) (by kernel_rfl) (by kernel_rfl) _) ?_
        simp only [pu1, pu2, pu3, pu4]
        refine gw_val (by kernel_rfl) (some 66) rfl (.bool true) (by kernel_rfl) ?_
        simp only [pu1, pu2, pu3, pu4]
        refine gw_load (by kernel_rfl) (some 67) rfl 25 (.tmp 7) rfl ⟨g7, 0, none⟩ (.agg (lgA a1 Q.length k1 dd)) (by kernel_rfl) (load_lg HX74.out) ?_
        simp only [pu1, pu2, pu3, pu4]
        refine gw_load (by kernel_rfl) (some 68) rfl 25 (.tmp 9) rfl ⟨g9, 0, none⟩ (.agg (lgA a2 Q.length k2 dd)) (by kernel_rfl) (load_lg HX94.out) ?_
        simp only [pu1, pu2, pu3, pu4]
        refine gw_call (by kernel_rfl) (some 69) rfl 19 #[.agg (lgA a1 Q.length k1 dd), .agg (lgA a2 Q.length k2 dd)] (.bool true) (fun w' => Below V8.heap.size V8 w') (by kernel_rfl) (CE1) (fun U1 hU1 => ?_)
        have CE2 := ref_sameled Q2 d2 a3 a4 k3 k4 U1 (HC34.out.below hU1) (HC4.out.below hU1) (Nat.le_trans HQ2.out.l (by decide))
        simp only [pu1, pu2, pu3, pu4]
        refine gw_val (by kernel_rfl) (some 70) rfl (.bool true) (by kernel_rfl) ?_
        simp only [pu1, pu2, pu3, pu4]
        refine gw_val (by kernel_rfl) (some 71) rfl (.bool true) (by kernel_rfl) ?_
        simp only [pu1, pu2, pu3, pu4]
        refine gw_val (by kernel_rfl) (some 72) rfl (.int .i64 e2) (by kernel_rfl) ?_
        simp only [pu1, pu2, pu3, pu4]
        refine gw_val (by kernel_rfl) (some 73) rfl (.int .i64 e2) (by kernel_rfl) ?_
        simp only [pu1, pu2, pu3, pu4]
        refine gw_val (by kernel_rfl) (some 74) rfl (.bool true) (eql_e rfl e2 e2 (decide_eq_true rfl) (by kernel_rfl) (by kernel_rfl) _) ?_
        simp only [pu1, pu2, pu3, pu4]
        refine gw_val (by kernel_rfl) (some 75) rfl (.bool true) (by kernel_rfl) ?_
        simp only [pu1, pu2, pu3, pu4]
        refine gw_val (by kernel_rfl) (some 76) rfl (.bool true) (by kernel_rfl) ?_
        simp only [pu1, pu2, pu3, pu4]
        refine gw_load (by kernel_rfl) (some 77) rfl 25 (.tmp 12) rfl ⟨g12, 0, none⟩ (.agg (lgA a3 Q2.length k3 d2)) (by kernel_rfl) (load_lg (HX124.out.below HX124.out.lt hU1)) ?_
        simp only [pu1, pu2, pu3, pu4]
        refine gw_load (by kernel_rfl) (some 78) rfl 25 (.tmp 14) rfl ⟨g14, 0, none⟩ (.agg (lgA a4 Q2.length k4 d2)) (by kernel_rfl) (load_lg (HX14.out.below HX14.out.lt hU1)) ?_
        simp only [pu1, pu2, pu3, pu4]
        refine gw_call (by kernel_rfl) (some 79) rfl 19 #[.agg (lgA a3 Q2.length k3 d2), .agg (lgA a4 Q2.length k4 d2)] (.bool true) (fun w' => Below U1.heap.size U1 w') (by kernel_rfl) (CE2) (fun U2 hU2 => ?_)
        have hU12 := hU1.trans (hU2.mono hU1.size)
        have CV1 := q_validate a5 k5 A 0 U2 (HCA8.out.below hU12) (by have := HAL.out; omega) w64_0 HAQ.out.w HAQ.out.z2
        obtain ⟨ve, hve⟩ : ∃ ve, valE A 0 = ve := ⟨_, rfl⟩
        rw [hve] at CV1
        simp only [pu1, pu2, pu3, pu4]
        refine gw_val (by kernel_rfl) (some 80) rfl (.bool true) (by kernel_rfl) ?_
        simp only [pu1, pu2, pu3, pu4]
        refine gw_val (by kernel_rfl) (some 81) rfl (.bool true) (by kernel_rfl) ?_
        simp only [pu1, pu2, pu3, pu4]
        refine gw_val (by kernel_rfl) (some 82) rfl (.slice a5 A.length k5) (by kernel_rfl) ?_
        simp only [pu1, pu2, pu3, pu4]
        refine gw_val (by kernel_rfl) (some 83) rfl (.agg (lgA a5 A.length k5 0)) (by kernel_rfl) ?_
        simp only [pu1, pu2, pu3, pu4]
        refine gw_call (by kernel_rfl) (some 84) rfl 15 #[.agg (lgA a5 A.length k5 0)] (.int .i64 ve) (fun w' => Below U2.heap.size U2 w') (by kernel_rfl) (CV1) (fun U3 hU3 => ?_)
        have hU13 := hU12.trans (hU3.mono hU12.size)
        have CV2 := ref_validate a5 k5 A 0 U3 (HCA8.out.below hU13) (by have := HAL.out; omega) w64_0 HAQ.out.w HAQ.out.z2
        rw [hve] at CV2
        simp only [pu1, pu2, pu3, pu4]
        refine gw_val (by kernel_rfl) (some 85) rfl (.slice a5 A.length k5) (by kernel_rfl) ?_
        simp only [pu1, pu2, pu3, pu4]
        refine gw_val (by kernel_rfl) (some 86) rfl (.agg (lgA a5 A.length k5 0)) (by kernel_rfl) ?_
        simp only [pu1, pu2, pu3, pu4]
        refine gw_call (by kernel_rfl) (some 87) rfl 16 #[.agg (lgA a5 A.length k5 0)] (.int .i64 ve) (fun w' => Below U3.heap.size U3 w') (by kernel_rfl) (CV2) (fun U4 hU4 => ?_)
        have hU14 := hU13.trans (hU4.mono hU13.size)
        simp only [pu1, pu2, pu3, pu4]
        refine gw_val (by kernel_rfl) (some 88) rfl (.bool true) (eql_e rfl ve ve (decide_eq_true rfl) (by kernel_rfl) (by kernel_rfl) _) ?_
        simp only [pu1, pu2, pu3, pu4]
        refine gw_val (by kernel_rfl) (some 89) rfl (.bool true) (by kernel_rfl) ?_
        simp only [pu1, pu2, pu3, pu4]
        refine gw_val (by kernel_rfl) (some 90) rfl (.bool true) (by kernel_rfl) ?_
        simp only [pu1, pu2, pu3, pu4]
        refine gw_call (by kernel_rfl) (some 91) rfl 10 #[] (.bool true) (fun w' => Below w.heap.size w w') (by kernel_rfl) (HK.out U4 (HBB4.out.trans (hU14.mono HBB4.out.size))) (fun V9 hV9 => ?_)
        simp only [pu1, pu2, pu3, pu4]
        refine gw_val (by kernel_rfl) (some 92) rfl (.bool true) (by kernel_rfl) ?_
        simp only [pu1, pu2, pu3, pu4]
        refine gw_val (by kernel_rfl) (some 4) rfl (.bool true) (by kernel_rfl) ?_
        simp only [pu1, pu2, pu3, pu4]
        apply wpList_nil
        have HE := Lib.hid hV9
        clear hV9 hU1 hU2 hU3 hU4 hU12 hU13 hU14 CE1 CE2 CV1 CV2 hve
        go_wp2_with fail
        go_ret
        exact ⟨rfl, HE.out⟩
end Go.Proofs.Ytebnlklodokhkaa
