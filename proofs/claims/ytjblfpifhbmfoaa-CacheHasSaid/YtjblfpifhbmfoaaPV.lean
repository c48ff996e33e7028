/-
  The contract of the program's Values. (Out of stage 7.)
-/
import Derived.Test.YtjblfpifhbmfoaaPX
namespace Go.Proofs.Ytjblfpifhbmfoaa
open Go.RowKit
set_option linter.unusedSimpArgs false
set_option linter.unusedVariables false

set_option linter.unusedSimpArgs false
set_option linter.unusedVariables false
theorem make_int (w : World) (c : Nat) (hc : c ≤ 100000) : ∃ w1, (Instr.makeSlice 22 (.int .i64 0) (.int .i64 (c : Int))).run Try.prog w = .ok (.slice (some ⟨w.heap.size, 0, none⟩) 0 c) w1 ∧ w1.ownsRow w.heap.size 3 1 (.slice (some ⟨w.heap.size, 0, none⟩) 0 c) 0 (icells []) ∧ Below w.heap.size w w1 := by
  obtain ⟨i0, hi, hz0, hz1, hz2⟩ := info_parts infoI
  obtain ⟨w1, hr, hO, hg⟩ := run_make_own (P := Try.prog) w w.heap.size 22 3 i0 _ 1 Try.underlying22 hi hz0 hz1 .i64 .i64 c (by rw [hz2]; omega) (by unfold maxLen; omega) (Nat.le_refl _)
  exact ⟨w1, hr, hO, hg.os, hg.tape, hg.output, hg.size, fun k hk => hg.block k hk (by simp)⟩
theorem gw_make {P : Program} {ops : Array Oper} {rest : List Oper} {o : Oper} {a : Act} {w : World} {Q : Exit → Act → World → Prop} (hw : Region.wanted o (yielded ops a.tmps) = true) (d : Option Tmp) (hd : o.dst = d) (t : TypeId) (x y : Operand) (ho : o.op = .makeSlice t x y)
    (vx vy v : Value) (hx : a.eval x = vx) (hy : a.eval y = vy) (w2 : World) (hr : (Instr.makeSlice t vx vy).run P w = .ok v w2) (k : wpList P ops Q rest (a.put d v) w2) : wpList P ops Q (o :: rest) a w := by
  refine gw_new hw d hd v w2 ?_ k
  unfold execOp
  simp only [ho, hx, hy, Sem.run_bind, hr]
  rfl
/-- What Values returns. -/
def Vs (E : List (Int × Int)) (w : World) (e : Ending) (w' : World) : Prop := ∃ a c, e = .returned (.slice a E.length c) ∧ Cs w' a (icells (E.map (·.2))) ∧ E.length ≤ c ∧ Below w.heap.size w w' ∧ ∀ x, a = some x → w.heap.size ≤ x.block
theorem Vs.mk {E : List (Int × Int)} {w w' : World} {s : Value} (hO : w'.ownsRow w.heap.size 3 1 s E.length (icells (E.map (·.2)))) (hB : Below w.heap.size w w') : Vs E w (.returned s) w' := by
  obtain ⟨a, c, rfl, hC, hc⟩ := own_cs hO
  exact ⟨a, c, rfl, hC, hc, hB, fun x hx => (hO.lt x.block (by rw [hx]; rfl)).1⟩
set_option maxRecDepth 100000 in
set_option maxHeartbeats 2000000 in
theorem p_values {w : World} {g ec : Nat} {ea : Option Addr} {q : PS} {E : List (Int × Int)} (h : Rp w g ea ec q) (hc : Ch q.T (-1) E (-1)) (hf : firstP q = hd E (-1)) (hr : ∀ x ∈ E, 0 ≤ x.1 ∧ x.1 < q.T.length) (hl : q.ln = E.length) : Calls Try.prog 33 #[.pointer (some ⟨g, 0, none⟩)] w fun e w' => Vs E w e w' := by
  have C1 := p_len h
  have hln := h.ln
  obtain ⟨w1, hmk, hO1, hb1⟩ := make_int w q.ln h.ln
  have h1 := h.below hb1
  have C2 := p_first h1
  rw [hf] at C2
  have CN := fun V (hV : Rp V g ea ec q) s => p_next hV s
  have HC := Lib.hid hc
  have HR := Lib.hid hr
  have HL := Lib.hid hl
  have H0 := Lib.hid h
  clear hc hf hr hl h h1
  go_enter Try.func33, Try.ntmps33
  go_upto_region 1 with fail
  apply wp_region_lit
  refine gw_val (by kernel_rfl) (some 5) rfl (.pointer (some ⟨g, 0, none⟩)) (by kernel_rfl) ?_
  simp only [Act.put, List.setIfInBounds_toArray, List.set_cons_succ, List.set_cons_zero]
  refine gw_call (by kernel_rfl) (some 6) rfl 40 #[.pointer (some ⟨g, 0, none⟩)] (.int .i64 q.ln) (fun w9 => w9 = w) (by kernel_rfl) C1 (fun w9 hw9 => ?_)
  subst hw9
  simp only [Act.put, List.setIfInBounds_toArray, List.set_cons_succ, List.set_cons_zero]
  refine gw_make (by kernel_rfl) (some 7) rfl 22 (.const (.int .i64 0)) (.tmp 6) rfl (.int .i64 0) (.int .i64 q.ln) (.slice (some ⟨w9.heap.size, 0, none⟩) 0 q.ln) (by kernel_rfl) (by kernel_rfl) w1 hmk ?_
  simp only [Act.put, List.setIfInBounds_toArray, List.set_cons_succ, List.set_cons_zero]
  refine gw_val (by kernel_rfl) (some 3) rfl (.slice (some ⟨w9.heap.size, 0, none⟩) 0 q.ln) (by kernel_rfl) ?_
  simp only [Act.put, List.setIfInBounds_toArray, List.set_cons_succ, List.set_cons_zero]
  apply wpList_nil
  go_upto_region 2 with fail
  apply wp_region_lit
  refine gw_val (by kernel_rfl) (some 8) rfl (.pointer (some ⟨g, 0, none⟩)) (by kernel_rfl) ?_
  simp only [Act.put, List.setIfInBounds_toArray, List.set_cons_succ, List.set_cons_zero]
  refine gw_call (by kernel_rfl) (some 9) rfl 38 #[.pointer (some ⟨g, 0, none⟩)] (.int .i64 (hd E (-1))) (fun w8 => w8 = w1) (by kernel_rfl) C2 (fun w8 hw8 => ?_)
  subst hw8
  simp only [Act.put, List.setIfInBounds_toArray, List.set_cons_succ, List.set_cons_zero]
  refine gw_val (by kernel_rfl) (some 4) rfl (.int .i64 (hd E (-1))) (by kernel_rfl) ?_
  simp only [Act.put, List.setIfInBounds_toArray, List.set_cons_succ, List.set_cons_zero]
  apply wpList_nil
  generalize (.slice (some ⟨w9.heap.size, 0, none⟩) 0 q.ln : Value) = s0 at *
  clear hmk C1 C2
  go_wp2_with fail
  go_loopg [3, 4] E.length (fun n s3 s4 wx => ∃ A D, E = A ++ D ∧ s4 = .int .i64 (hd D (-1)) ∧ wx.ownsRow w9.heap.size 3 1 s3 A.length (icells (A.map (·.2))) ∧ Below w9.heap.size w9 wx ∧ D.length = n)
  case atStart => exact ⟨[], E, rfl, rfl, hO1, hb1, rfl⟩
  case round =>
    obtain ⟨A, D, hE, rfl, hO, hB, hg⟩ := hrel
    have hr := HR.out
    have hch := HC.out
    obtain ⟨a9, c9, rfl, -, -⟩ := own_cs hO
    rw [hE] at hr hch
    cases D with
    | nil =>
      have hA : A = E := by rw [hE, List.append_nil]
      have HV : Hid (Vs E w9 (.returned (.slice a9 A.length c9)) wr) := Lib.hid (by rw [hA] at hO ⊢; exact Vs.mk hO hB)
      clear hE hr hch hO hB hg hA
      rw [show hd [] (-1) = (-1 : Int) from rfl]
      go_upto_region 3 with fail
      apply wp_region_lit
      refine gw_val (by kernel_rfl) (some 10) rfl (.int .i64 (-1)) (by kernel_rfl) ?_
      simp only [Act.put, List.setIfInBounds_toArray, List.set_cons_succ, List.set_cons_zero]
      refine gw_val (by kernel_rfl) (some 11) rfl (.bool false) (by kernel_rfl) ?_
      simp only [Act.put, List.setIfInBounds_toArray, List.set_cons_succ, List.set_cons_zero]
      apply wpList_nil
      go_upto_region 6 with fail
      apply wp_region_lit
      refine gw_val (by kernel_rfl) (some 26) rfl (.slice a9 A.length c9) (by kernel_rfl) ?_
      simp only [Act.put, List.setIfInBounds_toArray, List.set_cons_succ, List.set_cons_zero]
      refine gw_val (by kernel_rfl) (some 2) rfl (.slice a9 A.length c9) (by kernel_rfl) ?_
      simp only [Act.put, List.setIfInBounds_toArray, List.set_cons_succ, List.set_cons_zero]
      apply wpList_nil
      go_wp2_with fail
      go_ret
      exact HV.out
    | cons x D =>
      obtain ⟨hx0, hx1⟩ := hr x (by simp)
      rw [ch_app] at hch
      have hat := hch.2.1
      obtain ⟨s, v⟩ := x
      simp only at hx0 hx1 hat
      obtain ⟨k, rfl⟩ := Int.eq_ofNat_of_zero_le hx0
      have hk : k < q.T.length := by omega
      have hat2 : q.T.getD k El.zero = ⟨v, lst A (-1), hd D (-1), true⟩ := by rw [← hat]; unfold at_; rw [Int.toNat_natCast]
      have hN : nextP q k = hd D (-1) := by
        unfold nextP hasP
        rw [hat]
        simp [hk]
      have hR := H0.out.below hB
      obtain ⟨b, rfl, -⟩ := hR.addr k hk
      have hV : w9.heap.size ≤ wr.heap.size := hB.size
      have hcell := hR.cell _ _ (tc_at q.T k hk).1
      rw [hat2] at hcell
      have hld := hR.bx.load (i := 0) (ty := 62) (v := .slice (some ⟨b, 0, none⟩) q.T.length ec) rfl (by kernel_rfl)
      have hb3 : Below wr.heap.size wr (wr.alloc (.cells #[.int .i64 v] 3)) := (Below.refl _ wr).alloc (Nat.le_refl _) _
      have hC3 : Cs (wr.alloc (.cells #[.int .i64 v] 3)) (some ⟨wr.heap.size, 0, none⟩) (icells [v]) := Cs.block (t := 3) (fr := (0, 0)) (heap_alloc_last wr _)
      have hAl : A.length ≤ 100000 := by have h1 := HL.out; rw [hE] at h1; simp at h1; omega
      obtain ⟨v4, V4, hap, hO4, hb4, -⟩ := append_int (own_below hO hb3) (some ⟨wr.heap.size, 0, none⟩) 1 [v] hC3 (m := 1) rfl (Nat.le_trans hV hb3.size) (by omega) (by omega)
      rw [← icells_app, ← show (A ++ [((k : Int), v)]).map (·.2) = A.map (·.2) ++ [v] by simp] at hO4
      have hlA : A.length + 1 = (A ++ [((k : Int), v)]).length := by simp
      rw [hlA] at hO4
      have hE4 : E = (A ++ [((k : Int), v)]) ++ D := by rw [hE, List.append_assoc]; rfl
      have hBV : Below w9.heap.size w9 V4 := (hB.trans (hb3.mono hV)).trans hb4
      have CN4 := CN V4 (H0.out.below hBV) k
      rw [hN] at CN4
      have ht : ((k : Int) != -1) = true := by simp
      have HE4 := Lib.hid hE4
      have HBV := Lib.hid hBV
      have HO4 := Lib.hid hO4
      have HG : Hid (D.length = gk - 1 ∧ 0 < gk) := Lib.hid (by simp at hg; omega)
      clear hE4 hBV hO4 hlA hE hx0 hx1 hat hat2 hN hch hr hO hB hg hb3 hC3 hb4 hR hAl CN
      rw [show hd (((k : Int), v) :: D) (-1) = (k : Int) from rfl]
      go_upto_region 3 with fail
      apply wp_region_lit
      refine gw_val (by kernel_rfl) (some 10) rfl (.int .i64 k) (by kernel_rfl) ?_
      simp only [Act.put, List.setIfInBounds_toArray, List.set_cons_succ, List.set_cons_zero]
      refine gw_val (by kernel_rfl) (some 11) rfl (.bool ((k : Int) != -1)) (by kernel_rfl) ?_
      simp only [Act.put, List.setIfInBounds_toArray, List.set_cons_succ, List.set_cons_zero]
      rw [ht]
      apply wpList_nil
      go_upto_region 5 with fail
      apply wp_region_lit
      refine gw_val (by kernel_rfl) (some 15) rfl (.slice a9 A.length c9) (by kernel_rfl) ?_
      simp only [Act.put, List.setIfInBounds_toArray, List.set_cons_succ, List.set_cons_zero]
      refine gw_val (by kernel_rfl) (some 16) rfl (.pointer (some ⟨g, 0, none⟩)) (by kernel_rfl) ?_
      simp only [Act.put, List.setIfInBounds_toArray, List.set_cons_succ, List.set_cons_zero]
      refine gw_val (by kernel_rfl) (some 17) rfl (.pointer (some ⟨g, 0, none⟩)) (by kernel_rfl) ?_
      simp only [Act.put, List.setIfInBounds_toArray, List.set_cons_succ, List.set_cons_zero]
      refine gw_val (by kernel_rfl) (some 18) rfl (.pointer (some ⟨g, 0, none⟩)) (by kernel_rfl) ?_
      simp only [Act.put, List.setIfInBounds_toArray, List.set_cons_succ, List.set_cons_zero]
      refine gw_load (by kernel_rfl) (some 19) rfl 62 (.tmp 18) rfl ⟨g, 0, none⟩ (.slice (some ⟨b, 0, none⟩) q.T.length ec) (by kernel_rfl) (hld) ?_
      simp only [Act.put, List.setIfInBounds_toArray, List.set_cons_succ, List.set_cons_zero]
      refine gw_val (by kernel_rfl) (some 20) rfl (.int .i64 k) (by kernel_rfl) ?_
      simp only [Act.put, List.setIfInBounds_toArray, List.set_cons_succ, List.set_cons_zero]
      refine gw_val (by kernel_rfl) (some 21) rfl (.pointer (some ⟨b, k * 4, none⟩)) (idx_P b q.T.length ec k hk _ _ _ rfl (by kernel_rfl) (by kernel_rfl)) ?_
      simp only [Act.put, List.setIfInBounds_toArray, List.set_cons_succ, List.set_cons_zero]
      refine gw_val (by kernel_rfl) (some 22) rfl (.pointer (some ⟨b, k * 4, none⟩)) (by kernel_rfl) ?_
      simp only [Act.put, List.setIfInBounds_toArray, List.set_cons_succ, List.set_cons_zero]
      refine gw_load (by kernel_rfl) (some 23) rfl 3 (.tmp 22) rfl ⟨b, k * 4, none⟩ (.int .i64 v) (by kernel_rfl) (load_cell hcell (by kernel_rfl)) ?_
      simp only [Act.put, List.setIfInBounds_toArray, List.set_cons_succ, List.set_cons_zero]
      refine gw_build (by kernel_rfl) (some 24) rfl 22 1 #[(0, .tmp 23)] rfl #[(0, .int .i64 v)] (by kernel_rfl) (.slice (some ⟨wr.heap.size, 0, none⟩) 1 1) _ (one_int v wr) ?_
      simp only [Act.put, List.setIfInBounds_toArray, List.set_cons_succ, List.set_cons_zero]
      refine append_step rfl (some 25) rfl 22 rfl (.tmp 15) (.tmp 24) 22 rfl (.slice a9 A.length c9) (.slice (some ⟨wr.heap.size, 0, none⟩) 1 1) v4 V4 (by kernel_rfl) (by kernel_rfl) hap ?_
      simp only [Act.put, List.setIfInBounds_toArray, List.set_cons_succ, List.set_cons_zero]
      refine gw_val (by kernel_rfl) (some 3) rfl (v4) (by kernel_rfl) ?_
      simp only [Act.put, List.setIfInBounds_toArray, List.set_cons_succ, List.set_cons_zero]
      apply wpList_nil
      clear hap hld hcell
      go_upto_region 4 with fail
      apply wp_region_lit
      refine gw_val (by kernel_rfl) (some 12) rfl (.pointer (some ⟨g, 0, none⟩)) (by kernel_rfl) ?_
      simp only [Act.put, List.setIfInBounds_toArray, List.set_cons_succ, List.set_cons_zero]
      refine gw_val (by kernel_rfl) (some 13) rfl (.int .i64 k) (by kernel_rfl) ?_
      simp only [Act.put, List.setIfInBounds_toArray, List.set_cons_succ, List.set_cons_zero]
      refine gw_call (by kernel_rfl) (some 14) rfl 41 #[.pointer (some ⟨g, 0, none⟩), .int .i64 k] (.int .i64 (hd D (-1))) (fun w8 => w8 = V4) (by kernel_rfl) CN4 (fun w8 hw8 => ?_)
      subst hw8
      simp only [Act.put, List.setIfInBounds_toArray, List.set_cons_succ, List.set_cons_zero]
      refine gw_val (by kernel_rfl) (some 4) rfl (.int .i64 (hd D (-1))) (by kernel_rfl) ?_
      simp only [Act.put, List.setIfInBounds_toArray, List.set_cons_succ, List.set_cons_zero]
      apply wpList_nil
      clear CN4
      go_wp2_with fail
      go_roundg (gk - 1)
      case measure => have := HG.out; omega
      case rel => exact ⟨A ++ [((k : Int), v)], D, HE4.out, rfl, HO4.out, HBV.out, HG.out.1⟩
end Go.Proofs.Ytjblfpifhbmfoaa
