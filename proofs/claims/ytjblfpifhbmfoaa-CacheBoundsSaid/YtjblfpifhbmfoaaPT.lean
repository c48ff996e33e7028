/-
  The contracts of the program's list: take. (Out of stage 7.)
-/
import Derived.Test.YtjblfpifhbmfoaaPW
namespace Go.Proofs.Ytjblfpifhbmfoaa
open Go.RowKit
set_option linter.unusedSimpArgs false
set_option linter.unusedVariables false

set_option linter.unusedSimpArgs false
set_option linter.unusedVariables false
theorem infoP : (Try.prog.info? 66).map (fun i => (i.zero, i.size, i.bytes)) = some (some (.agg #[.int .i64 0, .int .i64 0, .int .i64 0, .bool false]), 4, 32) := by kernel_rfl
theorem one_P (v : Int) (w : World) : (Instr.buildSlice 62 1 #[(0, .agg #[.int .i64 v, .int .i64 0, .int .i64 0, .bool true])]).run Try.prog w = .ok (.slice (some ⟨w.heap.size, 0, none⟩) 1 1) (w.alloc (.cells #[.int .i64 v, .int .i64 0, .int .i64 0, .bool true] 66)) := by
  obtain ⟨i0, hi, hz0, hz1, hz2⟩ := info_parts infoP
  refine run_buildSlice w 62 66 1 _ #[.int .i64 v, .int .i64 0, .int .i64 0, .bool true] i0 _ Try.underlying62 hi hz0 (by rw [hz1]; omega) (by rw [hz1]; omega) ?_
  rw [hz1]
  kernel_rfl
/-- A block of its own, new or the old one. -/
def Nx (w : World) (ea ea2 : Option Addr) : Prop := ∀ x, ea2 = some x → (∃ y, ea = some y ∧ y.block = x.block) ∨ w.heap.size ≤ x.block
/-- One element is appended to the row. -/
theorem Rp.append {w : World} {B g ec : Nat} {ea : Option Addr} {q : PS} (h : Rp w g ea ec q) (hB : ∀ k, Sg g ea k → B ≤ k) (hBw : B ≤ w.heap.size) (v : Int) (hl : q.T.length + 1 ≤ 100000) :
    ∃ ea2 ec2 w1, (Builtin.append_ #[62, 62] 62 #[.slice ea q.T.length ec, .slice (some ⟨w.heap.size, 0, none⟩) 1 1]).run Try.prog (w.alloc (.cells #[.int .i64 v, .int .i64 0, .int .i64 0, .bool true] 66)) = .ok (.slice ea2 (q.T.length + 1) ec2) w1 ∧
      Bx w1 g (hd5 ea ec q) 64 ∧ w1.ownsRow 0 66 4 (.slice ea2 (q.T.length + 1) ec2) (q.T.length + 1) (tc (q.T ++ [⟨v, 0, 0, true⟩])) ∧ ButS B (Sg g ea) w w1 ∧ Nx w ea ea2 ∧ ∀ x, ea2 = some x → x.block ≠ g := by
  obtain ⟨i0, hi, hz0, hz1, hz2⟩ := info_parts infoP
  have hb1 : Below w.heap.size w (w.alloc (.cells #[.int .i64 v, .int .i64 0, .int .i64 0, .bool true] 66)) := (Below.refl _ w).alloc (Nat.le_refl _) _
  have hC : Cs (w.alloc (.cells #[.int .i64 v, .int .i64 0, .int .i64 0, .bool true] 66)) (some ⟨w.heap.size, 0, none⟩) (tc [⟨v, 0, 0, true⟩]) := Cs.block (t := 66) (fr := (0, 0)) (heap_alloc_last w _)
  have h1 := h.below hb1
  have hsz : (w.alloc (.cells #[.int .i64 v, .int .i64 0, .int .i64 0, .bool true] 66)).heap.size = w.heap.size + 1 := by simp
  obtain ⟨v', w', hr, hO, hg, hnil, hat⟩ := run_append_own_at (P := Try.prog) (w.alloc (.cells #[.int .i64 v, .int .i64 0, .int .i64 0, .bool true] 66)) 0 62 62 66 i0 _ 4 32 Try.underlying62 hi hz0 hz1 hz2 rfl (by omega)
    (.slice ea q.T.length ec) q.T.length (tc q.T) h1.ow ⟨w.heap.size, 0, none⟩ 1 1 (tc [⟨v, 0, 0, true⟩]) rfl (fun j u hu => by
      obtain ⟨b2, off2, e2, -, hc⟩ := hC j u hu
      simp only [Option.some.injEq, Addr.mk.injEq, and_true] at e2
      obtain ⟨rfl, rfl⟩ := e2
      rw [Addr.add_mid]
      exact hc) (tc_one _) (by unfold maxLen; omega) (by omega) (by omega)
  generalize (w.alloc (.cells #[.int .i64 v, .int .i64 0, .int .i64 0, .bool true] 66)) = w0 at *
  obtain ⟨ea2, ec2, rfl, -, -⟩ := own_cs hO
  have hown : ∀ y, ea = some y → Value.ownBlock (.slice ea q.T.length ec) = some y.block := fun y e => by rw [e]; rfl
  have hown2 : ∀ x, ea2 = some x → Value.ownBlock (.slice ea2 (q.T.length + 1) ec2) = some x.block := fun y e => by rw [e]; rfl
  have hgb : some g ≠ Value.ownBlock (.slice ea q.T.length ec) := by
    cases ea with
    | none => simp [Value.ownBlock]
    | some y => exact fun e => h.ap y rfl (by simpa [Value.ownBlock] using e.symm)
  have hgl := h.bx.lt
  have hne : Nx w ea ea2 := fun x hx => by
    rcases hat with e | e
    · rw [hown2 x hx] at e
      cases ea with
      | none => cases e
      | some y => exact .inl ⟨y, rfl, by simpa [Value.ownBlock] using e.symm⟩
    · rw [hown2 x hx] at e
      simp only [Option.some.injEq] at e
      exact .inr (by omega)
  refine ⟨ea2, ec2, w', hr, (hg.block g (by omega) hgb).trans h1.bx, by rw [tc_app]; exact hO, ⟨⟨hg.os.trans hb1.os, hg.tape.trans hb1.tape, hg.output.trans hb1.output, Nat.le_trans hb1.size hg.size, fun k hk => ?_⟩, fun k hk hn => ?_⟩, hne, fun x hx => ?_⟩
  · have hk2 : k < w.heap.size := by omega
    refine (hg.block k (by omega) ?_).trans (hb1.block k hk2)
    cases ea with
    | none => simp [Value.ownBlock]
    | some y =>
      have := hB y.block (.inr ⟨y, rfl, rfl⟩)
      intro e
      simp only [Value.ownBlock, Option.some.injEq] at e
      omega
  · refine (hg.block k (by omega) ?_).trans (hb1.block k hk)
    cases ea with
    | none => simp [Value.ownBlock]
    | some y =>
      intro e
      simp only [Value.ownBlock, Option.some.injEq] at e
      exact hn (.inr ⟨y, rfl, e.symm⟩)
  · rcases hne x hx with ⟨y, hy, e⟩ | hge
    · rw [← e]; exact h.ap y hy
    · omega
def Tk (B g : Nat) (ea : Option Addr) (q2 : PS) (w w' : World) : Prop := ∃ ea2 ec2, Rp w' g ea2 ec2 q2 ∧ ButS B (Sg g ea) w w' ∧ Nx w ea ea2
theorem ButS.drew {B : Nat} {S : Nat → Prop} {w w' : World} (h : ButS B S { w with drawn := w.drawn + 1 } w') : ButS B S w w' :=
  ⟨⟨h.1.os, h.1.tape, h.1.output, h.1.size, h.1.block⟩, h.2⟩
set_option maxRecDepth 100000 in
set_option maxHeartbeats 2000000 in
theorem p_takeA {w : World} {B g ec : Nat} {ea : Option Addr} {q : PS} (h : Rp w g ea ec q) (hB : ∀ k, Sg g ea k → B ≤ k) (hBw : B ≤ w.heap.size) (v : Int) (hq : q.ln = q.T.length) (hl : q.T.length + 1 ≤ 100000) : Calls Try.prog 39 #[.pointer (some ⟨g, 0, none⟩), .int .i64 v] w fun e w' => e = .returned (.int .i64 q.T.length) ∧ Tk B g ea ({ q with T := q.T ++ [⟨v, 0, 0, true⟩] } : PS) w w' := by
  have ht : ((q.ln : Int) == (q.T.length : Int)) = true := by rw [hq]; simp
  have h0 := h.drew
  have hl4 := h0.bx.load (i := 4) (ty := 3) rfl (by kernel_rfl)
  have hl0 := h0.bx.load (i := 0) (ty := 62) rfl (by kernel_rfl)
  obtain ⟨ea2, ec2, w1, hap, hbx, how, hbs, hnx, hapart⟩ := h0.append hB hBw v hl
  have hS := run_store_cell (ty := 62) (i := 0) (v := .slice ea2 (q.T.length + 1) ec2) hbx (by simp [hd5]) rfl (by kernel_rfl)
  have hb3 := (hbs.trans' (ButS.setCell w1 g 0 (.slice ea2 (q.T.length + 1) ec2) (hB g (.inl rfl)) (.inl rfl))).drew
  have hbx2 := hbx.setC (i := 0) (.slice ea2 (q.T.length + 1) ec2)
  have how2 : (w1.setCell ⟨g, 0, none⟩ (.slice ea2 (q.T.length + 1) ec2)).ownsRow 0 66 4 (.slice ea2 (q.T.length + 1) ec2) (q.T.length + 1) (tc (q.T ++ [⟨v, 0, 0, true⟩])) := own_same how fun x hx => heap_setCell_other w1 ⟨g, 0, none⟩ _ _ (hapart x hx)
  generalize w1.setCell ⟨g, 0, none⟩ (.slice ea2 (q.T.length + 1) ec2) = w2 at *
  have hl2 := hbx2.load (i := 0) (ty := 62) (v := .slice ea2 (q.T.length + 1) ec2) rfl (by kernel_rfl)
  have hR : Rp w2 g ea2 ec2 { q with T := q.T ++ [⟨v, 0, 0, true⟩] } := { bx := by show Bx _ _ _ _; unfold hd5; simp only [List.length_append, List.length_singleton]; exact hbx2, ow := by simp only [List.length_append, List.length_singleton]; exact how2, ap := hapart, tn := by simp only [List.length_append, List.length_singleton]; exact hl, ln := h.ln }
  have HF : Hid (Tk B g ea ({ q with T := q.T ++ [⟨v, 0, 0, true⟩] } : PS) w w2) := Lib.hid ⟨ea2, ec2, hR, hb3, fun x hx => hnx x hx⟩
  have hlm : q.T.length + 1 ≤ 1000000 := by omega
  clear hbx how hbs hnx hapart hb3 hbx2 how2 hR h0 h hq hl hB
  go_enter Try.func39, Try.ntmps39
  go_upto_region 1 with fail
  refine wp_region_class (C := fun V => V = { w with drawn := w.drawn + 1 }) (by kernel_rfl) (by kernel_rfl) rfl ?_
  refine gq_val (by kernel_rfl) (some 6) rfl (.pointer (some ⟨g, 0, none⟩)) (fun V hV => by subst hV; kernel_rfl) ?_
  simp only [Act.put, List.setIfInBounds_toArray, List.set_cons_succ, List.set_cons_zero]
  refine gq_val (by kernel_rfl) (some 7) rfl (.pointer (some ⟨g, 0, none⟩)) (fun V hV => by subst hV; kernel_rfl) ?_
  simp only [Act.put, List.setIfInBounds_toArray, List.set_cons_succ, List.set_cons_zero]
  refine gq_val (by kernel_rfl) (some 8) rfl (.pointer (some ⟨g, 4, none⟩)) (fun V hV => by subst hV; kernel_rfl) ?_
  simp only [Act.put, List.setIfInBounds_toArray, List.set_cons_succ, List.set_cons_zero]
  refine gq_load (by kernel_rfl) (some 9) rfl 3 (.tmp 8) rfl ⟨g, 4, none⟩ (.int .i64 q.ln) (by kernel_rfl) (fun V hV => by subst hV; exact hl4) ?_
  simp only [Act.put, List.setIfInBounds_toArray, List.set_cons_succ, List.set_cons_zero]
  refine gq_val (by kernel_rfl) (some 10) rfl (.pointer (some ⟨g, 0, none⟩)) (fun V hV => by subst hV; kernel_rfl) ?_
  simp only [Act.put, List.setIfInBounds_toArray, List.set_cons_succ, List.set_cons_zero]
  refine gq_val (by kernel_rfl) (some 11) rfl (.pointer (some ⟨g, 0, none⟩)) (fun V hV => by subst hV; kernel_rfl) ?_
  simp only [Act.put, List.setIfInBounds_toArray, List.set_cons_succ, List.set_cons_zero]
  refine gq_val (by kernel_rfl) (some 12) rfl (.pointer (some ⟨g, 0, none⟩)) (fun V hV => by subst hV; kernel_rfl) ?_
  simp only [Act.put, List.setIfInBounds_toArray, List.set_cons_succ, List.set_cons_zero]
  refine gq_load (by kernel_rfl) (some 13) rfl 62 (.tmp 12) rfl ⟨g, 0, none⟩ (.slice ea q.T.length ec) (by kernel_rfl) (fun V hV => by subst hV; exact hl0) ?_
  simp only [Act.put, List.setIfInBounds_toArray, List.set_cons_succ, List.set_cons_zero]
  refine gq_val (by kernel_rfl) (some 14) rfl (.int .i64 q.T.length) (fun V hV => by subst hV; kernel_rfl) ?_
  simp only [Act.put, List.setIfInBounds_toArray, List.set_cons_succ, List.set_cons_zero]
  refine gq_val (by kernel_rfl) (some 15) rfl (.bool ((q.ln : Int) == (q.T.length : Int))) (fun V hV => by subst hV; kernel_rfl) ?_
  simp only [Act.put, List.setIfInBounds_toArray, List.set_cons_succ, List.set_cons_zero]
  rw [ht]
  apply wpQuiet_nil
  intro w9 hw9
  subst hw9
  go_upto_region 2 with fail
  apply wp_region_lit
  refine gw_val (by kernel_rfl) (some 16) rfl (.pointer (some ⟨g, 0, none⟩)) (by kernel_rfl) ?_
  simp only [Act.put, List.setIfInBounds_toArray, List.set_cons_succ, List.set_cons_zero]
  refine gw_val (by kernel_rfl) (some 17) rfl (.pointer (some ⟨g, 0, none⟩)) (by kernel_rfl) ?_
  simp only [Act.put, List.setIfInBounds_toArray, List.set_cons_succ, List.set_cons_zero]
  refine gw_val (by kernel_rfl) (some 18) rfl (.pointer (some ⟨g, 0, none⟩)) (by kernel_rfl) ?_
  simp only [Act.put, List.setIfInBounds_toArray, List.set_cons_succ, List.set_cons_zero]
  refine gw_val (by kernel_rfl) (some 19) rfl (.pointer (some ⟨g, 0, none⟩)) (by kernel_rfl) ?_
  simp only [Act.put, List.setIfInBounds_toArray, List.set_cons_succ, List.set_cons_zero]
  refine gw_load (by kernel_rfl) (some 20) rfl 62 (.tmp 19) rfl ⟨g, 0, none⟩ (.slice ea q.T.length ec) (by kernel_rfl) (hl0) ?_
  simp only [Act.put, List.setIfInBounds_toArray, List.set_cons_succ, List.set_cons_zero]
  refine gw_val (by kernel_rfl) (some 21) rfl (.int .i64 v) (by kernel_rfl) ?_
  simp only [Act.put, List.setIfInBounds_toArray, List.set_cons_succ, List.set_cons_zero]
  refine gw_val (by kernel_rfl) (some 22) rfl (.agg #[.int .i64 v, .int .i64 0, .int .i64 0, .bool true]) (by kernel_rfl) ?_
  simp only [Act.put, List.setIfInBounds_toArray, List.set_cons_succ, List.set_cons_zero]
  refine gw_build (by kernel_rfl) (some 23) rfl 62 1 #[(0, .tmp 22)] rfl #[(0, .agg #[.int .i64 v, .int .i64 0, .int .i64 0, .bool true])] (by kernel_rfl) (.slice (some ⟨w.heap.size, 0, none⟩) 1 1) _ (one_P v _) ?_
  simp only [Act.put, List.setIfInBounds_toArray, List.set_cons_succ, List.set_cons_zero]
  refine append_step rfl (some 24) rfl 62 rfl (.tmp 20) (.tmp 23) 62 rfl (.slice ea q.T.length ec) (.slice (some ⟨w.heap.size, 0, none⟩) 1 1) (.slice ea2 (q.T.length + 1) ec2) w1 (by kernel_rfl) (by kernel_rfl) hap ?_
  simp only [Act.put, List.setIfInBounds_toArray, List.set_cons_succ, List.set_cons_zero]
  refine gw_val (by kernel_rfl) (some 25) rfl (.pointer (some ⟨g, 0, none⟩)) (by kernel_rfl) ?_
  simp only [Act.put, List.setIfInBounds_toArray, List.set_cons_succ, List.set_cons_zero]
  refine gw_val (by kernel_rfl) (some 26) rfl (.pointer (some ⟨g, 0, none⟩)) (by kernel_rfl) ?_
  simp only [Act.put, List.setIfInBounds_toArray, List.set_cons_succ, List.set_cons_zero]
  refine gw_store (by kernel_rfl) rfl 62 (.tmp 26) (.tmp 24) rfl (.pointer (some ⟨g, 0, none⟩)) (.slice ea2 (q.T.length + 1) ec2) (by kernel_rfl) (by kernel_rfl) (w2) (hS) ?_
  apply wpList_nil
  go_upto_region 3 with fail
  apply wp_region_lit
  refine gw_val (by kernel_rfl) (some 27) rfl (.pointer (some ⟨g, 0, none⟩)) (by kernel_rfl) ?_
  simp only [Act.put, List.setIfInBounds_toArray, List.set_cons_succ, List.set_cons_zero]
  refine gw_val (by kernel_rfl) (some 28) rfl (.pointer (some ⟨g, 0, none⟩)) (by kernel_rfl) ?_
  simp only [Act.put, List.setIfInBounds_toArray, List.set_cons_succ, List.set_cons_zero]
  refine gw_val (by kernel_rfl) (some 29) rfl (.pointer (some ⟨g, 0, none⟩)) (by kernel_rfl) ?_
  simp only [Act.put, List.setIfInBounds_toArray, List.set_cons_succ, List.set_cons_zero]
  refine gw_load (by kernel_rfl) (some 30) rfl 62 (.tmp 29) rfl ⟨g, 0, none⟩ (.slice ea2 (q.T.length + 1) ec2) (by kernel_rfl) (hl2) ?_
  simp only [Act.put, List.setIfInBounds_toArray, List.set_cons_succ, List.set_cons_zero]
  refine gw_val (by kernel_rfl) (some 31) rfl (.int .i64 (q.T.length + 1 : Nat)) (by kernel_rfl) ?_
  simp only [Act.put, List.setIfInBounds_toArray, List.set_cons_succ, List.set_cons_zero]
  refine gw_val (by kernel_rfl) (some 32) rfl (.int .i64 q.T.length) (sub_one rfl (q.T.length + 1) hlm (by omega) (by kernel_rfl) w2) ?_
  simp only [Act.put, List.setIfInBounds_toArray, List.set_cons_succ, List.set_cons_zero]
  refine gw_val (by kernel_rfl) (some 4) rfl (.int .i64 q.T.length) (by kernel_rfl) ?_
  simp only [Act.put, List.setIfInBounds_toArray, List.set_cons_succ, List.set_cons_zero]
  apply wpList_nil
  go_wp2_with fail
  go_ret
  exact ⟨rfl, HF.out⟩
set_option maxRecDepth 100000 in
set_option maxHeartbeats 2000000 in
theorem p_takeB {w : World} {B g ec b : Nat} {q : PS} (h : Rp w g (some ⟨b, 0, none⟩) ec q) (hB : ∀ k, Sg g (some ⟨b, 0, none⟩) k → B ≤ k) (v : Int) (hq : q.ln ≠ q.T.length) (k : Nat) (hk : k < q.T.length) (hf : q.fr = k) : Calls Try.prog 39 #[.pointer (some ⟨g, 0, none⟩), .int .i64 v] w fun e w' => e = .returned (.int .i64 k) ∧ Rp w' g (some ⟨b, 0, none⟩) ec { q with fr := (q.T.getD k El.zero).n, T := q.T.set k ⟨v, 0, 0, true⟩ } ∧ ButS B (Sg g (some ⟨b, 0, none⟩)) w w' := by
  have ht : ((q.ln : Int) == (q.T.length : Int)) = false := by simp; omega
  have h0 := h.drew
  have hl4 := h0.bx.load (i := 4) (ty := 3) rfl (by kernel_rfl)
  have hl0 := h0.bx.load (i := 0) (ty := 62) rfl (by kernel_rfl)
  have hl3 := h0.bx.load (i := 3) (ty := 3) (v := .int .i64 q.fr) rfl (by kernel_rfl)
  rw [hf] at hl3
  have hcell := h0.cell _ _ (tc_at q.T k hk).2.2.1
  have hS1 := run_store_cell (ty := 3) (i := 3) (v := .int .i64 (q.T.getD k El.zero).n) h0.bx (by simp [hd5]) rfl (by kernel_rfl)
  have h1 : Rp _ g _ ec { q with fr := (q.T.getD k El.zero).n } := h0.field 3 (.int .i64 (q.T.getD k El.zero).n) rfl rfl h.ln
  have hb1 := (ButS.setCell (B := B) (S := Sg g (some ⟨b, 0, none⟩)) { w with drawn := w.drawn + 1 } g 3 (.int .i64 (q.T.getD k El.zero).n) (hB g (.inl rfl)) (.inl rfl))
  generalize (q.T.getD k El.zero).n = y at *
  generalize World.setCell { w with drawn := w.drawn + 1 } ⟨g, 3, none⟩ (.int .i64 y) = w1 at *
  have hl5 := h1.bx.load (i := 0) (ty := 62) (v := .slice (some ⟨b, 0, none⟩) q.T.length ec) rfl (by kernel_rfl)
  have hS2 := h1.storeEl k hk ⟨v, 0, 0, true⟩
  have h2 := h1.putEl k hk ⟨v, 0, 0, true⟩
  have hb2 := (hb1.trans' (ButS.setEl w1 b (k * 4) ⟨v, 0, 0, true⟩ (hB b (.inr ⟨_, rfl, rfl⟩)) (.inr ⟨_, rfl, rfl⟩))).drew
  generalize w1.setCells b (k * 4) (elc ⟨v, 0, 0, true⟩) = w2 at *
  have HF := Lib.hid (And.intro h2 hb2)
  clear h2 hb2 h1 hb1 h0 h hq hf hB
  go_enter Try.func39, Try.ntmps39
  go_upto_region 1 with fail
  refine wp_region_class (C := fun V => V = { w with drawn := w.drawn + 1 }) (by kernel_rfl) (by kernel_rfl) rfl ?_
  refine gq_val (by kernel_rfl) (some 6) rfl (.pointer (some ⟨g, 0, none⟩)) (fun V hV => by subst hV; kernel_rfl) ?_
  simp only [Act.put, List.setIfInBounds_toArray, List.set_cons_succ, List.set_cons_zero]
  refine gq_val (by kernel_rfl) (some 7) rfl (.pointer (some ⟨g, 0, none⟩)) (fun V hV => by subst hV; kernel_rfl) ?_
  simp only [Act.put, List.setIfInBounds_toArray, List.set_cons_succ, List.set_cons_zero]
  refine gq_val (by kernel_rfl) (some 8) rfl (.pointer (some ⟨g, 4, none⟩)) (fun V hV => by subst hV; kernel_rfl) ?_
  simp only [Act.put, List.setIfInBounds_toArray, List.set_cons_succ, List.set_cons_zero]
  refine gq_load (by kernel_rfl) (some 9) rfl 3 (.tmp 8) rfl ⟨g, 4, none⟩ (.int .i64 q.ln) (by kernel_rfl) (fun V hV => by subst hV; exact hl4) ?_
  simp only [Act.put, List.setIfInBounds_toArray, List.set_cons_succ, List.set_cons_zero]
  refine gq_val (by kernel_rfl) (some 10) rfl (.pointer (some ⟨g, 0, none⟩)) (fun V hV => by subst hV; kernel_rfl) ?_
  simp only [Act.put, List.setIfInBounds_toArray, List.set_cons_succ, List.set_cons_zero]
  refine gq_val (by kernel_rfl) (some 11) rfl (.pointer (some ⟨g, 0, none⟩)) (fun V hV => by subst hV; kernel_rfl) ?_
  simp only [Act.put, List.setIfInBounds_toArray, List.set_cons_succ, List.set_cons_zero]
  refine gq_val (by kernel_rfl) (some 12) rfl (.pointer (some ⟨g, 0, none⟩)) (fun V hV => by subst hV; kernel_rfl) ?_
  simp only [Act.put, List.setIfInBounds_toArray, List.set_cons_succ, List.set_cons_zero]
  refine gq_load (by kernel_rfl) (some 13) rfl 62 (.tmp 12) rfl ⟨g, 0, none⟩ (.slice (some ⟨b, 0, none⟩) q.T.length ec) (by kernel_rfl) (fun V hV => by subst hV; exact hl0) ?_
  simp only [Act.put, List.setIfInBounds_toArray, List.set_cons_succ, List.set_cons_zero]
  refine gq_val (by kernel_rfl) (some 14) rfl (.int .i64 q.T.length) (fun V hV => by subst hV; kernel_rfl) ?_
  simp only [Act.put, List.setIfInBounds_toArray, List.set_cons_succ, List.set_cons_zero]
  refine gq_val (by kernel_rfl) (some 15) rfl (.bool ((q.ln : Int) == (q.T.length : Int))) (fun V hV => by subst hV; kernel_rfl) ?_
  simp only [Act.put, List.setIfInBounds_toArray, List.set_cons_succ, List.set_cons_zero]
  rw [ht]
  apply wpQuiet_nil
  intro w9 hw9
  subst hw9
  go_upto_region 4 with fail
  apply wp_region_lit
  refine gw_val (by kernel_rfl) (some 33) rfl (.pointer (some ⟨g, 0, none⟩)) (by kernel_rfl) ?_
  simp only [Act.put, List.setIfInBounds_toArray, List.set_cons_succ, List.set_cons_zero]
  refine gw_val (by kernel_rfl) (some 34) rfl (.pointer (some ⟨g, 0, none⟩)) (by kernel_rfl) ?_
  simp only [Act.put, List.setIfInBounds_toArray, List.set_cons_succ, List.set_cons_zero]
  refine gw_val (by kernel_rfl) (some 35) rfl (.pointer (some ⟨g, 3, none⟩)) (by kernel_rfl) ?_
  simp only [Act.put, List.setIfInBounds_toArray, List.set_cons_succ, List.set_cons_zero]
  refine gw_load (by kernel_rfl) (some 36) rfl 3 (.tmp 35) rfl ⟨g, 3, none⟩ (.int .i64 k) (by kernel_rfl) (hl3) ?_
  simp only [Act.put, List.setIfInBounds_toArray, List.set_cons_succ, List.set_cons_zero]
  refine gw_val (by kernel_rfl) (some 5) rfl (.int .i64 k) (by kernel_rfl) ?_
  simp only [Act.put, List.setIfInBounds_toArray, List.set_cons_succ, List.set_cons_zero]
  apply wpList_nil
  go_upto_region 5 with fail
  apply wp_region_lit
  refine gw_val (by kernel_rfl) (some 37) rfl (.pointer (some ⟨g, 0, none⟩)) (by kernel_rfl) ?_
  simp only [Act.put, List.setIfInBounds_toArray, List.set_cons_succ, List.set_cons_zero]
  refine gw_val (by kernel_rfl) (some 38) rfl (.pointer (some ⟨g, 0, none⟩)) (by kernel_rfl) ?_
  simp only [Act.put, List.setIfInBounds_toArray, List.set_cons_succ, List.set_cons_zero]
  refine gw_val (by kernel_rfl) (some 39) rfl (.pointer (some ⟨g, 0, none⟩)) (by kernel_rfl) ?_
  simp only [Act.put, List.setIfInBounds_toArray, List.set_cons_succ, List.set_cons_zero]
  refine gw_val (by kernel_rfl) (some 40) rfl (.pointer (some ⟨g, 0, none⟩)) (by kernel_rfl) ?_
  simp only [Act.put, List.setIfInBounds_toArray, List.set_cons_succ, List.set_cons_zero]
  refine gw_load (by kernel_rfl) (some 41) rfl 62 (.tmp 40) rfl ⟨g, 0, none⟩ (.slice (some ⟨b, 0, none⟩) q.T.length ec) (by kernel_rfl) (hl0) ?_
  simp only [Act.put, List.setIfInBounds_toArray, List.set_cons_succ, List.set_cons_zero]
  refine gw_val (by kernel_rfl) (some 42) rfl (.int .i64 k) (by kernel_rfl) ?_
  simp only [Act.put, List.setIfInBounds_toArray, List.set_cons_succ, List.set_cons_zero]
  refine gw_val (by kernel_rfl) (some 43) rfl (.pointer (some ⟨b, k * 4, none⟩)) (idx_P b q.T.length ec k hk _ _ _ rfl (by kernel_rfl) (by kernel_rfl)) ?_
  simp only [Act.put, List.setIfInBounds_toArray, List.set_cons_succ, List.set_cons_zero]
  refine gw_val (by kernel_rfl) (some 44) rfl (.pointer (some ⟨b, k * 4 + 2, none⟩)) (by kernel_rfl) ?_
  simp only [Act.put, List.setIfInBounds_toArray, List.set_cons_succ, List.set_cons_zero]
  refine gw_load (by kernel_rfl) (some 45) rfl 3 (.tmp 44) rfl ⟨b, k * 4 + 2, none⟩ (.int .i64 y) (by kernel_rfl) (load_cell hcell (by kernel_rfl)) ?_
  simp only [Act.put, List.setIfInBounds_toArray, List.set_cons_succ, List.set_cons_zero]
  refine gw_val (by kernel_rfl) (some 46) rfl (.pointer (some ⟨g, 0, none⟩)) (by kernel_rfl) ?_
  simp only [Act.put, List.setIfInBounds_toArray, List.set_cons_succ, List.set_cons_zero]
  refine gw_val (by kernel_rfl) (some 47) rfl (.pointer (some ⟨g, 3, none⟩)) (by kernel_rfl) ?_
  simp only [Act.put, List.setIfInBounds_toArray, List.set_cons_succ, List.set_cons_zero]
  refine gw_store (by kernel_rfl) rfl 3 (.tmp 47) (.tmp 45) rfl (.pointer (some ⟨g, 3, none⟩)) (.int .i64 y) (by kernel_rfl) (by kernel_rfl) (w1) (hS1) ?_
  apply wpList_nil
  go_upto_region 6 with fail
  apply wp_region_lit
  refine gw_val (by kernel_rfl) (some 48) rfl (.pointer (some ⟨g, 0, none⟩)) (by kernel_rfl) ?_
  simp only [Act.put, List.setIfInBounds_toArray, List.set_cons_succ, List.set_cons_zero]
  refine gw_val (by kernel_rfl) (some 49) rfl (.pointer (some ⟨g, 0, none⟩)) (by kernel_rfl) ?_
  simp only [Act.put, List.setIfInBounds_toArray, List.set_cons_succ, List.set_cons_zero]
  refine gw_val (by kernel_rfl) (some 50) rfl (.pointer (some ⟨g, 0, none⟩)) (by kernel_rfl) ?_
  simp only [Act.put, List.setIfInBounds_toArray, List.set_cons_succ, List.set_cons_zero]
  refine gw_load (by kernel_rfl) (some 51) rfl 62 (.tmp 50) rfl ⟨g, 0, none⟩ (.slice (some ⟨b, 0, none⟩) q.T.length ec) (by kernel_rfl) (hl5) ?_
  simp only [Act.put, List.setIfInBounds_toArray, List.set_cons_succ, List.set_cons_zero]
  refine gw_val (by kernel_rfl) (some 52) rfl (.int .i64 k) (by kernel_rfl) ?_
  simp only [Act.put, List.setIfInBounds_toArray, List.set_cons_succ, List.set_cons_zero]
  refine gw_val (by kernel_rfl) (some 53) rfl (.int .i64 v) (by kernel_rfl) ?_
  simp only [Act.put, List.setIfInBounds_toArray, List.set_cons_succ, List.set_cons_zero]
  refine gw_val (by kernel_rfl) (some 54) rfl (.agg (elc ⟨v, 0, 0, true⟩).toArray) (by kernel_rfl) ?_
  simp only [Act.put, List.setIfInBounds_toArray, List.set_cons_succ, List.set_cons_zero]
  refine gw_val (by kernel_rfl) (some 55) rfl (.pointer (some ⟨b, k * 4, none⟩)) (idx_P b q.T.length ec k hk _ _ _ rfl (by kernel_rfl) (by kernel_rfl)) ?_
  simp only [Act.put, List.setIfInBounds_toArray, List.set_cons_succ, List.set_cons_zero]
  refine gw_store (by kernel_rfl) rfl 66 (.tmp 55) (.tmp 54) rfl (.pointer (some ⟨b, k * 4, none⟩)) (.agg (elc ⟨v, 0, 0, true⟩).toArray) (by kernel_rfl) (by kernel_rfl) (w2) (hS2) ?_
  apply wpList_nil
  go_upto_region 7 with fail
  apply wp_region_lit
  refine gw_val (by kernel_rfl) (some 56) rfl (.int .i64 k) (by kernel_rfl) ?_
  simp only [Act.put, List.setIfInBounds_toArray, List.set_cons_succ, List.set_cons_zero]
  refine gw_val (by kernel_rfl) (some 4) rfl (.int .i64 k) (by kernel_rfl) ?_
  simp only [Act.put, List.setIfInBounds_toArray, List.set_cons_succ, List.set_cons_zero]
  apply wpList_nil
  go_wp2_with fail
  go_ret
  exact ⟨rfl, HF.out⟩
theorem p_take {w : World} {B g ec : Nat} {ea : Option Addr} {q : PS} (h : Rp w g ea ec q) (hB : ∀ k, Sg g ea k → B ≤ k) (hBw : B ≤ w.heap.size) (v : Int) (hf : q.ln = q.T.length ∨ ∃ k : Nat, q.fr = k ∧ k < q.T.length) (hl : q.T.length + 1 ≤ 100000) : Calls Try.prog 39 #[.pointer (some ⟨g, 0, none⟩), .int .i64 v] w fun e w' => e = .returned (.int .i64 (takeP q v).2) ∧ Tk B g ea (takeP q v).1 w w' := by
  unfold takeP
  by_cases hq : q.ln = q.T.length
  · rw [if_pos hq]
    exact p_takeA h hB hBw v hq hl
  · rw [if_neg hq]
    rcases hf with hf | ⟨k, hf, hk⟩
    · exact absurd hf hq
    · obtain ⟨b, rfl, -⟩ := h.addr k hk
      refine (p_takeB h hB v hq k hk hf).mono ?_
      rintro e w' ⟨he, hR, hb⟩
      refine ⟨by rw [he, hf], some ⟨b, 0, none⟩, ec, ?_, hb, fun x hx => .inl ⟨x, hx, rfl⟩⟩
      have e2 : at_ q.T q.fr = q.T.getD k El.zero := by unfold at_; rw [hf, Int.toNat_natCast]
      have e3 : putE q.T q.fr ⟨v, 0, 0, true⟩ = q.T.set k ⟨v, 0, 0, true⟩ := by unfold putE; rw [hf, Int.toNat_natCast]
      rw [e2, e3]
      exact hR
end Go.Proofs.Ytjblfpifhbmfoaa
