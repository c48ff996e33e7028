/-
  The contract of Write.
-/
import Derived.Test.YtebnlklodokhkaaDoorSK5
import Derived.Test.YtebnlklodokhkaaDoorSQC
namespace Go.Proofs.YtebnlklodokhkaaDoor
set_option maxRecDepth 100000
open Go.RowKit

theorem digs_block (H Bl X : List Int) (n u : Nat) (hH : H.length = 8) (hB : Bl.length = 64) (hu : u + X.length ≤ 64) :
    ((digs H Bl n).take (8 + u) ++ (X.map (Value.int .u8) ++ (digs H Bl n).drop (8 + u + X.length))) = digs H (Bl.take u ++ (X ++ Bl.drop (u + X.length))) n := by
  have h8 : (H.map (Value.int .u32)).length = 8 := by simp [hH]
  simp only [digs]
  rw [List.take_append, List.drop_append, h8]
  rw [List.take_of_length_le (by omega), List.drop_eq_nil_of_le (by omega : (H.map (Value.int .u32)).length ≤ 8 + u + X.length)]
  rw [show 8 + u - 8 = u by omega, show 8 + u + X.length - 8 = u + X.length by omega]
  rw [List.take_append_of_le_length (by simp; omega), List.drop_append_of_le_length (by simp; omega)]
  simp [List.append_assoc]

theorem But.setCells {g : Nat} : ∀ (vs : List Value) (o : Nat) (w : World), But g w (w.setCells g o vs)
  | [], _, w => But.refl g w
  | v :: r, o, w => (But.setCell w o v).trans (But.setCells r (o + 1) _)
theorem Dig.setstate {w : World} {g : Nat} {H Bl : List Int} {n : Nat} (h : Dig w g H Bl n) (hH : H.length = 8) (H' : List Int) (hH' : H'.length = 8) : Dig (w.setCells g 0 (w32s H').toList) g H' Bl n := by
  obtain ⟨a0, a1, a2, a3, a4, a5, a6, a7, rfl⟩ := eight H hH
  obtain ⟨b0, b1, b2, b3, b4, b5, b6, b7, rfl⟩ := eight H' hH'
  have e : (digs [a0, a1, a2, a3, a4, a5, a6, a7] Bl n) = .int .u32 a0 :: .int .u32 a1 :: .int .u32 a2 :: .int .u32 a3 :: .int .u32 a4 :: .int .u32 a5 :: .int .u32 a6 :: .int .u32 a7 :: (Bl.map (Value.int .u8) ++ [.int .i64 n]) := rfl
  have e' : (digs [b0, b1, b2, b3, b4, b5, b6, b7] Bl n) = .int .u32 b0 :: .int .u32 b1 :: .int .u32 b2 :: .int .u32 b3 :: .int .u32 b4 :: .int .u32 b5 :: .int .u32 b6 :: .int .u32 b7 :: (Bl.map (Value.int .u8) ++ [.int .i64 n]) := rfl
  unfold Dig at h ⊢
  rw [e] at h
  rw [e']
  simp only [List.map_cons, List.map_nil, World.setCells]
  have h0 := Joins.block_setCell h (i := 0) (v := .int .u32 b0)
  have h1 := Joins.block_setCell h0 (i := 1) (v := .int .u32 b1)
  have h2 := Joins.block_setCell h1 (i := 2) (v := .int .u32 b2)
  have h3 := Joins.block_setCell h2 (i := 3) (v := .int .u32 b3)
  have h4 := Joins.block_setCell h3 (i := 4) (v := .int .u32 b4)
  have h5 := Joins.block_setCell h4 (i := 5) (v := .int .u32 b5)
  have h6 := Joins.block_setCell h5 (i := 6) (v := .int .u32 b6)
  have h7 := Joins.block_setCell h6 (i := 7) (v := .int .u32 b7)
  simpa using h7
theorem Dig.range {w : World} {g : Nat} {H Bl : List Int} {n : Nat} (h : Dig w g H Bl n) : w.rangeAt g 0 (H.map (Value.int .u32)) := by
  intro j v hv
  rw [cell_of_row w g _ _ 103 (0, 0) h]
  have hj := (List.getElem?_eq_some_iff.1 hv).1
  simp only [digs, List.getElem?_toArray, Nat.zero_add]
  rw [List.getElem?_append_left hj]
  exact hv
theorem Dig.range8 {w : World} {g : Nat} {H Bl : List Int} {n : Nat} (h : Dig w g H Bl n) (hH : H.length = 8) : w.rangeAt g 8 (Bl.map (Value.int .u8)) := by
  intro j v hv
  rw [cell_of_row w g _ _ 103 (0, 0) h]
  have hj := (List.getElem?_eq_some_iff.1 hv).1
  simp only [digs, List.getElem?_toArray]
  rw [List.getElem?_append_right (by simp [hH]), List.getElem?_append_left (by simp [hH] at hj ⊢; omega)]
  simp only [List.length_map, hH]
  rw [show 8 + j - 8 = j by omega]
  exact hv
theorem Dig.there {w : World} {g : Nat} {H Bl : List Int} {n : Nat} (h : Dig w g H Bl n) (hH : H.length = 8) : w.there g 0 8 := by
  intro j hj
  refine ⟨?_, h.frozen _⟩
  have := h.range j (.int .u32 (H.getD j 0)) (by simp [List.getD, List.getElem?_eq_getElem (show j < H.length by omega)])
  rw [this]
  rfl
theorem Dig.but {w w' : World} {g : Nat} {H Bl : List Int} {n : Nat} (h : Dig w g H Bl n) (hb : Below w.heap.size w w') : Dig w' g H Bl n := h.below h.lt hb
theorem loadState {w : World} {g : Nat} {H Bl : List Int} {n : Nat} (h : Dig w g H Bl n) (hH : H.length = 8) : (Instr.loadAt 95 (.pointer (some ⟨g, 0, none⟩))).run Tryd.prog w = .ok (.agg (w32s H)) w :=
  run_loadAt_mid w g 0 95 (H.map (Value.int .u32)) (.array 8 94) h.range (by kernel_rfl) rfl (by simp only [List.length_map, hH]; kernel_rfl)
theorem loadBlock {w : World} {g : Nat} {H Bl : List Int} {n : Nat} (h : Dig w g H Bl n) (hH : H.length = 8) (hB : Bl.length = 64) : (Instr.loadAt 101 (.pointer (some ⟨g, 8, none⟩))).run Tryd.prog w = .ok (.agg (w8s Bl)) w :=
  run_loadAt_mid w g 8 101 (Bl.map (Value.int .u8)) (.array 64 5) (h.range8 hH) (by kernel_rfl) rfl (by simp only [List.length_map, hB]; kernel_rfl)

theorem slice_block (g u : Nat) (w : World) (hu : u < 64) : (Instr.sliceAt 101 (.pointer (some ⟨g, 8, none⟩)) (some (.int .i64 (u : Int))) none none).run Tryd.prog w = .ok (.slice (some ⟨g, 8 + u, none⟩) (64 - u) (64 - u)) w := by
  have h41 : Tryd.prog.underlying 101 = some (.array (Tryd.prog.arrayLen 101) (Tryd.prog.elem 101)) := by kernel_rfl
  have hl : Tryd.prog.arrayLen 101 = 64 := by kernel_rfl
  have hs : (sizeOf (Tryd.prog.elem 101)).run Tryd.prog w = .ok 1 w := by kernel_rfl
  rw [run_sliceAt_array_l w 101 ⟨g, 8, none⟩ h41 .i64 (u : Int) (by omega) (by rw [hl]; omega), hs, hl]
  simp only [Result.andThen, slicedAt, Int.toNat_natCast, Nat.mul_one]
  rw [if_neg (by omega), Addr.add_mid]

/-- A load yields v. -/
theorem wpQ_load {P : Program} {C : World → Prop} {ops : Array Oper} {Q : Act → Prop} {a : Act} {o : Oper} {rest : List Oper} (hgd : o.guard = none) (ty : TypeId) (x : Operand) (ho : o.op = .load ty x) (ad : Addr) (v : Value)
    (hx : a.eval x = .pointer (some ad)) (hl : ∀ w, C w → (Instr.loadAt ty (.pointer (some ad))).run P w = .ok v w) (h : wpQuiet P ops C Q rest (a.put o.dst v)) : wpQuiet P ops C Q (o :: rest) a := by
  refine wpQ_val hgd v (fun w hC => ?_) h
  unfold execOp
  simp only [ho, hx, Sem.run_bind, hl w hC]
  rfl

/-- A part is copied into the block of a Digest. -/
theorem wpList_copy_into {w : World} {ops : Array Oper} {rest : List Oper} {o : Oper} {a : Act} {Q : Exit → Act → World → Prop} (hgd : o.guard = none) (d s : Operand)
    (hop : o.op = .call { callee := .builtin .copy, args := #[d, s], argTypes := #[53, 53] }) (g u r c b off N m : Nat) (H Bl X B2 : List Int)
    (hd : a.eval d = .slice (some ⟨g, 8 + u, none⟩) (64 - u) (64 - u)) (hs : a.eval s = .slice (some ⟨b, off, none⟩) r c) (hD : Dig w g H Bl N) (hH : H.length = 8) (hB : Bl.length = 64) (hXl : X.length = m)
    (hm : m = Nat.min r (64 - u)) (hu : u + m ≤ 64) (hsrc : ∀ j v, (X.map (Value.int .u8))[j]? = some v → w.cell? ((⟨b, off, none⟩ : Addr).add j) = some v)
    (hB2 : B2 = Bl.take u ++ (X ++ Bl.drop (u + X.length)))
    (h : ∀ w', Hid (Dig w' g H B2 N) → Hid (But g w w') → wpList Tryd.prog ops Q rest (a.put o.dst (.int .i64 m)) w') : wpList Tryd.prog ops Q (o :: rest) a w := by
  subst hB2
  have hl : (X.map (Value.int .u8)).length = m := by rw [List.length_map, hXl]
  refine wpList_copy_own hgd d s 53 53 hop 5 Tryd.underlying53 (by kernel_rfl) g (8 + u) (64 - u) (64 - u) ⟨b, off, none⟩ r c hd hs (digs H Bl N).toArray 103 hD (X.map (Value.int .u8)) (by rw [hl]; exact hm) hsrc
    (by rw [hl, List.size_toArray, digs_len H Bl N hH hB]; omega) (fun v hv => by obtain ⟨x, -, rfl⟩ := List.mem_map.1 hv; rfl) ?_
  have := h (w.setRow g ((digs H Bl N).toArray.toList.take (8 + u) ++ (X.map (Value.int .u8) ++ (digs H Bl N).toArray.toList.drop (8 + u + (X.map (Value.int .u8)).length))).toArray) ?_ ?_
  · rw [hl] at this ⊢
    exact this
  · refine Lib.hid ?_
    have e := digs_block H Bl X N u hH hB (by omega)
    rw [List.length_map]
    rw [show (digs H Bl N).toArray.toList = digs H Bl N from rfl, e]
    exact setRow_heap _ _ _ _ _ _ hD
  · exact Lib.hid (But.setRow _ _)

set_option maxRecDepth 100000 in
set_option maxHeartbeats 8000000 in
theorem write_any (g : Nat) (M L : List Int) (a : Option Addr) (c : Nat) (w : World) (hG : Glob w) (h2 : 0 + 2 + 1 ≤ g) (hD : DM w g M) (hS : Sl w a c L) (ho : L ≠ [] → Off a g) (hc : L.length ≤ c) (h8 : ∀ x, x ∈ L → W8 x) (hn : M.length + L.length ≤ 1000000) :
    Calls Tryd.prog 59 #[.pointer (some ⟨g, 0, none⟩), .slice a L.length c] w fun e w' => e = .returned (.tuple #[]) ∧ DM w' g (M ++ L) ∧ But g w w' := by
  go_enter Tryd.func59, Tryd.ntmps59
  go_wp2_with fail
  go_loopg [1] L.length (fun gg s1 wx => ∃ (k : Nat) (a' : Option Addr) (c' : Nat), k ≤ L.length ∧ s1 = .slice a' (L.length - k) c' ∧ L.length - k ≤ c' ∧ (L.drop k ≠ [] → Off a' g) ∧ Sl wx a' c' (L.drop k) ∧ DM wx g (M ++ L.take k) ∧ But g w wx ∧ L.length - k = gg)
  case atStart => exact ⟨0, a, c, by omega, rfl, hc, by simpa using ho, hS, by simpa using hD, But.refl _ _, rfl⟩
  case round =>
    clear hD hS ho hc
    obtain ⟨k, a', c', hk, rfl, hc', ho', hS', ⟨H, Bl, hd, hH, hB, hb8, hst, htk⟩, hbut, hg⟩ := hrel
    by_cases hlt : k < L.length
    · have hR : (L.drop k).length = L.length - k := by simp
      replace ho' := ho' (fun e => by rw [e] at hR; simp at hR; omega)
      have hN : (M ++ L.take k).length = M.length + k := by simp; omega
      rw [hN] at hd hst htk
      obtain ⟨b, off, rfl, hbs, -⟩ := sl_at hS' (k := 0) (by omega)
      obtain ⟨m, hm⟩ : ∃ m, m = Nat.min (L.length - k) (64 - (M.length + k) % 64) := ⟨_, rfl⟩
      have hm0 : 0 < m ∧ m ≤ L.length - k ∧ (M.length + k) % 64 + m ≤ 64 := by
        have h1 : m ≤ L.length - k := by rw [hm]; exact Nat.min_le_left _ _
        have h2 : m ≤ 64 - (M.length + k) % 64 := by rw [hm]; exact Nat.min_le_right _ _
        have h3 : 0 < m := by rw [hm]; exact Nat.lt_min.2 ⟨by omega, by omega⟩
        omega
      obtain ⟨X, hX⟩ : ∃ X, X = (L.drop k).take m := ⟨_, rfl⟩
      have hXl : X.length = m := by rw [hX]; simp; omega
      have hX8 : ∀ x, x ∈ X → W8 x := fun x hx => h8 x (by rw [hX] at hx; exact List.mem_of_mem_drop (List.mem_of_mem_take hx))
      have hsrc : ∀ j v, (X.map (Value.int .u8))[j]? = some v → wr.cell? ((⟨b, off, none⟩ : Addr).add j) = some v := by
        intro j v hv
        rw [Addr.add_mid]
        have hj : j < X.length := by simpa using (List.getElem?_eq_some_iff.1 hv).1
        have hj2 : j < (L.drop k).length := by omega
        obtain ⟨b2, off2, e2, -, hc2⟩ := sl_at hS' hj2
        obtain ⟨rfl, rfl⟩ : b = b2 ∧ off = off2 := by simpa using e2
        rw [hc2]
        have : v = .int .u8 (X.getD j 0) := by
          rw [List.getElem?_map, List.getElem?_eq_getElem hj, Option.map_some] at hv
          rw [← Option.some.inj hv]
          simp [List.getD, List.getElem?_eq_getElem hj]
        rw [this, hX]
        have q : ((L.drop k).take m).getD j 0 = (L.drop k).getD j 0 := by
          simp only [List.getD]
          rw [List.getElem?_take_of_lt (by omega)]
        rw [q]
      obtain ⟨B2, hB2⟩ : ∃ B2, B2 = Bl.take ((M.length + k) % 64) ++ (X ++ Bl.drop ((M.length + k) % 64 + X.length)) := ⟨_, rfl⟩
      have hB2l : B2.length = 64 := by rw [hB2]; simp; omega
      have hB28 : ∀ x, x ∈ B2 → W8 x := by
        intro x hx
        rw [hB2, List.mem_append, List.mem_append] at hx
        rcases hx with hx | hx | hx
        · exact hb8 x (List.mem_of_mem_take hx)
        · exact hX8 x hx
        · exact hb8 x (List.mem_of_mem_drop hx)
      have HFULL : Hid ((M.length + k) % 64 + m = 64 → blk H B2 = states (M ++ L.take (k + m)) ((M ++ L.take (k + m)).length / 64) ∧ (M ++ L.take (k + m)).length % 64 = 0 ∧ (M ++ L.take (k + m)).drop (64 * ((M ++ L.take (k + m)).length / 64)) = []) := Lib.hid (by
        intro hf
        have e : M ++ L.take (k + m) = (M ++ L.take k) ++ X := by rw [hX, List.append_assoc, List.take_add]
        have := step_full (M ++ L.take k) X H Bl (by rw [hN]; exact hst) hB (by rw [hN]; exact htk) (by rw [hN]; omega)
        rw [hN] at this
        rw [e, hB2]
        exact this)
      have HPART : Hid (¬ (M.length + k) % 64 + m = 64 → H = states (M ++ L.take (k + m)) ((M ++ L.take (k + m)).length / 64) ∧ B2.take ((M ++ L.take (k + m)).length % 64) = (M ++ L.take (k + m)).drop (64 * ((M ++ L.take (k + m)).length / 64))) := Lib.hid (by
        intro hf
        have e : M ++ L.take (k + m) = (M ++ L.take k) ++ X := by rw [hX, List.append_assoc, List.take_add]
        have := step_part (M ++ L.take k) X H Bl (by rw [hN]; exact hst) (by rw [hN]; exact htk) (by rw [hN]; omega)
        rw [hN] at this
        rw [e, hB2]
        exact this)
      have HLEN : Hid ((M ++ L.take (k + m)).length = M.length + k + m) := Lib.hid (by simp; omega)
      have xl := hd.length hH hB
      have HS' := Lib.hid hS'
      have HD := Lib.hid hd
      have HH := Lib.hid hH
      have HB := Lib.hid hB
      have HB8 := Lib.hid hb8
      have HST := Lib.hid hst
      have HTK := Lib.hid htk
      have HBUT := Lib.hid hbut
      have HX := Lib.hid hX
      have HX8 := Lib.hid hX8
      have HXL := Lib.hid hXl
      have HB2 := Lib.hid hB2
      have HB2L := Lib.hid hB2l
      have HB28 := Lib.hid hB28
      have HSRC := Lib.hid hsrc
      have HN := Lib.hid hN
      have HM := Lib.hid hm
      have H8 := Lib.hid h8
      have HBS := Lib.hid hbs
      have hr64 : (M.length + k) % 64 < 64 := by omega
      have hNb : M.length + k ≤ 1000000 := by omega
      obtain ⟨hm1, hm2, hm3⟩ := hm0
      have hmL : m ≤ L.length - k := hm2
      clear hS' hd hH hB hb8 hst htk hbut hX hX8 hXl hB2 hB2l hB28 hsrc hN hm h8 hbs hR
      generalize hNN : M.length + k = N at *
      have HNN := Lib.hid hNN
      clear hNN
      have eu : (N : Int) % 64 = ((N % 64 : Nat) : Int) := by omega
      generalize hu : N % 64 = u at *
      have HU := Lib.hid hu
      clear hu
      generalize hr : L.length - k = r at *
      have HR := Lib.hid hr
      clear hr
      have hsl := slice_block g u wr hr64
      subst hg
      go_upto_region 3 with fail
      have hms : ∀ w, (Instr.slice 53 (.slice (some ⟨b, off, none⟩) r c') (some (.int .i64 (m : Int))) none none).run Tryd.prog w = .ok (.slice (fromA (some ⟨b, off, none⟩) c' m) (r - m) (c' - m)) w := fun w => slice_from .i64 _ r c' m w hm2
      by_cases hfull : u + m = 64
      · have hfi : (u : Int) + (m : Int) = 64 := by omega
        go_wp2_with (with_reducible refine wpList_copy_into rfl (.tmp 20) (.tmp 21) rfl g u r c' b off N m H Bl X B2 rfl rfl HD.out HH.out HB.out HXL.out HM.out hm3 HSRC.out HB2.out ?_; intro W1 HD1 HB1)
        have HG1 := (HBUT.out.trans HB1.out).glob h2 hG
        clear xl
        refine wp_region_class_tail (C := fun w' => Dig w' g H B2 N ∧ But g W1 w') 12 (by kernel_rfl) (by kernel_rfl) ⟨HD1.out, (But.refl g W1).drewN 1⟩ ?_
        simp only [List.take_succ_cons, List.take_zero, List.drop_succ_cons, List.drop_zero]
        refine wpQ_val rfl (.pointer (some ⟨g, 0, none⟩)) (fun w' _ => by kernel_rfl) ?_
        refine wpQ_val rfl (.pointer (some ⟨g, 0, none⟩)) (fun w' _ => by kernel_rfl) ?_
        refine wpQ_val rfl (.pointer (some ⟨g, 0, none⟩)) (fun w' _ => by kernel_rfl) ?_
        refine wpQ_val rfl (.pointer (some ⟨g, 0, none⟩)) (fun w' _ => by kernel_rfl) ?_
        refine wpQ_load rfl 95 (.tmp 30) rfl ⟨g, 0, none⟩ (.agg (w32s H)) (by kernel_rfl) (fun w' hC => loadState hC.1 HH.out) ?_
        refine wpQ_val rfl (.pointer (some ⟨g, 0, none⟩)) (fun w' _ => by kernel_rfl) ?_
        refine wpQ_val rfl (.pointer (some ⟨g, 0, none⟩)) (fun w' _ => by kernel_rfl) ?_
        refine wpQ_val rfl (.pointer (some ⟨g, 8, none⟩)) (fun w' _ => by kernel_rfl) ?_
        refine wpQ_load rfl 101 (.tmp 34) rfl ⟨g, 8, none⟩ (.agg (w8s B2)) (by kernel_rfl) (fun w' hC => loadBlock hC.1 HH.out HB2L.out) ?_
        refine wpQ_call rfl 70 #[.agg (w32s H), .agg (w8s B2)] (.agg (w32s (blk H B2))) (fun w' _ => by kernel_rfl)
          (fun w' hC => (compress_any H B2 w' HH.out HB2L.out HB28.out (hC.2.glob h2 HG1)).mono fun e w'' ⟨he, hb⟩ => ⟨he, hC.1.but hb, hC.2.trans (But.of_below hb (Nat.le_of_lt hC.1.lt))⟩) ?_
        refine wpQ_val rfl (.pointer (some ⟨g, 0, none⟩)) (fun w' _ => by kernel_rfl) ?_
        refine wpQ_val rfl (.pointer (some ⟨g, 0, none⟩)) (fun w' _ => by kernel_rfl) ?_
        refine wpQuiet_nil ?_
        intro w' hC
        have hq8 : (w32s (blk H B2)).size = 8 := by simp [blk_len H B2 HH.out]
        apply wpList_store_mid (ty := 95) (x := .tmp 38) (y := .tmp 36) (b := g) (o := 0) (cells := w32s (blk H B2))
        case hgd => rfl
        case ho => rfl
        case hx => kernel_rfl
        case hy => kernel_rfl
        case ht => rw [hq8]; exact hC.1.there HH.out
        case hi => rw [hq8]; kernel_rfl
        case h1 => exact one_w32s _
        apply wpList_nil
        have HD2 := hC.1.setstate HH.out (blk H B2) (blk_len H B2 HH.out)
        have HB2' := HB1.out.trans (hC.2.trans (But.setCells (g := g) (w32s (blk H B2)).toList 0 w'))
        have hbl := blk_len H B2 HH.out
        generalize w'.setCells g 0 (w32s (blk H B2)).toList = W2 at *
        have xl1 := HD2.length hbl HB2L.out
        have xf1 := HD2.frozen 72
        have HD2 := Lib.hid HD2
        have HB2' := Lib.hid HB2'
        have HBL := Lib.hid hbl
        clear hq8 hC hbl
        go_wp2_with fail
        have HD3 := HD2.out.setlen HBL.out HB2L.out (N + m)
        rw [Int.natCast_add] at HD3
        have HB3 := HB2'.out.trans (But.setCell W2 72 (.int .i64 ((N : Int) + (m : Int))))
        have hr' := HR.out
        go_roundg (L.length - (k + m))
        case measure => omega
        case rel =>
          refine ⟨k + m, fromA (some ⟨b, off, none⟩) c' m, c' - m, by omega, by rw [show L.length - (k + m) = r - m by omega], by omega, fun _ => ho'.from, ?_, ?_, HBUT.out.trans HB3, rfl⟩
          · have := sl_from (HB3.sl HS'.out ho') m (by simp; omega)
            rw [List.drop_drop] at this
            exact this
          · have hf := HFULL.out hfull
            exact ⟨blk H B2, B2, by rw [HLEN.out]; exact HD3, HBL.out, HB2L.out, HB28.out, hf.1, by rw [hf.2.1, hf.2.2]; rfl⟩
      · have hfi : ¬ (u : Int) + (m : Int) = 64 := by omega
        go_wp2_with (with_reducible refine wpList_copy_into rfl (.tmp 20) (.tmp 21) rfl g u r c' b off N m H Bl X B2 rfl rfl HD.out HH.out HB.out HXL.out HM.out hm3 HSRC.out HB2.out ?_; intro W1 HD1 HB1; have xl1 := HD1.out.length HH.out HB2L.out; have xf1 := HD1.out.frozen 72)
        have HD3 := HD1.out.setlen HH.out HB2L.out (N + m)
        rw [Int.natCast_add] at HD3
        have HB3 := HB1.out.trans (But.setCell W1 72 (.int .i64 ((N : Int) + (m : Int))))
        have hr' := HR.out
        go_roundg (L.length - (k + m))
        case measure => omega
        case rel =>
          refine ⟨k + m, fromA (some ⟨b, off, none⟩) c' m, c' - m, by omega, by rw [show L.length - (k + m) = r - m by omega], by omega, fun _ => ho'.from, ?_, ?_, HBUT.out.trans HB3, rfl⟩
          · have := sl_from (HB3.sl HS'.out ho') m (by simp; omega)
            rw [List.drop_drop] at this
            exact this
          · have hf := HPART.out hfull
            exact ⟨H, B2, by rw [HLEN.out]; exact HD3, HH.out, HB2L.out, HB28.out, hf.1, hf.2⟩
    · obtain rfl : k = L.length := by omega
      rw [List.take_length] at hst hd htk
      have hdm : DM wr g (M ++ L) := ⟨H, Bl, hd, hH, hB, hb8, hst, htk⟩
      have HDM := Lib.hid hdm
      have HBUT := Lib.hid hbut
      clear hst hd htk hdm hbut hH hB hb8 hS' h8
      go_wp2_with fail
      exact end_none rfl rfl ⟨rfl, HDM.out, HBUT.out⟩
end Go.Proofs.YtebnlklodokhkaaDoor
