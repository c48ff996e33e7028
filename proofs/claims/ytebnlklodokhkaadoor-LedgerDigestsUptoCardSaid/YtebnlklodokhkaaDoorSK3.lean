/-
  The contract of the program's compress. Condition: the two variables hold their tables.
-/
import Derived.Test.YtebnlklodokhkaaDoorSK2
namespace Go.Proofs.YtebnlklodokhkaaDoor
set_option maxRecDepth 100000
open Go.RowKit

/-- The two package-level variables hold their tables. -/
def Glob (w : World) : Prop := (∃ t fr, w.heap[0]? = some (.cells (w32s h0s) t fr)) ∧ ∃ t fr, w.heap[2]? = some (.cells (w32s ks) t fr)
theorem Glob.size {w : World} (h : Glob w) : 0 + 2 + 1 ≤ w.heap.size := by
  obtain ⟨_, t, fr, h1⟩ := h
  have := (Array.getElem?_eq_some_iff.1 h1).1
  omega
theorem Glob.below {w w' : World} {B : Nat} (h : Glob w) (hB : 0 + 2 + 1 ≤ B) (hb : Below B w w') : Glob w' := by
  obtain ⟨⟨t, fr, h0⟩, u, fs, h1⟩ := h
  exact ⟨⟨t, fr, by rw [hb.block 0 (by omega)]; exact h0⟩, u, fs, by rw [hb.block 2 (by omega)]; exact h1⟩
theorem Glob.cell {w : World} (h : Glob w) (i : Nat) (hi : i < 64) : w.cell? ⟨2, i, none⟩ = some (.int .u32 (ks.getD i 0)) := by
  obtain ⟨_, t, fr, h1⟩ := h
  rw [cell_of_row w 2 i _ t fr h1]
  have hk : i < ks.length := hi
  simp [w32s, hk]

theorem mix_q (x : Int) (i j k : Nat) (w : World) (hi : 1 ≤ i) (hi1 : i ≤ 31) (hj : 1 ≤ j) (hj1 : j ≤ 31) (hk : 1 ≤ k) (hk1 : k ≤ 31) :
    Calls Tryd.prog 78 #[.int .u32 x, .int .u64 i, .int .u64 j, .int .u64 k] w fun e w' => e = .returned (.int .u32 (xo (xo (ror x i) (ror x j)) (ror x k))) ∧ ∃ m, w' = w.drewN m :=
  (mix_any x i j k w hi hi1 hj hj1 hk hk1).mono fun _ _ ⟨he, hw⟩ => ⟨he, 0, by rw [← hw]; rfl⟩

/-- The eight words of a state. -/
def E8 (s : List Int) (a b c d e f g h : Int) : Prop := s = [a, b, c, d, e, f, g, h]
theorem eight (s : List Int) (hs : s.length = 8) : ∃ a b c d e f g h, s = [a, b, c, d, e, f, g, h] := by
  match s, hs with
  | [a, b, c, d, e, f, g, h], _ => exact ⟨a, b, c, d, e, f, g, h, rfl⟩

set_option maxRecDepth 100000 in
set_option maxHeartbeats 8000000 in
theorem compress_any (H B : List Int) (w : World) (hH : H.length = 8) (hB : B.length = 64) (h8 : ∀ x, x ∈ B → W8 x) (hG : Glob w) :
    Calls Tryd.prog 70 #[.agg (w32s H), .agg (w8s B)] w fun e w' => e = .returned (.agg (w32s (blk H B))) ∧ Below w.heap.size w w' := by
  have hg2 := hG.size
  go_enter Tryd.func70, Tryd.ntmps70
  go_upto_region 1 with fail
  have hs64 : (w8s B).size = 64 := by simp [hB]
  have hA : Arr (((w.alloc (Obj.cells (w32s H) 95)).alloc (Obj.cells (w8s B) 101)).alloc (Obj.cells (w32s (List.replicate 8 0)) 95)) w.heap.size 95 H := Arr.alloc (Arr.alloc (heap_alloc_last w _) _) _
  have hC : Ab (((w.alloc (Obj.cells (w32s H) 95)).alloc (Obj.cells (w8s B) 101)).alloc (Obj.cells (w32s (List.replicate 8 0)) 95)) (w.heap.size + 1) 101 B := by
    have := Ab.alloc (t := 101) (L := B) (heap_alloc_last (w.alloc (Obj.cells (w32s H) 95)) (Obj.cells (w8s B) 101)) (Obj.cells (w32s (List.replicate 8 0)) 95)
    simpa using this
  have hD : Arr (((w.alloc (Obj.cells (w32s H) 95)).alloc (Obj.cells (w8s B) 101)).alloc (Obj.cells (w32s (List.replicate 8 0)) 95)) (w.heap.size + 2) 95 (List.replicate 8 0) := by
    have := heap_alloc_last ((w.alloc (Obj.cells (w32s H) 95)).alloc (Obj.cells (w8s B) 101)) (Obj.cells (w32s (List.replicate 8 0)) 95)
    simpa [Arr] using this
  have hW : Below w.heap.size w (((w.alloc (Obj.cells (w32s H) 95)).alloc (Obj.cells (w8s B) 101)).alloc (Obj.cells (w32s (List.replicate 8 0)) 95)) :=
    (((Below.refl w.heap.size w).alloc (by simp) _).alloc (by simp) _).alloc (by simp; omega) _
  have hS : (((w.alloc (Obj.cells (w32s H) 95)).alloc (Obj.cells (w8s B) 101)).alloc (Obj.cells (w32s (List.replicate 8 0)) 95)).heap.size = w.heap.size + 3 := by simp
  change Code.wp _ _ _ _ (((w.alloc (Obj.cells (w32s H) 95)).alloc (Obj.cells (w8s B) 101)).alloc (Obj.cells (w32s (List.replicate 8 0)) 95))
  generalize ((w.alloc (Obj.cells (w32s H) 95)).alloc (Obj.cells (w8s B) 101)).alloc (Obj.cells (w32s (List.replicate 8 0)) 95) = W at *
  apply wp_region_lit
  apply wpList_load_row (ty := 101) (x := .tmp 3) (g := w.heap.size + 1) (t := 101) (cs := w8s B) (fr := (0, 0)) (d := .array 64 5)
  case hgd => rfl
  case ho => rfl
  case hx => rfl
  case hg => exact hC
  case hu => kernel_rfl
  case hd => rfl
  case hi => rw [hs64]; kernel_rfl
  refine wpList_plain rfl (fun K hK => ?_)
  go_simp
  refine (words_any B W hB h8).mono ?_
  rintro e W1 ⟨rfl, hb1⟩
  apply hK
  clear hK K
  have hA1 := hA.below (by omega) hb1
  have hD1 := hD.below (by omega) hb1
  have hW1 : Below w.heap.size w W1 := hW.trans (hb1.mono (by omega))
  have hS1 : w.heap.size + 3 ≤ W1.heap.size := by have := hb1.size; omega
  clear hA hC hD hW hb1 hS W
  generalize hWW : more (words B 16) 48 = WW at *
  have HWW : Hid (∀ n, n = 48 → more (words B 16) n = WW) := Lib.hid (fun n hn => by rw [hn]; exact hWW)
  have lW : WW.length = 64 := by rw [← hWW, more_len, words_len]
  clear hWW
  have hz8 : (w32s WW).size = 64 := by simp [lW]
  refine run_to rfl (some 5) rfl (.pointer (some ⟨W1.heap.size, 0, none⟩)) (W1.alloc (.cells (List.replicate 64 (.int .u32 0)).toArray 107)) (by kernel_rfl) ?_
  apply wpList_store_new (w := W1) (ty := 107) (x := .tmp 5) (y := .tmp 22) (c := (List.replicate 64 (.int .u32 0)).toArray) (c' := w32s WW)
  case hgd => rfl
  case ho => rfl
  case hx => rfl
  case hy => rfl
  case hi => rw [hz8]; kernel_rfl
  case hz => rw [hz8]; kernel_rfl
  case h1 => exact one_w32s _
  apply wpList_nil
  have RA := hA1.alloc (.cells (w32s WW) 107)
  have RD := hD1.alloc (.cells (w32s WW) 107)
  have RK : Arr (W1.alloc (.cells (w32s WW) 107)) W1.heap.size 107 WW := heap_alloc_last _ _
  have RW : Below w.heap.size w (W1.alloc (.cells (w32s WW) 107)) := hW1.alloc hW1.size _
  clear hA1 hD1 hW1
  generalize W1.alloc (.cells (w32s WW) 107) = W at *
  generalize W1.heap.size = gw at *
  clear W1
  obtain ⟨a0, b0, c0, d0, e0, f0, g0, p0, hH8⟩ := eight H hH
  have x0 := RA.cell 0 (by omega)
  have x1 := RA.cell 1 (by omega)
  have x2 := RA.cell 2 (by omega)
  have x3 := RA.cell 3 (by omega)
  have x4 := RA.cell 4 (by omega)
  have x5 := RA.cell 5 (by omega)
  have x6 := RA.cell 6 (by omega)
  have x7 := RA.cell 7 (by omega)
  simp only [hH8, List.getD_cons_zero, List.getD_cons_succ] at x0 x1 x2 x3 x4 x5 x6 x7
  have HH8 := Lib.hid hH8
  clear hH8
  go_upto_region 2 with fail
  go_quiet (fail)
  go_wp2_with fail
  replace RA : Arr (W.drewN nq) w.heap.size 95 H := RA
  replace RD : Arr (W.drewN nq) (w.heap.size + 2) 95 (List.replicate 8 0) := RD
  replace RK : Arr (W.drewN nq) gw 107 WW := RK
  replace RW : Below w.heap.size w (W.drewN nq) := Below.drewN' RW nq
  clear x0 x1 x2 x3 x4 x5 x6 x7
  generalize W.drewN nq = V at *
  clear W
  go_loopg [6, 7, 8, 9, 10, 11, 12, 13, 39] 64 (fun g s6 s7 s8 s9 s10 s11 s12 s13 s39 wx => ∃ t : Nat, t ≤ 64 ∧ s39 = .int .i64 t ∧
    (∃ va vb vc vd ve vf vg vh, rnds WW H t = [va, vb, vc, vd, ve, vf, vg, vh] ∧ s6 = .int .u32 va ∧ s7 = .int .u32 vb ∧ s8 = .int .u32 vc ∧ s9 = .int .u32 vd ∧ s10 = .int .u32 ve ∧ s11 = .int .u32 vf ∧ s12 = .int .u32 vg ∧ s13 = .int .u32 vh) ∧
    Arr wx w.heap.size 95 H ∧ Arr wx (w.heap.size + 2) 95 (List.replicate 8 0) ∧ Arr wx gw 107 WW ∧ Below w.heap.size w wx ∧ 64 - t = g)
  case atStart => exact ⟨0, by omega, by go_num, ⟨a0, b0, c0, d0, e0, f0, g0, p0, HH8.out, rfl, rfl, rfl, rfl, rfl, rfl, rfl, rfl⟩, RA, RD, RK, RW, rfl⟩
  case round =>
    clear RA RD RK RW V
    obtain ⟨t, ht, rfl, ⟨va, vb, vc, vd, ve, vf, vg, vh, hst, rfl, rfl, rfl, rfl, rfl, rfl, rfl, rfl⟩, TA, TD, TK, TW, hg3⟩ := hrel
    by_cases hlt : t < 64
    · have hGr := hG.below hg2 TW
      have xk := hGr.cell t hlt
      have xw := TK.cell t (by omega)
      have HG := Lib.hid hG
      have QA := Lib.hid TA
      have QD := Lib.hid TD
      have QK := Lib.hid TK
      have QW := Lib.hid TW
      have HH := Lib.hid hH
      have HB := Lib.hid hB
      have H8 := Lib.hid h8
      have LW := Lib.hid lW
      have HR : Hid (rnds WW H (t + 1) = rndv va vb vc vd ve vf vg vh (ks.getD t 0) (WW.getD t 0)) := Lib.hid (by
        have : rnds WW H (t + 1) = rnd (rnds WW H t) (ks.getD t 0) (WW.getD t 0) := rfl
        rw [this, hst]
        rfl)
      clear hG hGr TA TD TK TW hH hB h8 lW hs64 hz8 hst
      generalize ks.getD t 0 = kt at *
      generalize WW.getD t 0 = wt at *
      go_upto_region 8 with fail
      go_quiet (first
        | (go_at_call_of 78 (Value.int IntKind.u64 6); exact Calls.quiet_of (mix_q ve 6 11 25 _ (by omega) (by omega) (by omega) (by omega) (by omega) (by omega))))
      replace QA : Hid (Arr (wr.drewN nq) w.heap.size 95 H) := QA
      replace QD : Hid (Arr (wr.drewN nq) (w.heap.size + 2) 95 (List.replicate 8 0)) := QD
      replace QK : Hid (Arr (wr.drewN nq) gw 107 WW) := QK
      replace QW : Hid (Below w.heap.size w (wr.drewN nq)) := Lib.hid (Below.drewN' QW.out nq)
      clear xk xw
      generalize wr.drewN nq = V at *
      clear wr
      go_wp2_with (first
        | (go_at_call_of 78 (Value.int IntKind.u64 2); refine (mix_any va 2 13 22 _ (by omega) (by omega) (by omega) (by omega) (by omega) (by omega)).mono ?_; rintro e w' ⟨rfl, rfl⟩))
      have HE := HR.out
      unfold rndv at HE
      simp only at HE
      go_roundg (64 - (t + 1))
      case measure => omega
      case rel => exact ⟨t + 1, by omega, by go_num, ⟨_, _, _, _, _, _, _, _, HE, rfl, rfl, rfl, rfl, rfl, rfl, rfl, rfl⟩, QA.out, QD.out, QK.out, QW.out, rfl⟩
    · obtain rfl : t = 64 := by omega
      clear hlt ht hg3
      have l64 := rnds_len WW H hH 64
      have HS64 : Hid (∀ n, n = 64 → rnds WW H n = [va, vb, vc, vd, ve, vf, vg, vh]) := Lib.hid (fun n hn => by rw [hn]; exact hst)
      clear hst TK l64
      go_wp2_with fail
      go_loopg [101] 8 (fun g s101 wx => ∃ i : Nat, i ≤ 8 ∧ s101 = .int .i64 i ∧ Arr wx w.heap.size 95 (sums H [va, vb, vc, vd, ve, vf, vg, vh] i) ∧ Arr wx (w.heap.size + 2) 95 (List.replicate 8 0) ∧ Below w.heap.size w wx ∧ 8 - i = g)
      case atStart => exact ⟨0, by omega, by go_num, TA, TD, TW, rfl⟩
      case round =>
        clear TA TD TW
        obtain ⟨i, hi4, rfl, UA, UD, UW, hg4⟩ := hrel
        have lsu := sums_len H [va, vb, vc, vd, ve, vf, vg, vh] hH i
        by_cases hlt4 : i < 8
        · have x0 := UA.cell i (by omega)
          have xf := UA.frozen i
          rw [sums_get H _ i i (Nat.le_refl _)] at x0
          have hix : (Instr.index 95 (.agg (w32s [va, vb, vc, vd, ve, vf, vg, vh])) (.int .i64 (i : Int))).run Tryd.prog wr = .ok (.int .u32 ([va, vb, vc, vd, ve, vf, vg, vh].getD i 0)) wr := by
            refine run_index_agg 95 94 8 .i64 _ i _ wr (by kernel_rfl) hlt4 (by kernel_rfl) (by kernel_rfl) ?_
            have hl8 : i < [va, vb, vc, vd, ve, vf, vg, vh].length := hlt4
            simp only [w32s, List.getElem?_toArray, List.getElem?_map, List.getD, List.getElem?_eq_getElem hl8, Option.map_some, Option.getD_some]
          simp only [w32s, List.map_cons, List.map_nil] at hix
          have HV : Hid (sums H [va, vb, vc, vd, ve, vf, vg, vh] (i + 1) = (sums H [va, vb, vc, vd, ve, vf, vg, vh] i).set i ((H.getD i 0 + [va, vb, vc, vd, ve, vf, vg, vh].getD i 0) % 4294967296)) := Lib.hid rfl
          have VA := Lib.hid UA
          have VD := Lib.hid UD
          have VW := Lib.hid UW
          have HH := Lib.hid hH
          have HB := Lib.hid hB
          have H8 := Lib.hid h8
          have LW := Lib.hid lW
          have HG := Lib.hid hG
          clear UA UD UW hH hB h8 lsu lW hs64 hz8 hG
          generalize H.getD i 0 = p at *
          generalize [va, vb, vc, vd, ve, vf, vg, vh].getD i 0 = q at *
          go_wp2_with fail
          have NA := VA.out.set i ((p + q) % 4294967296)
          rw [← HV.out] at NA
          go_roundg (8 - (i + 1))
          case measure => omega
          case rel => exact ⟨i + 1, by omega, by go_num, NA, VD.out.far _ (by simp) _, VW.out.setCell (by simp) _, rfl⟩
        · obtain rfl : i = 8 := by omega
          go_upto_region 17 with fail
          have hq8 : (w32s (sums H [va, vb, vc, vd, ve, vf, vg, vh] 8)).size = 8 := by simp [lsu]
          have hblk : sums H [va, vb, vc, vd, ve, vf, vg, vh] 8 = blk H B := by
            unfold blk
            rw [HWW.out 48 rfl, HS64.out 64 rfl]
          rw [hblk] at UA hq8
          apply wp_region_lit
          apply wpList_load_row (ty := 95) (x := .tmp 2) (g := w.heap.size) (t := 95) (cs := w32s (blk H B)) (fr := (0, 0)) (d := .array 8 94)
          case hgd => rfl
          case ho => rfl
          case hx => rfl
          case hg => exact UA
          case hu => kernel_rfl
          case hd => rfl
          case hi => rw [hq8]; kernel_rfl
          apply wpList_store_at (ty := 95) (x := .tmp 4) (y := .tmp 112) (g := w.heap.size + 2) (c := w32s (List.replicate 8 0)) (c' := w32s (blk H B))
          case hgd => rfl
          case ho => rfl
          case hx => rfl
          case hy => rfl
          case hg => exact UD
          case hi => rw [hq8]; kernel_rfl
          case hz => rw [hq8]; rfl
          case h1 => exact one_w32s _
          apply wpList_nil
          go_wp2_with fail
          refine bodyPost_ret (v := .agg (w32s (blk H B))) ?_ rfl ⟨rfl, belowRow UW (by omega) _⟩
          refine results_cell_row (fn := Tryd.f70) (p := 4) (ty := 95) rfl _ _ (w.heap.size + 2) 95 (w32s (blk H B)) (0, 0) (.array 8 94) rfl (setRow_heap _ _ _ _ _ _ UD) ?_ rfl ?_
          · kernel_rfl
          · rw [hq8]; kernel_rfl
end Go.Proofs.YtebnlklodokhkaaDoor
