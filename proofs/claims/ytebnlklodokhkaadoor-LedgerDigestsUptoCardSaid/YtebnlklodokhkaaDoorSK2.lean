/-
  The contract of the program's words.
-/
import Derived.Test.YtebnlklodokhkaaDoorSK1
import Derived.Test.YtebnlklodokhkaaDoorSSA2
namespace Go.Proofs.YtebnlklodokhkaaDoor
set_option maxRecDepth 100000
open Go.RowKit

/-- 'a[i]' of an array by value. -/
theorem run_index_agg {P : Program} (t e n : Nat) (k : IntKind) (cs : Array Value) (i : Nat) (c : Value) (w : World) (h : P.underlying t = some (.array n e)) (hi : i < n)
    (hs : (sizeOf e).run P w = .ok 1 w) (ha : (isAgg e).run P w = .ok false w) (hc : cs[i]? = some c) : (Instr.index t (.agg cs) (.int k (i : Int))).run P w = .ok c w := by
  have hn : ¬ n ≤ i := by omega
  simp [Instr.index, run_underlying h, asIntOf, hs, part, ha, hc, go_sem]
  intro h'
  exact absurd h' hn

/-- The rows of bytes. -/
abbrev w8s (L : List Int) : Array Value := (L.map (Value.int .u8)).toArray
/-- Bytes lie in a block of their own. -/
def Ab (w : World) (g : Nat) (t : TypeId) (L : List Int) : Prop := w.heap[g]? = some (.cells (w8s L) t (0, 0))

theorem Ab.lt {w : World} {g : Nat} {t : TypeId} {L : List Int} (h : Ab w g t L) : g < w.heap.size := (Array.getElem?_eq_some_iff.1 h).1
theorem Ab.below {w w' : World} {g B : Nat} {t : TypeId} {L : List Int} (h : Ab w g t L) (hg : g < B) (hb : Below B w w') : Ab w' g t L := by
  unfold Ab
  rw [hb.block g hg]
  exact h
theorem Ab.alloc {w : World} {g : Nat} {t : TypeId} {L : List Int} (h : Ab w g t L) (o : Obj) : Ab (w.alloc o) g t L := by
  unfold Ab
  rw [Below.heap_alloc w o g h.lt]
  exact h

set_option maxRecDepth 100000 in
set_option maxHeartbeats 8000000 in
theorem words_any (B : List Int) (w : World) (hB : B.length = 64) (h8 : ∀ x, x ∈ B → W8 x) :
    Calls Tryd.prog 77 #[.agg (w8s B)] w fun e w' => e = .returned (.agg (w32s (more (words B 16) 48))) ∧ Below w.heap.size w w' := by
  go_enter Tryd.func77, Tryd.ntmps77
  go_upto_region 2 with fail
  have hA : Ab (((w.alloc (Obj.cells (w8s B) 101)).alloc (Obj.cells (w32s (List.replicate 64 0)) 107)).alloc (Obj.cells (w32s (List.replicate 64 0)) 107)) w.heap.size 101 B := Ab.alloc (Ab.alloc (heap_alloc_last w _) _) _
  have hC : Arr (((w.alloc (Obj.cells (w8s B) 101)).alloc (Obj.cells (w32s (List.replicate 64 0)) 107)).alloc (Obj.cells (w32s (List.replicate 64 0)) 107)) (w.heap.size + 1) 107 (List.replicate 64 0) := by
    have := Arr.alloc (t := 107) (L := List.replicate 64 0) (heap_alloc_last (w.alloc (Obj.cells (w8s B) 101)) (Obj.cells (w32s (List.replicate 64 0)) 107)) (Obj.cells (w32s (List.replicate 64 0)) 107)
    simpa using this
  have hD : Arr (((w.alloc (Obj.cells (w8s B) 101)).alloc (Obj.cells (w32s (List.replicate 64 0)) 107)).alloc (Obj.cells (w32s (List.replicate 64 0)) 107)) (w.heap.size + 2) 107 (List.replicate 64 0) := by
    have := heap_alloc_last ((w.alloc (Obj.cells (w8s B) 101)).alloc (Obj.cells (w32s (List.replicate 64 0)) 107)) (Obj.cells (w32s (List.replicate 64 0)) 107)
    simpa [Arr] using this
  have hW : Below w.heap.size w (((w.alloc (Obj.cells (w8s B) 101)).alloc (Obj.cells (w32s (List.replicate 64 0)) 107)).alloc (Obj.cells (w32s (List.replicate 64 0)) 107)) :=
    (((Below.refl w.heap.size w).alloc (by simp) _).alloc (by simp) _).alloc (by simp; omega) _
  change Code.wp _ _ _ _ (((w.alloc (Obj.cells (w8s B) 101)).alloc (Obj.cells (w32s (List.replicate 64 0)) 107)).alloc (Obj.cells (w32s (List.replicate 64 0)) 107))
  generalize ((w.alloc (Obj.cells (w8s B) 101)).alloc (Obj.cells (w32s (List.replicate 64 0)) 107)).alloc (Obj.cells (w32s (List.replicate 64 0)) 107) = W at *
  have hs64 : (w8s B).size = 64 := by simp [hB]
  apply wp_region_lit
  apply wpList_load_row (ty := 101) (x := .tmp 1) (g := w.heap.size) (t := 101) (cs := w8s B) (fr := (0, 0)) (d := .array 64 5)
  case hgd => rfl
  case ho => rfl
  case hx => rfl
  case hg => exact hA
  case hu => kernel_rfl
  case hd => rfl
  case hi => rw [hs64]; kernel_rfl
  go_wp2_with fail
  go_loopg [12] 64 (fun g s12 wx => ∃ i : Nat, i ≤ 64 ∧ s12 = .int .i64 i ∧ Arr wx (w.heap.size + 1) 107 (List.replicate 64 0) ∧ Arr wx (w.heap.size + 2) 107 (fw B i) ∧ Below w.heap.size w wx ∧ 64 - i = g)
  case atStart => exact ⟨0, by omega, by go_num, hC, by simpa [fw] using hD, hW, rfl⟩
  case round =>
    clear hA hC hD hW
    obtain ⟨i, hi, rfl, hC1, hD1, hW1, hg1⟩ := hrel
    by_cases hlt : i < 64
    · have hl := fw_len B i
      have xz := hD1.cell (i / 4) (by omega)
      have xf := hD1.frozen (i / 4)
      have e0 := (W8.getD h8 i (by omega)).small
      have HC := Lib.hid hC1
      have HD := Lib.hid hD1
      have HW := Lib.hid hW1
      have HB := Lib.hid hB
      have H8 := Lib.hid h8
      have HV : Hid (fw B (i + 1) = (fw B i).set (i / 4) (oo ((fw B i).getD (i / 4) 0 * 256 % 4294967296) (B.getD i 0))) := Lib.hid rfl
      have hix : (Instr.index 101 (.agg (w8s B)) (.int .i64 (i : Int))).run Tryd.prog wr = .ok (.int .u8 (B.getD i 0)) wr := by
        refine run_index_agg 101 5 64 .i64 _ i _ wr (by kernel_rfl) hlt (by kernel_rfl) (by kernel_rfl) ?_
        simp [w8s, List.getD, List.getElem?_eq_getElem (show i < B.length by omega)]
      clear hC1 hD1 hW1 h8 hl
      generalize (fw B i).getD (i / 4) 0 = z at *
      generalize B.getD i 0 = c at *
      have q1 : (i : Int).tdiv 4 = ((i / 4 : Nat) : Int) := by simp
      have q2 : ((i / 4 : Nat) : Int) < 64 := by omega
      have q3 : IntKind.i64.wrap ((i / 4 : Nat) : Int) = ((i / 4 : Nat) : Int) := by rw [IntKind.wrap_i64]; omega
      generalize hj : i / 4 = j at *
      go_wp2_with fail
      have HD2 := HD.out.set j (oo (z * 256 % 4294967296) c)
      rw [← HV.out] at HD2
      go_roundg (64 - (i + 1))
      case measure => omega
      case rel => exact ⟨i + 1, by omega, by go_num, HC.out.far _ (by simp) _, HD2, HW.out.setCell (by simp; omega) _, rfl⟩
    · obtain rfl : i = 64 := by omega
      rw [show 64 = 4 * 16 from rfl, fw4 B hB h8 16 (Nat.le_refl _)] at hD1
      go_wp2_with fail
      go_loopg [6] 48 (fun g s6 wx => ∃ k : Nat, k ≤ 48 ∧ s6 = .int .i64 ((k : Int) + 16) ∧ Arr wx (w.heap.size + 1) 107 (List.replicate 64 0) ∧ Arr wx (w.heap.size + 2) 107 (more (words B 16) k ++ List.replicate (48 - k) 0) ∧ Below w.heap.size w wx ∧ 48 - k = g)
      case atStart => exact ⟨0, by omega, by go_num, hC1, by simpa [more] using hD1, hW1, rfl⟩
      case round =>
        clear hC1 hD1 hW1
        obtain ⟨k, hk, rfl, hC2, hD2, hW2, hg2⟩ := hrel
        by_cases hlt2 : k < 48
        · have hl : (more (words B 16) k).length = 16 + k := by rw [more_len, words_len]
          have ha : (more (words B 16) k ++ List.replicate (48 - k) 0).length = 64 := by simp [hl]; omega
          have x1 := hD2.cell (k + 1) (by omega)
          have x2 := hD2.cell (k + 14) (by omega)
          have x3 := hD2.cell (k + 9) (by omega)
          have x4 := hD2.cell k (by omega)
          have xz := hD2.cell (k + 16) (by omega)
          have xf := hD2.frozen (k + 16)
          have g0 : ∀ i, i < 16 + k → (more (words B 16) k ++ List.replicate (48 - k) 0).getD i 0 = (more (words B 16) k).getD i 0 := fun i hi => by
            simp [List.getD, List.getElem?_append_left (show i < (more (words B 16) k).length by omega)]
          rw [g0 (k + 1) (by omega)] at x1
          rw [g0 (k + 14) (by omega)] at x2
          rw [g0 (k + 9) (by omega)] at x3
          rw [g0 k (by omega)] at x4
          have HC := Lib.hid hC2
          have HD := Lib.hid hD2
          have HW := Lib.hid hW2
          have HL := Lib.hid hl
          have HB := Lib.hid hB
          have H8 := Lib.hid h8
          have HV : Hid (∀ x y u v, x = (more (words B 16) k).getD (k + 1) 0 → y = (more (words B 16) k).getD (k + 14) 0 → u = (more (words B 16) k).getD (k + 9) 0 → v = (more (words B 16) k).getD k 0 →
              follow (more (words B 16) k) (16 + k) = (xo (xo (ror y 17) (ror y 19)) (y / 1024) + u + xo (xo (ror x 7) (ror x 18)) (x / 8) + v) % 4294967296) := by
            intro x y u v e1 e2 e3 e4
            subst e1 e2 e3 e4
            simp only [follow, show 16 + k - 15 = k + 1 by omega, show 16 + k - 2 = k + 14 by omega, show 16 + k - 7 = k + 9 by omega, show 16 + k - 16 = k by omega]
          clear hC2 hD2 hW2 hl ha hB h8 g0
          generalize hx1 : (more (words B 16) k).getD (k + 1) 0 = x at *
          generalize hx2 : (more (words B 16) k).getD (k + 14) 0 = y at *
          generalize hx3 : (more (words B 16) k).getD (k + 9) 0 = u at *
          generalize hx4 : (more (words B 16) k).getD k 0 = v at *
          generalize List.getD (more (words B 16) k ++ List.replicate (48 - k) 0) (k + 16) 0 = z at *
          have HV2 := Lib.hid (HV.out x y u v rfl rfl rfl rfl)
          clear hx1 hx2 hx3 hx4 HV
          have i1 : IntKind.i64.wrap ((k : Int) + 16 - 15) = ((k + 1 : Nat) : Int) := by rw [IntKind.wrap_i64]; omega
          have i2 : IntKind.i64.wrap ((k : Int) + 16 - 2) = ((k + 14 : Nat) : Int) := by rw [IntKind.wrap_i64]; omega
          have i3 : IntKind.i64.wrap ((k : Int) + 16 - 7) = ((k + 9 : Nat) : Int) := by rw [IntKind.wrap_i64]; omega
          have i4 : IntKind.i64.wrap ((k : Int) + 16 - 16) = (k : Int) := by rw [IntKind.wrap_i64]; omega
          have i5 : IntKind.i64.wrap (k : Int) = (k : Int) := by rw [IntKind.wrap_i64]; omega
          have j1 : ((k + 1 : Nat) : Int) < 64 := by omega
          have j2 : ((k + 14 : Nat) : Int) < 64 := by omega
          have j3 : ((k + 9 : Nat) : Int) < 64 := by omega
          have j4 : (k : Int) < 64 := by omega
          have j5 : (k : Int) + 16 < 64 := by omega
          have j6 : ((k : Int) + 16).toNat = k + 16 := by omega
          have j7 : 0 ≤ (k : Int) + 16 := by omega
          generalize k + 1 = n1 at x1 i1 j1
          generalize k + 14 = n2 at x2 i2 j2
          generalize k + 9 = n3 at x3 i3 j3
          go_wp2_with fail
          go_region
          go_wp2_with (first
            | (go_at_call_of 79 (Value.int IntKind.u64 7); refine (rotate_any x 7 _ (by omega) (by omega)).mono ?_; rintro e w' ⟨rfl, rfl⟩)
            | (go_at_call_of 79 (Value.int IntKind.u64 18); refine (rotate_any x 18 _ (by omega) (by omega)).mono ?_; rintro e w' ⟨rfl, rfl⟩)
            | (go_at_call_of 79 (Value.int IntKind.u64 17); refine (rotate_any y 17 _ (by omega) (by omega)).mono ?_; rintro e w' ⟨rfl, rfl⟩)
            | (go_at_call_of 79 (Value.int IntKind.u64 19); refine (rotate_any y 19 _ (by omega) (by omega)).mono ?_; rintro e w' ⟨rfl, rfl⟩))
          go_region
          go_wp2_with fail
          generalize (xo (xo (ror y 17) (ror y 19)) (y / 1024) + u + xo (xo (ror x 7) (ror x 18)) (x / 8) + v) % 4294967296 = q at HV2 ⊢
          have HN : (more (words B 16) k ++ List.replicate (48 - k) 0).set (k + 16) q = more (words B 16) (k + 1) ++ List.replicate (48 - (k + 1)) 0 := by
            have := fill_next (more (words B 16) k) q (48 - k) (48 - (k + 1)) (by omega)
            rw [HL.out, Nat.add_comm 16 k] at this
            rw [this, more, HV2.out]
          have QD2 := HD.out.set (k + 16) q
          rw [HN] at QD2
          have QC2 := HC.out.far ⟨w.heap.size + 1 + 1, k + 16, none⟩ (by simp) (.int .u32 q)
          have QW2 : Below w.heap.size w (wr.setCell ⟨w.heap.size + 1 + 1, k + 16, none⟩ (.int .u32 q)) := HW.out.setCell (by simp; omega) _
          go_roundg (48 - (k + 1))
          case measure => omega
          case rel => exact ⟨k + 1, by omega, by go_num, QC2, QD2, QW2.drew.drew, rfl⟩
        · obtain rfl : k = 48 := by omega
          have lW : (more (words B 16) 48).length = 64 := by rw [more_len, words_len]
          simp only [Nat.sub_self, List.replicate_zero, List.append_nil] at hD2
          generalize hWW : more (words B 16) 48 = WW at *
          have HWW : Hid (∀ n, n = 48 → more (words B 16) n = WW) := Lib.hid (fun n hn => by rw [hn]; exact hWW)
          clear hWW
          go_upto_region 14 with fail
          have hz8 : (w32s WW).size = 64 := by simp [lW]
          apply wp_region_lit
          apply wpList_load_row (ty := 107) (x := .tmp 3) (g := w.heap.size + 2) (t := 107) (cs := w32s WW) (fr := (0, 0)) (d := .array 64 94)
          case hgd => rfl
          case ho => rfl
          case hx => rfl
          case hg => exact hD2
          case hu => kernel_rfl
          case hd => rfl
          case hi => rw [hz8]; kernel_rfl
          apply wpList_store_at (ty := 107) (x := .tmp 2) (y := .tmp 71) (g := w.heap.size + 1) (c := w32s (List.replicate 64 0)) (c' := w32s WW)
          case hgd => rfl
          case ho => rfl
          case hx => rfl
          case hy => rfl
          case hg => exact hC2
          case hi => rw [hz8]; kernel_rfl
          case hz => rw [hz8]; kernel_rfl
          case h1 => exact one_w32s _
          apply wpList_nil
          go_wp2_with fail
          refine bodyPost_ret (v := .agg (w32s WW)) ?_ rfl ⟨by rw [HWW.out 48 rfl], belowRow hW2 (by omega) _⟩
          refine results_cell_row (fn := Tryd.f77) (p := 2) (ty := 107) rfl _ _ (w.heap.size + 1) 107 (w32s WW) (0, 0) (.array 64 94) rfl (setRow_heap _ _ _ _ _ _ hC2) ?_ rfl ?_
          · kernel_rfl
          · rw [hz8]; kernel_rfl
end Go.Proofs.YtebnlklodokhkaaDoor
