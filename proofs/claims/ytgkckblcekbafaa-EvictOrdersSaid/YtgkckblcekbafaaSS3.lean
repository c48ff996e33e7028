/-
  The contract of the reference's block.
-/
import Derived.Test.YtgkckblcekbafaaCB
import Derived.Test.YtgkckblcekbafaaSS2
import Derived.BigRegion
import Derived.Deep.RegionHeld3
import Derived.Deep.QuietTactic
import Derived.Test.YtgkckblcekbafaaSQT
import Derived.Deep.Cut
import Derived.Deep.DeepCutAuto
import Derived.Lib.SmallJoins
import Derived.Lib.SlBytesConst
namespace Go.Proofs.Ytgkckblcekbafaa
set_option maxRecDepth 100000
open Go.RowKit

/-- A byte. -/
def W8 (x : Int) : Prop := 0 ≤ x ∧ x ≤ 255
theorem W8.getD {B : List Int} (h : ∀ x, x ∈ B → W8 x) (i : Nat) (hi : i < B.length) : W8 (B.getD i 0) := by
  simp only [List.getD, List.getElem?_eq_getElem hi, Option.getD_some]
  exact h _ (List.getElem_mem hi)
theorem W8.small {x : Int} (h : W8 x) : x % 4294967296 = x := by
  obtain ⟨a, b⟩ := h
  omega
/-- The array behind one word more. -/
theorem fill_next (L : List Int) (x : Int) (n m : Nat) (hn : n = m + 1) : (L ++ List.replicate n 0).set L.length x = (L ++ [x]) ++ List.replicate m 0 := by
  subst hn
  simp [List.replicate_succ]
/-- Words lie in a block. -/
def Arr (w : World) (g : Nat) (t : TypeId) (L : List Int) : Prop := w.heap[g]? = some (.cells (w32s L) t (0, 0))
theorem Arr.cell {w : World} {g : Nat} {t : TypeId} {L : List Int} (h : Arr w g t L) (i : Nat) (hi : i < L.length) : w.cell? ⟨g, i, none⟩ = some (.int .u32 (L.getD i 0)) := by
  rw [cell_of_row w g i _ t (0, 0) h]
  simp [w32s, hi]
theorem Arr.frozen {w : World} {g : Nat} {t : TypeId} {L : List Int} (h : Arr w g t L) (i : Nat) : w.frozen? ⟨g, i, none⟩ = false := frozen_of_row w g i _ t h
theorem Arr.set {w : World} {g : Nat} {t : TypeId} {L : List Int} (h : Arr w g t L) (i : Nat) (x : Int) : Arr (w.setCell ⟨g, i, none⟩ (.int .u32 x)) g t (L.set i x) := by
  unfold Arr
  rw [Joins.block_setCell h]
  simp [w32s]
theorem Arr.far {w : World} {g : Nat} {t : TypeId} {L : List Int} (h : Arr w g t L) (a : Addr) (hn : g ≠ a.block) (v : Value) : Arr (w.setCell a v) g t L := by
  unfold Arr
  rw [heap_setCell_other w a g v hn]
  exact h
theorem Arr.lt {w : World} {g : Nat} {t : TypeId} {L : List Int} (h : Arr w g t L) : g < w.heap.size := (Array.getElem?_eq_some_iff.1 h).1
theorem Arr.below {w w' : World} {g B : Nat} {t : TypeId} {L : List Int} (h : Arr w g t L) (hg : g < B) (hb : Below B w w') : Arr w' g t L := by
  unfold Arr
  rw [hb.block g hg]
  exact h
theorem Arr.alloc {w : World} {g : Nat} {t : TypeId} {L : List Int} (h : Arr w g t L) (o : Obj) : Arr (w.alloc o) g t L := by
  unfold Arr
  rw [Below.heap_alloc w o g h.lt]
  exact h
theorem Arr.drew {w : World} {g : Nat} {t : TypeId} {L : List Int} (h : Arr w g t L) : Arr w.drew g t L := h

/-- Eight words are written. -/
def put8 (w : World) (g : Nat) (a b c d e f p q : Int) : World := ((((((((w.setCell ⟨g, 0, none⟩ (.int .u32 a)).setCell ⟨g, 1, none⟩ (.int .u32 b)).setCell ⟨g, 2, none⟩ (.int .u32 c)).setCell ⟨g, 3, none⟩ (.int .u32 d)).setCell ⟨g, 4, none⟩ (.int .u32 e)).setCell ⟨g, 5, none⟩ (.int .u32 f)).setCell ⟨g, 6, none⟩ (.int .u32 p)).setCell ⟨g, 7, none⟩ (.int .u32 q))
theorem Arr.put8 {w : World} {g : Nat} {t : TypeId} {L : List Int} (h : Arr w g t L) (hl : L.length = 8) (a b c d e f p q : Int) : Arr (put8 w g a b c d e f p q) g t [a, b, c, d, e, f, p, q] := by
  have := (((((((h.set 0 a).set 1 b).set 2 c).set 3 d).set 4 e).set 5 f).set 6 p).set 7 q
  have e8 : (((((((L.set 0 a).set 1 b).set 2 c).set 3 d).set 4 e).set 5 f).set 6 p).set 7 q = [a, b, c, d, e, f, p, q] := by
    match L, hl with
    | [_, _, _, _, _, _, _, _], _ => rfl
  rw [e8] at this
  exact this
theorem Arr.far8 {w : World} {g k : Nat} {t : TypeId} {L : List Int} (h : Arr w k t L) (hn : k ≠ g) (a b c d e f p q : Int) : Arr (Ytgkckblcekbafaa.put8 w g a b c d e f p q) k t L :=
  (((((((h.far _ hn _).far _ hn _).far _ hn _).far _ hn _).far _ hn _).far _ hn _).far _ hn _).far _ hn _
theorem below8 {w w0 : World} {g B : Nat} (h : Below B w0 w) (hn : B ≤ g) (a b c d e f p q : Int) : Below B w0 (put8 w g a b c d e f p q) :=
  (((((((h.setCell hn _).setCell hn _).setCell hn _).setCell hn _).setCell hn _).setCell hn _).setCell hn _).setCell hn _

/-- Bytes lie in a block. -/
def Byt (w : World) (g o : Nat) (B : List Int) : Prop := ∀ j, j < B.length → w.cell? ⟨g, o + j, none⟩ = some (.int .u8 (B.getD j 0))
theorem Byt.below {w w' : World} {g o S : Nat} {B : List Int} (h : Byt w g o B) (hg : g < S) (hb : Below S w w') : Byt w' g o B := fun j hj => by
  rw [hb.cell (p := ⟨g, o + j, none⟩) hg]
  exact h j hj

theorem sums_get (h s : List Int) : ∀ j i, j ≤ i → (sums h s j).getD i 0 = h.getD i 0 := by
  intro j
  induction j with
  | zero => intro i _; rfl
  | succ j ih =>
    intro i hi
    rw [← ih i (by omega)]
    simp only [sums, List.getD]
    rw [List.getElem?_set_ne (by omega)]

/-- A whole row goes into a block: at a plain region's list. -/
theorem wpList_store_at {P : Program} {ops : Array Oper} {rest : List Oper} {op : Oper} {a : Act} {w : World} {Q : Exit → Act → World → Prop} (hgd : op.guard = none) (ty : TypeId) (x y : Operand) (ho : op.op = .store ty x y)
    (g : Nat) (c c' : Array Value) (hx : a.eval x = .pointer (some ⟨g, 0, none⟩)) (hy : a.eval y = .agg c') (hg : w.heap[g]? = some (.cells c ty (0, 0)))
    (hi : (P.info? ty).map (·.size) = some c'.size) (hz : c.size = c'.size) (h1 : c'.all (·.oneCell') = true)
    (h : wpList P ops Q rest (a.put op.dst undef) (w.setRow g c')) : wpList P ops Q (op :: rest) a w :=
  wpList_plain hgd fun K hK => by
    unfold Oper.wp execOp
    simp only [ho, hx, hy, Instr.storeAt, Instr.sureAddr, Sem.run_bind, Sem.run_pure, Result.andThen_ok, run_storeVar_row w g ty ty c c' hg hi hz h1]
    exact hK _ _ h
theorem Below.drewN' {B : Nat} {a w : World} (h : Below B a w) (n : Nat) : Below B a (w.drewN n) := ⟨h.os, h.tape, h.output, h.size, h.block⟩

theorem one_w32s (L : List Int) : (w32s L).all (·.oneCell') = true := all_oneCell_toArray fun v hv => by
  obtain ⟨x, -, rfl⟩ := List.mem_map.1 hv
  rfl

theorem turn_q (x : Int) (n : Nat) (w : World) (hn : 1 ≤ n) (h31 : n ≤ 31) :
    Calls Try.prog 39 #[.int .u32 x, .int .i64 n] w fun e w' => e = .returned (.int .u32 (ror x n)) ∧ ∃ m, w' = w.drewN m :=
  (turn_any x n w hn h31).mono fun _ _ ⟨he, hw⟩ => ⟨he, 1, hw⟩

set_option maxRecDepth 100000 in
set_option maxHeartbeats 8000000 in
theorem block_any (H B : List Int) (gb o c : Nat) (w : World) (hH : H.length = 8) (hB : B.length = 64) (hb : Byt w gb o B) (h8 : ∀ x, x ∈ B → W8 x) (hgb : gb < w.heap.size) :
    Calls Try.prog 34 #[.agg (w32s H), .slice (some ⟨gb, o, none⟩) 64 c] w fun e w' => e = .returned (.agg (w32s (blk H B))) ∧ Below w.heap.size w w' := by
  go_enter Try.func34, Try.ntmps34
  go_upto_region 3 with fail
  have hA : Arr ((((w.alloc (Obj.cells (w32s H) 66)).alloc (Obj.cells (w32s (List.replicate 8 0)) 66)).alloc (Obj.cells (w32s (List.replicate 64 0)) 80))) w.heap.size 66 H := Arr.alloc (Arr.alloc (heap_alloc_last w _) _) _
  have hC : Arr ((((w.alloc (Obj.cells (w32s H) 66)).alloc (Obj.cells (w32s (List.replicate 8 0)) 66)).alloc (Obj.cells (w32s (List.replicate 64 0)) 80))) (w.heap.size + 1) 66 (List.replicate 8 0) := by
    have := Arr.alloc (t := 66) (L := List.replicate 8 0) (heap_alloc_last (w.alloc (Obj.cells (w32s H) 66)) (Obj.cells (w32s (List.replicate 8 0)) 66)) (Obj.cells (w32s (List.replicate 64 0)) 80)
    simpa using this
  have hD : Arr ((((w.alloc (Obj.cells (w32s H) 66)).alloc (Obj.cells (w32s (List.replicate 8 0)) 66)).alloc (Obj.cells (w32s (List.replicate 64 0)) 80))) (w.heap.size + 2) 80 (List.replicate 64 0) := by
    have := heap_alloc_last ((w.alloc (Obj.cells (w32s H) 66)).alloc (Obj.cells (w32s (List.replicate 8 0)) 66)) (Obj.cells (w32s (List.replicate 64 0)) 80)
    simpa [Arr] using this
  have hW : Below w.heap.size w ((((w.alloc (Obj.cells (w32s H) 66)).alloc (Obj.cells (w32s (List.replicate 8 0)) 66)).alloc (Obj.cells (w32s (List.replicate 64 0)) 80))) :=
    (((Below.refl w.heap.size w).alloc (by simp) _).alloc (by simp) _).alloc (by simp; omega) _
  change Code.wp _ _ _ _ (((w.alloc (Obj.cells (w32s H) 66)).alloc (Obj.cells (w32s (List.replicate 8 0)) 66)).alloc (Obj.cells (w32s (List.replicate 64 0)) 80))
  generalize ((w.alloc (Obj.cells (w32s H) 66)).alloc (Obj.cells (w32s (List.replicate 8 0)) 66)).alloc (Obj.cells (w32s (List.replicate 64 0)) 80) = W at *
  go_loopg [6] 16 (fun g s6 wx => ∃ t : Nat, t ≤ 16 ∧ s6 = .int .i64 t ∧ Arr wx w.heap.size 66 H ∧ Arr wx (w.heap.size + 1) 66 (List.replicate 8 0) ∧ Arr wx (w.heap.size + 2) 80 (words B t ++ List.replicate (64 - t) 0) ∧ Below w.heap.size w wx ∧ 16 - t = g)
  case atStart => exact ⟨0, by omega, rfl, hA, hC, by simpa [words] using hD, hW, rfl⟩
  case round =>
    obtain ⟨t, ht, rfl, hA1, hC1, hD1, hW1, hg1⟩ := hrel
    by_cases hlt : t < 16
    · have hb1 := hb.below hgb hW1
      have x0 := hb1 (4 * t) (by omega)
      have x1 := hb1 (4 * t + 1) (by omega)
      have x2 := hb1 (4 * t + 2) (by omega)
      have x3 := hb1 (4 * t + 3) (by omega)
      have xz := hD1.cell t (by simp [words_len]; omega)
      have xf := hD1.frozen t
      have HA := Lib.hid hA1
      have HC := Lib.hid hC1
      have HD := Lib.hid hD1
      have HW := Lib.hid hW1
      have HA0 := Lib.hid hA
      have HC0 := Lib.hid hC
      have HD0 := Lib.hid hD
      have HW0 := Lib.hid hW
      have HH := Lib.hid hH
      have HB := Lib.hid hB
      clear hA1 hC1 hD1 hW1 hA hC hD hW hH hB hb1
      have H8 := Lib.hid h8
      have e0 := (W8.getD h8 (4 * t) (by rw [HB.out]; omega)).small
      have e1 := (W8.getD h8 (4 * t + 1) (by rw [HB.out]; omega)).small
      have e2 := (W8.getD h8 (4 * t + 2) (by rw [HB.out]; omega)).small
      have e3 := (W8.getD h8 (4 * t + 3) (by rw [HB.out]; omega)).small
      have HV : Hid (word B t = word4 (B.getD (4 * t) 0) (B.getD (4 * t + 1) 0) (B.getD (4 * t + 2) 0) (B.getD (4 * t + 3) 0)) := Lib.hid rfl
      clear h8
      generalize B.getD (4 * t) 0 = y0 at *
      generalize B.getD (4 * t + 1) 0 = y1 at *
      generalize B.getD (4 * t + 2) 0 = y2 at *
      generalize B.getD (4 * t + 3) 0 = y3 at *
      generalize List.getD (words B t ++ List.replicate (64 - t) 0) t 0 = z at *
      go_wp2
      go_region
      go_wp2
      have HN : (words B t ++ List.replicate (64 - t) 0).set t (word4 y0 y1 y2 y3) = words B (t + 1) ++ List.replicate (64 - (t + 1)) 0 := by
        have := fill_next (words B t) (word4 y0 y1 y2 y3) (64 - t) (64 - (t + 1)) (by omega)
        rw [words_len] at this
        rw [this, words, HV.out]
      have HD2 := HD.out.set t (word4 y0 y1 y2 y3)
      rw [HN] at HD2
      go_roundg (16 - (t + 1))
      case measure => omega
      case rel => exact ⟨t + 1, by omega, by go_num, HA.out.far _ (by simp; omega) _, HC.out.far _ (by simp) _, HD2, (HW.out.setCell (by simp; omega) _).drew, rfl⟩
    · obtain rfl : t = 16 := by omega
      clear hA hC hD hW W
      go_wp2_with fail
      go_loopg [7] 48 (fun g s7 wx => ∃ k : Nat, k ≤ 48 ∧ s7 = .int .i64 ((k : Int) + 16) ∧ Arr wx w.heap.size 66 H ∧ Arr wx (w.heap.size + 1) 66 (List.replicate 8 0) ∧ Arr wx (w.heap.size + 2) 80 (more (words B 16) k ++ List.replicate (48 - k) 0) ∧ Below w.heap.size w wx ∧ 48 - k = g)
      case atStart => exact ⟨0, by omega, by go_num, hA1, hC1, by simpa [more] using hD1, hW1, rfl⟩
      case round =>
        clear hA1 hC1 hD1 hW1
        obtain ⟨k, hk, rfl, hA2, hC2, hD2, hW2, hg2⟩ := hrel
        by_cases hlt2 : k < 48
        · have hl : (more (words B 16) k).length = 16 + k := by rw [more_len, words_len]
          have ha : (more (words B 16) k ++ List.replicate (48 - k) 0).length = 64 := by simp [hl]; omega
          have x1 := hD2.cell (k + 1) (by omega)
          have x2 := hD2.cell (k + 14) (by omega)
          have x3 := hD2.cell (k + 9) (by omega)
          have x4 := hD2.cell k (by omega)
          have xz := hD2.cell (k + 16) (by omega)
          have xf := hD2.frozen (k + 16)
          have g0 : ∀ i, i < 16 + k → (more (words B 16) k ++ List.replicate (48 - k) 0).getD i 0 = (more (words B 16) k).getD i 0 := fun i hi => by
            simp [List.getD, List.getElem?_append_left (show i < (more (words B 16) k).length by omega)]
          rw [g0 (k + 1) (by omega)] at x1
          rw [g0 (k + 14) (by omega)] at x2
          rw [g0 (k + 9) (by omega)] at x3
          rw [g0 k (by omega)] at x4
          have HA := Lib.hid hA2
          have HC := Lib.hid hC2
          have HD := Lib.hid hD2
          have HW := Lib.hid hW2
          have HL := Lib.hid hl
          have HH := Lib.hid hH
          have HB := Lib.hid hB
          have H8 := Lib.hid h8
          have HV : Hid (∀ x y u v, x = (more (words B 16) k).getD (k + 1) 0 → y = (more (words B 16) k).getD (k + 14) 0 → u = (more (words B 16) k).getD (k + 9) 0 → v = (more (words B 16) k).getD k 0 →
              follow (more (words B 16) k) (16 + k) = (xo (xo (ror y 17) (ror y 19)) (y / 1024) + u + xo (xo (ror x 7) (ror x 18)) (x / 8) + v) % 4294967296) := by
            intro x y u v e1 e2 e3 e4
            subst e1 e2 e3 e4
            simp only [follow, show 16 + k - 15 = k + 1 by omega, show 16 + k - 2 = k + 14 by omega, show 16 + k - 7 = k + 9 by omega, show 16 + k - 16 = k by omega]
          clear hA2 hC2 hD2 hW2 hl ha hH hB h8 g0
          generalize hx1 : (more (words B 16) k).getD (k + 1) 0 = x at *
          generalize hx2 : (more (words B 16) k).getD (k + 14) 0 = y at *
          generalize hx3 : (more (words B 16) k).getD (k + 9) 0 = u at *
          generalize hx4 : (more (words B 16) k).getD k 0 = v at *
          generalize List.getD (more (words B 16) k ++ List.replicate (48 - k) 0) (k + 16) 0 = z at *
          have HV2 := Lib.hid (HV.out x y u v rfl rfl rfl rfl)
          clear hx1 hx2 hx3 hx4 HV
          have i1 : IntKind.i64.wrap ((k : Int) + 16 - 15) = ((k + 1 : Nat) : Int) := by rw [IntKind.wrap_i64]; omega
          have i2 : IntKind.i64.wrap ((k : Int) + 16 - 2) = ((k + 14 : Nat) : Int) := by rw [IntKind.wrap_i64]; omega
          have i3 : IntKind.i64.wrap ((k : Int) + 16 - 7) = ((k + 9 : Nat) : Int) := by rw [IntKind.wrap_i64]; omega
          have i4 : IntKind.i64.wrap ((k : Int) + 16 - 16) = (k : Int) := by rw [IntKind.wrap_i64]; omega
          have i5 : IntKind.i64.wrap (k : Int) = (k : Int) := by rw [IntKind.wrap_i64]; omega
          have j1 : ((k + 1 : Nat) : Int) < 64 := by omega
          have j2 : ((k + 14 : Nat) : Int) < 64 := by omega
          have j3 : ((k + 9 : Nat) : Int) < 64 := by omega
          have j4 : (k : Int) < 64 := by omega
          have j5 : (k : Int) + 16 < 64 := by omega
          have j6 : ((k : Int) + 16).toNat = k + 16 := by omega
          have j7 : 0 ≤ (k : Int) + 16 := by omega
          generalize k + 1 = n1 at x1 i1 j1
          generalize k + 14 = n2 at x2 i2 j2
          generalize k + 9 = n3 at x3 i3 j3
          go_wp2
          go_region
          go_wp2_with fail
          have X1 : wr.drew.cell? ⟨w.heap.size + 1 + 1, n1, none⟩ = some (.int .u32 x) := x1
          have X2 : wr.drew.cell? ⟨w.heap.size + 1 + 1, n2, none⟩ = some (.int .u32 y) := x2
          have X3 : wr.drew.cell? ⟨w.heap.size + 1 + 1, n3, none⟩ = some (.int .u32 u) := x3
          have X4 : wr.drew.cell? ⟨w.heap.size + 1 + 1, k, none⟩ = some (.int .u32 v) := x4
          have Xz : wr.drew.cell? ⟨w.heap.size + 1 + 1, k + 16, none⟩ = some (.int .u32 z) := xz
          have Xf : wr.drew.frozen? ⟨w.heap.size + 1 + 1, k + 16, none⟩ = false := xf
          have QA : Hid (Arr wr.drew w.heap.size 66 H) := HA
          have QC : Hid (Arr wr.drew (w.heap.size + 1) 66 (List.replicate 8 0)) := HC
          have QD : Hid (Arr wr.drew (w.heap.size + 2) 80 (more (words B 16) k ++ List.replicate (48 - k) 0)) := HD
          have QW : Hid (Below w.heap.size w wr.drew) := Lib.hid HW.out.drew
          clear x1 x2 x3 x4 xz xf HA HC HD HW
          generalize wr.drew = wq at *
          clear wr
          refine wp_region_quiet_tail 29 (by kernel_rfl) (by kernel_rfl) ?_
          simp only [List.take_succ_cons, List.take_zero, List.drop_succ_cons, List.drop_zero]
          repeat (quiet_step (first
            | (go_at_call_of 39 (Value.int IntKind.i64 17); exact Calls.quiet_of (turn_q y 17 _ (by omega) (by omega)))
            | (go_at_call_of 39 (Value.int IntKind.i64 19); exact Calls.quiet_of (turn_q y 19 _ (by omega) (by omega)))
            | (go_at_call_of 39 (Value.int IntKind.i64 7); exact Calls.quiet_of (turn_q x 7 _ (by omega) (by omega)))
            | (go_at_call_of 39 (Value.int IntKind.i64 18); exact Calls.quiet_of (turn_q x 18 _ (by omega) (by omega)))))
          refine wpQuiet_nil ?_
          rintro _ ⟨nq, rfl⟩
          go_wp2_with fail
          generalize (xo (xo (ror y 17) (ror y 19)) (y / 1024) + u + xo (xo (ror x 7) (ror x 18)) (x / 8) + v) % 4294967296 = q at HV2 ⊢
          have HN : (more (words B 16) k ++ List.replicate (48 - k) 0).set (k + 16) q = more (words B 16) (k + 1) ++ List.replicate (48 - (k + 1)) 0 := by
            have := fill_next (more (words B 16) k) q (48 - k) (48 - (k + 1)) (by omega)
            rw [HL.out, Nat.add_comm 16 k] at this
            rw [this, more, HV2.out]
          have QD2 := (show Arr (wq.drewN nq) (w.heap.size + 2) 80 _ from QD.out).set (k + 16) q
          rw [HN] at QD2
          have QA2 := (show Arr (wq.drewN nq) w.heap.size 66 H from QA.out).far ⟨w.heap.size + 1 + 1, k + 16, none⟩ (by simp; omega) (.int .u32 q)
          have QC2 := (show Arr (wq.drewN nq) (w.heap.size + 1) 66 _ from QC.out).far ⟨w.heap.size + 1 + 1, k + 16, none⟩ (by simp) (.int .u32 q)
          have QW2 : Below w.heap.size w ((wq.drewN nq).setCell ⟨w.heap.size + 1 + 1, k + 16, none⟩ (.int .u32 q)) := (Below.drewN' QW.out nq).setCell (by simp; omega) _
          go_roundg (48 - (k + 1))
          case measure => omega
          case rel => exact ⟨k + 1, by omega, by go_num, QA2, QC2, QD2, QW2, rfl⟩
        · obtain rfl : k = 48 := by omega
          go_upto_region 11 with fail
          have hl2 := hD2.lt
          apply wp_region_lit
          refine wpList_plain rfl (fun K hK => ?_)
          go_simp
          refine (constants_any _).mono ?_
          rintro e w' ⟨rfl, rfl⟩
          apply hK
          clear hK K
          refine run_to rfl (some 10) rfl (.pointer (some ⟨(wr.alloc (.cells (w32s ks) 80)).heap.size, 0, none⟩)) ((wr.alloc (.cells (w32s ks) 80)).alloc (.cells (List.replicate 64 (.int .u32 0)).toArray 80)) (by kernel_rfl) ?_
          apply wpList_store_new (w := wr.alloc (.cells (w32s ks) 80)) (ty := 80) (x := .tmp 10) (y := .tmp 98) (c := (List.replicate 64 (.int .u32 0)).toArray) (c' := w32s ks)
          case hgd => rfl
          case ho => rfl
          case hx => rfl
          case hy => rfl
          case hi => kernel_rfl
          case hz => kernel_rfl
          case h1 => kernel_rfl
          apply wpList_nil
          have RA := Arr.alloc (Arr.alloc hA2 (.cells (w32s ks) 80)) (.cells (w32s ks) 80)
          have RC := Arr.alloc (Arr.alloc hC2 (.cells (w32s ks) 80)) (.cells (w32s ks) 80)
          have RD := Arr.alloc (Arr.alloc hD2 (.cells (w32s ks) 80)) (.cells (w32s ks) 80)
          have RK : Arr ((wr.alloc (.cells (w32s ks) 80)).alloc (.cells (w32s ks) 80)) (wr.alloc (.cells (w32s ks) 80)).heap.size 80 ks := heap_alloc_last _ _
          have hg : w.heap.size + 2 < (wr.alloc (.cells (w32s ks) 80)).heap.size := by simp; omega
          have RW : Below w.heap.size w ((wr.alloc (.cells (w32s ks) 80)).alloc (.cells (w32s ks) 80)) := (hW2.alloc hW2.size _).alloc (by simp; omega) _
          simp only [Nat.sub_self, List.replicate_zero, List.append_nil] at RD
          clear hA2 hC2 hD2 hW2 hl2
          generalize (wr.alloc (.cells (w32s ks) 80)).alloc (.cells (w32s ks) 80) = W at *
          generalize (wr.alloc (.cells (w32s ks) 80)).heap.size = gq at *
          clear wr
          go_upto_region 12 with fail
          have hs8 : (w32s H).size = 8 := by simp [hH]
          apply wp_region_lit
          apply wpList_load_row (ty := 66) (x := .tmp 2) (g := w.heap.size) (t := 66) (cs := w32s H) (fr := (0, 0)) (d := .array 8 65)
          case hgd => rfl
          case ho => rfl
          case hx => rfl
          case hg => exact RA
          case hu => kernel_rfl
          case hd => rfl
          case hi => rw [hs8]; kernel_rfl
          refine run_to rfl (some 11) rfl (.pointer (some ⟨W.heap.size, 0, none⟩)) (W.alloc (.cells (List.replicate 8 (.int .u32 0)).toArray 66)) (by kernel_rfl) ?_
          apply wpList_store_new (w := W) (ty := 66) (x := .tmp 11) (y := .tmp 99) (c := (List.replicate 8 (.int .u32 0)).toArray) (c' := w32s H)
          case hgd => rfl
          case ho => rfl
          case hx => rfl
          case hy => rfl
          case hi => rw [hs8]; kernel_rfl
          case hz => rw [hs8]; rfl
          case h1 => exact one_w32s H
          apply wpList_nil
          have SS : Arr (W.alloc (.cells (w32s H) 66)) W.heap.size 66 H := heap_alloc_last _ _
          have hgs : gq < W.heap.size := RK.lt
          have RA' := RA.alloc (.cells (w32s H) 66)
          have RC' := RC.alloc (.cells (w32s H) 66)
          have RD' := RD.alloc (.cells (w32s H) 66)
          have RK' := RK.alloc (.cells (w32s H) 66)
          have RW' := RW.alloc RW.size (.cells (w32s H) 66)
          have lW : (more (words B 16) 48).length = 64 := by rw [more_len, words_len]
          clear RA RC RD RK RW
          generalize W.alloc (.cells (w32s H) 66) = W1 at *
          generalize W.heap.size = gs at *
          clear W
          generalize hWW : more (words B 16) 48 = WW at *
          have HWW : Hid (∀ n, n = 48 → more (words B 16) n = WW) := Lib.hid (fun n hn => by rw [hn]; exact hWW)
          clear hWW
          go_wp2_with fail
          go_loopg [12] 64 (fun g s12 wx => ∃ t : Nat, t ≤ 64 ∧ s12 = .int .i64 t ∧ Arr wx w.heap.size 66 H ∧ Arr wx (w.heap.size + 1) 66 (List.replicate 8 0) ∧ Arr wx (w.heap.size + 2) 80 WW ∧ Arr wx gq 80 ks ∧ Arr wx gs 66 (rnds WW H t) ∧ Below w.heap.size w wx ∧ 64 - t = g)
          case atStart => exact ⟨0, by omega, by go_num, RA', RC', RD', RK', SS, RW', rfl⟩
          case round =>
            clear RA' RC' RD' RK' SS RW'
            obtain ⟨t, ht3, rfl, TA, TC, TD, TK, TS, TW, hg3⟩ := hrel
            by_cases hlt3 : t < 64
            · have ls := rnds_len WW H hH t
              have xk := TK.cell t (by rw [ks_len]; omega)
              have xw := TD.cell t (by omega)
              have x0 := TS.cell 0 (by omega)
              have x1 := TS.cell 1 (by omega)
              have x2 := TS.cell 2 (by omega)
              have x3 := TS.cell 3 (by omega)
              have x4 := TS.cell 4 (by omega)
              have x5 := TS.cell 5 (by omega)
              have x6 := TS.cell 6 (by omega)
              have x7 := TS.cell 7 (by omega)
              have QA := Lib.hid TA
              have QC := Lib.hid TC
              have QD := Lib.hid TD
              have QK := Lib.hid TK
              have QS := Lib.hid TS
              have QW := Lib.hid TW
              have HH := Lib.hid hH
              have HB := Lib.hid hB
              have H8 := Lib.hid h8
              have LW := Lib.hid lW
              have LS := Lib.hid ls
              have HR : Hid (rnds WW H (t + 1) = rnd (rnds WW H t) (ks.getD t 0) (WW.getD t 0)) := Lib.hid rfl
              clear hH hB h8 lW ls hs8 TA TC TD TK TS TW
              generalize ks.getD t 0 = kt at *
              generalize WW.getD t 0 = wt at *
              generalize hrs : rnds WW H t = s at *
              have HV : Hid (rnd s kt wt = rndv (s.getD 0 0) (s.getD 1 0) (s.getD 2 0) (s.getD 3 0) (s.getD 4 0) (s.getD 5 0) (s.getD 6 0) (s.getD 7 0) kt wt) := Lib.hid rfl
              generalize s.getD 0 0 = va at *
              generalize s.getD 1 0 = vb at *
              generalize s.getD 2 0 = vc at *
              generalize s.getD 3 0 = vd at *
              generalize s.getD 4 0 = ve at *
              generalize s.getD 5 0 = vf at *
              generalize s.getD 6 0 = vg at *
              generalize s.getD 7 0 = vh at *
              clear hrs
              go_wp2_with fail
              go_region
              go_wp2_with fail
              have s0 : wr.drew.cell? ⟨gs, 0, none⟩ = some (.int .u32 va) := x0
              have s1 : wr.drew.cell? ⟨gs, 1, none⟩ = some (.int .u32 vb) := x1
              have s2 : wr.drew.cell? ⟨gs, 2, none⟩ = some (.int .u32 vc) := x2
              have s3 : wr.drew.cell? ⟨gs, 3, none⟩ = some (.int .u32 vd) := x3
              have s4 : wr.drew.cell? ⟨gs, 4, none⟩ = some (.int .u32 ve) := x4
              have s5 : wr.drew.cell? ⟨gs, 5, none⟩ = some (.int .u32 vf) := x5
              have s6 : wr.drew.cell? ⟨gs, 6, none⟩ = some (.int .u32 vg) := x6
              have s7 : wr.drew.cell? ⟨gs, 7, none⟩ = some (.int .u32 vh) := x7
              have sk : wr.drew.cell? ⟨gq, t, none⟩ = some (.int .u32 kt) := xk
              have sw : wr.drew.cell? ⟨w.heap.size + 1 + 1, t, none⟩ = some (.int .u32 wt) := xw
              have PA : Hid (Arr wr.drew w.heap.size 66 H) := QA
              have PC : Hid (Arr wr.drew (w.heap.size + 1) 66 (List.replicate 8 0)) := QC
              have PD : Hid (Arr wr.drew (w.heap.size + 2) 80 WW) := QD
              have PK : Hid (Arr wr.drew gq 80 ks) := QK
              have PS : Hid (Arr wr.drew gs 66 s) := QS
              have PW : Hid (Below w.heap.size w (wr.drew)) := Lib.hid (Below.drewN' QW.out 1)
              clear x0 x1 x2 x3 x4 x5 x6 x7 xk xw QA QC QD QK QS QW
              generalize wr.drew = wq at *
              clear wr
              go_quiet (first
                | (go_at_call_of 39 (Value.int IntKind.i64 6); exact Calls.quiet_of (turn_q ve 6 _ (by omega) (by omega)))
                | (go_at_call_of 39 (Value.int IntKind.i64 11); exact Calls.quiet_of (turn_q ve 11 _ (by omega) (by omega)))
                | (go_at_call_of 39 (Value.int IntKind.i64 25); exact Calls.quiet_of (turn_q ve 25 _ (by omega) (by omega))))
              go_wp2_with fail
              clear sk sw
              have r0 : (wq.drewN nq).cell? ⟨gs, 0, none⟩ = some (.int .u32 va) := s0
              have r1 : (wq.drewN nq).cell? ⟨gs, 1, none⟩ = some (.int .u32 vb) := s1
              have r2 : (wq.drewN nq).cell? ⟨gs, 2, none⟩ = some (.int .u32 vc) := s2
              have r3 : (wq.drewN nq).cell? ⟨gs, 3, none⟩ = some (.int .u32 vd) := s3
              have r4 : (wq.drewN nq).cell? ⟨gs, 4, none⟩ = some (.int .u32 ve) := s4
              have r5 : (wq.drewN nq).cell? ⟨gs, 5, none⟩ = some (.int .u32 vf) := s5
              have r6 : (wq.drewN nq).cell? ⟨gs, 6, none⟩ = some (.int .u32 vg) := s6
              have r7 : (wq.drewN nq).cell? ⟨gs, 7, none⟩ = some (.int .u32 vh) := s7
              have RA : Hid (Arr (wq.drewN nq) w.heap.size 66 H) := PA
              have RC : Hid (Arr (wq.drewN nq) (w.heap.size + 1) 66 (List.replicate 8 0)) := PC
              have RD : Hid (Arr (wq.drewN nq) (w.heap.size + 2) 80 WW) := PD
              have RK : Hid (Arr (wq.drewN nq) gq 80 ks) := PK
              have RS : Hid (Arr (wq.drewN nq) gs 66 s) := PS
              have RW : Hid (Below w.heap.size w (wq.drewN nq)) := Lib.hid (Below.drewN' PW.out nq)
              clear s0 s1 s2 s3 s4 s5 s6 s7 PA PC PD PK PS PW
              generalize wq.drewN nq = wz at *
              clear wq
              go_quiet (first
                | (go_at_call_of 39 (Value.int IntKind.i64 2); exact Calls.quiet_of (turn_q va 2 _ (by omega) (by omega)))
                | (go_at_call_of 39 (Value.int IntKind.i64 13); exact Calls.quiet_of (turn_q va 13 _ (by omega) (by omega)))
                | (go_at_call_of 39 (Value.int IntKind.i64 22); exact Calls.quiet_of (turn_q va 22 _ (by omega) (by omega))))
              go_upto_region 19 with fail
              have s0 : (wz.drewN nq).cell? ⟨gs, 0, none⟩ = some (.int .u32 va) := r0
              have s1 : (wz.drewN nq).cell? ⟨gs, 1, none⟩ = some (.int .u32 vb) := r1
              have s2 : (wz.drewN nq).cell? ⟨gs, 2, none⟩ = some (.int .u32 vc) := r2
              have s3 : (wz.drewN nq).cell? ⟨gs, 3, none⟩ = some (.int .u32 vd) := r3
              have s4 : (wz.drewN nq).cell? ⟨gs, 4, none⟩ = some (.int .u32 ve) := r4
              have s5 : (wz.drewN nq).cell? ⟨gs, 5, none⟩ = some (.int .u32 vf) := r5
              have s6 : (wz.drewN nq).cell? ⟨gs, 6, none⟩ = some (.int .u32 vg) := r6
              have s7 : (wz.drewN nq).cell? ⟨gs, 7, none⟩ = some (.int .u32 vh) := r7
              have PA : Hid (Arr (wz.drewN nq) w.heap.size 66 H) := RA
              have PC : Hid (Arr (wz.drewN nq) (w.heap.size + 1) 66 (List.replicate 8 0)) := RC
              have PD : Hid (Arr (wz.drewN nq) (w.heap.size + 2) 80 WW) := RD
              have PK : Hid (Arr (wz.drewN nq) gq 80 ks) := RK
              have PS : Hid (Arr (wz.drewN nq) gs 66 s) := RS
              have PW : Hid (Below w.heap.size w (wz.drewN nq)) := Lib.hid (Below.drewN' RW.out nq)
              clear r0 r1 r2 r3 r4 r5 r6 r7 RA RC RD RK RS RW
              generalize wz.drewN nq = wy at *
              clear wz
              have f0 : wy.frozen? ⟨gs, 0, none⟩ = false := PS.out.frozen 0
              have f1 : wy.frozen? ⟨gs, 1, none⟩ = false := PS.out.frozen 1
              have f2 : wy.frozen? ⟨gs, 2, none⟩ = false := PS.out.frozen 2
              have f3 : wy.frozen? ⟨gs, 3, none⟩ = false := PS.out.frozen 3
              have f4 : wy.frozen? ⟨gs, 4, none⟩ = false := PS.out.frozen 4
              have f5 : wy.frozen? ⟨gs, 5, none⟩ = false := PS.out.frozen 5
              have f6 : wy.frozen? ⟨gs, 6, none⟩ = false := PS.out.frozen 6
              have f7 : wy.frozen? ⟨gs, 7, none⟩ = false := PS.out.frozen 7
              go_wp2_with fail
              have NS := PS.out.put8 LS.out ((vh + xo (xo (ror ve 6) (ror ve 11)) (ror ve 25) + xo (an ve vf) (an (no ve) vg) + kt + wt + (xo (xo (ror va 2) (ror va 13)) (ror va 22) + xo (xo (an va vb) (an va vc)) (an vb vc))) % 4294967296) va vb vc ((vd + (vh + xo (xo (ror ve 6) (ror ve 11)) (ror ve 25) + xo (an ve vf) (an (no ve) vg) + kt + wt)) % 4294967296) ve vf vg
              have HE := HR.out.trans HV.out
              unfold rndv at HE
              simp only at HE
              rw [← HE] at NS
              go_roundg (64 - (t + 1))
              case measure => omega
              case rel => exact ⟨t + 1, by omega, by go_num, PA.out.far8 (by omega) _ _ _ _ _ _ _ _, PC.out.far8 (by omega) _ _ _ _ _ _ _ _, PD.out.far8 (by omega) _ _ _ _ _ _ _ _, PK.out.far8 (by omega) _ _ _ _ _ _ _ _, NS, below8 PW.out (by omega) _ _ _ _ _ _ _ _, rfl⟩
            · obtain rfl : t = 64 := by omega
              clear hlt3 ht3 hg3 hlt2 hk hg2 hlt hg1 ht
              have HS : Hid (∀ n, n = 64 → Arr wr gs 66 (rnds WW H n)) := Lib.hid (fun n hn => by rw [hn]; exact TS)
              generalize hS64 : rnds WW H 64 = S64 at TS
              have HS64 : Hid (∀ n, n = 64 → rnds WW H n = S64) := Lib.hid (fun n hn => by rw [hn]; exact hS64)
              clear hS64 HS
              clear TD TK
              go_wp2_with fail
              go_loopg [180] 8 (fun g s180 wx => ∃ i : Nat, i ≤ 8 ∧ s180 = .int .i64 i ∧ Arr wx w.heap.size 66 (sums H S64 i) ∧ Arr wx (w.heap.size + 1) 66 (List.replicate 8 0) ∧ Arr wx gs 66 S64 ∧ Below w.heap.size w wx ∧ 8 - i = g)
              case atStart => exact ⟨0, by omega, by go_num, TA, TC, TS, TW, rfl⟩
              case round =>
                have l64 : S64.length = 8 := by rw [← HS64.out 64 rfl]; exact rnds_len WW H hH 64
                clear TA TC TS TW
                obtain ⟨i, hi4, rfl, UA, UC, US, UW, hg4⟩ := hrel
                have lsu := sums_len H S64 hH i
                by_cases hlt4 : i < 8
                · have x0 := UA.cell i (by omega)
                  have x1 := US.cell i (by omega)
                  have xf := UA.frozen i
                  rw [sums_get H S64 i i (Nat.le_refl _)] at x0
                  have HV : Hid (sums H S64 (i + 1) = (sums H S64 i).set i ((H.getD i 0 + S64.getD i 0) % 4294967296)) := Lib.hid rfl
                  have VA := Lib.hid UA
                  have VC := Lib.hid UC
                  have VS := Lib.hid US
                  have VW := Lib.hid UW
                  have HH := Lib.hid hH
                  have L64 := Lib.hid l64
                  have HB := Lib.hid hB
                  have H8 := Lib.hid h8
                  clear UA UC US UW hH l64 hB h8 lsu lW hs8
                  generalize H.getD i 0 = p at *
                  generalize S64.getD i 0 = q at *
                  go_wp2_with fail
                  go_region
                  go_wp2_with fail
                  have NA := VA.out.set i ((p + q) % 4294967296)
                  rw [← HV.out] at NA
                  go_roundg (8 - (i + 1))
                  case measure => omega
                  case rel => exact ⟨i + 1, by omega, by go_num, NA, VC.out.far _ (by simp) _, VS.out.far _ (by simp; omega) _, (VW.out.setCell (by simp) _).drew, rfl⟩
                · obtain rfl : i = 8 := by omega
                  go_upto_region 25 with fail
                  have hz8 : (w32s (sums H S64 8)).size = 8 := by simp [lsu]
                  have hblk : sums H S64 8 = blk H B := by
                    unfold blk
                    rw [HWW.out 48 rfl, HS64.out 64 rfl]
                  rw [hblk] at UA hz8
                  apply wp_region_lit
                  apply wpList_load_row (ty := 66) (x := .tmp 2) (g := w.heap.size) (t := 66) (cs := w32s (blk H B)) (fr := (0, 0)) (d := .array 8 65)
                  case hgd => rfl
                  case ho => rfl
                  case hx => rfl
                  case hg => exact UA
                  case hu => kernel_rfl
                  case hd => rfl
                  case hi => rw [hz8]; kernel_rfl
                  apply wpList_store_at (ty := 66) (x := .tmp 4) (y := .tmp 192) (g := w.heap.size + 1) (c := w32s (List.replicate 8 0)) (c' := w32s (blk H B))
                  case hgd => rfl
                  case ho => rfl
                  case hx => rfl
                  case hy => rfl
                  case hg => exact UC
                  case hi => rw [hz8]; kernel_rfl
                  case hz => rw [hz8]; rfl
                  case h1 => exact one_w32s _
                  apply wpList_nil
                  go_wp2_with fail

                  refine bodyPost_ret (v := .agg (w32s (blk H B))) ?_ rfl ⟨rfl, belowRow UW (by omega) _⟩
                  refine results_cell_row (fn := Try.f34) (p := 4) (ty := 66) rfl _ _ (w.heap.size + 1) 66 (w32s (blk H B)) (0, 0) (.array 8 65) rfl (setRow_heap _ _ _ _ _ _ UC) ?_ rfl ?_
                  · kernel_rfl
                  · rw [hz8]; kernel_rfl
end Go.Proofs.Ytgkckblcekbafaa
