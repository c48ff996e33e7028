/-
  Get and Genesis, the program's and the reference's: contracts.
-/
import Derived.Test.YtebnlklodokhkaaDoorLP
namespace Go.Proofs.YtebnlklodokhkaaDoor.Lg
set_option maxRecDepth 100000
open Go.RowKit
set_option linter.unusedSimpArgs false
set_option linter.unusedVariables false

def LedO (w : World) (r : List Ac × Int × Int) (e : Ending) (w' : World) : Prop := ∃ ad k, e = .returned (.tuple #[.agg (lgA ad r.1.length k r.2.1), .int .i64 r.2.2]) ∧ RowA w' w.heap.size (.slice ad r.1.length k) r.1 ∧ Below w.heap.size w w'
theorem LedO.err {w V : World} {e : Int} (hb : Below w.heap.size w V) : LedO w ([], 0, e) (.returned (.tuple #[.agg (lgA none 0 0 0), .int .i64 e])) V := ⟨none, 0, rfl, row_nil _ _, hb⟩
theorem get_at {A : List Ac} {s : ByteArray} {i : Nat} (h : i < A.length) (hb : ∀ j, j < i → (aca A j).1 ≠ s) (hi : (aca A i).1 = s) : getX A s = (aca A i, true) := by
  have e := fnd_is h hb hi
  unfold getX
  rw [e, if_pos h]
theorem get_no {A : List Ac} {s : ByteArray} (hb : ∀ j, j < A.length → (aca A j).1 ≠ s) : getX A s = (zAc, false) := by
  have e := fnd_no hb
  unfold getX
  rw [e, if_neg (by omega)]
theorem two_boxes (w : World) (x y : Array Value) (t u : Nat) : Below w.heap.size w ((w.alloc (.cells x t)).alloc (.cells y u)) ∧ Bx ((w.alloc (.cells x t)).alloc (.cells y u)) w.heap.size x t ∧ Bx ((w.alloc (.cells x t)).alloc (.cells y u)) (w.heap.size + 1) y u := by
  have hb0 : Below w.heap.size w (w.alloc (.cells x t)) := (Below.refl _ w).alloc (Nat.le_refl _) _
  have hX0 : Bx (w.alloc (.cells x t)) w.heap.size x t := heap_alloc_last w _
  have hb1 : Below (w.alloc (.cells x t)).heap.size (w.alloc (.cells x t)) ((w.alloc (.cells x t)).alloc (.cells y u)) := (Below.refl _ _).alloc (Nat.le_refl _) _
  have hZ0 : Bx ((w.alloc (.cells x t)).alloc (.cells y u)) (w.alloc (.cells x t)).heap.size y u := heap_alloc_last _ _
  rw [show (w.alloc (.cells x t)).heap.size = w.heap.size + 1 by simp] at hZ0
  exact ⟨hb0.trans (hb1.mono hb0.size), hX0.below hX0.lt hb1, hZ0⟩
set_option maxRecDepth 100000 in
set_option maxHeartbeats 8000000 in
theorem q_get (a : Option Addr) (k : Nat) (A : List Ac) (c : Int) (s : ByteArray) (w : World) (hR : Cs w a (acc A)) (hn : A.length ≤ 4398046511104) :
    Calls Tryd.prog 13 #[.agg (lgA a A.length k c), .string s] w fun e w' => e = .returned (.tuple #[.agg (acA (getX A s).1), .bool (getX A s).2]) ∧ Below w.heap.size w w' := by
  obtain ⟨hb0, hX0, hZ0⟩ := two_boxes w (lgA a A.length k c) (acA zAc) 25 37
  have HA := Lib.hid (hR.below hb0)
  obtain ⟨r, hr⟩ : ∃ r, getX A s = r := ⟨_, rfl⟩
  have HG1 : Hid (∀ i, i < A.length → (∀ j, j < i → (aca A j).1 ≠ s) → (aca A i).1 = s → r = (aca A i, true)) := Lib.hid fun i h1 h2 h3 => by rw [← hr]; exact get_at h1 h2 h3
  have HG2 : Hid ((∀ j, j < A.length → (aca A j).1 ≠ s) → r = (zAc, false)) := Lib.hid fun h => by rw [← hr]; exact get_no h
  obtain ⟨n, hnn⟩ : ∃ n, A.length = n := ⟨_, rfl⟩
  have HN := Lib.hid hnn
  have HNL : Hid (n ≤ 4398046511104) := Lib.hid (by omega)
  rw [hnn] at hb0 hX0 hZ0 HA HG1 HG2
  rw [hnn, hr]
  obtain ⟨r1, r2⟩ := r
  simp only [Prod.mk.injEq] at HG1 HG2
  clear hR hn hr
  go_enter Tryd.func13, Tryd.ntmps13
  go_upto_region 1 with fail
  change Code.wp _ _ _ _ ((w.alloc (.cells (lgA a n k c) 25)).alloc (.cells (acA zAc) 37))
  generalize (w.alloc (.cells (lgA a n k c) 25)).alloc (.cells (acA zAc) 37) = W at *
  obtain ⟨g0, hg0⟩ : ∃ g0, w.heap.size = g0 := ⟨_, rfl⟩
  obtain ⟨g1, hg1⟩ : ∃ g1, w.heap.size + 1 = g1 := ⟨_, rfl⟩
  have HG0 : Hid (w.heap.size ≤ g1 ∧ g1 < W.heap.size) := Lib.hid ⟨by omega, by have := hZ0.lt; omega⟩
  have HB0 := Lib.hid hb0
  rw [hg1] at hZ0
  rw [hg0] at hX0
  simp only [hg0]
  rw [show g0 + 1 = g1 by omega]
  have HX := Lib.hid hX0
  have HZ := Lib.hid hZ0
  clear hb0 hg0 hg1 hX0 hZ0 hnn
  apply wp_region_lit
  refine gw_val (by kernel_rfl) (some 8) rfl (.pointer (some ⟨g0, 0, none⟩)) (by kernel_rfl) ?_
  simp only [pu1, pu2, pu3, pu4]
  refine gw_load (by kernel_rfl) (some 9) rfl 22 (.tmp 8) rfl ⟨g0, 0, none⟩ (.slice a n k) (by kernel_rfl) (HX.out.load (i := 0) rfl (by kernel_rfl)) ?_
  simp only [pu1, pu2, pu3, pu4]
  refine gw_val (by kernel_rfl) (some 10) rfl (.int .i64 n) (by kernel_rfl) ?_
  simp only [pu1, pu2, pu3, pu4]
  refine gw_val (by kernel_rfl) (some 11) rfl (.int .i64 0) (by kernel_rfl) ?_
  simp only [pu1, pu2, pu3, pu4]
  apply wpList_nil
  go_wp2_with fail
  go_loopg [11] n (fun gg s11 wx => ∃ j : Nat, s11 = .int .i64 j ∧ j ≤ n ∧ Hid (∀ t, t < j → (aca A t).1 ≠ s) ∧ Hid (Below W.heap.size W wx) ∧ n - j = gg)
  case atStart => exact ⟨0, rfl, by omega, Lib.hid (fun t h => by omega), Lib.hid (Below.refl _ _), by omega⟩
  case round =>
    obtain ⟨j, rfl, hj, HO, HB, hg⟩ := hrel
    have hn9 := HNL.out
    by_cases hlt : j < n
    · skip
      obtain ⟨b, off, rfl, -, hrx⟩ := ac_range (HA.out.below HB.out) (k := j) (by rw [HN.out]; exact hlt)
      have HLD0 := Lib.hid (load_ac hrx)
      have hf1 := HG1.out j hlt HO.out
      generalize hy : aca A j = y at *
      have HY := Lib.hid hy
      have HG := Lib.hid hg
      obtain ⟨V2, hst, hb2, hbx⟩ := new_ac wr y
      have HB2 := Lib.hid (HB.out.trans (hb2.mono HB.out.size))
      have HZ2 := Lib.hid (HZ.out.below HZ.out.lt (HB.out.trans (hb2.mono HB.out.size)))
      clear hrx hy hg hb2
      go_upto_region 2 with fail
      apply wp_region_lit
      refine gw_val (by kernel_rfl) (some 12) rfl (.bool true) (lss_n rfl (j) (n) (decide_eq_true (by omega)) (by kernel_rfl) (by kernel_rfl) _) ?_
      simp only [pu1, pu2, pu3, pu4]
      apply wpList_nil
      go_upto_region 3 with fail
      apply wp_region_lit
      refine gw_val (by kernel_rfl) (some 13) rfl (.pointer (some ⟨b, off + j * 3, none⟩)) (idx_ac b off n k j hlt _ _ _ rfl (by kernel_rfl) (by kernel_rfl)) ?_
      simp only [pu1, pu2, pu3, pu4]
      refine gw_load (by kernel_rfl) (some 14) rfl 37 (.tmp 13) rfl ⟨b, off + j * 3, none⟩ (.agg (acA y)) (by kernel_rfl) (HLD0.out) ?_
      simp only [pu1, pu2, pu3, pu4]
      refine run_to rfl (some 7) rfl (.pointer (some ⟨wr.heap.size, 0, none⟩)) (wr.alloc (.cells (acA zAc) 37)) (by kernel_rfl) ?_
      simp only [pu1, pu2, pu3, pu4]
      refine gw_store (by kernel_rfl) rfl 37 (.tmp 7) (.tmp 14) rfl (.pointer (some ⟨wr.heap.size, 0, none⟩)) (.agg (acA y)) (by kernel_rfl) (by kernel_rfl) (V2) (hst) ?_
      apply wpList_nil
      obtain ⟨g4, hg4⟩ : ∃ g4, wr.heap.size = g4 := ⟨_, rfl⟩
      rw [hg4] at hbx ⊢
      clear hst hg4 HLD0
      by_cases hey : y.1 = s
      · skip
        go_upto_region 4 with fail
        apply wp_region_lit
        refine gw_val (by kernel_rfl) (some 15) rfl (.pointer (some ⟨g4, 0, none⟩)) (by kernel_rfl) ?_
        simp only [pu1, pu2, pu3, pu4]
        refine gw_load (by kernel_rfl) (some 16) rfl 9 (.tmp 15) rfl ⟨g4, 0, none⟩ (.string y.1) (by kernel_rfl) (hbx.load (i := 0) rfl (by kernel_rfl)) ?_
        simp only [pu1, pu2, pu3, pu4]
        refine gw_val (by kernel_rfl) (some 17) rfl (.string s) (by kernel_rfl) ?_
        simp only [pu1, pu2, pu3, pu4]
        refine gw_val (by kernel_rfl) (some 18) rfl (.bool true) (eql_s rfl y.1 s (by rw [beqB]; exact decide_eq_true hey) (by kernel_rfl) (by kernel_rfl) _) ?_
        simp only [pu1, pu2, pu3, pu4]
        apply wpList_nil
        obtain ⟨rfl, rfl⟩ := hf1 hey
        have HBX := Lib.hid hbx
        have HBW := Lib.hid (HB0.out.trans (HB2.out.mono HB0.out.size))
        clear HO HB hbx hey HG1 HG2 HB2
        have hst := store_ac (y := r1) HZ2.out
        have HB9 := Lib.hid (belowRow HBW.out HG0.out.1 (acA r1))
        have HLD := Lib.hid (load_acb hst.2)
        have hst1 := hst.1
        generalize World.setRow V2 g1 (acA r1) = V9 at *
        clear hst
        go_upto_region 5 with fail
        apply wp_region_lit
        refine gw_load (by kernel_rfl) (some 19) rfl 37 (.tmp 7) rfl ⟨g4, 0, none⟩ (.agg (acA r1)) (by kernel_rfl) (load_acb HBX.out) ?_
        simp only [pu1, pu2, pu3, pu4]
        refine gw_store (by kernel_rfl) rfl 37 (.tmp 4) (.tmp 19) rfl (.pointer (some ⟨g1, 0, none⟩)) (.agg (acA r1)) (by kernel_rfl) (by kernel_rfl) (V9) (hst1) ?_
        refine gw_val (by kernel_rfl) (some 5) rfl (.bool true) (by kernel_rfl) ?_
        simp only [pu1, pu2, pu3, pu4]
        apply wpList_nil
        clear hst1 HBX HZ2 HZ
        go_wp2_with fail
        exact bodyPost_ret (results_c (p := 4) (q := 5) rfl (by kernel_rfl) HLD.out rfl) rfl ⟨rfl, HB9.out⟩
      · skip
        go_upto_region 4 with fail
        apply wp_region_lit
        refine gw_val (by kernel_rfl) (some 15) rfl (.pointer (some ⟨g4, 0, none⟩)) (by kernel_rfl) ?_
        simp only [pu1, pu2, pu3, pu4]
        refine gw_load (by kernel_rfl) (some 16) rfl 9 (.tmp 15) rfl ⟨g4, 0, none⟩ (.string y.1) (by kernel_rfl) (hbx.load (i := 0) rfl (by kernel_rfl)) ?_
        simp only [pu1, pu2, pu3, pu4]
        refine gw_val (by kernel_rfl) (some 17) rfl (.string s) (by kernel_rfl) ?_
        simp only [pu1, pu2, pu3, pu4]
        refine gw_val (by kernel_rfl) (some 18) rfl (.bool false) (eql_s rfl y.1 s (by rw [beqB]; exact decide_eq_false hey) (by kernel_rfl) (by kernel_rfl) _) ?_
        simp only [pu1, pu2, pu3, pu4]
        apply wpList_nil
        clear hbx
        have HO9 : Hid (∀ t, t < j + 1 → (aca A t).1 ≠ s) := Lib.hid fun t ht => (by rcases Nat.lt_or_ge t j with h7 | h7; exact HO.out t h7; have e7 : t = j := (by omega); rw [e7, HY.out]; exact hey)
        clear hf1 HO HB hey HZ2
        go_upto_region 6 with fail
        apply wp_region_lit
        refine gw_val (by kernel_rfl) (some 20) rfl (.int .i64 (j + 1 : Nat)) (add_nat rfl j 1 (by omega) (by kernel_rfl) (by kernel_rfl) _) ?_
        simp only [pu1, pu2, pu3, pu4]
        refine gw_val (by kernel_rfl) (some 11) rfl (.int .i64 (j + 1 : Nat)) (by kernel_rfl) ?_
        simp only [pu1, pu2, pu3, pu4]
        apply wpList_nil
        go_wp2_with fail
        go_roundg (n - (j + 1))
        case measure => have := HG.out; omega
        case rel => exact ⟨j + 1, rfl, hlt, HO9, HB2, rfl⟩
    · skip
      obtain rfl : n = j := by omega
      obtain ⟨rfl, rfl⟩ := HG2.out HO.out
      have HZ2 := Lib.hid (HZ.out.below HZ.out.lt HB.out)
      have HBW := Lib.hid (HB0.out.trans (HB.out.mono HB0.out.size))
      clear HO HG1 HG2 hg HB HZ
      go_upto_region 2 with fail
      apply wp_region_lit
      refine gw_val (by kernel_rfl) (some 12) rfl (.bool false) (lss_n rfl (n) (n) (decide_eq_false (by omega)) (by kernel_rfl) (by kernel_rfl) _) ?_
      simp only [pu1, pu2, pu3, pu4]
      apply wpList_nil
      have hst := store_ac (y := zAc) HZ2.out
      have HB9 := Lib.hid (belowRow HBW.out HG0.out.1 (acA zAc))
      have HLD := Lib.hid (load_acb hst.2)
      have hst1 := hst.1
      generalize World.setRow wr g1 (acA zAc) = V9 at *
      clear hst
      go_upto_region 7 with fail
      apply wp_region_lit
      refine gw_val (by kernel_rfl) (some 21) rfl (.agg #[.string ⟨#[]⟩, .int .u64 0, .int .u64 0]) (by kernel_rfl) ?_
      simp only [pu1, pu2, pu3, pu4]
      refine gw_store (by kernel_rfl) rfl 37 (.tmp 4) (.tmp 21) rfl (.pointer (some ⟨g1, 0, none⟩)) (.agg #[.string ⟨#[]⟩, .int .u64 0, .int .u64 0]) (by kernel_rfl) (by kernel_rfl) (V9) (hst1) ?_
      refine gw_val (by kernel_rfl) (some 5) rfl (.bool false) (by kernel_rfl) ?_
      simp only [pu1, pu2, pu3, pu4]
      apply wpList_nil
      clear hst1 HZ2
      go_wp2_with fail
      exact bodyPost_ret (results_c (p := 4) (q := 5) rfl (by kernel_rfl) HLD.out rfl) rfl ⟨rfl, HB9.out⟩
end Go.Proofs.YtebnlklodokhkaaDoor.Lg
