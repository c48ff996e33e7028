/-
  Genesis, the program's and the reference's: contracts.
-/
import Derived.Test.YtebnlklodokhkaaDoorLG
namespace Go.Proofs.YtebnlklodokhkaaDoor.Lg
set_option maxRecDepth 100000
open Go.RowKit
set_option linter.unusedSimpArgs false
set_option linter.unusedVariables false

theorem gen_step {A : List Ac} {j : Nat} (B : List Ac) (h : j < A.length) : genS B (A.drop j) = if isName (nums (aca A j).1) = false then ([], 10) else if fndL B (aca A j).1 < B.length then ([], 8) else genS (putL B (aca A j)) (A.drop (j + 1)) := by
  rw [List.drop_eq_getElem_cons h, ← aca_get h]
  rfl
theorem gen_end (A B : List Ac) : genS B (A.drop A.length) = (B, 0) := by rw [List.drop_length]; rfl
/-- The answer behind the list that is gathered. -/
def genR (B : List Ac) : List Ac × Int × Int := if totB B 0 = true then (B, 0, 0) else ([], 0, 6)
def genY (A : List Ac) : List Ac × Int × Int := ((genX A).1, 0, (genX A).2)
theorem genY_big {A : List Ac} (h : 256 < A.length) : genY A = ([], 0, 3) := by unfold genY genX; rw [if_pos h]
theorem genY_err {A : List Ac} {e : Int} (h : ¬ 256 < A.length) (hg : genS [] A = ([], e)) (he : e ≠ 0) : genY A = ([], 0, e) := by
  unfold genY genX
  rw [if_neg h, hg]
  simp only [ne_eq, he, not_false_eq_true, if_true]
theorem genY_ok {A B : List Ac} (h : ¬ 256 < A.length) (hg : genS [] A = (B, 0)) : genY A = genR B := by
  unfold genY genX genR
  rw [if_neg h, hg]
  simp only [ne_eq, not_true_eq_false, if_false]
  split <;> rfl
theorem st_row {w w0 : World} {g B : Nat} {a a' : Option Addr} {n n' k k' : Nat} {c : Int} (h : Bx w g (lgA a n k c) 25) (hb : Below B w0 w) (hg : B ≤ g) :
    ∃ V, (Instr.storeAt 22 (.pointer (some ⟨g, 0, none⟩)) (.slice a' n' k')).run Tryd.prog w = .ok () V ∧ Bx V g (lgA a' n' k' c) 25 ∧ Below B w0 V ∧ But g w V :=
  st_cell h hb hg (by simp) rfl (by kernel_rfl) rfl
theorem own_row_lg {w : World} {g B n : Nat} {v : Value} {A : List Ac} {x : Array Value} (h : w.ownsRow B 37 3 v n (acc A)) (hg : g < B) : (w.setRow g x).ownsRow B 37 3 v n (acc A) := own_but h (But.setRow _ _) hg
set_option maxRecDepth 100000 in
set_option maxHeartbeats 8000000 in
theorem q_genesis (a : Option Addr) (k : Nat) (A : List Ac) (w : World) (hR : Cs w a (acc A)) (hn : A.length ≤ 4398046511104) (hw : AcW A) (hz : ∀ x, x ∈ A → x.1.size ≤ 140737488355328) :
    Calls Tryd.prog 10 #[.slice a A.length k] w (LedO w (genY A)) := by
  obtain ⟨hb0, hX0, hZ0⟩ := two_boxes w (lgA none 0 0 0) (lgA none 0 0 0) 25 25
  have hb1 : Below w.heap.size w (w.alloc (.cells (lgA none 0 0 0) 25)) := (Below.refl _ w).alloc (Nat.le_refl _) _
  have hX1 : Bx (w.alloc (.cells (lgA none 0 0 0) 25)) w.heap.size (lgA none 0 0 0) 25 := heap_alloc_last w _
  have HA := Lib.hid (hR.below hb0)
  have HZZ := Lib.hid hz
  have HAT := Lib.hid (fun V (h : Below w.heap.size w V) => hR.below h)
  have HGW : Hid (∀ B j, j ≤ A.length → genS [] A = genS B (A.drop j) → AcW B → ∀ P, genS [] A = (P, 0) → AcW P) := Lib.hid fun B j h1 h2 h3 P h4 => by
    have := gen_w (A.drop j) B h3 (fun x hx => acw_mem hw x (List.mem_of_mem_drop hx))
    rw [← h2, h4] at this
    exact this
  have HWJ : Hid (∀ B j, j < A.length → AcW B → AcW (putL B (aca A j))) := Lib.hid fun B j h1 h2 => put_w h2 (hw j h1)
  have HST := Lib.hid (fun (j : Nat) (B : List Ac) (h : j < A.length) => gen_step B h)
  have HEN := Lib.hid (gen_end A)
  obtain ⟨r, hr⟩ : ∃ r, genY A = r := ⟨_, rfl⟩
  have HBG : Hid (256 < A.length → r = ([], 0, 3)) := Lib.hid fun h => by rw [← hr]; exact genY_big h
  have HER : Hid (∀ e, ¬ 256 < A.length → genS [] A = ([], e) → e ≠ 0 → r = ([], 0, e)) := Lib.hid fun e h1 h2 h3 => by rw [← hr]; exact genY_err h1 h2 h3
  have HOK : Hid (∀ B, ¬ 256 < A.length → genS [] A = (B, 0) → r = genR B) := Lib.hid fun B h1 h2 => by rw [← hr]; exact genY_ok h1 h2
  have HS0 : Hid (genS [] A = genS [] (A.drop 0)) := Lib.hid (by rw [List.drop_zero])
  obtain ⟨n, hnn⟩ : ∃ n, A.length = n := ⟨_, rfl⟩
  have HN := Lib.hid hnn
  have HNL : Hid (n ≤ 4398046511104) := Lib.hid (by omega)
  rw [hnn] at HBG HER HOK HST HEN HWJ HGW
  rw [hnn, hr]
  generalize genS [] A = GS0 at *
  clear hR hn hr hw hz
  go_enter Tryd.func10, Tryd.ntmps10
  go_upto_region 1 with fail
  change Code.wp _ _ _ _ (w.alloc (.cells (lgA none 0 0 0) 25))
  by_cases hbig : 256 < n
  · skip
    obtain rfl := HBG.out hbig
    generalize w.alloc (.cells (lgA none 0 0 0) 25) = W at *
    obtain ⟨g1, hg1⟩ : ∃ g1, w.heap.size = g1 := ⟨_, rfl⟩
    have HG0 : Hid (w.heap.size ≤ g1) := Lib.hid (by omega)
    rw [hg1] at hX1
    simp only [hg1]
    have HB1 := Lib.hid hb1
    apply wp_region_lit
    refine gw_val (by kernel_rfl) (some 9) rfl (.slice a n k) (by kernel_rfl) ?_
    simp only [pu1, pu2, pu3, pu4]
    refine gw_val (by kernel_rfl) (some 10) rfl (.int .i64 n) (by kernel_rfl) ?_
    simp only [pu1, pu2, pu3, pu4]
    refine gw_val (by kernel_rfl) (some 11) rfl (.bool true) (gtr_n rfl (n) (256) (decide_eq_true (by omega)) (by kernel_rfl) (by kernel_rfl) _) ?_
    simp only [pu1, pu2, pu3, pu4]
    apply wpList_nil
    have hst := store_lg (a' := none) (n' := 0) (k' := 0) (c' := 0) hX1
    have HB9 := Lib.hid (belowRow HB1.out HG0.out (lgA none 0 0 0))
    have HLD := Lib.hid (load_lg hst.2)
    have hst1 := hst.1
    generalize World.setRow W g1 (lgA none 0 0 0) = V9 at *
    clear hst
    go_upto_region 2 with fail
    apply wp_region_lit
    refine gw_val (by kernel_rfl) (some 12) rfl (.agg #[.slice none 0 0, .int .u64 0]) (by kernel_rfl) ?_
    simp only [pu1, pu2, pu3, pu4]
    refine gw_store (by kernel_rfl) rfl 25 (.tmp 2) (.tmp 12) rfl (.pointer (some ⟨g1, 0, none⟩)) (.agg #[.slice none 0 0, .int .u64 0]) (by kernel_rfl) (by kernel_rfl) (V9) (hst1) ?_
    refine gw_val (by kernel_rfl) (some 3) rfl (.int .i64 3) (by kernel_rfl) ?_
    simp only [pu1, pu2, pu3, pu4]
    apply wpList_nil
    clear hst1 hX1
    go_wp2_with fail
    exact bodyPost_ret (results_c (p := 2) (q := 3) rfl (by kernel_rfl) HLD.out rfl) rfl (LedO.err HB9.out)
  have HNB := Lib.hid hbig
  apply wp_region_lit
  refine gw_val (by kernel_rfl) (some 9) rfl (.slice a n k) (by kernel_rfl) ?_
  simp only [pu1, pu2, pu3, pu4]
  refine gw_val (by kernel_rfl) (some 10) rfl (.int .i64 n) (by kernel_rfl) ?_
  simp only [pu1, pu2, pu3, pu4]
  refine gw_val (by kernel_rfl) (some 11) rfl (.bool false) (gtr_n rfl (n) (256) (decide_eq_false (by omega)) (by kernel_rfl) (by kernel_rfl) _) ?_
  simp only [pu1, pu2, pu3, pu4]
  apply wpList_nil
  clear hbig HBG hb1 hX1
  go_upto_region 4 with fail
  change Code.wp _ _ _ _ ((w.alloc (.cells (lgA none 0 0 0) 25)).alloc (.cells (lgA none 0 0 0) 25))
  generalize (w.alloc (.cells (lgA none 0 0 0) 25)).alloc (.cells (lgA none 0 0 0) 25) = W at *
  obtain ⟨g1, hg1⟩ : ∃ g1, w.heap.size = g1 := ⟨_, rfl⟩
  obtain ⟨g2, hg2⟩ : ∃ g2, w.heap.size + 1 = g2 := ⟨_, rfl⟩
  have HG0 : Hid (w.heap.size ≤ g1) := Lib.hid (by omega)
  have HG22 : Hid (w.heap.size ≤ g2) := Lib.hid (by omega)
  have HB00 : Hid (w.heap.size ≤ W.heap.size) := Lib.hid hb0.size
  have HGG : Hid (g1 < W.heap.size ∧ g2 < W.heap.size ∧ g1 ≠ g2) := Lib.hid ⟨by have := hX0.lt; omega, by have := hZ0.lt; omega, by omega⟩
  have HB0 := Lib.hid hb0
  rw [hg2] at hZ0
  rw [hg1] at hX0
  simp only [hg1]
  rw [show g1 + 1 = g2 by omega]
  have HX := Lib.hid hX0
  have HZ := Lib.hid hZ0
  clear hb0 hg1 hg2 hX0 hZ0 hnn
  apply wp_region_lit
  refine gw_val (by kernel_rfl) (some 13) rfl (.slice a n k) (by kernel_rfl) ?_
  simp only [pu1, pu2, pu3, pu4]
  refine gw_val (by kernel_rfl) (some 14) rfl (.int .i64 n) (by kernel_rfl) ?_
  simp only [pu1, pu2, pu3, pu4]
  refine gw_val (by kernel_rfl) (some 15) rfl (.int .i64 0) (by kernel_rfl) ?_
  simp only [pu1, pu2, pu3, pu4]
  apply wpList_nil
  have HS1 : Hid (∃ (a9 : Option Addr) (k9 : Nat) (B : List Ac), Bx W g2 (lgA a9 B.length k9 0) 25 ∧ RowA W W.heap.size (.slice a9 B.length k9) B ∧ B.length = 0 ∧ Srt B ∧ Nmd B ∧ AcW B ∧ GS0 = genS B (A.drop 0)) := Lib.hid ⟨none, 0, [], HZ.out, row_nil _ _, rfl, srt_nil, nmd_nil, acw_nil, HS0.out⟩
  clear HS0 HZ
  go_wp2_with fail
  go_loopg [15] n (fun gg s15 wx => ∃ j : Nat, s15 = .int .i64 j ∧ j ≤ n ∧ Hid (∃ (a9 : Option Addr) (k9 : Nat) (B : List Ac), Bx wx g2 (lgA a9 B.length k9 0) 25 ∧ RowA wx W.heap.size (.slice a9 B.length k9) B ∧ B.length = j ∧ Srt B ∧ Nmd B ∧ AcW B ∧ GS0 = genS B (A.drop j)) ∧ Hid (Bx wx g1 (lgA none 0 0 0) 25 ∧ Below w.heap.size w wx ∧ Cs wx a (acc A) ∧ W.heap.size ≤ wx.heap.size) ∧ n - j = gg)
  case atStart => exact ⟨0, rfl, by omega, HS1, Lib.hid ⟨HX.out, HB0.out, HA.out, Nat.le_refl _⟩, by omega⟩
  case round =>
    clear HS1 HA HX HB0
    obtain ⟨j, rfl, hj, HS, HQ, hg⟩ := hrel
    have hn9 := HNL.out
    have HG := Lib.hid hg
    clear hg
    by_cases hlt : j < n
    · skip
      obtain ⟨b, off, rfl, -, hrx⟩ := ac_range HQ.out.2.2.1 (k := j) (by rw [HN.out]; exact hlt)
      have HLD0 := Lib.hid (load_ac hrx)
      have HSJ := Lib.hid (HST.out j)
      have HYZ := Lib.hid (HZZ.out (aca A j) (aca_mem (by rw [HN.out]; exact hlt)))
      have HWY := Lib.hid (fun B => HWJ.out B j hlt)
      generalize aca A j = y at *
      obtain ⟨V2, hst, hb2, hbx⟩ := new_ac wr y
      have CN := q_isname y.1 V2
      generalize hnm : isName (nums y.1) = nm at *
      clear hrx
      go_upto_region 5 with fail
      apply wp_region_lit
      refine gw_val (by kernel_rfl) (some 16) rfl (.bool true) (lss_n rfl (j) (n) (decide_eq_true (by omega)) (by kernel_rfl) (by kernel_rfl) _) ?_
      simp only [pu1, pu2, pu3, pu4]
      apply wpList_nil
      go_upto_region 6 with fail
      apply wp_region_lit
      refine gw_val (by kernel_rfl) (some 17) rfl (.pointer (some ⟨b, off + j * 3, none⟩)) (idx_ac b off n k j hlt _ _ _ rfl (by kernel_rfl) (by kernel_rfl)) ?_
      simp only [pu1, pu2, pu3, pu4]
      refine gw_load (by kernel_rfl) (some 18) rfl 37 (.tmp 17) rfl ⟨b, off + j * 3, none⟩ (.agg (acA y)) (by kernel_rfl) (HLD0.out) ?_
      simp only [pu1, pu2, pu3, pu4]
      refine run_to rfl (some 6) rfl (.pointer (some ⟨wr.heap.size, 0, none⟩)) (wr.alloc (.cells (acA zAc) 37)) (by kernel_rfl) ?_
      simp only [pu1, pu2, pu3, pu4]
      refine gw_store (by kernel_rfl) rfl 37 (.tmp 6) (.tmp 18) rfl (.pointer (some ⟨wr.heap.size, 0, none⟩)) (.agg (acA y)) (by kernel_rfl) (by kernel_rfl) (V2) (hst) ?_
      apply wpList_nil
      obtain ⟨g4, hg4⟩ : ∃ g4, wr.heap.size = g4 := ⟨_, rfl⟩
      rw [hg4] at hbx ⊢
      clear hst hg4 HLD0
      go_upto_region 7 with fail
      cases nm
      · skip
        apply wp_region_lit
        refine gw_val (by kernel_rfl) (some 19) rfl (.pointer (some ⟨g4, 0, none⟩)) (by kernel_rfl) ?_
        simp only [pu1, pu2, pu3, pu4]
        refine gw_load (by kernel_rfl) (some 20) rfl 9 (.tmp 19) rfl ⟨g4, 0, none⟩ (.string y.1) (by kernel_rfl) (hbx.load (i := 0) rfl (by kernel_rfl)) ?_
        simp only [pu1, pu2, pu3, pu4]
        refine gw_call (by kernel_rfl) (some 21) rfl 25 #[.string y.1] (.bool false) (fun w' => Below V2.heap.size V2 w') (by kernel_rfl) (CN) (fun V3 hV3 => ?_)
        simp only [pu1, pu2, pu3, pu4]
        refine gw_val (by kernel_rfl) (some 22) rfl (.bool true) (by kernel_rfl) ?_
        simp only [pu1, pu2, pu3, pu4]
        apply wpList_nil
        have hb3 := hb2.trans (hV3.mono hb2.size)
        have HX4 := Lib.hid (hbx.below hbx.lt hV3)
        clear hV3 hbx CN hb2
        obtain ⟨a9, k9, B, hq1, hq2, hq3, hq4, hq5, hq6, hq7⟩ := HS.out
        have HQ1 := Lib.hid (hq1.below hq1.lt hb3)
        have HQ2 := Lib.hid (own_below hq2 hb3)
        have HQX := Lib.hid (HQ.out.1.below HQ.out.1.lt hb3)
        have HQB := Lib.hid (HQ.out.2.1.trans (hb3.mono HQ.out.2.1.size))
        have HQA := Lib.hid (HQ.out.2.2.1.below hb3)
        have HQW : Hid (W.heap.size ≤ V3.heap.size) := Lib.hid (Nat.le_trans HQ.out.2.2.2 hb3.size)
        have HSB := HSJ.out B hlt
        rw [← hq7] at HSB
        clear hq1 hq2 HS hb3 HQ HSJ
        rw [if_pos rfl] at HSB
        obtain rfl := HER.out 10 HNB.out HSB (by decide)
        clear HSB hq3 hq4 hq5 hq6 hq7 HWY HQ1 HQ2 HQA HX4 hnm
        have hst := store_lg (a' := none) (n' := 0) (k' := 0) (c' := 0) HQX.out
        have HB9 := Lib.hid (belowRow HQB.out HG0.out (lgA none 0 0 0))
        have HLD := Lib.hid (load_lg hst.2)
        have hst1 := hst.1
        generalize World.setRow V3 g1 (lgA none 0 0 0) = V9 at *
        clear hst
        go_upto_region 8 with fail
        apply wp_region_lit
        refine gw_val (by kernel_rfl) (some 23) rfl (.agg #[.slice none 0 0, .int .u64 0]) (by kernel_rfl) ?_
        simp only [pu1, pu2, pu3, pu4]
        refine gw_store (by kernel_rfl) rfl 25 (.tmp 2) (.tmp 23) rfl (.pointer (some ⟨g1, 0, none⟩)) (.agg #[.slice none 0 0, .int .u64 0]) (by kernel_rfl) (by kernel_rfl) (V9) (hst1) ?_
        refine gw_val (by kernel_rfl) (some 3) rfl (.int .i64 10) (by kernel_rfl) ?_
        simp only [pu1, pu2, pu3, pu4]
        apply wpList_nil
        clear hst1 HQX
        go_wp2_with fail
        exact bodyPost_ret (results_c (p := 2) (q := 3) rfl (by kernel_rfl) HLD.out rfl) rfl (LedO.err HB9.out)
      · skip
        apply wp_region_lit
        refine gw_val (by kernel_rfl) (some 19) rfl (.pointer (some ⟨g4, 0, none⟩)) (by kernel_rfl) ?_
        simp only [pu1, pu2, pu3, pu4]
        refine gw_load (by kernel_rfl) (some 20) rfl 9 (.tmp 19) rfl ⟨g4, 0, none⟩ (.string y.1) (by kernel_rfl) (hbx.load (i := 0) rfl (by kernel_rfl)) ?_
        simp only [pu1, pu2, pu3, pu4]
        refine gw_call (by kernel_rfl) (some 21) rfl 25 #[.string y.1] (.bool true) (fun w' => Below V2.heap.size V2 w') (by kernel_rfl) (CN) (fun V3 hV3 => ?_)
        simp only [pu1, pu2, pu3, pu4]
        refine gw_val (by kernel_rfl) (some 22) rfl (.bool false) (by kernel_rfl) ?_
        simp only [pu1, pu2, pu3, pu4]
        apply wpList_nil
        have hb3 := hb2.trans (hV3.mono hb2.size)
        have HX4 := Lib.hid (hbx.below hbx.lt hV3)
        clear hV3 hbx CN hb2
        obtain ⟨a9, k9, B, hq1, hq2, hq3, hq4, hq5, hq6, hq7⟩ := HS.out
        have HQ1 := Lib.hid (hq1.below hq1.lt hb3)
        have HQ2 := Lib.hid (own_below hq2 hb3)
        have HQX := Lib.hid (HQ.out.1.below HQ.out.1.lt hb3)
        have HQB := Lib.hid (HQ.out.2.1.trans (hb3.mono HQ.out.2.1.size))
        have HQA := Lib.hid (HQ.out.2.2.1.below hb3)
        have HQW : Hid (W.heap.size ≤ V3.heap.size) := Lib.hid (Nat.le_trans HQ.out.2.2.2 hb3.size)
        have HSB := HSJ.out B hlt
        rw [← hq7] at HSB
        clear hq1 hq2 HS hb3 HQ HSJ
        rw [if_neg (by simp)] at HSB
        have HMB : Hid (B.length ≤ 256) := Lib.hid (by have := HNB.out; omega)
        obtain ⟨m, hm⟩ : ∃ m, B.length = m := ⟨_, rfl⟩
        obtain ⟨a8, k8, ea, hcb, hck⟩ := own_cs HQ2.out
        simp only [Value.slice.injEq, true_and] at ea
        obtain ⟨rfl, rfl⟩ := ea
        have CP := q_place a9 k9 B y.1 V3 hcb hq4 (by have := HMB.out; omega)
        by_cases hf : fndL B y.1 < B.length
        · skip
          rw [if_pos hf] at HSB
          rw [decide_eq_true hf] at CP
          obtain rfl := HER.out 8 HNB.out HSB (by decide)
          generalize lesL B y.1 = li at *
          rw [hm] at HQ1 HQ2 CP
          clear HSB hq4 hq5 hq6 hq7 HWY hcb hck hf hnm
          go_upto_region 9 with fail
          apply wp_region_lit
          refine gw_val (by kernel_rfl) (some 25) rfl (.pointer (some ⟨g2, 0, none⟩)) (by kernel_rfl) ?_
          simp only [pu1, pu2, pu3, pu4]
          refine gw_load (by kernel_rfl) (some 26) rfl 22 (.tmp 25) rfl ⟨g2, 0, none⟩ (.slice a9 m k9) (by kernel_rfl) (HQ1.out.load (i := 0) rfl (by kernel_rfl)) ?_
          simp only [pu1, pu2, pu3, pu4]
          refine gw_val (by kernel_rfl) (some 27) rfl (.pointer (some ⟨g4, 0, none⟩)) (by kernel_rfl) ?_
          simp only [pu1, pu2, pu3, pu4]
          refine gw_load (by kernel_rfl) (some 28) rfl 9 (.tmp 27) rfl ⟨g4, 0, none⟩ (.string y.1) (by kernel_rfl) (HX4.out.load (i := 0) rfl (by kernel_rfl)) ?_
          simp only [pu1, pu2, pu3, pu4]
          refine gw_call (by kernel_rfl) (some 29) rfl 26 #[.slice a9 m k9, .string y.1] (.tuple #[.int .i64 li, .bool true]) (fun w' => Below V3.heap.size V3 w') (by kernel_rfl) (CP) (fun V4 hV4 => ?_)
          simp only [pu1, pu2, pu3, pu4]
          refine gw_val (by kernel_rfl) (some 24) rfl (.tuple #[.int .i64 li, .bool true]) (by kernel_rfl) ?_
          simp only [pu1, pu2, pu3, pu4]
          refine gw_val (by kernel_rfl) (some 30) rfl (.int .i64 li) (by kernel_rfl) ?_
          simp only [pu1, pu2, pu3, pu4]
          refine gw_val (by kernel_rfl) (some 31) rfl (.bool true) (by kernel_rfl) ?_
          simp only [pu1, pu2, pu3, pu4]
          refine gw_val (by kernel_rfl) (some 7) rfl (.int .i64 li) (by kernel_rfl) ?_
          simp only [pu1, pu2, pu3, pu4]
          refine gw_val (by kernel_rfl) (some 8) rfl (.bool true) (by kernel_rfl) ?_
          simp only [pu1, pu2, pu3, pu4]
          apply wpList_nil
          replace HQX := Lib.hid (HQX.out.below HQX.out.lt hV4)
          replace HQB := Lib.hid (HQB.out.trans (hV4.mono HQB.out.size))
          clear CP
          clear HQ1 HQ2 HQA HX4 hV4
          have hst := store_lg (a' := none) (n' := 0) (k' := 0) (c' := 0) HQX.out
          have HB9 := Lib.hid (belowRow HQB.out HG0.out (lgA none 0 0 0))
          have HLD := Lib.hid (load_lg hst.2)
          have hst1 := hst.1
          generalize World.setRow V4 g1 (lgA none 0 0 0) = V9 at *
          clear hst
          go_upto_region 10 with fail
          apply wp_region_lit
          refine gw_val (by kernel_rfl) (some 32) rfl (.bool true) (by kernel_rfl) ?_
          simp only [pu1, pu2, pu3, pu4]
          apply wpList_nil
          go_upto_region 11 with fail
          apply wp_region_lit
          refine gw_val (by kernel_rfl) (some 33) rfl (.agg #[.slice none 0 0, .int .u64 0]) (by kernel_rfl) ?_
          simp only [pu1, pu2, pu3, pu4]
          refine gw_store (by kernel_rfl) rfl 25 (.tmp 2) (.tmp 33) rfl (.pointer (some ⟨g1, 0, none⟩)) (.agg #[.slice none 0 0, .int .u64 0]) (by kernel_rfl) (by kernel_rfl) (V9) (hst1) ?_
          refine gw_val (by kernel_rfl) (some 3) rfl (.int .i64 8) (by kernel_rfl) ?_
          simp only [pu1, pu2, pu3, pu4]
          apply wpList_nil
          clear hst1 HQX
          go_wp2_with fail
          exact bodyPost_ret (results_c (p := 2) (q := 3) rfl (by kernel_rfl) HLD.out rfl) rfl (LedO.err HB9.out)
        · skip
          rw [if_neg hf] at HSB
          rw [decide_eq_false hf] at CP
          have CI := fun V (h : V.ownsRow W.heap.size 37 3 (.slice a9 B.length k9) B.length (acc B)) (h2 : W.heap.size ≤ V.heap.size) => q_insert (.slice a9 B.length k9) B y (lesL B y.1) W.heap.size V h h2 (les_le B y.1) (by have := HMB.out; omega)
          rw [← put_new hf] at CI
          generalize lesL B y.1 = li at *
          have HPS : Hid (Srt (putL B y) ∧ Nmd (putL B y) ∧ AcW (putL B y) ∧ (putL B y).length = j + 1) := Lib.hid ⟨put_srt hq4, put_nmd hq5 hnm, HWY.out B hq6, by rw [put_len, if_neg hf]; omega⟩
          have HSP := Lib.hid HSB
          generalize putL B y = P at *
          rw [hm] at HQ1 HQ2 CP CI
          clear HSB hq4 hq5 hq6 hq7 HWY hcb hf hnm
          go_upto_region 9 with fail
          apply wp_region_lit
          refine gw_val (by kernel_rfl) (some 25) rfl (.pointer (some ⟨g2, 0, none⟩)) (by kernel_rfl) ?_
          simp only [pu1, pu2, pu3, pu4]
          refine gw_load (by kernel_rfl) (some 26) rfl 22 (.tmp 25) rfl ⟨g2, 0, none⟩ (.slice a9 m k9) (by kernel_rfl) (HQ1.out.load (i := 0) rfl (by kernel_rfl)) ?_
          simp only [pu1, pu2, pu3, pu4]
          refine gw_val (by kernel_rfl) (some 27) rfl (.pointer (some ⟨g4, 0, none⟩)) (by kernel_rfl) ?_
          simp only [pu1, pu2, pu3, pu4]
          refine gw_load (by kernel_rfl) (some 28) rfl 9 (.tmp 27) rfl ⟨g4, 0, none⟩ (.string y.1) (by kernel_rfl) (HX4.out.load (i := 0) rfl (by kernel_rfl)) ?_
          simp only [pu1, pu2, pu3, pu4]
          refine gw_call (by kernel_rfl) (some 29) rfl 26 #[.slice a9 m k9, .string y.1] (.tuple #[.int .i64 li, .bool false]) (fun w' => Below V3.heap.size V3 w') (by kernel_rfl) (CP) (fun V4 hV4 => ?_)
          simp only [pu1, pu2, pu3, pu4]
          refine gw_val (by kernel_rfl) (some 24) rfl (.tuple #[.int .i64 li, .bool false]) (by kernel_rfl) ?_
          simp only [pu1, pu2, pu3, pu4]
          refine gw_val (by kernel_rfl) (some 30) rfl (.int .i64 li) (by kernel_rfl) ?_
          simp only [pu1, pu2, pu3, pu4]
          refine gw_val (by kernel_rfl) (some 31) rfl (.bool false) (by kernel_rfl) ?_
          simp only [pu1, pu2, pu3, pu4]
          refine gw_val (by kernel_rfl) (some 7) rfl (.int .i64 li) (by kernel_rfl) ?_
          simp only [pu1, pu2, pu3, pu4]
          refine gw_val (by kernel_rfl) (some 8) rfl (.bool false) (by kernel_rfl) ?_
          simp only [pu1, pu2, pu3, pu4]
          apply wpList_nil
          replace HQX := Lib.hid (HQX.out.below HQX.out.lt hV4)
          replace HQB := Lib.hid (HQB.out.trans (hV4.mono HQB.out.size))
          clear CP
          replace HQ1 := Lib.hid (HQ1.out.below HQ1.out.lt hV4)
          replace HQ2 := Lib.hid (own_below HQ2.out hV4)
          replace HQA := Lib.hid (HQA.out.below hV4)
          replace HQW : Hid (W.heap.size ≤ V4.heap.size) := Lib.hid (Nat.le_trans HQW.out hV4.size)
          have HY4 := Lib.hid (HX4.out.below HX4.out.lt hV4)
          clear HX4 hV4
          have CJ := CI V4 HQ2.out HQW.out
          clear CI
          go_upto_region 10 with fail
          apply wp_region_lit
          refine gw_val (by kernel_rfl) (some 32) rfl (.bool false) (by kernel_rfl) ?_
          simp only [pu1, pu2, pu3, pu4]
          apply wpList_nil
          go_upto_region 12 with fail
          apply wp_region_lit
          refine gw_val (by kernel_rfl) (some 34) rfl (.pointer (some ⟨g2, 0, none⟩)) (by kernel_rfl) ?_
          simp only [pu1, pu2, pu3, pu4]
          refine gw_load (by kernel_rfl) (some 35) rfl 22 (.tmp 34) rfl ⟨g2, 0, none⟩ (.slice a9 m k9) (by kernel_rfl) (HQ1.out.load (i := 0) rfl (by kernel_rfl)) ?_
          simp only [pu1, pu2, pu3, pu4]
          refine gw_val (by kernel_rfl) (some 36) rfl (.int .i64 li) (by kernel_rfl) ?_
          simp only [pu1, pu2, pu3, pu4]
          refine gw_load (by kernel_rfl) (some 37) rfl 37 (.tmp 6) rfl ⟨g4, 0, none⟩ (.agg (acA y)) (by kernel_rfl) (load_acb HY4.out) ?_
          simp only [pu1, pu2, pu3, pu4]
          refine gw_callE (by kernel_rfl) (some 38) rfl 27 #[.slice a9 m k9, .int .i64 li, .agg (acA y)] (fun v w' => RowA w' W.heap.size v P ∧ Below W.heap.size V4 w') (by kernel_rfl) (CJ.mono fun e w' q => by obtain ⟨v, h1, h2, h3⟩ := q; exact ⟨v, h1, h2, h3⟩) (fun v5 V5 hq => ?_)
          obtain ⟨hr5, hb5⟩ := hq
          obtain ⟨a5, k5, rfl, -, -⟩ := hr5.cs
          obtain ⟨V6, hst6, hbx6, hb6, hbt6⟩ := st_row (a' := a5) (n' := P.length) (k' := k5) (HQ1.out.below HGG.out.2.1 hb5) (B := w.heap.size) (w0 := w) (HQB.out.trans (hb5.mono (by have := HB00.out; omega))) (by have := HG22.out; omega)
          simp only [pu1, pu2, pu3, pu4]
          refine gw_val (by kernel_rfl) (some 39) rfl (.pointer (some ⟨g2, 0, none⟩)) (by kernel_rfl) ?_
          simp only [pu1, pu2, pu3, pu4]
          refine gw_store (by kernel_rfl) rfl 22 (.tmp 39) (.tmp 38) rfl (.pointer (some ⟨g2, 0, none⟩)) (.slice a5 P.length k5) (by kernel_rfl) (by kernel_rfl) (V6) (hst6) ?_
          apply wpList_nil
          have HS6 : Hid (∃ (a9 : Option Addr) (k9 : Nat) (B : List Ac), Bx V6 g2 (lgA a9 B.length k9 0) 25 ∧ RowA V6 W.heap.size (.slice a9 B.length k9) B ∧ B.length = j + 1 ∧ Srt B ∧ Nmd B ∧ AcW B ∧ GS0 = genS B (A.drop (j + 1))) := Lib.hid ⟨a5, k5, P, hbx6, own_but hr5 hbt6 HGG.out.2.1, HPS.out.2.2.2, HPS.out.1, HPS.out.2.1, HPS.out.2.2.1, HSP.out⟩
          have HQ6 : Hid (Bx V6 g1 (lgA none 0 0 0) 25 ∧ Below w.heap.size w V6 ∧ Cs V6 (some ⟨b, off, none⟩) (acc A) ∧ W.heap.size ≤ V6.heap.size) := Lib.hid ⟨(HQX.out.below HGG.out.1 hb5).but hbt6 HGG.out.2.2, hb6, HAT.out V6 hb6, Nat.le_trans HQW.out (Nat.le_trans hb5.size hbt6.1.size)⟩
          clear hr5 hb5 hst6 hbx6 hb6 hbt6 CJ HY4 HQ1 HQ2 HQA HQX HQB HQW HPS HSP
          go_upto_region 13 with fail
          apply wp_region_lit
          refine gw_val (by kernel_rfl) (some 40) rfl (.int .i64 (j + 1 : Nat)) (add_nat rfl j 1 (by omega) (by kernel_rfl) (by kernel_rfl) _) ?_
          simp only [pu1, pu2, pu3, pu4]
          refine gw_val (by kernel_rfl) (some 15) rfl (.int .i64 (j + 1 : Nat)) (by kernel_rfl) ?_
          simp only [pu1, pu2, pu3, pu4]
          apply wpList_nil
          go_wp2_with fail
          go_roundg (n - (j + 1))
          case measure => have := HG.out; omega
          case rel => exact ⟨j + 1, rfl, hlt, HS6, HQ6, rfl⟩
    · skip
      obtain rfl : n = j := by omega
      obtain ⟨a9, k9, B, hq1, hq2, hq3, hq4, hq5, hq6, hq7⟩ := HS.out
      rw [HEN.out B] at hq7
      obtain rfl := HOK.out B HNB.out hq7
      obtain ⟨a8, k8, ea, hcb, hck⟩ := hq2.cs
      simp only [Value.slice.injEq, true_and] at ea
      obtain ⟨rfl, rfl⟩ := ea
      have CT := q_limited a9 k9 B 0 wr hcb (by have := HNB.out; omega) w64_0 hq6
      have HQX := Lib.hid HQ.out.1
      have HQB := Lib.hid HQ.out.2.1
      have HQ1 := Lib.hid hq1
      have HQ2 := Lib.hid (show wr.ownsRow W.heap.size 37 3 (.slice a9 B.length k9) B.length (acc B) from hq2)
      have HRR : Hid (genR B = cond (totB B 0) (B, 0, 0) ([], 0, 6)) := Lib.hid (by unfold genR; cases totB B 0 <;> simp)
      clear HQ HS hq1 hq2 hq3 hq4 hq5 hq6 hq7 HEN HOK HER HST HGW HWJ HZZ hcb hck HAT
      generalize hm : B.length = m at *
      generalize genR B = rr at *
      go_upto_region 5 with fail
      apply wp_region_lit
      refine gw_val (by kernel_rfl) (some 16) rfl (.bool false) (lss_n rfl (n) (n) (decide_eq_false (by omega)) (by kernel_rfl) (by kernel_rfl) _) ?_
      simp only [pu1, pu2, pu3, pu4]
      apply wpList_nil
      generalize totB B 0 = tb at *
      cases tb
      · skip
        obtain rfl := HRR.out
        go_upto_region 14 with fail
        apply wp_region_lit
        refine gw_load (by kernel_rfl) (some 41) rfl 25 (.tmp 4) rfl ⟨g2, 0, none⟩ (.agg (lgA a9 m k9 0)) (by kernel_rfl) (load_lg HQ1.out) ?_
        simp only [pu1, pu2, pu3, pu4]
        refine gw_call (by kernel_rfl) (some 42) rfl 28 #[.agg (lgA a9 m k9 0)] (.tuple #[.agg (lgA none 0 0 0), .int .i64 6]) (fun w' => Below wr.heap.size wr w') (by kernel_rfl) CT (fun V4 hV4 => ?_)
        have HQX4 := Lib.hid (HQX.out.below HQX.out.lt hV4)
        have HQB4 := Lib.hid (HQB.out.trans (hV4.mono HQB.out.size))
        have HQ24 := Lib.hid (own_below HQ2.out hV4)
        have hst := store_lg (a' := none) (n' := 0) (k' := 0) (c' := 0) HQX4.out
        have HB9 := Lib.hid (belowRow HQB4.out HG0.out (lgA none 0 0 0))
        have HLD := Lib.hid (load_lg hst.2)
        have hst1 := hst.1
        generalize World.setRow V4 g1 (lgA none 0 0 0) = V9 at *
        clear hst
        simp only [pu1, pu2, pu3, pu4]
        refine gw_val (by kernel_rfl) (some 43) rfl (.agg (lgA none 0 0 0)) (by kernel_rfl) ?_
        simp only [pu1, pu2, pu3, pu4]
        refine gw_val (by kernel_rfl) (some 44) rfl (.int .i64 6) (by kernel_rfl) ?_
        simp only [pu1, pu2, pu3, pu4]
        refine gw_store (by kernel_rfl) rfl 25 (.tmp 2) (.tmp 43) rfl (.pointer (some ⟨g1, 0, none⟩)) (.agg (lgA none 0 0 0)) (by kernel_rfl) (by kernel_rfl) (V9) (hst1) ?_
        refine gw_val (by kernel_rfl) (some 3) rfl (.int .i64 6) (by kernel_rfl) ?_
        simp only [pu1, pu2, pu3, pu4]
        apply wpList_nil
        clear hst1 CT hV4
        go_wp2_with fail
        exact bodyPost_ret (results_c (p := 2) (q := 3) rfl (by kernel_rfl) HLD.out rfl) rfl (LedO.err HB9.out)
      · skip
        obtain rfl := HRR.out
        go_upto_region 14 with fail
        apply wp_region_lit
        refine gw_load (by kernel_rfl) (some 41) rfl 25 (.tmp 4) rfl ⟨g2, 0, none⟩ (.agg (lgA a9 m k9 0)) (by kernel_rfl) (load_lg HQ1.out) ?_
        simp only [pu1, pu2, pu3, pu4]
        refine gw_call (by kernel_rfl) (some 42) rfl 28 #[.agg (lgA a9 m k9 0)] (.tuple #[.agg (lgA a9 m k9 0), .int .i64 0]) (fun w' => Below wr.heap.size wr w') (by kernel_rfl) CT (fun V4 hV4 => ?_)
        have HQX4 := Lib.hid (HQX.out.below HQX.out.lt hV4)
        have HQB4 := Lib.hid (HQB.out.trans (hV4.mono HQB.out.size))
        have HQ24 := Lib.hid (own_below HQ2.out hV4)
        have hst := store_lg (a' := a9) (n' := m) (k' := k9) (c' := 0) HQX4.out
        have HB9 := Lib.hid (belowRow HQB4.out HG0.out (lgA a9 m k9 0))
        have HLD := Lib.hid (load_lg hst.2)
        have hst1 := hst.1
        have HE := Lib.hid (own_row_lg (x := lgA a9 m k9 0) HQ24.out HGG.out.1)
        generalize World.setRow V4 g1 (lgA a9 m k9 0) = V9 at *
        clear hst
        simp only [pu1, pu2, pu3, pu4]
        refine gw_val (by kernel_rfl) (some 43) rfl (.agg (lgA a9 m k9 0)) (by kernel_rfl) ?_
        simp only [pu1, pu2, pu3, pu4]
        refine gw_val (by kernel_rfl) (some 44) rfl (.int .i64 0) (by kernel_rfl) ?_
        simp only [pu1, pu2, pu3, pu4]
        refine gw_store (by kernel_rfl) rfl 25 (.tmp 2) (.tmp 43) rfl (.pointer (some ⟨g1, 0, none⟩)) (.agg (lgA a9 m k9 0)) (by kernel_rfl) (by kernel_rfl) (V9) (hst1) ?_
        refine gw_val (by kernel_rfl) (some 3) rfl (.int .i64 0) (by kernel_rfl) ?_
        simp only [pu1, pu2, pu3, pu4]
        apply wpList_nil
        clear hst1 CT hV4
        go_wp2_with fail
        exact bodyPost_ret (results_c (p := 2) (q := 3) rfl (by kernel_rfl) HLD.out rfl) rfl ⟨a9, k9, by rw [hm]; rfl, by have := own_base HE.out HB00.out; rw [← hm] at this; exact this, HB9.out⟩
set_option maxRecDepth 100000 in
set_option maxHeartbeats 8000000 in
theorem ref_genesis (a : Option Addr) (k : Nat) (A : List Ac) (w : World) (hR : Cs w a (acc A)) (hn : A.length ≤ 4398046511104) (hw : AcW A) (hz : ∀ x, x ∈ A → x.1.size ≤ 140737488355328) :
    Calls Tryd.prog 16 #[.slice a A.length k] w (LedO w (genY A)) := by
  obtain ⟨hb0, hX0, hZ0⟩ := two_boxes w (lgA none 0 0 0) (lgA none 0 0 0) 25 25
  have hb1 : Below w.heap.size w (w.alloc (.cells (lgA none 0 0 0) 25)) := (Below.refl _ w).alloc (Nat.le_refl _) _
  have hX1 : Bx (w.alloc (.cells (lgA none 0 0 0) 25)) w.heap.size (lgA none 0 0 0) 25 := heap_alloc_last w _
  have HA := Lib.hid (hR.below hb0)
  have HZZ := Lib.hid hz
  have HAT := Lib.hid (fun V (h : Below w.heap.size w V) => hR.below h)
  have HGW : Hid (∀ B j, j ≤ A.length → genS [] A = genS B (A.drop j) → AcW B → ∀ P, genS [] A = (P, 0) → AcW P) := Lib.hid fun B j h1 h2 h3 P h4 => by
    have := gen_w (A.drop j) B h3 (fun x hx => acw_mem hw x (List.mem_of_mem_drop hx))
    rw [← h2, h4] at this
    exact this
  have HWJ : Hid (∀ B j, j < A.length → AcW B → AcW (putL B (aca A j))) := Lib.hid fun B j h1 h2 => put_w h2 (hw j h1)
  have HST := Lib.hid (fun (j : Nat) (B : List Ac) (h : j < A.length) => gen_step B h)
  have HEN := Lib.hid (gen_end A)
  obtain ⟨r, hr⟩ : ∃ r, genY A = r := ⟨_, rfl⟩
  have HBG : Hid (256 < A.length → r = ([], 0, 3)) := Lib.hid fun h => by rw [← hr]; exact genY_big h
  have HER : Hid (∀ e, ¬ 256 < A.length → genS [] A = ([], e) → e ≠ 0 → r = ([], 0, e)) := Lib.hid fun e h1 h2 h3 => by rw [← hr]; exact genY_err h1 h2 h3
  have HOK : Hid (∀ B, ¬ 256 < A.length → genS [] A = (B, 0) → r = genR B) := Lib.hid fun B h1 h2 => by rw [← hr]; exact genY_ok h1 h2
  have HS0 : Hid (genS [] A = genS [] (A.drop 0)) := Lib.hid (by rw [List.drop_zero])
  obtain ⟨n, hnn⟩ : ∃ n, A.length = n := ⟨_, rfl⟩
  have HN := Lib.hid hnn
  have HNL : Hid (n ≤ 4398046511104) := Lib.hid (by omega)
  rw [hnn] at HBG HER HOK HST HEN HWJ HGW
  rw [hnn, hr]
  generalize genS [] A = GS0 at *
  clear hR hn hr hw hz
  go_enter Tryd.func16, Tryd.ntmps16
  go_upto_region 1 with fail
  change Code.wp _ _ _ _ (w.alloc (.cells (lgA none 0 0 0) 25))
  by_cases hbig : 256 < n
  · skip
    obtain rfl := HBG.out hbig
    generalize w.alloc (.cells (lgA none 0 0 0) 25) = W at *
    obtain ⟨g1, hg1⟩ : ∃ g1, w.heap.size = g1 := ⟨_, rfl⟩
    have HG0 : Hid (w.heap.size ≤ g1) := Lib.hid (by omega)
    rw [hg1] at hX1
    simp only [hg1]
    have HB1 := Lib.hid hb1
    apply wp_region_lit
    refine gw_val (by kernel_rfl) (some 9) rfl (.slice a n k) (by kernel_rfl) ?_
    simp only [pu1, pu2, pu3, pu4]
    refine gw_val (by kernel_rfl) (some 10) rfl (.int .i64 n) (by kernel_rfl) ?_
    simp only [pu1, pu2, pu3, pu4]
    refine gw_val (by kernel_rfl) (some 11) rfl (.bool true) (gtr_n rfl (n) (256) (decide_eq_true (by omega)) (by kernel_rfl) (by kernel_rfl) _) ?_
    simp only [pu1, pu2, pu3, pu4]
    apply wpList_nil
    have hst := store_lg (a' := none) (n' := 0) (k' := 0) (c' := 0) hX1
    have HB9 := Lib.hid (belowRow HB1.out HG0.out (lgA none 0 0 0))
    have HLD := Lib.hid (load_lg hst.2)
    have hst1 := hst.1
    generalize World.setRow W g1 (lgA none 0 0 0) = V9 at *
    clear hst
    go_upto_region 2 with fail
    apply wp_region_lit
    refine gw_val (by kernel_rfl) (some 12) rfl (.agg #[.slice none 0 0, .int .u64 0]) (by kernel_rfl) ?_
    simp only [pu1, pu2, pu3, pu4]
    refine gw_store (by kernel_rfl) rfl 25 (.tmp 2) (.tmp 12) rfl (.pointer (some ⟨g1, 0, none⟩)) (.agg #[.slice none 0 0, .int .u64 0]) (by kernel_rfl) (by kernel_rfl) (V9) (hst1) ?_
    refine gw_val (by kernel_rfl) (some 3) rfl (.int .i64 3) (by kernel_rfl) ?_
    simp only [pu1, pu2, pu3, pu4]
    apply wpList_nil
    clear hst1 hX1
    go_wp2_with fail
    exact bodyPost_ret (results_c (p := 2) (q := 3) rfl (by kernel_rfl) HLD.out rfl) rfl (LedO.err HB9.out)
  have HNB := Lib.hid hbig
  apply wp_region_lit
  refine gw_val (by kernel_rfl) (some 9) rfl (.slice a n k) (by kernel_rfl) ?_
  simp only [pu1, pu2, pu3, pu4]
  refine gw_val (by kernel_rfl) (some 10) rfl (.int .i64 n) (by kernel_rfl) ?_
  simp only [pu1, pu2, pu3, pu4]
  refine gw_val (by kernel_rfl) (some 11) rfl (.bool false) (gtr_n rfl (n) (256) (decide_eq_false (by omega)) (by kernel_rfl) (by kernel_rfl) _) ?_
  simp only [pu1, pu2, pu3, pu4]
  apply wpList_nil
  clear hbig HBG hb1 hX1
  go_upto_region 4 with fail
  change Code.wp _ _ _ _ ((w.alloc (.cells (lgA none 0 0 0) 25)).alloc (.cells (lgA none 0 0 0) 25))
  generalize (w.alloc (.cells (lgA none 0 0 0) 25)).alloc (.cells (lgA none 0 0 0) 25) = W at *
  obtain ⟨g1, hg1⟩ : ∃ g1, w.heap.size = g1 := ⟨_, rfl⟩
  obtain ⟨g2, hg2⟩ : ∃ g2, w.heap.size + 1 = g2 := ⟨_, rfl⟩
  have HG0 : Hid (w.heap.size ≤ g1) := Lib.hid (by omega)
  have HG22 : Hid (w.heap.size ≤ g2) := Lib.hid (by omega)
  have HB00 : Hid (w.heap.size ≤ W.heap.size) := Lib.hid hb0.size
  have HGG : Hid (g1 < W.heap.size ∧ g2 < W.heap.size ∧ g1 ≠ g2) := Lib.hid ⟨by have := hX0.lt; omega, by have := hZ0.lt; omega, by omega⟩
  have HB0 := Lib.hid hb0
  rw [hg2] at hZ0
  rw [hg1] at hX0
  simp only [hg1]
  rw [show g1 + 1 = g2 by omega]
  have HX := Lib.hid hX0
  have HZ := Lib.hid hZ0
  clear hb0 hg1 hg2 hX0 hZ0 hnn
  apply wp_region_lit
  refine gw_val (by kernel_rfl) (some 13) rfl (.slice a n k) (by kernel_rfl) ?_
  simp only [pu1, pu2, pu3, pu4]
  refine gw_val (by kernel_rfl) (some 14) rfl (.int .i64 n) (by kernel_rfl) ?_
  simp only [pu1, pu2, pu3, pu4]
  refine gw_val (by kernel_rfl) (some 15) rfl (.int .i64 0) (by kernel_rfl) ?_
  simp only [pu1, pu2, pu3, pu4]
  apply wpList_nil
  have HS1 : Hid (∃ (a9 : Option Addr) (k9 : Nat) (B : List Ac), Bx W g2 (lgA a9 B.length k9 0) 25 ∧ RowA W W.heap.size (.slice a9 B.length k9) B ∧ B.length = 0 ∧ Srt B ∧ Nmd B ∧ AcW B ∧ GS0 = genS B (A.drop 0)) := Lib.hid ⟨none, 0, [], HZ.out, row_nil _ _, rfl, srt_nil, nmd_nil, acw_nil, HS0.out⟩
  clear HS0 HZ
  go_wp2_with fail
  go_loopg [15] n (fun gg s15 wx => ∃ j : Nat, s15 = .int .i64 j ∧ j ≤ n ∧ Hid (∃ (a9 : Option Addr) (k9 : Nat) (B : List Ac), Bx wx g2 (lgA a9 B.length k9 0) 25 ∧ RowA wx W.heap.size (.slice a9 B.length k9) B ∧ B.length = j ∧ Srt B ∧ Nmd B ∧ AcW B ∧ GS0 = genS B (A.drop j)) ∧ Hid (Bx wx g1 (lgA none 0 0 0) 25 ∧ Below w.heap.size w wx ∧ Cs wx a (acc A) ∧ W.heap.size ≤ wx.heap.size) ∧ n - j = gg)
  case atStart => exact ⟨0, rfl, by omega, HS1, Lib.hid ⟨HX.out, HB0.out, HA.out, Nat.le_refl _⟩, by omega⟩
  case round =>
    clear HS1 HA HX HB0
    obtain ⟨j, rfl, hj, HS, HQ, hg⟩ := hrel
    have hn9 := HNL.out
    have HG := Lib.hid hg
    clear hg
    by_cases hlt : j < n
    · skip
      obtain ⟨b, off, rfl, -, hrx⟩ := ac_range HQ.out.2.2.1 (k := j) (by rw [HN.out]; exact hlt)
      have HLD0 := Lib.hid (load_ac hrx)
      have HSJ := Lib.hid (HST.out j)
      have HYZ := Lib.hid (HZZ.out (aca A j) (aca_mem (by rw [HN.out]; exact hlt)))
      have HWY := Lib.hid (fun B => HWJ.out B j hlt)
      generalize aca A j = y at *
      obtain ⟨V2, hst, hb2, hbx⟩ := new_ac wr y
      have CN := ref_isname y.1 V2 HYZ.out
      generalize hnm : isName (nums y.1) = nm at *
      clear hrx
      go_upto_region 5 with fail
      apply wp_region_lit
      refine gw_val (by kernel_rfl) (some 16) rfl (.bool true) (lss_n rfl (j) (n) (decide_eq_true (by omega)) (by kernel_rfl) (by kernel_rfl) _) ?_
      simp only [pu1, pu2, pu3, pu4]
      apply wpList_nil
      go_upto_region 6 with fail
      apply wp_region_lit
      refine gw_val (by kernel_rfl) (some 17) rfl (.pointer (some ⟨b, off + j * 3, none⟩)) (idx_ac b off n k j hlt _ _ _ rfl (by kernel_rfl) (by kernel_rfl)) ?_
      simp only [pu1, pu2, pu3, pu4]
      refine gw_load (by kernel_rfl) (some 18) rfl 37 (.tmp 17) rfl ⟨b, off + j * 3, none⟩ (.agg (acA y)) (by kernel_rfl) (HLD0.out) ?_
      simp only [pu1, pu2, pu3, pu4]
      refine run_to rfl (some 6) rfl (.pointer (some ⟨wr.heap.size, 0, none⟩)) (wr.alloc (.cells (acA zAc) 37)) (by kernel_rfl) ?_
      simp only [pu1, pu2, pu3, pu4]
      refine gw_store (by kernel_rfl) rfl 37 (.tmp 6) (.tmp 18) rfl (.pointer (some ⟨wr.heap.size, 0, none⟩)) (.agg (acA y)) (by kernel_rfl) (by kernel_rfl) (V2) (hst) ?_
      apply wpList_nil
      obtain ⟨g4, hg4⟩ : ∃ g4, wr.heap.size = g4 := ⟨_, rfl⟩
      rw [hg4] at hbx ⊢
      clear hst hg4 HLD0
      go_upto_region 7 with fail
      cases nm
      · skip
        apply wp_region_lit
        refine gw_val (by kernel_rfl) (some 19) rfl (.pointer (some ⟨g4, 0, none⟩)) (by kernel_rfl) ?_
        simp only [pu1, pu2, pu3, pu4]
        refine gw_load (by kernel_rfl) (some 20) rfl 9 (.tmp 19) rfl ⟨g4, 0, none⟩ (.string y.1) (by kernel_rfl) (hbx.load (i := 0) rfl (by kernel_rfl)) ?_
        simp only [pu1, pu2, pu3, pu4]
        refine gw_call (by kernel_rfl) (some 21) rfl 31 #[.string y.1] (.bool false) (fun w' => V2 = w') (by kernel_rfl) (CN) (fun V3 hV3 => ?_)
        simp only [pu1, pu2, pu3, pu4]
        refine gw_val (by kernel_rfl) (some 22) rfl (.bool true) (by kernel_rfl) ?_
        simp only [pu1, pu2, pu3, pu4]
        apply wpList_nil
        subst hV3
        have hb3 := hb2
        have HX4 := Lib.hid hbx
        clear hbx CN hb2
        obtain ⟨a9, k9, B, hq1, hq2, hq3, hq4, hq5, hq6, hq7⟩ := HS.out
        have HQ1 := Lib.hid (hq1.below hq1.lt hb3)
        have HQ2 := Lib.hid (own_below hq2 hb3)
        have HQX := Lib.hid (HQ.out.1.below HQ.out.1.lt hb3)
        have HQB := Lib.hid (HQ.out.2.1.trans (hb3.mono HQ.out.2.1.size))
        have HQA := Lib.hid (HQ.out.2.2.1.below hb3)
        have HQW : Hid (W.heap.size ≤ V2.heap.size) := Lib.hid (Nat.le_trans HQ.out.2.2.2 hb3.size)
        have HSB := HSJ.out B hlt
        rw [← hq7] at HSB
        clear hq1 hq2 HS hb3 HQ HSJ
        rw [if_pos rfl] at HSB
        obtain rfl := HER.out 10 HNB.out HSB (by decide)
        clear HSB hq3 hq4 hq5 hq6 hq7 HWY HQ1 HQ2 HQA HX4 hnm
        have hst := store_lg (a' := none) (n' := 0) (k' := 0) (c' := 0) HQX.out
        have HB9 := Lib.hid (belowRow HQB.out HG0.out (lgA none 0 0 0))
        have HLD := Lib.hid (load_lg hst.2)
        have hst1 := hst.1
        generalize World.setRow V2 g1 (lgA none 0 0 0) = V9 at *
        clear hst
        go_upto_region 8 with fail
        apply wp_region_lit
        refine gw_val (by kernel_rfl) (some 23) rfl (.agg #[.slice none 0 0, .int .u64 0]) (by kernel_rfl) ?_
        simp only [pu1, pu2, pu3, pu4]
        refine gw_store (by kernel_rfl) rfl 25 (.tmp 2) (.tmp 23) rfl (.pointer (some ⟨g1, 0, none⟩)) (.agg #[.slice none 0 0, .int .u64 0]) (by kernel_rfl) (by kernel_rfl) (V9) (hst1) ?_
        refine gw_val (by kernel_rfl) (some 3) rfl (.int .i64 10) (by kernel_rfl) ?_
        simp only [pu1, pu2, pu3, pu4]
        apply wpList_nil
        clear hst1 HQX
        go_wp2_with fail
        exact bodyPost_ret (results_c (p := 2) (q := 3) rfl (by kernel_rfl) HLD.out rfl) rfl (LedO.err HB9.out)
      · skip
        apply wp_region_lit
        refine gw_val (by kernel_rfl) (some 19) rfl (.pointer (some ⟨g4, 0, none⟩)) (by kernel_rfl) ?_
        simp only [pu1, pu2, pu3, pu4]
        refine gw_load (by kernel_rfl) (some 20) rfl 9 (.tmp 19) rfl ⟨g4, 0, none⟩ (.string y.1) (by kernel_rfl) (hbx.load (i := 0) rfl (by kernel_rfl)) ?_
        simp only [pu1, pu2, pu3, pu4]
        refine gw_call (by kernel_rfl) (some 21) rfl 31 #[.string y.1] (.bool true) (fun w' => V2 = w') (by kernel_rfl) (CN) (fun V3 hV3 => ?_)
        simp only [pu1, pu2, pu3, pu4]
        refine gw_val (by kernel_rfl) (some 22) rfl (.bool false) (by kernel_rfl) ?_
        simp only [pu1, pu2, pu3, pu4]
        apply wpList_nil
        subst hV3
        have hb3 := hb2
        have HX4 := Lib.hid hbx
        clear hbx CN hb2
        obtain ⟨a9, k9, B, hq1, hq2, hq3, hq4, hq5, hq6, hq7⟩ := HS.out
        have HQ1 := Lib.hid (hq1.below hq1.lt hb3)
        have HQ2 := Lib.hid (own_below hq2 hb3)
        have HQX := Lib.hid (HQ.out.1.below HQ.out.1.lt hb3)
        have HQB := Lib.hid (HQ.out.2.1.trans (hb3.mono HQ.out.2.1.size))
        have HQA := Lib.hid (HQ.out.2.2.1.below hb3)
        have HQW : Hid (W.heap.size ≤ V2.heap.size) := Lib.hid (Nat.le_trans HQ.out.2.2.2 hb3.size)
        have HSB := HSJ.out B hlt
        rw [← hq7] at HSB
        clear hq1 hq2 HS hb3 HQ HSJ
        rw [if_neg (by simp)] at HSB
        have HMB : Hid (B.length ≤ 256) := Lib.hid (by have := HNB.out; omega)
        obtain ⟨m, hm⟩ : ∃ m, B.length = m := ⟨_, rfl⟩
        obtain ⟨a8, k8, ea, hcb, hck⟩ := own_cs HQ2.out
        simp only [Value.slice.injEq, true_and] at ea
        obtain ⟨rfl, rfl⟩ := ea
        have CP := ref_find a9 k9 B y.1 V2 hcb (by have := HMB.out; omega)
        by_cases hf : fndL B y.1 < B.length
        · skip
          rw [if_pos hf] at HSB
          rw [show fndI B y.1 = ((fndL B y.1 : Nat) : Int) from if_pos hf] at CP
          obtain rfl := HER.out 8 HNB.out HSB (by decide)
          generalize fndL B y.1 = li at *
          rw [hm] at HQ1 HQ2 CP
          clear HSB hq4 hq5 hq6 hq7 HWY hcb hck hf hnm
          go_upto_region 9 with fail
          apply wp_region_lit
          refine gw_val (by kernel_rfl) (some 24) rfl (.pointer (some ⟨g2, 0, none⟩)) (by kernel_rfl) ?_
          simp only [pu1, pu2, pu3, pu4]
          refine gw_load (by kernel_rfl) (some 25) rfl 22 (.tmp 24) rfl ⟨g2, 0, none⟩ (.slice a9 m k9) (by kernel_rfl) (HQ1.out.load (i := 0) rfl (by kernel_rfl)) ?_
          simp only [pu1, pu2, pu3, pu4]
          refine gw_val (by kernel_rfl) (some 26) rfl (.pointer (some ⟨g4, 0, none⟩)) (by kernel_rfl) ?_
          simp only [pu1, pu2, pu3, pu4]
          refine gw_load (by kernel_rfl) (some 27) rfl 9 (.tmp 26) rfl ⟨g4, 0, none⟩ (.string y.1) (by kernel_rfl) (HX4.out.load (i := 0) rfl (by kernel_rfl)) ?_
          simp only [pu1, pu2, pu3, pu4]
          refine gw_call (by kernel_rfl) (some 28) rfl 32 #[.slice a9 m k9, .string y.1] (.int .i64 li) (fun w' => Below V2.heap.size V2 w') (by kernel_rfl) (CP) (fun V4 hV4 => ?_)
          simp only [pu1, pu2, pu3, pu4]
          refine gw_val (by kernel_rfl) (some 29) rfl (.bool true) (geq_n rfl li 0 (decide_eq_true (by omega)) (by kernel_rfl) (by kernel_rfl) _) ?_
          simp only [pu1, pu2, pu3, pu4]
          apply wpList_nil
          replace HQX := Lib.hid (HQX.out.below HQX.out.lt hV4)
          replace HQB := Lib.hid (HQB.out.trans (hV4.mono HQB.out.size))
          clear CP
          clear HQ1 HQ2 HQA HX4 hV4
          have hst := store_lg (a' := none) (n' := 0) (k' := 0) (c' := 0) HQX.out
          have HB9 := Lib.hid (belowRow HQB.out HG0.out (lgA none 0 0 0))
          have HLD := Lib.hid (load_lg hst.2)
          have hst1 := hst.1
          generalize World.setRow V4 g1 (lgA none 0 0 0) = V9 at *
          clear hst
          go_upto_region 10 with fail
          apply wp_region_lit
          refine gw_val (by kernel_rfl) (some 30) rfl (.agg #[.slice none 0 0, .int .u64 0]) (by kernel_rfl) ?_
          simp only [pu1, pu2, pu3, pu4]
          refine gw_store (by kernel_rfl) rfl 25 (.tmp 2) (.tmp 30) rfl (.pointer (some ⟨g1, 0, none⟩)) (.agg #[.slice none 0 0, .int .u64 0]) (by kernel_rfl) (by kernel_rfl) (V9) (hst1) ?_
          refine gw_val (by kernel_rfl) (some 3) rfl (.int .i64 8) (by kernel_rfl) ?_
          simp only [pu1, pu2, pu3, pu4]
          apply wpList_nil
          clear hst1 HQX
          go_wp2_with fail
          exact bodyPost_ret (results_c (p := 2) (q := 3) rfl (by kernel_rfl) HLD.out rfl) rfl (LedO.err HB9.out)
        · skip
          rw [if_neg hf] at HSB
          rw [show fndI B y.1 = -1 from if_neg hf] at CP
          have CI := fun V (h : Cs V a9 (acc B)) => ref_put a9 k9 B y V h hck (by have := HMB.out; omega)
          have HPS : Hid (Srt (putL B y) ∧ Nmd (putL B y) ∧ AcW (putL B y) ∧ (putL B y).length = j + 1) := Lib.hid ⟨put_srt hq4, put_nmd hq5 hnm, HWY.out B hq6, by rw [put_len, if_neg hf]; omega⟩
          have HSP := Lib.hid HSB
          generalize putL B y = P at *
          rw [hm] at HQ1 HQ2 CP CI
          clear HSB hq4 hq5 hq6 hq7 HWY hcb hf hnm
          go_upto_region 9 with fail
          apply wp_region_lit
          refine gw_val (by kernel_rfl) (some 24) rfl (.pointer (some ⟨g2, 0, none⟩)) (by kernel_rfl) ?_
          simp only [pu1, pu2, pu3, pu4]
          refine gw_load (by kernel_rfl) (some 25) rfl 22 (.tmp 24) rfl ⟨g2, 0, none⟩ (.slice a9 m k9) (by kernel_rfl) (HQ1.out.load (i := 0) rfl (by kernel_rfl)) ?_
          simp only [pu1, pu2, pu3, pu4]
          refine gw_val (by kernel_rfl) (some 26) rfl (.pointer (some ⟨g4, 0, none⟩)) (by kernel_rfl) ?_
          simp only [pu1, pu2, pu3, pu4]
          refine gw_load (by kernel_rfl) (some 27) rfl 9 (.tmp 26) rfl ⟨g4, 0, none⟩ (.string y.1) (by kernel_rfl) (HX4.out.load (i := 0) rfl (by kernel_rfl)) ?_
          simp only [pu1, pu2, pu3, pu4]
          refine gw_call (by kernel_rfl) (some 28) rfl 32 #[.slice a9 m k9, .string y.1] (.int .i64 (-1)) (fun w' => Below V2.heap.size V2 w') (by kernel_rfl) (CP) (fun V4 hV4 => ?_)
          simp only [pu1, pu2, pu3, pu4]
          refine gw_val (by kernel_rfl) (some 29) rfl (.bool false) (geq_n rfl (-1) 0 (decide_eq_false (by omega)) (by kernel_rfl) (by kernel_rfl) _) ?_
          simp only [pu1, pu2, pu3, pu4]
          apply wpList_nil
          replace HQX := Lib.hid (HQX.out.below HQX.out.lt hV4)
          replace HQB := Lib.hid (HQB.out.trans (hV4.mono HQB.out.size))
          clear CP
          replace HQ1 := Lib.hid (HQ1.out.below HQ1.out.lt hV4)
          replace HQ2 := Lib.hid (own_below HQ2.out hV4)
          replace HQA := Lib.hid (HQA.out.below hV4)
          replace HQW : Hid (W.heap.size ≤ V4.heap.size) := Lib.hid (Nat.le_trans HQW.out hV4.size)
          have HY4 := Lib.hid (HX4.out.below HX4.out.lt hV4)
          clear HX4 hV4
          have CJ := CI V4 (by obtain ⟨a7, k7, e7, hc7, -⟩ := own_cs HQ2.out; simp only [Value.slice.injEq, true_and] at e7; obtain ⟨rfl, rfl⟩ := e7; exact hc7)
          clear CI
          go_upto_region 11 with fail
          apply wp_region_lit
          refine gw_val (by kernel_rfl) (some 31) rfl (.pointer (some ⟨g2, 0, none⟩)) (by kernel_rfl) ?_
          simp only [pu1, pu2, pu3, pu4]
          refine gw_load (by kernel_rfl) (some 32) rfl 22 (.tmp 31) rfl ⟨g2, 0, none⟩ (.slice a9 m k9) (by kernel_rfl) (HQ1.out.load (i := 0) rfl (by kernel_rfl)) ?_
          simp only [pu1, pu2, pu3, pu4]
          refine gw_load (by kernel_rfl) (some 33) rfl 37 (.tmp 6) rfl ⟨g4, 0, none⟩ (.agg (acA y)) (by kernel_rfl) (load_acb HY4.out) ?_
          simp only [pu1, pu2, pu3, pu4]
          refine gw_callE (by kernel_rfl) (some 34) rfl 33 #[.slice a9 m k9, .agg (acA y)] (fun v w' => RowA w' W.heap.size v P ∧ Below W.heap.size V4 w') (by kernel_rfl) (CJ.mono fun e w' q => by obtain ⟨v, h1, h2, h3⟩ := q; exact ⟨v, h1, own_base h2 HQW.out, h3.mono HQW.out⟩) (fun v5 V5 hq => ?_)
          obtain ⟨hr5, hb5⟩ := hq
          obtain ⟨a5, k5, rfl, -, -⟩ := hr5.cs
          obtain ⟨V6, hst6, hbx6, hb6, hbt6⟩ := st_row (a' := a5) (n' := P.length) (k' := k5) (HQ1.out.below HGG.out.2.1 hb5) (B := w.heap.size) (w0 := w) (HQB.out.trans (hb5.mono (by have := HB00.out; omega))) (by have := HG22.out; omega)
          simp only [pu1, pu2, pu3, pu4]
          refine gw_val (by kernel_rfl) (some 35) rfl (.pointer (some ⟨g2, 0, none⟩)) (by kernel_rfl) ?_
          simp only [pu1, pu2, pu3, pu4]
          refine gw_store (by kernel_rfl) rfl 22 (.tmp 35) (.tmp 34) rfl (.pointer (some ⟨g2, 0, none⟩)) (.slice a5 P.length k5) (by kernel_rfl) (by kernel_rfl) (V6) (hst6) ?_
          apply wpList_nil
          have HS6 : Hid (∃ (a9 : Option Addr) (k9 : Nat) (B : List Ac), Bx V6 g2 (lgA a9 B.length k9 0) 25 ∧ RowA V6 W.heap.size (.slice a9 B.length k9) B ∧ B.length = j + 1 ∧ Srt B ∧ Nmd B ∧ AcW B ∧ GS0 = genS B (A.drop (j + 1))) := Lib.hid ⟨a5, k5, P, hbx6, own_but hr5 hbt6 HGG.out.2.1, HPS.out.2.2.2, HPS.out.1, HPS.out.2.1, HPS.out.2.2.1, HSP.out⟩
          have HQ6 : Hid (Bx V6 g1 (lgA none 0 0 0) 25 ∧ Below w.heap.size w V6 ∧ Cs V6 (some ⟨b, off, none⟩) (acc A) ∧ W.heap.size ≤ V6.heap.size) := Lib.hid ⟨(HQX.out.below HGG.out.1 hb5).but hbt6 HGG.out.2.2, hb6, HAT.out V6 hb6, Nat.le_trans HQW.out (Nat.le_trans hb5.size hbt6.1.size)⟩
          clear hr5 hb5 hst6 hbx6 hb6 hbt6 CJ HY4 HQ1 HQ2 HQA HQX HQB HQW HPS HSP
          go_upto_region 12 with fail
          apply wp_region_lit
          refine gw_val (by kernel_rfl) (some 36) rfl (.int .i64 (j + 1 : Nat)) (add_nat rfl j 1 (by omega) (by kernel_rfl) (by kernel_rfl) _) ?_
          simp only [pu1, pu2, pu3, pu4]
          refine gw_val (by kernel_rfl) (some 15) rfl (.int .i64 (j + 1 : Nat)) (by kernel_rfl) ?_
          simp only [pu1, pu2, pu3, pu4]
          apply wpList_nil
          go_wp2_with fail
          go_roundg (n - (j + 1))
          case measure => have := HG.out; omega
          case rel => exact ⟨j + 1, rfl, hlt, HS6, HQ6, rfl⟩
    · skip
      obtain rfl : n = j := by omega
      obtain ⟨a9, k9, B, hq1, hq2, hq3, hq4, hq5, hq6, hq7⟩ := HS.out
      rw [HEN.out B] at hq7
      obtain rfl := HOK.out B HNB.out hq7
      obtain ⟨a8, k8, ea, hcb, hck⟩ := hq2.cs
      simp only [Value.slice.injEq, true_and] at ea
      obtain ⟨rfl, rfl⟩ := ea
      have CT := ref_total a9 k9 B 0 wr hcb (by have := HNB.out; omega) w64_0 hq6
      have HQX := Lib.hid HQ.out.1
      have HQB := Lib.hid HQ.out.2.1
      have HQ1 := Lib.hid hq1
      have HQ2 := Lib.hid (show wr.ownsRow W.heap.size 37 3 (.slice a9 B.length k9) B.length (acc B) from hq2)
      have HRR : Hid (genR B = cond (totB B 0) (B, 0, 0) ([], 0, 6)) := Lib.hid (by unfold genR; cases totB B 0 <;> simp)
      clear HQ HS hq1 hq2 hq3 hq4 hq5 hq6 hq7 HEN HOK HER HST HGW HWJ HZZ hcb hck HAT
      generalize hm : B.length = m at *
      generalize genR B = rr at *
      go_upto_region 5 with fail
      apply wp_region_lit
      refine gw_val (by kernel_rfl) (some 16) rfl (.bool false) (lss_n rfl (n) (n) (decide_eq_false (by omega)) (by kernel_rfl) (by kernel_rfl) _) ?_
      simp only [pu1, pu2, pu3, pu4]
      apply wpList_nil
      generalize totV B 0 = tv at *
      generalize totB B 0 = tb at *
      cases tb
      · skip
        obtain rfl := HRR.out
        go_upto_region 13 with fail
        apply wp_region_lit
        refine gw_load (by kernel_rfl) (some 38) rfl 25 (.tmp 4) rfl ⟨g2, 0, none⟩ (.agg (lgA a9 m k9 0)) (by kernel_rfl) (load_lg HQ1.out) ?_
        simp only [pu1, pu2, pu3, pu4]
        refine gw_call (by kernel_rfl) (some 39) rfl 34 #[.agg (lgA a9 m k9 0)] (.tuple #[.int .u64 tv, .bool false]) (fun w' => Below wr.heap.size wr w') (by kernel_rfl) (CT) (fun V4 hV4 => ?_)
        have HQX4 := Lib.hid (HQX.out.below HQX.out.lt hV4)
        have HQB4 := Lib.hid (HQB.out.trans (hV4.mono HQB.out.size))
        have HQ24 := Lib.hid (own_below HQ2.out hV4)
        have HQ14 := Lib.hid (HQ1.out.below HQ1.out.lt hV4)
        simp only [pu1, pu2, pu3, pu4]
        refine gw_val (by kernel_rfl) (some 37) rfl (.tuple #[.int .u64 tv, .bool false]) (by kernel_rfl) ?_
        simp only [pu1, pu2, pu3, pu4]
        refine gw_val (by kernel_rfl) (some 40) rfl (.int .u64 tv) (by kernel_rfl) ?_
        simp only [pu1, pu2, pu3, pu4]
        refine gw_val (by kernel_rfl) (some 41) rfl (.bool false) (by kernel_rfl) ?_
        simp only [pu1, pu2, pu3, pu4]
        refine gw_val (by kernel_rfl) (some 7) rfl (.int .u64 tv) (by kernel_rfl) ?_
        simp only [pu1, pu2, pu3, pu4]
        refine gw_val (by kernel_rfl) (some 8) rfl (.bool false) (by kernel_rfl) ?_
        simp only [pu1, pu2, pu3, pu4]
        apply wpList_nil
        clear CT hV4
        go_upto_region 14 with fail
        apply wp_region_lit
        refine gw_val (by kernel_rfl) (some 42) rfl (.bool false) (by kernel_rfl) ?_
        simp only [pu1, pu2, pu3, pu4]
        refine gw_val (by kernel_rfl) (some 43) rfl (.bool true) (by kernel_rfl) ?_
        simp only [pu1, pu2, pu3, pu4]
        apply wpList_nil
        have hst := store_lg (a' := none) (n' := 0) (k' := 0) (c' := 0) HQX4.out
        have HB9 := Lib.hid (belowRow HQB4.out HG0.out (lgA none 0 0 0))
        have HLD := Lib.hid (load_lg hst.2)
        have hst1 := hst.1
        generalize World.setRow V4 g1 (lgA none 0 0 0) = V9 at *
        clear hst
        go_upto_region 15 with fail
        apply wp_region_lit
        refine gw_val (by kernel_rfl) (some 44) rfl (.agg #[.slice none 0 0, .int .u64 0]) (by kernel_rfl) ?_
        simp only [pu1, pu2, pu3, pu4]
        refine gw_store (by kernel_rfl) rfl 25 (.tmp 2) (.tmp 44) rfl (.pointer (some ⟨g1, 0, none⟩)) (.agg #[.slice none 0 0, .int .u64 0]) (by kernel_rfl) (by kernel_rfl) (V9) (hst1) ?_
        refine gw_val (by kernel_rfl) (some 3) rfl (.int .i64 6) (by kernel_rfl) ?_
        simp only [pu1, pu2, pu3, pu4]
        apply wpList_nil
        clear hst1
        go_wp2_with fail
        exact bodyPost_ret (results_c (p := 2) (q := 3) rfl (by kernel_rfl) HLD.out rfl) rfl (LedO.err HB9.out)
      · skip
        obtain rfl := HRR.out
        go_upto_region 13 with fail
        apply wp_region_lit
        refine gw_load (by kernel_rfl) (some 38) rfl 25 (.tmp 4) rfl ⟨g2, 0, none⟩ (.agg (lgA a9 m k9 0)) (by kernel_rfl) (load_lg HQ1.out) ?_
        simp only [pu1, pu2, pu3, pu4]
        refine gw_call (by kernel_rfl) (some 39) rfl 34 #[.agg (lgA a9 m k9 0)] (.tuple #[.int .u64 tv, .bool true]) (fun w' => Below wr.heap.size wr w') (by kernel_rfl) (CT) (fun V4 hV4 => ?_)
        have HQX4 := Lib.hid (HQX.out.below HQX.out.lt hV4)
        have HQB4 := Lib.hid (HQB.out.trans (hV4.mono HQB.out.size))
        have HQ24 := Lib.hid (own_below HQ2.out hV4)
        have HQ14 := Lib.hid (HQ1.out.below HQ1.out.lt hV4)
        simp only [pu1, pu2, pu3, pu4]
        refine gw_val (by kernel_rfl) (some 37) rfl (.tuple #[.int .u64 tv, .bool true]) (by kernel_rfl) ?_
        simp only [pu1, pu2, pu3, pu4]
        refine gw_val (by kernel_rfl) (some 40) rfl (.int .u64 tv) (by kernel_rfl) ?_
        simp only [pu1, pu2, pu3, pu4]
        refine gw_val (by kernel_rfl) (some 41) rfl (.bool true) (by kernel_rfl) ?_
        simp only [pu1, pu2, pu3, pu4]
        refine gw_val (by kernel_rfl) (some 7) rfl (.int .u64 tv) (by kernel_rfl) ?_
        simp only [pu1, pu2, pu3, pu4]
        refine gw_val (by kernel_rfl) (some 8) rfl (.bool true) (by kernel_rfl) ?_
        simp only [pu1, pu2, pu3, pu4]
        apply wpList_nil
        clear CT hV4
        go_upto_region 14 with fail
        apply wp_region_lit
        refine gw_val (by kernel_rfl) (some 42) rfl (.bool true) (by kernel_rfl) ?_
        simp only [pu1, pu2, pu3, pu4]
        refine gw_val (by kernel_rfl) (some 43) rfl (.bool false) (by kernel_rfl) ?_
        simp only [pu1, pu2, pu3, pu4]
        apply wpList_nil
        have hst := store_lg (a' := a9) (n' := m) (k' := k9) (c' := 0) HQX4.out
        have HB9 := Lib.hid (belowRow HQB4.out HG0.out (lgA a9 m k9 0))
        have HLD := Lib.hid (load_lg hst.2)
        have hst1 := hst.1
        have HE := Lib.hid (own_row_lg (x := lgA a9 m k9 0) HQ24.out HGG.out.1)
        generalize World.setRow V4 g1 (lgA a9 m k9 0) = V9 at *
        clear hst
        go_upto_region 16 with fail
        apply wp_region_lit
        refine gw_load (by kernel_rfl) (some 45) rfl 25 (.tmp 4) rfl ⟨g2, 0, none⟩ (.agg (lgA a9 m k9 0)) (by kernel_rfl) (load_lg HQ14.out) ?_
        simp only [pu1, pu2, pu3, pu4]
        refine gw_store (by kernel_rfl) rfl 25 (.tmp 2) (.tmp 45) rfl (.pointer (some ⟨g1, 0, none⟩)) (.agg (lgA a9 m k9 0)) (by kernel_rfl) (by kernel_rfl) (V9) (hst1) ?_
        refine gw_val (by kernel_rfl) (some 3) rfl (.int .i64 0) (by kernel_rfl) ?_
        simp only [pu1, pu2, pu3, pu4]
        apply wpList_nil
        clear hst1
        go_wp2_with fail
        exact bodyPost_ret (results_c (p := 2) (q := 3) rfl (by kernel_rfl) HLD.out rfl) rfl ⟨a9, k9, by rw [hm]; rfl, by have := own_base HE.out HB00.out; rw [← hm] at this; exact this, HB9.out⟩
end Go.Proofs.YtebnlklodokhkaaDoor.Lg
