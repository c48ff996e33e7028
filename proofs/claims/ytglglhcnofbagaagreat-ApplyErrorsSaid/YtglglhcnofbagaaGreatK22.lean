/-
  Genesis, the program's and the reference's: contracts. Set, the program's and the reference's; SameLedger of two equal ledgers: contracts. The reference's Sum: contract.
-/
import Derived.Test.YtglglhcnofbagaaGreatK21
namespace Go.Proofs.YtglglhcnofbagaaGreat.Lg
attribute [local irreducible] wpList wpQuiet
set_option maxRecDepth 100000
open Go.RowKit
set_option linter.unusedSimpArgs false
set_option linter.unusedVariables false

theorem gen_step {A : List Ac} {j : Nat} (B : List Ac) (h : j < A.length) : genS B (A.drop j) = if isName (nums (aca A j).1) = false then ([], 10) else if fndL B (aca A j).1 < B.length then ([], 8) else genS (putL B (aca A j)) (A.drop (j + 1)) := by
 rw [List.drop_eq_getElem_cons h, ← aca_get h]
 rfl
theorem gen_end (A B : List Ac) : genS B (A.drop A.length) = (B, 0) := by rw [List.drop_length]; rfl
/-- The answer behind the list that is gathered. -/
def genR (B : List Ac) : List Ac × Int × Int := if totB B 0 = true then (B, 0, 0) else ([], 0, 6)
def genY (A : List Ac) : List Ac × Int × Int := ((genX A).1, 0, (genX A).2)
theorem genY_big {A : List Ac} (h : 256 < A.length) : genY A = ([], 0, 3) := by unfold genY genX; rw [if_pos h]
theorem genY_err {A : List Ac} {e : Int} (h : ¬ 256 < A.length) (hg : genS [] A = ([], e)) (he : e ≠ 0) : genY A = ([], 0, e) := by
 unfold genY genX
 rw [if_neg h, hg]
 simp only [ne_eq, he, not_false_eq_true, if_true]
theorem genY_ok {A B : List Ac} (h : ¬ 256 < A.length) (hg : genS [] A = (B, 0)) : genY A = genR B := by
 unfold genY genX genR
 rw [if_neg h, hg]
 simp only [ne_eq, not_true_eq_false, if_false]
 split <;> rfl
theorem st_row {w w0 : World} {g B : Nat} {a a' : Option Addr} {n n' k k' : Nat} {c : Int} (h : Bx w g (lgA a n k c) 25) (hb : Below B w0 w) (hg : B ≤ g) :
  ∃ V, (Instr.storeAt 22 (.pointer (some ⟨g, 0, none⟩)) (.slice a' n' k')).run Tryz.prog w = .ok () V ∧ Bx V g (lgA a' n' k' c) 25 ∧ Below B w0 V ∧ But g w V :=
 st_cell h hb hg (by simp) rfl (by kernel_rfl) rfl
theorem own_row_lg {w : World} {g B n : Nat} {v : Value} {A : List Ac} {x : Array Value} (h : w.ownsRow B 49 3 v n (acc A)) (hg : g < B) : (w.setRow g x).ownsRow B 49 3 v n (acc A) := own_but h (But.setRow _ _) hg
set_option maxRecDepth 100000 in
set_option maxHeartbeats 8000000 in
theorem ref_genesis (a : Option Addr) (k : Nat) (A : List Ac) (w : World) (hR : Cs w a (acc A)) (hn : A.length ≤ 4398046511104) (hw : AcW A) (hz : ∀ x, x ∈ A → x.1.size ≤ 140737488355328) :
  Calls Tryz.prog 66 #[.slice a A.length k] w (LedO w (genY A)) := by
 obtain ⟨hb0, hX0, hZ0⟩ := two_boxes w (lgA none 0 0 0) (lgA none 0 0 0) 25 25
 have hb1 : Below w.heap.size w (w.alloc (.cells (lgA none 0 0 0) 25)) := (Below.refl _ w).alloc (Nat.le_refl _) _
 have hX1 : Bx (w.alloc (.cells (lgA none 0 0 0) 25)) w.heap.size (lgA none 0 0 0) 25 := heap_alloc_last w _
 have HA := Lib.hid (hR.below hb0)
 have HZZ := Lib.hid hz
 have HAT := Lib.hid (fun V (h : Below w.heap.size w V) => hR.below h)
 have HGW : Hid (∀ B j, j ≤ A.length → genS [] A = genS B (A.drop j) → AcW B → ∀ P, genS [] A = (P, 0) → AcW P) := Lib.hid fun B j h1 h2 h3 P h4 => by
  have := gen_w (A.drop j) B h3 (fun x hx => acw_mem hw x (List.mem_of_mem_drop hx))
  rw [← h2, h4] at this
  exact this
 have HWJ : Hid (∀ B j, j < A.length → AcW B → AcW (putL B (aca A j))) := Lib.hid fun B j h1 h2 => put_w h2 (hw j h1)
 have HST := Lib.hid (fun (j : Nat) (B : List Ac) (h : j < A.length) => gen_step B h)
 have HEN := Lib.hid (gen_end A)
 obtain ⟨r, hr⟩ : ∃ r, genY A = r := ⟨_, rfl⟩
 have HBG : Hid (256 < A.length → r = ([], 0, 3)) := Lib.hid fun h => by rw [← hr]; exact genY_big h
 have HER : Hid (∀ e, ¬ 256 < A.length → genS [] A = ([], e) → e ≠ 0 → r = ([], 0, e)) := Lib.hid fun e h1 h2 h3 => by rw [← hr]; exact genY_err h1 h2 h3
 have HOK : Hid (∀ B, ¬ 256 < A.length → genS [] A = (B, 0) → r = genR B) := Lib.hid fun B h1 h2 => by rw [← hr]; exact genY_ok h1 h2
 have HS0 : Hid (genS [] A = genS [] (A.drop 0)) := Lib.hid (by rw [List.drop_zero])
 obtain ⟨n, hnn⟩ : ∃ n, A.length = n := ⟨_, rfl⟩
 have HN := Lib.hid hnn
 have HNL : Hid (n ≤ 4398046511104) := Lib.hid (by omega)
 rw [hnn] at HBG HER HOK HST HEN HWJ HGW
 rw [hnn, hr]
 generalize genS [] A = GS0 at *
 clear hR hn hr hw hz
 go_enter Tryz.func66, Tryz.ntmps66
 go_upto_region 1 with fail
 change Code.wp _ _ _ _ (w.alloc (.cells (lgA none 0 0 0) 25))
 by_cases hbig : 256 < n
 ·skip
  obtain rfl := HBG.out hbig
  generalize w.alloc (.cells (lgA none 0 0 0) 25) = W at *
  obtain ⟨g1, hg1⟩ : ∃ g1, w.heap.size = g1 := ⟨_, rfl⟩
  have HG0 : Hid (w.heap.size ≤ g1) := Lib.hid (by omega)
  rw [hg1] at hX1
  simp only [hg1]
  have HB1 := Lib.hid hb1
  refine wl <| gz2 (.slice a n k) (.int .i64 n) <| gzb (gtr_n rfl (n) (256) dT) <| wn ?_
  simp only [pu]
  have hst := store_lg (a' := none) (n' := 0) (k' := 0) (c' := 0) hX1
  have HB9 := Lib.hid (belowRow HB1.out HG0.out (lgA none 0 0 0))
  have HLD := Lib.hid (load_lg hst.2)
  have hst1 := hst.1
  generalize World.setRow W g1 (lgA none 0 0 0) = V9 at *
  clear hst
  go_upto_region 2 with fail
  refine wl <| gz1 (.agg #[.slice none 0 0, .int .u64 0]) <| gzs rfl (hst1) <| gz1 (.int .i64 3) <| wn ?_
  simp only [pu]
  clear hst1 hX1
  go_wp2_with fail
  exact bodyPost_ret (results_c (p := 2) (q := 3) rfl (by kernel_rfl) HLD.out rfl) rfl (LedO.err HB9.out)
 have HNB := Lib.hid hbig
 refine wl <| gz2 (.slice a n k) (.int .i64 n) <| gzb (gtr_n rfl (n) (256) dF) <| wn ?_
 simp only [pu]
 clear hbig HBG hb1 hX1
 go_upto_region 4 with fail
 change Code.wp _ _ _ _ ((w.alloc (.cells (lgA none 0 0 0) 25)).alloc (.cells (lgA none 0 0 0) 25))
 generalize (w.alloc (.cells (lgA none 0 0 0) 25)).alloc (.cells (lgA none 0 0 0) 25) = W at *
 obtain ⟨g1, hg1⟩ : ∃ g1, w.heap.size = g1 := ⟨_, rfl⟩
 obtain ⟨g2, hg2⟩ : ∃ g2, w.heap.size + 1 = g2 := ⟨_, rfl⟩
 have HG0 : Hid (w.heap.size ≤ g1) := Lib.hid (by omega)
 have HG22 : Hid (w.heap.size ≤ g2) := Lib.hid (by omega)
 have HB00 : Hid (w.heap.size ≤ W.heap.size) := Lib.hid hb0.size
 have HGG : Hid (g1 < W.heap.size ∧ g2 < W.heap.size ∧ g1 ≠ g2) := Lib.hid ⟨by have := hX0.lt; omega, by have := hZ0.lt; omega, by omega⟩
 have HB0 := Lib.hid hb0
 rw [hg2] at hZ0
 rw [hg1] at hX0
 simp only [hg1]
 rw [show g1 + 1 = g2 by omega]
 have HX := Lib.hid hX0
 have HZ := Lib.hid hZ0
 clear hb0 hg1 hg2 hX0 hZ0 hnn
 refine wl <| gz3 (.slice a n k) (.int .i64 n) (.int .i64 0) <| wn ?_
 simp only [pu]
 have HS1 : Hid (∃ (a9 : Option Addr) (k9 : Nat) (B : List Ac), Bx W g2 (lgA a9 B.length k9 0) 25 ∧ RowA W W.heap.size (.slice a9 B.length k9) B ∧ B.length = 0 ∧ Srt B ∧ Nmd B ∧ AcW B ∧ GS0 = genS B (A.drop 0)) := Lib.hid ⟨none, 0, [], HZ.out, row_nil _ _, rfl, srt_nil, nmd_nil, acw_nil, HS0.out⟩
 clear HS0 HZ
 go_wp2_with fail
 go_loopg [15] n (fun gg s15 wx => ∃ j : Nat, s15 = .int .i64 j ∧ j ≤ n ∧ Hid (∃ (a9 : Option Addr) (k9 : Nat) (B : List Ac), Bx wx g2 (lgA a9 B.length k9 0) 25 ∧ RowA wx W.heap.size (.slice a9 B.length k9) B ∧ B.length = j ∧ Srt B ∧ Nmd B ∧ AcW B ∧ GS0 = genS B (A.drop j)) ∧ Hid (Bx wx g1 (lgA none 0 0 0) 25 ∧ Below w.heap.size w wx ∧ Cs wx a (acc A) ∧ W.heap.size ≤ wx.heap.size) ∧ n - j = gg)
 case atStart => exact ⟨0, rfl, by omega, HS1, Lib.hid ⟨HX.out, HB0.out, HA.out, Nat.le_refl _⟩, by omega⟩
 case round =>
  clear HS1 HA HX HB0
  obtain ⟨j, rfl, hj, HS, HQ, hg⟩ := hrel
  have hn9 := HNL.out
  have HG := Lib.hid hg
  clear hg
  by_cases hlt : j < n
  ·skip
   obtain ⟨b, off, rfl, -, hrx⟩ := ac_range HQ.out.2.2.1 (k := j) (by rw [HN.out]; exact hlt)
   have HLD0 := Lib.hid (load_ac hrx)
   have HSJ := Lib.hid (HST.out j)
   have HYZ := Lib.hid (HZZ.out (aca A j) (aca_mem (by rw [HN.out]; exact hlt)))
   have HWY := Lib.hid (fun B => HWJ.out B j hlt)
   generalize aca A j = y at *
   obtain ⟨V2, hst, hb2, hbx⟩ := new_ac wr y
   have CN := ref_isname y.1 V2 HYZ.out
   generalize hnm : isName (nums y.1) = nm at *
   clear hrx
   go_upto_region 5 with fail
   refine wl <| gzb (lss_n rfl (j) (n) dT) <| wn ?_
   simp only [pu]
   go_upto_region 6 with fail
   refine wl <| gzv (.pointer (some ⟨b, off + j * 3, none⟩)) (idx_ac b off n k j hlt _ _ _ rfl (by kernel_rfl) (by kernel_rfl)) <| gzl rfl ⟨b, off + j * 3, none⟩ (.agg (acA y)) (HLD0.out) ?_
   simp only [pu]
   refine run_to rfl (some 6) rfl (.pointer (some ⟨wr.heap.size, 0, none⟩)) (wr.alloc (.cells (acA zAc) 49)) (by kernel_rfl) ?_
   simp only [pu]
   refine gzs rfl (hst) <| wn ?_
   obtain ⟨g4, hg4⟩ : ∃ g4, wr.heap.size = g4 := ⟨_, rfl⟩
   rw [hg4] at hbx ⊢
   clear hst hg4 HLD0
   go_upto_region 7 with fail
   cases nm
   ·skip
    refine wl <| gz1 (.pointer (some ⟨g4, 0, none⟩)) <| gzl rfl ⟨g4, 0, none⟩ (.string y.1) (hbx.load (i := 0) rfl (by kernel_rfl)) <| gzc (.bool false) (fun w' => V2 = w') (CN) (fun V3 hV3 => ?_)
    simp only [pu]
    refine gz1 (.bool true) <| wn ?_
    simp only [pu]
    subst hV3
    have hb3 := hb2
    have HX4 := Lib.hid hbx
    clear hbx CN hb2
    obtain ⟨a9, k9, B, hq1, hq2, hq3, hq4, hq5, hq6, hq7⟩ := HS.out
    have HQ1 := Lib.hid (hq1.below hq1.lt hb3)
    have HQ2 := Lib.hid (own_below hq2 hb3)
    have HQX := Lib.hid (HQ.out.1.below HQ.out.1.lt hb3)
    have HQB := Lib.hid (HQ.out.2.1.trans (hb3.mono HQ.out.2.1.size))
    have HQA := Lib.hid (HQ.out.2.2.1.below hb3)
    have HQW : Hid (W.heap.size ≤ V2.heap.size) := Lib.hid (Nat.le_trans HQ.out.2.2.2 hb3.size)
    have HSB := HSJ.out B hlt
    rw [← hq7] at HSB
    clear hq1 hq2 HS hb3 HQ HSJ
    rw [if_pos rfl] at HSB
    obtain rfl := HER.out 10 HNB.out HSB (by decide)
    clear HSB hq3 hq4 hq5 hq6 hq7 HWY HQ1 HQ2 HQA HX4 hnm
    have hst := store_lg (a' := none) (n' := 0) (k' := 0) (c' := 0) HQX.out
    have HB9 := Lib.hid (belowRow HQB.out HG0.out (lgA none 0 0 0))
    have HLD := Lib.hid (load_lg hst.2)
    have hst1 := hst.1
    generalize World.setRow V2 g1 (lgA none 0 0 0) = V9 at *
    clear hst
    go_upto_region 8 with fail
    refine wl <| gz1 (.agg #[.slice none 0 0, .int .u64 0]) <| gzs rfl (hst1) <| gz1 (.int .i64 10) <| wn ?_
    simp only [pu]
    clear hst1 HQX
    go_wp2_with fail
    exact bodyPost_ret (results_c (p := 2) (q := 3) rfl (by kernel_rfl) HLD.out rfl) rfl (LedO.err HB9.out)
   ·skip
    refine wl <| gz1 (.pointer (some ⟨g4, 0, none⟩)) <| gzl rfl ⟨g4, 0, none⟩ (.string y.1) (hbx.load (i := 0) rfl (by kernel_rfl)) <| gzc (.bool true) (fun w' => V2 = w') (CN) (fun V3 hV3 => ?_)
    simp only [pu]
    refine gz1 (.bool false) <| wn ?_
    simp only [pu]
    subst hV3
    have hb3 := hb2
    have HX4 := Lib.hid hbx
    clear hbx CN hb2
    obtain ⟨a9, k9, B, hq1, hq2, hq3, hq4, hq5, hq6, hq7⟩ := HS.out
    have HQ1 := Lib.hid (hq1.below hq1.lt hb3)
    have HQ2 := Lib.hid (own_below hq2 hb3)
    have HQX := Lib.hid (HQ.out.1.below HQ.out.1.lt hb3)
    have HQB := Lib.hid (HQ.out.2.1.trans (hb3.mono HQ.out.2.1.size))
    have HQA := Lib.hid (HQ.out.2.2.1.below hb3)
    have HQW : Hid (W.heap.size ≤ V2.heap.size) := Lib.hid (Nat.le_trans HQ.out.2.2.2 hb3.size)
    have HSB := HSJ.out B hlt
    rw [← hq7] at HSB
    clear hq1 hq2 HS hb3 HQ HSJ
    rw [if_neg (by simp)] at HSB
    have HMB : Hid (B.length ≤ 256) := Lib.hid (by have := HNB.out; omega)
    obtain ⟨m, hm⟩ : ∃ m, B.length = m := ⟨_, rfl⟩
    obtain ⟨a8, k8, ea, hcb, hck⟩ := own_cs HQ2.out
    simp only [Value.slice.injEq, true_and] at ea
    obtain ⟨rfl, rfl⟩ := ea
    have CP := ref_find a9 k9 B y.1 V2 hcb (by have := HMB.out; omega)
    by_cases hf : fndL B y.1 < B.length
    ·skip
     rw [if_pos hf] at HSB
     rw [show fndI B y.1 = ((fndL B y.1 : Nat) : Int) from if_pos hf] at CP
     obtain rfl := HER.out 8 HNB.out HSB (by decide)
     generalize fndL B y.1 = li at *
     rw [hm] at HQ1 HQ2 CP
     clear HSB hq4 hq5 hq6 hq7 HWY hcb hck hf hnm
     go_upto_region 9 with fail
     refine wl <| gz1 (.pointer (some ⟨g2, 0, none⟩)) <| gzl rfl ⟨g2, 0, none⟩ (.slice a9 m k9) (HQ1.out.load (i := 0) rfl (by kernel_rfl)) <| gz1 (.pointer (some ⟨g4, 0, none⟩)) <| gzl rfl ⟨g4, 0, none⟩ (.string y.1) (HX4.out.load (i := 0) rfl (by kernel_rfl)) <|
      gzc (.int .i64 li) (fun w' => Below V2.heap.size V2 w') (CP) (fun V4 hV4 => ?_)
     simp only [pu]
     refine gzb (geq_n rfl li 0 dT) <| wn ?_
     simp only [pu]
     replace HQX := Lib.hid (HQX.out.below HQX.out.lt hV4)
     replace HQB := Lib.hid (HQB.out.trans (hV4.mono HQB.out.size))
     clear CP
     clear HQ1 HQ2 HQA HX4 hV4
     have hst := store_lg (a' := none) (n' := 0) (k' := 0) (c' := 0) HQX.out
     have HB9 := Lib.hid (belowRow HQB.out HG0.out (lgA none 0 0 0))
     have HLD := Lib.hid (load_lg hst.2)
     have hst1 := hst.1
     generalize World.setRow V4 g1 (lgA none 0 0 0) = V9 at *
     clear hst
     go_upto_region 10 with fail
     refine wl <| gz1 (.agg #[.slice none 0 0, .int .u64 0]) <| gzs rfl (hst1) <| gz1 (.int .i64 8) <| wn ?_
     simp only [pu]
     clear hst1 HQX
     go_wp2_with fail
     exact bodyPost_ret (results_c (p := 2) (q := 3) rfl (by kernel_rfl) HLD.out rfl) rfl (LedO.err HB9.out)
    ·skip
     rw [if_neg hf] at HSB
     rw [show fndI B y.1 = -1 from if_neg hf] at CP
     have CI := fun V (h : Cs V a9 (acc B)) => ref_put a9 k9 B y V h hck (by have := HMB.out; omega)
     have HPS : Hid (Srt (putL B y) ∧ Nmd (putL B y) ∧ AcW (putL B y) ∧ (putL B y).length = j + 1) := Lib.hid ⟨put_srt hq4, put_nmd hq5 hnm, HWY.out B hq6, by rw [put_len, if_neg hf]; omega⟩
     have HSP := Lib.hid HSB
     generalize putL B y = P at *
     rw [hm] at HQ1 HQ2 CP CI
     clear HSB hq4 hq5 hq6 hq7 HWY hcb hf hnm
     go_upto_region 9 with fail
     refine wl <| gz1 (.pointer (some ⟨g2, 0, none⟩)) <| gzl rfl ⟨g2, 0, none⟩ (.slice a9 m k9) (HQ1.out.load (i := 0) rfl (by kernel_rfl)) <| gz1 (.pointer (some ⟨g4, 0, none⟩)) <| gzl rfl ⟨g4, 0, none⟩ (.string y.1) (HX4.out.load (i := 0) rfl (by kernel_rfl)) <|
      gzc (.int .i64 (-1)) (fun w' => Below V2.heap.size V2 w') (CP) (fun V4 hV4 => ?_)
     simp only [pu]
     refine gzb (geq_n rfl (-1) 0 dF) <| wn ?_
     simp only [pu]
     replace HQX := Lib.hid (HQX.out.below HQX.out.lt hV4)
     replace HQB := Lib.hid (HQB.out.trans (hV4.mono HQB.out.size))
     clear CP
     replace HQ1 := Lib.hid (HQ1.out.below HQ1.out.lt hV4)
     replace HQ2 := Lib.hid (own_below HQ2.out hV4)
     replace HQA := Lib.hid (HQA.out.below hV4)
     replace HQW : Hid (W.heap.size ≤ V4.heap.size) := Lib.hid (Nat.le_trans HQW.out hV4.size)
     have HY4 := Lib.hid (HX4.out.below HX4.out.lt hV4)
     clear HX4 hV4
     have CJ := CI V4 (by obtain ⟨a7, k7, e7, hc7, -⟩ := own_cs HQ2.out; simp only [Value.slice.injEq, true_and] at e7; obtain ⟨rfl, rfl⟩ := e7; exact hc7)
     clear CI
     go_upto_region 11 with fail
     refine wl <| gz1 (.pointer (some ⟨g2, 0, none⟩)) <| gzl rfl ⟨g2, 0, none⟩ (.slice a9 m k9) (HQ1.out.load (i := 0) rfl (by kernel_rfl)) <| gzl rfl ⟨g4, 0, none⟩ (.agg (acA y)) (load_acb HY4.out) <|
      gze (fun v w' => RowA w' W.heap.size v P ∧ Below W.heap.size V4 w') (CJ.mono fun e w' q => by obtain ⟨v, h1, h2, h3⟩ := q; exact ⟨v, h1, own_base h2 HQW.out, h3.mono HQW.out⟩) (fun v5 V5 hq => ?_)
     obtain ⟨hr5, hb5⟩ := hq
     obtain ⟨a5, k5, rfl, -, -⟩ := hr5.cs
     obtain ⟨V6, hst6, hbx6, hb6, hbt6⟩ := st_row (a' := a5) (n' := P.length) (k' := k5) (HQ1.out.below HGG.out.2.1 hb5) (B := w.heap.size) (w0 := w) (HQB.out.trans (hb5.mono (by have := HB00.out; omega))) (by have := HG22.out; omega)
     simp only [pu]
     refine gz1 (.pointer (some ⟨g2, 0, none⟩)) <| gzs rfl (hst6) <| wn ?_
     simp only [pu]
     have HS6 : Hid (∃ (a9 : Option Addr) (k9 : Nat) (B : List Ac), Bx V6 g2 (lgA a9 B.length k9 0) 25 ∧ RowA V6 W.heap.size (.slice a9 B.length k9) B ∧ B.length = j + 1 ∧ Srt B ∧ Nmd B ∧ AcW B ∧ GS0 = genS B (A.drop (j + 1))) := Lib.hid ⟨a5, k5, P, hbx6, own_but hr5 hbt6 HGG.out.2.1, HPS.out.2.2.2, HPS.out.1, HPS.out.2.1, HPS.out.2.2.1, HSP.out⟩
     have HQ6 : Hid (Bx V6 g1 (lgA none 0 0 0) 25 ∧ Below w.heap.size w V6 ∧ Cs V6 (some ⟨b, off, none⟩) (acc A) ∧ W.heap.size ≤ V6.heap.size) := Lib.hid ⟨(HQX.out.below HGG.out.1 hb5).but hbt6 HGG.out.2.2, hb6, HAT.out V6 hb6, Nat.le_trans HQW.out (Nat.le_trans hb5.size hbt6.1.size)⟩
     clear hr5 hb5 hst6 hbx6 hb6 hbt6 CJ HY4 HQ1 HQ2 HQA HQX HQB HQW HPS HSP
     go_upto_region 12 with fail
     refine wl <| gzw (.int .i64 (j + 1 : Nat)) (add_nat rfl j 1 (by omega)) <| gz1 (.int .i64 (j + 1 : Nat)) <| wn ?_
     simp only [pu]
     go_wp2_with fail
     go_roundg (n - (j + 1))
     case measure => have := HG.out; omega
     case rel => exact ⟨j + 1, rfl, hlt, HS6, HQ6, rfl⟩
  ·skip
   obtain rfl : n = j := by omega
   obtain ⟨a9, k9, B, hq1, hq2, hq3, hq4, hq5, hq6, hq7⟩ := HS.out
   rw [HEN.out B] at hq7
   obtain rfl := HOK.out B HNB.out hq7
   obtain ⟨a8, k8, ea, hcb, hck⟩ := hq2.cs
   simp only [Value.slice.injEq, true_and] at ea
   obtain ⟨rfl, rfl⟩ := ea
   have CT := ref_total a9 k9 B 0 wr hcb (by have := HNB.out; omega) w64_0 hq6
   have HQX := Lib.hid HQ.out.1
   have HQB := Lib.hid HQ.out.2.1
   have HQ1 := Lib.hid hq1
   have HQ2 := Lib.hid (show wr.ownsRow W.heap.size 49 3 (.slice a9 B.length k9) B.length (acc B) from hq2)
   have HRR : Hid (genR B = cond (totB B 0) (B, 0, 0) ([], 0, 6)) := Lib.hid (by unfold genR; cases totB B 0 <;> simp)
   clear HQ HS hq1 hq2 hq3 hq4 hq5 hq6 hq7 HEN HOK HER HST HGW HWJ HZZ hcb hck HAT
   generalize hm : B.length = m at *
   generalize genR B = rr at *
   go_upto_region 5 with fail
   refine wl <| gzb (lss_n rfl (n) (n) dF) <| wn ?_
   simp only [pu]
   generalize totV B 0 = tv at *
   generalize totB B 0 = tb at *
   cases tb
   ·skip
    obtain rfl := HRR.out
    go_upto_region 13 with fail
    refine wl <| gzl rfl ⟨g2, 0, none⟩ (.agg (lgA a9 m k9 0)) (load_lg HQ1.out) <| gzc (.tuple #[.int .u64 tv, .bool false]) (fun w' => Below wr.heap.size wr w') (CT) (fun V4 hV4 => ?_)
    have HQX4 := Lib.hid (HQX.out.below HQX.out.lt hV4)
    have HQB4 := Lib.hid (HQB.out.trans (hV4.mono HQB.out.size))
    have HQ24 := Lib.hid (own_below HQ2.out hV4)
    have HQ14 := Lib.hid (HQ1.out.below HQ1.out.lt hV4)
    simp only [pu]
    refine gz5 (.tuple #[.int .u64 tv, .bool false]) (.int .u64 tv) (.bool false) (.int .u64 tv) (.bool false) <| wn ?_
    simp only [pu]
    clear CT hV4
    go_upto_region 14 with fail
    refine wl <| gz2 (.bool false) (.bool true) <| wn ?_
    simp only [pu]
    have hst := store_lg (a' := none) (n' := 0) (k' := 0) (c' := 0) HQX4.out
    have HB9 := Lib.hid (belowRow HQB4.out HG0.out (lgA none 0 0 0))
    have HLD := Lib.hid (load_lg hst.2)
    have hst1 := hst.1
    generalize World.setRow V4 g1 (lgA none 0 0 0) = V9 at *
    clear hst
    go_upto_region 15 with fail
    refine wl <| gz1 (.agg #[.slice none 0 0, .int .u64 0]) <| gzs rfl (hst1) <| gz1 (.int .i64 6) <| wn ?_
    simp only [pu]
    clear hst1
    go_wp2_with fail
    exact bodyPost_ret (results_c (p := 2) (q := 3) rfl (by kernel_rfl) HLD.out rfl) rfl (LedO.err HB9.out)
   ·skip
    obtain rfl := HRR.out
    go_upto_region 13 with fail
    refine wl <| gzl rfl ⟨g2, 0, none⟩ (.agg (lgA a9 m k9 0)) (load_lg HQ1.out) <| gzc (.tuple #[.int .u64 tv, .bool true]) (fun w' => Below wr.heap.size wr w') (CT) (fun V4 hV4 => ?_)
    have HQX4 := Lib.hid (HQX.out.below HQX.out.lt hV4)
    have HQB4 := Lib.hid (HQB.out.trans (hV4.mono HQB.out.size))
    have HQ24 := Lib.hid (own_below HQ2.out hV4)
    have HQ14 := Lib.hid (HQ1.out.below HQ1.out.lt hV4)
    simp only [pu]
    refine gz5 (.tuple #[.int .u64 tv, .bool true]) (.int .u64 tv) (.bool true) (.int .u64 tv) (.bool true) <| wn ?_
    simp only [pu]
    clear CT hV4
    go_upto_region 14 with fail
    refine wl <| gz2 (.bool true) (.bool false) <| wn ?_
    simp only [pu]
    have hst := store_lg (a' := a9) (n' := m) (k' := k9) (c' := 0) HQX4.out
    have HB9 := Lib.hid (belowRow HQB4.out HG0.out (lgA a9 m k9 0))
    have HLD := Lib.hid (load_lg hst.2)
    have hst1 := hst.1
    have HE := Lib.hid (own_row_lg (x := lgA a9 m k9 0) HQ24.out HGG.out.1)
    generalize World.setRow V4 g1 (lgA a9 m k9 0) = V9 at *
    clear hst
    go_upto_region 16 with fail
    refine wl <| gzl rfl ⟨g2, 0, none⟩ (.agg (lgA a9 m k9 0)) (load_lg HQ14.out) <| gzs rfl (hst1) <| gz1 (.int .i64 0) <| wn ?_
    simp only [pu]
    clear hst1
    go_wp2_with fail
    exact bodyPost_ret (results_c (p := 2) (q := 3) rfl (by kernel_rfl) HLD.out rfl) rfl ⟨a9, k9, by rw [hm]; rfl, by have := own_base HE.out HB00.out; rw [← hm] at this; exact this, HB9.out⟩
end Go.Proofs.YtglglhcnofbagaaGreat.Lg
namespace Go.Proofs.YtglglhcnofbagaaGreat.Lg
attribute [local irreducible] wpList wpQuiet
set_option maxRecDepth 100000
open Go.RowKit
set_option linter.unusedSimpArgs false
set_option linter.unusedVariables false

theorem set_e1 {A : List Ac} {c : Int} {a : Ac} (h : valE A c ≠ 0) : setX A c a = ([], 0, valE A c) := if_pos h
theorem set_e2 {A : List Ac} {c : Int} {a : Ac} (h : valE A c = 0) (h1 : isName (nums a.1) = false) : setX A c a = ([], 0, 10) := by
 unfold setX
 rw [if_neg (by rw [h]; simp), if_pos h1]
theorem set_e3 {A : List Ac} {c : Int} {a : Ac} (h : valE A c = 0) (h1 : isName (nums a.1) = true) (h2 : 256 < (putL A a).length) : setX A c a = ([], 0, 3) := by
 unfold setX
 rw [if_neg (by rw [h]; simp), if_neg (by rw [h1]; simp), if_pos h2]
theorem set_fin {A : List Ac} {c : Int} {a : Ac} (h : valE A c = 0) (h1 : isName (nums a.1) = true) (h2 : ¬ 256 < (putL A a).length) : setX A c a = cond (totB (putL A a) c) (putL A a, c, 0) ([], 0, 6) := by
 unfold setX
 rw [if_neg (by rw [h]; simp), if_neg (by rw [h1]; simp), if_neg h2]
 cases totB (putL A a) c <;> simp
theorem three_boxes (w : World) (x y z : Array Value) (t u v : Nat) : Below w.heap.size w (((w.alloc (.cells x t)).alloc (.cells y u)).alloc (.cells z v)) ∧ Bx (((w.alloc (.cells x t)).alloc (.cells y u)).alloc (.cells z v)) w.heap.size x t ∧ Bx (((w.alloc (.cells x t)).alloc (.cells y u)).alloc (.cells z v)) (w.heap.size + 1) y u ∧ Bx (((w.alloc (.cells x t)).alloc (.cells y u)).alloc (.cells z v)) (w.heap.size + 2) z v := by
 obtain ⟨h1, h2, h3⟩ := two_boxes w x y t u
 have hs : ((w.alloc (.cells x t)).alloc (.cells y u)).heap.size = w.heap.size + 2 := by simp
 have hb : Below ((w.alloc (.cells x t)).alloc (.cells y u)).heap.size ((w.alloc (.cells x t)).alloc (.cells y u)) (((w.alloc (.cells x t)).alloc (.cells y u)).alloc (.cells z v)) := (Below.refl _ _).alloc (Nat.le_refl _) _
 have hz : Bx (((w.alloc (.cells x t)).alloc (.cells y u)).alloc (.cells z v)) ((w.alloc (.cells x t)).alloc (.cells y u)).heap.size z v := heap_alloc_last _ _
 rw [hs] at hz
 exact ⟨h1.trans (hb.mono h1.size), h2.below h2.lt hb, h3.below h3.lt hb, hz⟩
theorem LedO.ok {w V : World} {ad : Option Addr} {m kk : Nat} {P : List Ac} {c : Int} (hl : P.length = m) (hr : V.ownsRow w.heap.size 49 3 (.slice ad m kk) P.length (acc P)) (hb : Below w.heap.size w V) : LedO w (P, c, 0) (.returned (.tuple #[.agg (lgA ad m kk c), .int .i64 0])) V := by
 subst hl
 exact ⟨ad, kk, rfl, hr, hb⟩
theorem own_eq {w w' : World} {B e s n : Nat} {v : Value} {xs : List Value} (h : w.ownsRow B e s v n xs) (hq : ∀ q, v.ownBlock = some q → w'.heap[q]? = w.heap[q]?) : w'.ownsRow B e s v n xs := by
 refine ⟨h.1, ?_⟩
 rcases h.2 with h1 | ⟨g, cap, cur, rfl, hB, hg, r⟩
 ·exact .inl h1
 ·exact .inr ⟨g, cap, cur, rfl, hB, (hq g rfl).trans hg, r⟩
set_option maxRecDepth 100000 in
set_option maxHeartbeats 8000000 in
theorem q_set (a : Option Addr) (k : Nat) (A : List Ac) (c : Int) (x : Ac) (w : World) (hR : Cs w a (acc A)) (hk : A.length ≤ k) (hn : A.length ≤ 4398046511104) (hc : W64 c) (hw : AcW A) (hz : ∀ x, x ∈ A → x.1.size ≤ 140737488355328) (hxw : W64 x.2.1 ∧ W64 x.2.2) (hxz : x.1.size ≤ 140737488355328) :
  Calls Tryz.prog 78 #[.agg (lgA a A.length k c), .agg (acA x)] w (LedO w (setX A c x)) := by
 obtain ⟨hb0, hX0, hY0, hZ0⟩ := three_boxes w (lgA a A.length k c) (acA x) (lgA none 0 0 0) 25 49 25
 obtain ⟨W0, hW0⟩ : ∃ W0, ((w.alloc (.cells (lgA a A.length k c) 25)).alloc (.cells (acA x) 49)).alloc (.cells (lgA none 0 0 0) 25) = W0 := ⟨_, rfl⟩
 rw [hW0] at hb0 hX0 hY0 hZ0
 have HA := Lib.hid (hR.below hb0)
 have CV := q_validate a k A c W0 (hR.below hb0) hn hc hw hz
 have CN := fun V => q_isname x.1 V
 have HPL := Lib.hid (fun V (h1 : Srt A) (h2 : A.length ≤ 1000000) (h : Cs V a (acc A)) => q_place a k A x.1 V h h1 h2)
 have HCL := Lib.hid (fun V (h2 : A.length ≤ 1000) (h : Cs V a (acc A)) => q_clone a k A V h (by omega))
 have HIN := Lib.hid (fun (v : Value) (B : Nat) (V : World) (h : RowA V B v A) (h1 : B ≤ V.heap.size) (h2 : A.length ≤ 1000) => q_insert v A x (lesL A x.1) B V h h1 (les_le A x.1) h2)
 have HLI := Lib.hid (fun (ad : Option Addr) (kk : Nat) (V : World) (h : Cs V ad (acc (putL A x))) (h1 : (putL A x).length ≤ 4398046511104) => q_limited ad kk (putL A x) c V h h1 hc (put_w hw hxw))
 have HPF := Lib.hid (@put_found A x)
 have HPN := Lib.hid (@put_new A x)
 have HFL := Lib.hid (fun (h : Srt A) (hf : fndL A x.1 < A.length) => srt_fnd h hf)
 obtain ⟨r, hr⟩ : ∃ r, setX A c x = r := ⟨_, rfl⟩
 have HE1 : Hid (valE A c ≠ 0 → r = ([], 0, valE A c)) := Lib.hid fun h => by rw [← hr]; exact set_e1 h
 have HE2 : Hid (valE A c = 0 → isName (nums x.1) = false → r = ([], 0, 10)) := Lib.hid fun h h1 => by rw [← hr]; exact set_e2 h h1
 have HE3 : Hid (valE A c = 0 → isName (nums x.1) = true → 256 < (putL A x).length → r = ([], 0, 3)) := Lib.hid fun h h1 h2 => by rw [← hr]; exact set_e3 h h1 h2
 have HE4 : Hid (valE A c = 0 → isName (nums x.1) = true → ¬ 256 < (putL A x).length → r = cond (totB (putL A x) c) (putL A x, c, 0) ([], 0, 6)) := Lib.hid fun h h1 h2 => by rw [← hr]; exact set_fin h h1 h2
 have HOK := Lib.hid (@valE_ok A c)
 have HFU := Lib.hid (@put_full A x)
 rw [hr]
 obtain ⟨n, hnn⟩ : ∃ n, A.length = n := ⟨_, rfl⟩
 have HN := Lib.hid hnn
 have HKK : Hid (n ≤ k) := Lib.hid (by omega)
 rw [hnn] at hX0 hW0 CV HOK HFU
 rw [hnn]
 generalize hnm : isName (nums x.1) = nm at *
 generalize hve : valE A c = ve at *
 have HW00 := Lib.hid hW0
 clear hR hn hr hw hz hc hxw hxz hk hnm hve hW0
 go_enter Tryz.func78, Tryz.ntmps78
 go_upto_region 1 with fail
 change Code.wp _ _ _ _ (((w.alloc (.cells (lgA a n k c) 25)).alloc (.cells (acA x) 49)).alloc (.cells (lgA none 0 0 0) 25))
 rw [HW00.out]
 clear HW00
 obtain ⟨g0, hg0⟩ : ∃ g0, w.heap.size = g0 := ⟨_, rfl⟩
 obtain ⟨g1, hg1⟩ : ∃ g1, w.heap.size + 1 = g1 := ⟨_, rfl⟩
 obtain ⟨g2, hg2⟩ : ∃ g2, w.heap.size + 2 = g2 := ⟨_, rfl⟩
 have HGG : Hid (w.heap.size ≤ g0 ∧ w.heap.size ≤ g2 ∧ g0 < W0.heap.size ∧ g1 < W0.heap.size ∧ g2 < W0.heap.size ∧ g1 ≠ g0 ∧ g2 ≠ g0 ∧ w.heap.size ≤ W0.heap.size) := Lib.hid ⟨by omega, by omega, by have := hX0.lt; omega, by have := hY0.lt; omega, by have := hZ0.lt; omega, by omega, by omega, hb0.size⟩
 have HB0 := Lib.hid hb0
 rw [hg0] at hX0
 rw [hg1] at hY0
 rw [hg2] at hZ0
 simp only [hg0]
 rw [show g0 + 1 = g1 by omega, show g1 + 1 = g2 by omega]
 have HX := Lib.hid hX0
 have HY := Lib.hid hY0
 have HZ := Lib.hid hZ0
 clear hb0 hg0 hg1 hg2 hX0 hY0 hZ0 hnn
 refine wl <| gzl rfl ⟨g0, 0, none⟩ (.agg (lgA a n k c)) (load_lg HX.out) <| gzc (.int .i64 ve) (fun w' => Below W0.heap.size W0 w') (CV) (fun V1 hV1 => ?_)
 have HX1 := Lib.hid (HX.out.below HX.out.lt hV1)
 have HY1 := Lib.hid (HY.out.below HY.out.lt hV1)
 have HZ1 := Lib.hid (HZ.out.below HZ.out.lt hV1)
 have HB1 := Lib.hid (HB0.out.trans (hV1.mono HB0.out.size))
 have HA1 := Lib.hid (HA.out.below hV1)
 have HW1 : Hid (W0.heap.size ≤ V1.heap.size) := Lib.hid hV1.size
 simp only [pu]
 refine gz1 (.int .i64 ve) <| wn ?_
 simp only [pu]
 clear CV hV1 HX HY HZ HB0 HA
 by_cases hv : ve = 0
 ·skip
  subst hv
  obtain ⟨h256, hsrt, hnmd, -⟩ := HOK.out rfl
  have HSR := Lib.hid hsrt
  have H256 := Lib.hid h256
  clear hsrt hnmd h256 HE1 HOK
  go_upto_region 2 with fail
  refine wl <| gz1 (.int .i64 0) <| gzb (neq_e rfl 0 0 (decide_eq_true rfl)) <| wn ?_
  simp only [pu]
  have CN1 := CN V1
  clear CN
  go_upto_region 4 with fail
  cases nm
  ·skip
   refine wl <| gz1 (.pointer (some ⟨g1, 0, none⟩)) <| gzl rfl ⟨g1, 0, none⟩ (.string x.1) (HY1.out.load (i := 0) rfl (by kernel_rfl)) <| gzc (.bool false) (fun w' => Below V1.heap.size V1 w') (CN1) (fun V2 hV2 => ?_)
   replace HX1 := Lib.hid (HX1.out.below HX1.out.lt hV2)
   replace HY1 := Lib.hid (HY1.out.below HY1.out.lt hV2)
   replace HZ1 := Lib.hid (HZ1.out.below HZ1.out.lt hV2)
   replace HB1 := Lib.hid (HB1.out.trans (hV2.mono HB1.out.size))
   replace HA1 := Lib.hid (HA1.out.below hV2)
   replace HW1 : Hid (W0.heap.size ≤ V2.heap.size) := Lib.hid (Nat.le_trans HW1.out hV2.size)
   simp only [pu]
   refine gz1 (.bool true) <| wn ?_
   simp only [pu]
   clear CN1 hV2
   obtain rfl := HE2.out rfl rfl
   have hst := store_lg (a' := none) (n' := 0) (k' := 0) (c' := 0) HZ1.out
   have HB9 := Lib.hid (belowRow HB1.out HGG.out.2.1 (lgA none 0 0 0))
   have HLD := Lib.hid (load_lg hst.2)
   have hst1 := hst.1
   generalize World.setRow V2 g2 (lgA none 0 0 0) = V9 at *
   clear hst
   go_upto_region 5 with fail
   refine wl <| gz1 (.agg #[.slice none 0 0, .int .u64 0]) <| gzs rfl (hst1) <| gz1 (.int .i64 10) <| wn ?_
   simp only [pu]
   clear hst1
   go_wp2_with fail
   exact bodyPost_ret (results_c (p := 4) (q := 5) rfl (by kernel_rfl) HLD.out rfl) rfl (LedO.err HB9.out)
  ·skip
   refine wl <| gz1 (.pointer (some ⟨g1, 0, none⟩)) <| gzl rfl ⟨g1, 0, none⟩ (.string x.1) (HY1.out.load (i := 0) rfl (by kernel_rfl)) <| gzc (.bool true) (fun w' => Below V1.heap.size V1 w') (CN1) (fun V2 hV2 => ?_)
   replace HX1 := Lib.hid (HX1.out.below HX1.out.lt hV2)
   replace HY1 := Lib.hid (HY1.out.below HY1.out.lt hV2)
   replace HZ1 := Lib.hid (HZ1.out.below HZ1.out.lt hV2)
   replace HB1 := Lib.hid (HB1.out.trans (hV2.mono HB1.out.size))
   replace HA1 := Lib.hid (HA1.out.below hV2)
   replace HW1 : Hid (W0.heap.size ≤ V2.heap.size) := Lib.hid (Nat.le_trans HW1.out hV2.size)
   simp only [pu]
   refine gz1 (.bool false) <| wn ?_
   simp only [pu]
   clear CN1 hV2
   have HE3r := Lib.hid (HE3.out rfl rfl)
   have HE4r := Lib.hid (HE4.out rfl rfl)
   have HFR := Lib.hid (HFU.out H256.out)
   clear HE2 HE3 HE4 HFU
   have CP := HPL.out V2 HSR.out (by rw [HN.out]; have := H256.out; omega) HA1.out
   rw [HN.out] at CP
   by_cases hf : fndL A x.1 < n
   ·skip
    rw [decide_eq_true hf] at CP
    have hle := les_le A x.1
    rw [HN.out] at hle
    have hfl := HFL.out HSR.out (by rw [HN.out]; exact hf)
    go_upto_region 6 with fail
    refine wl <| gz1 (.pointer (some ⟨g0, 0, none⟩)) <| gzl rfl ⟨g0, 0, none⟩ (.slice a n k) (HX1.out.load (i := 0) rfl (by kernel_rfl)) <| gz1 (.pointer (some ⟨g1, 0, none⟩)) <| gzl rfl ⟨g1, 0, none⟩ (.string x.1) (HY1.out.load (i := 0) rfl (by kernel_rfl)) <|
     gzc (.tuple #[.int .i64 (lesL A x.1 : Nat), .bool true]) (fun w' => Below V2.heap.size V2 w') (CP) (fun V3 hV3 => ?_)
    simp only [pu]
    refine gz5 (.tuple #[.int .i64 (lesL A x.1 : Nat), .bool true]) (.int .i64 (lesL A x.1 : Nat)) (.bool true) (.int .i64 (lesL A x.1 : Nat)) (.bool true) <| wn ?_
    simp only [pu]
    replace HX1 := Lib.hid (HX1.out.below HX1.out.lt hV3)
    replace HY1 := Lib.hid (HY1.out.below HY1.out.lt hV3)
    replace HZ1 := Lib.hid (HZ1.out.below HZ1.out.lt hV3)
    replace HB1 := Lib.hid (HB1.out.trans (hV3.mono HB1.out.size))
    replace HA1 := Lib.hid (HA1.out.below hV3)
    replace HW1 : Hid (W0.heap.size ≤ V3.heap.size) := Lib.hid (Nat.le_trans HW1.out hV3.size)
    clear CP hV3
    go_upto_region 7 with fail
    refine wl <| gz6 (.bool true) (.bool false) (.bool false) undef undef undef <| gz2 undef (.bool false) <| wn ?_
    simp only [pu]
    have CC := HCL.out V3 (by rw [HN.out]; have := H256.out; omega) HA1.out
    rw [HN.out] at CC
    go_upto_region 9 with fail
    refine wl <| gz1 (.pointer (some ⟨g0, 0, none⟩)) <| gzl rfl ⟨g0, 0, none⟩ (.slice a n k) (HX1.out.load (i := 0) rfl (by kernel_rfl)) <| gze (fun v w' => RowA w' V3.heap.size v A ∧ Below V3.heap.size V3 w') CC (fun v5 V5 hq => ?_)
    obtain ⟨hr5, hb5⟩ := hq
    obtain ⟨a5, k5, rfl, -, -⟩ := hr5.cs
    rw [HN.out]
    obtain ⟨V6, hst6, hbx6, hb6, hbt6⟩ := st_row (a' := a5) (n' := n) (k' := k5) (HX1.out.below HX1.out.lt hb5) (B := w.heap.size) (w0 := w) (HB1.out.trans (hb5.mono HB1.out.size)) HGG.out.1
    have hr6 : V6.ownsRow W0.heap.size 49 3 (.slice a5 n k5) n (acc A) := by have := own_base (own_but hr5 hbt6 (Nat.lt_of_lt_of_le HGG.out.2.2.1 HW1.out)) HW1.out; rwa [HN.out] at this
    have HY6 := Lib.hid ((HY1.out.below HY1.out.lt hb5).but hbt6 HGG.out.2.2.2.2.2.1)
    have HZ6 := Lib.hid ((HZ1.out.below HZ1.out.lt hb5).but hbt6 HGG.out.2.2.2.2.2.2.1)
    have HB6 := Lib.hid hb6
    have HX6 := Lib.hid hbx6
    have HW6 : Hid (W0.heap.size ≤ V6.heap.size) := Lib.hid (Nat.le_trans HW1.out (Nat.le_trans hb5.size hbt6.1.size))
    have HR6 := Lib.hid hr6
    simp only [pu]
    refine gz1 (.pointer (some ⟨g0, 0, none⟩)) <| gzs rfl (hst6) <| wn ?_
    simp only [pu]
    clear hr5 hb5 hst6 hbx6 hb6 hbt6 hr6 CC HX1 HY1 HZ1 HB1 HA1 HW1
    go_upto_region 10 with fail
    refine wl <| gz1 (.bool true) <| wn ?_
    simp only [pu]
    obtain ⟨g5, e5, hg5, -⟩ := own_at HR6.out (by omega)
    subst e5
    obtain ⟨V7, hst7, hr7, hb7, hbt7⟩ := set_ac (show RowA V6 W0.heap.size (.slice (some ⟨g5, 0, none⟩) n k5) A by unfold RowA; rw [HN.out]; exact HR6.out) HN.out.symm (i := lesL A x.1) (by rw [HN.out]; omega) x
    rw [hfl, ← HPF.out (by rw [HN.out]; exact hf)] at hr7
    have hpl : (putL A x).length = n := by rw [put_len, if_pos (by rw [HN.out]; exact hf)]; exact HN.out
    have HXB := Lib.hid HX6.out
    have HX7 := Lib.hid (HX6.out.below HGG.out.2.2.1 hb7)
    have HZ7 := Lib.hid (HZ6.out.below HGG.out.2.2.2.2.1 hb7)
    have HB7 := Lib.hid (HB6.out.trans (hb7.mono HGG.out.2.2.2.2.2.2.2))
    have HR7 := Lib.hid hr7
    have HL7 := Lib.hid hpl
    clear hg5 hr7 hb7 hbt7 HX6 HZ6 HB6 HR6 hpl
    go_upto_region 11 with fail
    refine wl <| gz1 (.pointer (some ⟨g0, 0, none⟩)) <| gzl rfl ⟨g0, 0, none⟩ (.slice (some ⟨g5, 0, none⟩) n k5) (HXB.out.load (i := 0) rfl (by kernel_rfl)) <| gz1 (.int .i64 (lesL A x.1 : Nat)) <| gzl rfl ⟨g1, 0, none⟩ (.agg (acA x)) (load_acb HY6.out) <|
     gzv (.pointer (some ⟨g5, 0 + lesL A x.1 * 3, none⟩)) (idx_ac g5 0 n k5 (lesL A x.1) (by omega) _ _ _ rfl (by kernel_rfl) (by kernel_rfl)) <| gzs rfl (hst7) <| wn ?_
    simp only [pu]
    clear hst7 HXB HY6
    have hr9 := HR7.out
    obtain ⟨a9, k9, e9, hc9, -⟩ := hr9.cs
    rw [HL7.out] at e9
    simp only [Value.slice.injEq, true_and] at e9
    obtain ⟨rfl, rfl⟩ := e9
    have CT := HLI.out (some ⟨g5, 0, none⟩) k5 V7 hc9 (by rw [HL7.out]; have := H256.out; omega)
    have HER := HE4r.out (by intro h; have := HFR.out.1 h; exact this.1 hf)
    generalize hP : putL A x = P at *
    generalize totB P c = tb at *
    rw [HL7.out] at CT
    clear hr9 hc9 HE4r HE3r HFR
    go_upto_region 13 with fail
    cases tb
    ·skip
     obtain rfl := HER
     refine wl <| gzl rfl ⟨g0, 0, none⟩ (.agg (lgA (some ⟨g5, 0, none⟩) n k5 c)) (load_lg HX7.out) <| gzc (.tuple #[.agg (lgA none 0 0 0), .int .i64 6]) (fun w' => Below V7.heap.size V7 w') CT (fun V10 hV10 => ?_)
     have HZ10 := Lib.hid (HZ7.out.below HZ7.out.lt hV10)
     have HB10 := Lib.hid (HB7.out.trans (hV10.mono HB7.out.size))
     have hst := store_lg (a' := none) (n' := 0) (k' := 0) (c' := 0) HZ10.out
     have HB9 := Lib.hid (belowRow HB10.out HGG.out.2.1 (lgA none 0 0 0))
     have HLD := Lib.hid (load_lg hst.2)
     have hst1 := hst.1
     generalize World.setRow V10 g2 (lgA none 0 0 0) = V9 at *
     clear hst
     simp only [pu]
     refine gz2 (.agg (lgA none 0 0 0)) (.int .i64 6) <| gzs rfl (hst1) <| gz1 (.int .i64 6) <| wn ?_
     simp only [pu]
     clear hst1 CT hV10
     go_wp2_with fail
     exact bodyPost_ret (results_c (p := 4) (q := 5) rfl (by kernel_rfl) HLD.out rfl) rfl (LedO.err HB9.out)
    ·skip
     obtain rfl := HER
     refine wl <| gzl rfl ⟨g0, 0, none⟩ (.agg (lgA (some ⟨g5, 0, none⟩) n k5 c)) (load_lg HX7.out) <| gzc (.tuple #[.agg (lgA (some ⟨g5, 0, none⟩) n k5 c), .int .i64 0]) (fun w' => Below V7.heap.size V7 w') CT (fun V10 hV10 => ?_)
     have HZ10 := Lib.hid (HZ7.out.below HZ7.out.lt hV10)
     have HB10 := Lib.hid (HB7.out.trans (hV10.mono HB7.out.size))
     have hst := store_lg (a' := (some ⟨g5, 0, none⟩)) (n' := n) (k' := k5) (c' := c) HZ10.out
     have HB9 := Lib.hid (belowRow HB10.out HGG.out.2.1 (lgA (some ⟨g5, 0, none⟩) n k5 c))
     have HLD := Lib.hid (load_lg hst.2)
     have hst1 := hst.1
     have HE := Lib.hid (own_but (own_below HR7.out hV10) (But.setRow V10 (g := g2) (lgA (some ⟨g5, 0, none⟩) n k5 c)) HGG.out.2.2.2.2.1)
     generalize World.setRow V10 g2 (lgA (some ⟨g5, 0, none⟩) n k5 c) = V9 at *
     clear hst
     simp only [pu]
     refine gz2 (.agg (lgA (some ⟨g5, 0, none⟩) n k5 c)) (.int .i64 0) <| gzs rfl (hst1) <| gz1 (.int .i64 0) <| wn ?_
     simp only [pu]
     clear hst1 CT hV10
     go_wp2_with fail
     exact bodyPost_ret (results_c (p := 4) (q := 5) rfl (by kernel_rfl) HLD.out rfl) rfl (LedO.ok HL7.out (own_base HE.out HGG.out.2.2.2.2.2.2.2) HB9.out)
   ·skip
    rw [decide_eq_false hf] at CP
    have hle := les_le A x.1
    rw [HN.out] at hle
    go_upto_region 6 with fail
    refine wl <| gz1 (.pointer (some ⟨g0, 0, none⟩)) <| gzl rfl ⟨g0, 0, none⟩ (.slice a n k) (HX1.out.load (i := 0) rfl (by kernel_rfl)) <| gz1 (.pointer (some ⟨g1, 0, none⟩)) <| gzl rfl ⟨g1, 0, none⟩ (.string x.1) (HY1.out.load (i := 0) rfl (by kernel_rfl)) <|
     gzc (.tuple #[.int .i64 (lesL A x.1 : Nat), .bool false]) (fun w' => Below V2.heap.size V2 w') (CP) (fun V3 hV3 => ?_)
    simp only [pu]
    refine gz5 (.tuple #[.int .i64 (lesL A x.1 : Nat), .bool false]) (.int .i64 (lesL A x.1 : Nat)) (.bool false) (.int .i64 (lesL A x.1 : Nat)) (.bool false) <| wn ?_
    simp only [pu]
    replace HX1 := Lib.hid (HX1.out.below HX1.out.lt hV3)
    replace HY1 := Lib.hid (HY1.out.below HY1.out.lt hV3)
    replace HZ1 := Lib.hid (HZ1.out.below HZ1.out.lt hV3)
    replace HB1 := Lib.hid (HB1.out.trans (hV3.mono HB1.out.size))
    replace HA1 := Lib.hid (HA1.out.below hV3)
    replace HW1 : Hid (W0.heap.size ≤ V3.heap.size) := Lib.hid (Nat.le_trans HW1.out hV3.size)
    clear CP hV3
    by_cases h25 : n = 256
    ·skip
     obtain rfl := HE3r.out (HFR.out.2 ⟨hf, h25⟩)
     go_upto_region 7 with fail
     refine wl <| gz4 (.bool false) (.bool true) (.bool true) (.pointer (some ⟨g0, 0, none⟩)) <| gzl rfl ⟨g0, 0, none⟩ (.slice a n k) (HX1.out.load (i := 0) rfl (by kernel_rfl)) <| gz1 (.int .i64 n) <|
      gzb (eql_n rfl n 256 dT) <| gz1 (.bool true) <| wn ?_
     simp only [pu]
     have hst := store_lg (a' := none) (n' := 0) (k' := 0) (c' := 0) HZ1.out
     have HB9 := Lib.hid (belowRow HB1.out HGG.out.2.1 (lgA none 0 0 0))
     have HLD := Lib.hid (load_lg hst.2)
     have hst1 := hst.1
     generalize World.setRow V3 g2 (lgA none 0 0 0) = V9 at *
     clear hst
     go_upto_region 8 with fail
     refine wl <| gz1 (.agg #[.slice none 0 0, .int .u64 0]) <| gzs rfl (hst1) <| gz1 (.int .i64 3) <| wn ?_
     simp only [pu]
     clear hst1
     go_wp2_with fail
     exact bodyPost_ret (results_c (p := 4) (q := 5) rfl (by kernel_rfl) HLD.out rfl) rfl (LedO.err HB9.out)
    ·skip
     go_upto_region 7 with fail
     refine wl <| gz4 (.bool false) (.bool true) (.bool true) (.pointer (some ⟨g0, 0, none⟩)) <| gzl rfl ⟨g0, 0, none⟩ (.slice a n k) (HX1.out.load (i := 0) rfl (by kernel_rfl)) <| gz1 (.int .i64 n) <|
      gzb (eql_n rfl n 256 dF) <| gz1 (.bool false) <| wn ?_
     simp only [pu]
     have CC := HCL.out V3 (by rw [HN.out]; have := H256.out; omega) HA1.out
     rw [HN.out] at CC
     go_upto_region 9 with fail
     refine wl <| gz1 (.pointer (some ⟨g0, 0, none⟩)) <| gzl rfl ⟨g0, 0, none⟩ (.slice a n k) (HX1.out.load (i := 0) rfl (by kernel_rfl)) <| gze (fun v w' => RowA w' V3.heap.size v A ∧ Below V3.heap.size V3 w') CC (fun v5 V5 hq => ?_)
     obtain ⟨hr5, hb5⟩ := hq
     obtain ⟨a5, k5, rfl, -, -⟩ := hr5.cs
     rw [HN.out]
     obtain ⟨V6, hst6, hbx6, hb6, hbt6⟩ := st_row (a' := a5) (n' := n) (k' := k5) (HX1.out.below HX1.out.lt hb5) (B := w.heap.size) (w0 := w) (HB1.out.trans (hb5.mono HB1.out.size)) HGG.out.1
     have hr6 : V6.ownsRow W0.heap.size 49 3 (.slice a5 n k5) n (acc A) := by have := own_base (own_but hr5 hbt6 (Nat.lt_of_lt_of_le HGG.out.2.2.1 HW1.out)) HW1.out; rwa [HN.out] at this
     have HY6 := Lib.hid ((HY1.out.below HY1.out.lt hb5).but hbt6 HGG.out.2.2.2.2.2.1)
     have HZ6 := Lib.hid ((HZ1.out.below HZ1.out.lt hb5).but hbt6 HGG.out.2.2.2.2.2.2.1)
     have HB6 := Lib.hid hb6
     have HX6 := Lib.hid hbx6
     have HW6 : Hid (W0.heap.size ≤ V6.heap.size) := Lib.hid (Nat.le_trans HW1.out (Nat.le_trans hb5.size hbt6.1.size))
     have HR6 := Lib.hid hr6
     simp only [pu]
     refine gz1 (.pointer (some ⟨g0, 0, none⟩)) <| gzs rfl (hst6) <| wn ?_
     simp only [pu]
     clear hr5 hb5 hst6 hbx6 hb6 hbt6 hr6 CC HX1 HY1 HZ1 HB1 HA1 HW1
     go_upto_region 10 with fail
     refine wl <| gz1 (.bool false) <| wn ?_
     simp only [pu]
     have CI := HIN.out (.slice a5 n k5) W0.heap.size V6 (by unfold RowA; rw [HN.out]; exact HR6.out) HW6.out (by rw [HN.out]; have := H256.out; omega)
     rw [← HPN.out (by rw [HN.out]; exact hf)] at CI
     have hpl : (putL A x).length = n + 1 := by rw [put_len, if_neg (by rw [HN.out]; exact hf), HN.out]
     go_upto_region 12 with fail
     refine wl <| gz1 (.pointer (some ⟨g0, 0, none⟩)) <| gzl rfl ⟨g0, 0, none⟩ (.slice a5 n k5) (HX6.out.load (i := 0) rfl (by kernel_rfl)) <| gz1 (.int .i64 (lesL A x.1 : Nat)) <| gzl rfl ⟨g1, 0, none⟩ (.agg (acA x)) (load_acb HY6.out) <|
      gze (fun v w' => RowA w' W0.heap.size v (putL A x) ∧ Below W0.heap.size V6 w') CI (fun v7 V7 hq => ?_)
     obtain ⟨hr7, hb7⟩ := hq
     obtain ⟨a7, k7, rfl, -, -⟩ := hr7.cs
     rw [hpl]
     obtain ⟨V8, hst8, hbx8, hb8, hbt8⟩ := st_row (a' := a7) (n' := n + 1) (k' := k7) (HX6.out.below HGG.out.2.2.1 hb7) (B := w.heap.size) (w0 := w) (HB6.out.trans (hb7.mono HGG.out.2.2.2.2.2.2.2)) HGG.out.1
     have HR7 : Hid (RowA V8 W0.heap.size (.slice a7 (n + 1) k7) (putL A x)) := Lib.hid (by rw [← hpl]; exact own_but hr7 hbt8 HGG.out.2.2.1)
     have HX7 := Lib.hid hbx8
     have HZ7 := Lib.hid ((HZ6.out.below HGG.out.2.2.2.2.1 hb7).but hbt8 HGG.out.2.2.2.2.2.2.1)
     have HB7 := Lib.hid hb8
     simp only [pu]
     refine gz1 (.pointer (some ⟨g0, 0, none⟩)) <| gzs rfl (hst8) <| wn ?_
     simp only [pu]
     have HL7 := Lib.hid hpl
     clear hr7 hb7 hst8 hbx8 hb8 hbt8 CI HX6 HY6 HZ6 HB6 HR6 hpl
     have hr9 := HR7.out
     obtain ⟨a9, k9, e9, hc9, -⟩ := hr9.cs
     rw [HL7.out] at e9
     simp only [Value.slice.injEq, true_and] at e9
     obtain ⟨rfl, rfl⟩ := e9
     have CT := HLI.out a7 k7 V8 hc9 (by rw [HL7.out]; have := H256.out; omega)
     have HER := HE4r.out (by intro h; have := HFR.out.1 h; exact h25 this.2)
     generalize hP : putL A x = P at *
     generalize totB P c = tb at *
     rw [HL7.out] at CT
     clear hr9 hc9 HE4r HE3r HFR
     go_upto_region 13 with fail
     cases tb
     ·skip
      obtain rfl := HER
      refine wl <| gzl rfl ⟨g0, 0, none⟩ (.agg (lgA a7 (n + 1) k7 c)) (load_lg HX7.out) <| gzc (.tuple #[.agg (lgA none 0 0 0), .int .i64 6]) (fun w' => Below V8.heap.size V8 w') CT (fun V10 hV10 => ?_)
      have HZ10 := Lib.hid (HZ7.out.below HZ7.out.lt hV10)
      have HB10 := Lib.hid (HB7.out.trans (hV10.mono HB7.out.size))
      have hst := store_lg (a' := none) (n' := 0) (k' := 0) (c' := 0) HZ10.out
      have HB9 := Lib.hid (belowRow HB10.out HGG.out.2.1 (lgA none 0 0 0))
      have HLD := Lib.hid (load_lg hst.2)
      have hst1 := hst.1
      generalize World.setRow V10 g2 (lgA none 0 0 0) = V9 at *
      clear hst
      simp only [pu]
      refine gz2 (.agg (lgA none 0 0 0)) (.int .i64 6) <| gzs rfl (hst1) <| gz1 (.int .i64 6) <| wn ?_
      simp only [pu]
      clear hst1 CT hV10
      go_wp2_with fail
      exact bodyPost_ret (results_c (p := 4) (q := 5) rfl (by kernel_rfl) HLD.out rfl) rfl (LedO.err HB9.out)
     ·skip
      obtain rfl := HER
      refine wl <| gzl rfl ⟨g0, 0, none⟩ (.agg (lgA a7 (n + 1) k7 c)) (load_lg HX7.out) <| gzc (.tuple #[.agg (lgA a7 (n + 1) k7 c), .int .i64 0]) (fun w' => Below V8.heap.size V8 w') CT (fun V10 hV10 => ?_)
      have HZ10 := Lib.hid (HZ7.out.below HZ7.out.lt hV10)
      have HB10 := Lib.hid (HB7.out.trans (hV10.mono HB7.out.size))
      have hst := store_lg (a' := a7) (n' := (n + 1)) (k' := k7) (c' := c) HZ10.out
      have HB9 := Lib.hid (belowRow HB10.out HGG.out.2.1 (lgA a7 (n + 1) k7 c))
      have HLD := Lib.hid (load_lg hst.2)
      have hst1 := hst.1
      have HE := Lib.hid (own_but (own_below HR7.out hV10) (But.setRow V10 (g := g2) (lgA a7 (n + 1) k7 c)) HGG.out.2.2.2.2.1)
      generalize World.setRow V10 g2 (lgA a7 (n + 1) k7 c) = V9 at *
      clear hst
      simp only [pu]
      refine gz2 (.agg (lgA a7 (n + 1) k7 c)) (.int .i64 0) <| gzs rfl (hst1) <| gz1 (.int .i64 0) <| wn ?_
      simp only [pu]
      clear hst1 CT hV10
      go_wp2_with fail
      exact bodyPost_ret (results_c (p := 4) (q := 5) rfl (by kernel_rfl) HLD.out rfl) rfl (LedO.ok HL7.out (own_base HE.out HGG.out.2.2.2.2.2.2.2) HB9.out)
 ·skip
  obtain rfl := HE1.out hv
  go_upto_region 2 with fail
  refine wl <| gz1 (.int .i64 ve) <| gzb (neq_e rfl ve 0 (decide_eq_false hv)) <| wn ?_
  simp only [pu]
  have hst := store_lg (a' := none) (n' := 0) (k' := 0) (c' := 0) HZ1.out
  have HB9 := Lib.hid (belowRow HB1.out HGG.out.2.1 (lgA none 0 0 0))
  have HLD := Lib.hid (load_lg hst.2)
  have hst1 := hst.1
  generalize World.setRow V1 g2 (lgA none 0 0 0) = V9 at *
  clear hst
  go_upto_region 3 with fail
  refine wl <| gz2 (.agg #[.slice none 0 0, .int .u64 0]) (.int .i64 ve) <| gzs rfl (hst1) <| gz1 (.int .i64 ve) <| wn ?_
  simp only [pu]
  clear hst1
  go_wp2_with fail
  exact bodyPost_ret (results_c (p := 4) (q := 5) rfl (by kernel_rfl) HLD.out rfl) rfl (LedO.err HB9.out)
/-- What the region keeps in which the new ledger is made. -/
structure K6 (W : World) (P : List Ac) (c : Int) (b3 b6 b7 b8 : Bool) (x24 x7 : Value) (V : World) : Prop where
 bel : Below W.heap.size W V
 row : b3 = true → RowA V W.heap.size x24 P
 o3 : b8 = true → b3 = true
 o6 : b6 = true → b3 = true
 o7 : b8 = true → b7 = true
 box : b7 = true → ∃ g, x7 = .pointer (some ⟨g, 0, none⟩) ∧ W.heap.size ≤ g ∧ (b8 = false → Bx V g (lgA none 0 0 0) 25) ∧ (b3 = true → x24.ownBlock ≠ some g) ∧ (b8 = true → ∃ ad kk, x24 = .slice ad P.length kk ∧ Bx V g (lgA ad P.length kk c) 25)
theorem K6.alloc {W : World} {P : List Ac} {c : Int} {b3 b6 b8 : Bool} {x24 x7 : Value} {V : World} (h : K6 W P c b3 b6 false b8 x24 x7 V) : K6 W P c b3 b6 true b8 x24 (.pointer (some ⟨V.heap.size, 0, none⟩)) (V.alloc (.cells (lgA none 0 0 0) 25)) := by
 obtain rfl := ff h.o7 rfl
 have hb : Below V.heap.size V (V.alloc (.cells (lgA none 0 0 0) 25)) := (Below.refl _ V).alloc (Nat.le_refl _) _
 exact ⟨h.bel.trans (hb.mono h.bel.size), fun e => own_below (h.row e) hb, (fun e => nomatch e), h.o6, (fun e => nomatch e), fun _ => ⟨V.heap.size, rfl, h.bel.size, fun _ => heap_alloc_last V _, fun e e2 => Nat.lt_irrefl _ (World.ownsRow.lt (h.row e) _ e2).2, (fun e => nomatch e)⟩⟩
theorem K6.call {W : World} {P : List Ac} {c : Int} {b6 b7 b8 : Bool} {x24 x7 v : Value} {V V2 : World} (h : K6 W P c false b6 b7 b8 x24 x7 V) (hr : RowA V2 V.heap.size v P) (hb : Below V.heap.size V V2) : K6 W P c true b6 b7 b8 v x7 V2 := by
 obtain rfl := ff h.o3 rfl
 exact ⟨h.bel.trans (hb.mono h.bel.size), fun _ => own_base hr h.bel.size, (fun e => nomatch e), fun _ => rfl, (fun e => nomatch e), fun e => by
  obtain ⟨g, h1, h2, h3, -, -⟩ := h.box e
  have h4 := h3 rfl
  exact ⟨g, h1, h2, fun _ => h4.below h4.lt hb, fun _ e2 => by have := (World.ownsRow.lt hr _ e2).1; have := h4.lt; omega, (fun e => nomatch e)⟩⟩
theorem K6.store {W : World} {P : List Ac} {c : Int} {b6 : Bool} {x24 x7 : Value} {V : World} (h : K6 W P c true b6 true false x24 x7 V) : ∃ g ad kk V2, x7 = .pointer (some ⟨g, 0, none⟩) ∧ x24 = .slice ad P.length kk ∧ (Instr.storeAt 25 (.pointer (some ⟨g, 0, none⟩)) (.agg (lgA ad P.length kk c))).run Tryz.prog V = .ok () V2 ∧ K6 W P c true b6 true true (.slice ad P.length kk) (.pointer (some ⟨g, 0, none⟩)) V2 := by
 obtain ⟨g, rfl, h2, h3, h4, -⟩ := h.box rfl
 obtain ⟨ad, kk, rfl, -, -⟩ := (h.row rfl).cs
 have hst := store_lg (a' := ad) (n' := P.length) (k' := kk) (c' := c) (h3 rfl)
 refine ⟨g, ad, kk, _, rfl, rfl, hst.1, ⟨belowRow h.bel h2 _, fun _ => own_eq (h.row rfl) fun q hq => ?_, fun _ => rfl, fun _ => rfl, fun _ => rfl, fun _ => ⟨g, rfl, h2, (fun e => nomatch e), h4, fun _ => ⟨ad, kk, rfl, hst.2⟩⟩⟩⟩
 exact (But.setRow (g := g) V _).2 q (World.ownsRow.lt (h.row rfl) q hq).2 (fun e => h4 rfl (e ▸ hq))
theorem neq_u0 {ρ : Operand → Value} {o : Oper} {x y : Operand} (ho : o.op = .binOp .neq 23 x y 23) (a : Int) (hx : ρ x = .int .u64 a) (hy : ρ y = .int .u64 a) (w : World) : (execOp ρ o).run Tryz.prog w = .ok (.value (.bool false)) w := by
 unfold execOp
 simp only [ho, hx, hy]
 go_simp
theorem neq_ac0 {ρ : Operand → Value} {o : Oper} {x y : Operand} (ho : o.op = .binOp .neq 49 x y 49) (a : Ac) (hx : ρ x = .agg (acA a)) (hy : ρ y = .agg (acA a)) (w : World) : (execOp ρ o).run Tryz.prog w = .ok (.value (.bool false)) w := by
 unfold execOp
 simp only [ho, hx, hy]
 go_simp
set_option maxRecDepth 100000 in
set_option maxHeartbeats 8000000 in
theorem ref_sameled (A : List Ac) (c : Int) (a1 a2 : Option Addr) (c1 c2 : Nat) (w : World) (h1 : Cs w a1 (acc A)) (h2 : Cs w a2 (acc A)) (hn : A.length ≤ 4398046511104) :
  Calls Tryz.prog 13 #[.agg (lgA a1 A.length c1 c), .agg (lgA a2 A.length c2 c)] w fun e w' => e = .returned (.bool true) ∧ Below w.heap.size w w' := by
 obtain ⟨hb0, hX0, hY0⟩ := two_boxes w (lgA a1 A.length c1 c) (lgA a2 A.length c2 c) 25 25
 have HA1 := Lib.hid (h1.below hb0)
 have HA2 := Lib.hid (h2.below hb0)
 obtain ⟨n, hnn⟩ : ∃ n, A.length = n := ⟨_, rfl⟩
 have HN := Lib.hid hnn
 rw [hnn] at hb0 hX0 hY0 HA1 HA2 hn ⊢
 clear hnn h1 h2
 go_enter Tryz.func13, Tryz.ntmps13
 go_upto_region 1 with fail
 change Code.wp _ _ _ _ ((w.alloc (.cells (lgA a1 n c1 c) 25)).alloc (.cells (lgA a2 n c2 c) 25))
 generalize (w.alloc (.cells (lgA a1 n c1 c) 25)).alloc (.cells (lgA a2 n c2 c) 25) = W at *
 obtain ⟨g0, hg0⟩ : ∃ g0, w.heap.size = g0 := ⟨_, rfl⟩
 obtain ⟨g2, hg2⟩ : ∃ g2, w.heap.size + 1 = g2 := ⟨_, rfl⟩
 have HB0 := Lib.hid hb0
 rw [hg2] at hY0
 rw [hg0] at hX0
 simp only [hg0]
 rw [show g0 + 1 = g2 by omega]
 have HX := Lib.hid hX0
 have HY := Lib.hid hY0
 clear hb0 hg0 hg2 hX0 hY0
 refine wl <| gz1 (.pointer (some ⟨g0, 0, none⟩)) <| gzl rfl ⟨g0, 0, none⟩ (.slice a1 n c1) (HX.out.load (i := 0) rfl (by kernel_rfl)) <| gz2 (.int .i64 n) (.pointer (some ⟨g2, 0, none⟩)) <| gzl rfl ⟨g2, 0, none⟩ (.slice a2 n c2) (HY.out.load (i := 0) rfl (by kernel_rfl)) <|
  gz1 (.int .i64 n) <| gzb (neq_n rfl n n (decide_eq_true rfl)) <| gz2 (.bool false) (.pointer (some ⟨g0, 1, none⟩)) <| gzl rfl ⟨g0, 1, none⟩ (.int .u64 c) (HX.out.load (i := 1) rfl (by kernel_rfl)) <| gz1 (.pointer (some ⟨g2, 1, none⟩)) <|
  gzl rfl ⟨g2, 1, none⟩ (.int .u64 c) (HY.out.load (i := 1) rfl (by kernel_rfl)) <| gzw (.bool false) (neq_u0 rfl c) <| gz1 (.bool false) <| wn ?_
 simp only [pu]
 go_upto_region 3 with fail
 refine wl <| gz1 (.pointer (some ⟨g0, 0, none⟩)) <| gzl rfl ⟨g0, 0, none⟩ (.slice a1 n c1) (HX.out.load (i := 0) rfl (by kernel_rfl)) <| gz2 (.int .i64 n) (.int .i64 0) <| wn ?_
 simp only [pu]
 go_wp2_with fail
 go_loopg [23] n (fun gg s23 wx => ∃ j : Nat, s23 = .int .i64 j ∧ j ≤ n ∧ Hid (Below W.heap.size W wx) ∧ n - j = gg)
 case atStart => exact ⟨0, rfl, by omega, Lib.hid (Below.refl _ _), by omega⟩
 case round =>
  obtain ⟨j, rfl, hj, HB, hg⟩ := hrel
  by_cases hlt : j < n
  ·skip
   have HG : Hid (n - (j + 1) = gk - 1 ∧ 0 < gk ∧ j + 1 ≤ n ∧ j + 1 ≤ 4398046511104) := Lib.hid ⟨by omega, by omega, by omega, by omega⟩
   have hjm : j < A.length := by rw [HN.out]; exact hlt
   obtain ⟨b1, o1, rfl, -, hr1⟩ := ac_range (HA1.out.below HB.out) (k := j) hjm
   obtain ⟨b2, o2, rfl, -, hr2⟩ := ac_range (HA2.out.below HB.out) (k := j) hjm
   have HL1 : Hid ((Instr.loadAt 49 (.pointer (some ⟨b1, o1 + j * 3, none⟩))).run Tryz.prog wr.drew = .ok (.agg (acA (aca A j))) wr.drew) := Lib.hid (load_ac (w := wr.drew) hr1)
   have HL2 : Hid ((Instr.loadAt 49 (.pointer (some ⟨b2, o2 + j * 3, none⟩))).run Tryz.prog wr.drew = .ok (.agg (acA (aca A j))) wr.drew) := Lib.hid (load_ac (w := wr.drew) hr2)
   have HX9 := Lib.hid (HX.out.below HX.out.lt HB.out.drew)
   have HY9 := Lib.hid (HY.out.below HY.out.lt HB.out.drew)
   have HB9 := Lib.hid HB.out.drew
   generalize aca A j = y at *
   clear hr1 hr2 hjm hg HB
   go_upto_region 4 with fail
   refine wl <| gzb (lss_n rfl (j) (n) dT) <| wn ?_
   simp only [pu]
   go_upto_region 5 with fail
   refine wl <| gz2 (.int .i64 j) (.int .i64 j) <| wn ?_
   simp only [pu]
   go_upto_region 6 with fail
   refine wp_region_class (C := fun U => U = wr.drew) (by kernel_rfl) (by kernel_rfl) (rfl) ?_
   refine gy (.pointer (some ⟨g0, 0, none⟩)) <| gyl rfl ⟨g0, 0, none⟩ (.slice (some ⟨b1, o1, none⟩) n c1) (fun U hU => by rw [hU]; exact HX9.out.load (i := 0) rfl (by kernel_rfl)) <| gy (.int .i64 j) <|
     gyv (.pointer (some ⟨b1, o1 + j * 3, none⟩)) (fun U hU => idx_ac b1 o1 n c1 j hlt _ _ _ rfl (by kernel_rfl) (by kernel_rfl)) <| gyl rfl ⟨b1, o1 + j * 3, none⟩ (.agg (acA y)) (fun U hU => by rw [hU]; exact HL1.out) <| gy (.pointer (some ⟨g2, 0, none⟩)) <|
     gyl rfl ⟨g2, 0, none⟩ (.slice (some ⟨b2, o2, none⟩) n c2) (fun U hU => by rw [hU]; exact HY9.out.load (i := 0) rfl (by kernel_rfl)) <| gy (.int .i64 j) <| gyv (.pointer (some ⟨b2, o2 + j * 3, none⟩)) (fun U hU => idx_ac b2 o2 n c2 j hlt _ _ _ rfl (by kernel_rfl) (by kernel_rfl)) <|
     gyl rfl ⟨b2, o2 + j * 3, none⟩ (.agg (acA y)) (fun U hU => by rw [hU]; exact HL2.out) <| gyv (.bool false) (fun U hU => neq_ac0 rfl y (by kernel_rfl) (by kernel_rfl) _) ?_
   simp only [pu]
   apply wpQuiet_nil
   intro U hU
   subst hU
   clear HL1 HL2 HX9 HY9
   go_upto_region 8 with fail
   refine wl <| gzw (.int .i64 (j + 1 : Nat)) (add_nat rfl j 1 (by have := HG.out; omega)) <| gz1 (.int .i64 (j + 1 : Nat)) <| wn ?_
   simp only [pu]
   go_wp2_with fail
   go_roundg (gk - 1)
   case measure => have := HG.out; omega
   case rel => exact ⟨j + 1, rfl, HG.out.2.2.1, HB9, HG.out.1⟩
  ·skip
   have HB9 := Lib.hid (HB0.out.trans (HB.out.mono HB0.out.size))
   clear HB hg
   go_upto_region 4 with fail
   refine wl <| gzb (lss_n rfl (j) (n) dF) <| wn ?_
   simp only [pu]
   go_upto_region 9 with fail
   refine wl <| gz1 (.bool true) <| wn ?_
   simp only [pu]
   go_wp2_with fail
   go_ret
   exact ⟨rfl, HB9.out⟩
end Go.Proofs.YtglglhcnofbagaaGreat.Lg
namespace Go.Proofs.YtglglhcnofbagaaGreat.Lg
set_option maxRecDepth 100000
open Go.RowKit
set_option linter.unusedVariables false

set_option maxHeartbeats 1000000 in
theorem ref_sum (a : Option Addr) (cap : Nat) (l : List Int) (w : World) (hl : l.length ≤ 9223372036854775807) (hc : ∀ k, k < l.length → ∃ b off, a = some ⟨b, off, none⟩ ∧ w.cell? ⟨b, off + k, none⟩ = some (.int .u64 (l.getD k 0))) (hw : ∀ k, k < l.length → W64 (l.getD k 0)) :
  Calls Tryz.prog 62 #[.slice a l.length cap] w fun e w' => e = .returned (.tuple #[.int .u64 (sumV l), .bool (sumB l)]) ∧ w = w' := by
 go_enter Tryz.func62, Tryz.ntmps62
 go_wp2_with fail
 go_loopg [4, 11] l.length (fun g s4 s11 wx => w = wx ∧ ∃ k : Nat, k ≤ l.length ∧ s4 = .int .u64 (tot (l.take k)) ∧ s11 = .int .i64 k ∧ l.length - k = g ∧ Hid (tot (l.take k) < 18446744073709551616))
 case atStart => exact ⟨rfl, 0, by omega, rfl, rfl, rfl, Lib.hid (by simp [tot])⟩
 case round =>
  obtain ⟨rfl, k, hk, rfl, rfl, rfl, ht⟩ := hrel
  by_cases hlt : k < l.length
  ·obtain ⟨b, off, ea, hcell⟩ := hc k hlt
   have hx := hw k hlt
   have hts := tot_succ l k hlt
   have ht0 := tot_nonneg (l.take k) (fun x hx => (mem_bound l hw x (List.mem_of_mem_take hx)).1)
   have hA := fun w => ref_add (tot (l.take k)) (l.getD k 0) w ⟨ht0, by have := ht.out; omega⟩ hx
   have hle := tot_take_le l hw (k + 1)
   obtain ⟨x, hxe⟩ : ∃ x, l.getD k 0 = x := ⟨_, rfl⟩
   obtain ⟨t, hte⟩ : ∃ t, tot (l.take k) = t := ⟨_, rfl⟩
   rw [hxe] at hcell hx hts hA
   rw [hte] at hts hA ht0 ht
   rw [hts] at hle
   rw [hte]
   subst ea
   clear hxe hte hc hw
   by_cases hs : t + x < 18446744073709551616
   ·have e1 : addV t x = t + x := if_pos hs
    have e2 : addB t x = true := decide_eq_true hs
    rw [e1, e2] at hA
    have HS := Lib.hid hts
    have hs' := Lib.hid hs
    clear e1 e2 hts hle
    go_wp2_with (go_at_call 45; refine (hA _).mono ?_; rintro e w' ⟨rfl, rfl⟩)
    go_roundg (l.length - (k + 1))
    case measure => omega
    case rel => exact ⟨rfl, k + 1, by omega, by rw [HS.out], by first | rfl | go_num, rfl, by rw [HS.out]; exact hs'⟩
   ·have e1 : addV t x = 0 := if_neg hs
    have e2 : addB t x = false := decide_eq_false hs
    rw [e1, e2] at hA
    have f1 := Lib.hid (show sumV l = 0 from if_neg (by omega))
    have f2 := Lib.hid (show sumB l = false from decide_eq_false (by omega))
    clear e1 e2 hts hle
    go_wp2_with (go_at_call 45; refine (hA _).mono ?_; rintro e w' ⟨rfl, rfl⟩)
    go_ret2
    exact ⟨by rw [f1.out, f2.out]; rfl, rfl⟩
  ·obtain rfl : k = l.length := by omega
   rw [List.take_length] at ht ⊢
   have f1 := Lib.hid (show sumV l = tot l from if_pos ht.out)
   have f2 := Lib.hid (show sumB l = true from decide_eq_true ht.out)
   clear hc hw
   go_wp2_with fail
   go_ret2
   exact ⟨by rw [f1.out, f2.out]; rfl, rfl⟩


end Go.Proofs.YtglglhcnofbagaaGreat.Lg
