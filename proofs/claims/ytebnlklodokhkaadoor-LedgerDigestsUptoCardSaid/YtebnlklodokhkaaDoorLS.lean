/-
  Set, the program's and the reference's; SameLedger of two equal ledgers: contracts.
-/
import Derived.Test.YtebnlklodokhkaaDoorLH
namespace Go.Proofs.YtebnlklodokhkaaDoor.Lg
set_option maxRecDepth 100000
open Go.RowKit
set_option linter.unusedSimpArgs false
set_option linter.unusedVariables false

theorem set_e1 {A : List Ac} {c : Int} {a : Ac} (h : valE A c ≠ 0) : setX A c a = ([], 0, valE A c) := if_pos h
theorem set_e2 {A : List Ac} {c : Int} {a : Ac} (h : valE A c = 0) (h1 : isName (nums a.1) = false) : setX A c a = ([], 0, 10) := by
  unfold setX
  rw [if_neg (by rw [h]; simp), if_pos h1]
theorem set_e3 {A : List Ac} {c : Int} {a : Ac} (h : valE A c = 0) (h1 : isName (nums a.1) = true) (h2 : 256 < (putL A a).length) : setX A c a = ([], 0, 3) := by
  unfold setX
  rw [if_neg (by rw [h]; simp), if_neg (by rw [h1]; simp), if_pos h2]
theorem set_fin {A : List Ac} {c : Int} {a : Ac} (h : valE A c = 0) (h1 : isName (nums a.1) = true) (h2 : ¬ 256 < (putL A a).length) : setX A c a = cond (totB (putL A a) c) (putL A a, c, 0) ([], 0, 6) := by
  unfold setX
  rw [if_neg (by rw [h]; simp), if_neg (by rw [h1]; simp), if_neg h2]
  cases totB (putL A a) c <;> simp
theorem three_boxes (w : World) (x y z : Array Value) (t u v : Nat) : Below w.heap.size w (((w.alloc (.cells x t)).alloc (.cells y u)).alloc (.cells z v)) ∧ Bx (((w.alloc (.cells x t)).alloc (.cells y u)).alloc (.cells z v)) w.heap.size x t ∧ Bx (((w.alloc (.cells x t)).alloc (.cells y u)).alloc (.cells z v)) (w.heap.size + 1) y u ∧ Bx (((w.alloc (.cells x t)).alloc (.cells y u)).alloc (.cells z v)) (w.heap.size + 2) z v := by
  obtain ⟨h1, h2, h3⟩ := two_boxes w x y t u
  have hs : ((w.alloc (.cells x t)).alloc (.cells y u)).heap.size = w.heap.size + 2 := by simp
  have hb : Below ((w.alloc (.cells x t)).alloc (.cells y u)).heap.size ((w.alloc (.cells x t)).alloc (.cells y u)) (((w.alloc (.cells x t)).alloc (.cells y u)).alloc (.cells z v)) := (Below.refl _ _).alloc (Nat.le_refl _) _
  have hz : Bx (((w.alloc (.cells x t)).alloc (.cells y u)).alloc (.cells z v)) ((w.alloc (.cells x t)).alloc (.cells y u)).heap.size z v := heap_alloc_last _ _
  rw [hs] at hz
  exact ⟨h1.trans (hb.mono h1.size), h2.below h2.lt hb, h3.below h3.lt hb, hz⟩
theorem LedO.ok {w V : World} {ad : Option Addr} {m kk : Nat} {P : List Ac} {c : Int} (hl : P.length = m) (hr : V.ownsRow w.heap.size 37 3 (.slice ad m kk) P.length (acc P)) (hb : Below w.heap.size w V) : LedO w (P, c, 0) (.returned (.tuple #[.agg (lgA ad m kk c), .int .i64 0])) V := by
  subst hl
  exact ⟨ad, kk, rfl, hr, hb⟩
theorem own_eq {w w' : World} {B e s n : Nat} {v : Value} {xs : List Value} (h : w.ownsRow B e s v n xs) (hq : ∀ q, v.ownBlock = some q → w'.heap[q]? = w.heap[q]?) : w'.ownsRow B e s v n xs := by
  refine ⟨h.1, ?_⟩
  rcases h.2 with h1 | ⟨g, cap, cur, rfl, hB, hg, r⟩
  · exact .inl h1
  · exact .inr ⟨g, cap, cur, rfl, hB, (hq g rfl).trans hg, r⟩
set_option maxRecDepth 100000 in
set_option maxHeartbeats 8000000 in
theorem q_set (a : Option Addr) (k : Nat) (A : List Ac) (c : Int) (x : Ac) (w : World) (hR : Cs w a (acc A)) (hk : A.length ≤ k) (hn : A.length ≤ 4398046511104) (hc : W64 c) (hw : AcW A) (hz : ∀ x, x ∈ A → x.1.size ≤ 140737488355328) (hxw : W64 x.2.1 ∧ W64 x.2.2) (hxz : x.1.size ≤ 140737488355328) :
    Calls Tryd.prog 11 #[.agg (lgA a A.length k c), .agg (acA x)] w (LedO w (setX A c x)) := by
  obtain ⟨hb0, hX0, hY0, hZ0⟩ := three_boxes w (lgA a A.length k c) (acA x) (lgA none 0 0 0) 25 37 25
  obtain ⟨W0, hW0⟩ : ∃ W0, ((w.alloc (.cells (lgA a A.length k c) 25)).alloc (.cells (acA x) 37)).alloc (.cells (lgA none 0 0 0) 25) = W0 := ⟨_, rfl⟩
  rw [hW0] at hb0 hX0 hY0 hZ0
  have HA := Lib.hid (hR.below hb0)
  have CV := q_validate a k A c W0 (hR.below hb0) hn hc hw hz
  have CN := fun V => q_isname x.1 V
  have HPL := Lib.hid (fun V (h1 : Srt A) (h2 : A.length ≤ 1000000) (h : Cs V a (acc A)) => q_place a k A x.1 V h h1 h2)
  have HCL := Lib.hid (fun V (h2 : A.length ≤ 1000) (h : Cs V a (acc A)) => q_clone a k A V h h2)
  have HIN := Lib.hid (fun (v : Value) (B : Nat) (V : World) (h : RowA V B v A) (h1 : B ≤ V.heap.size) (h2 : A.length ≤ 1000) => q_insert v A x (lesL A x.1) B V h h1 (les_le A x.1) h2)
  have HLI := Lib.hid (fun (ad : Option Addr) (kk : Nat) (V : World) (h : Cs V ad (acc (putL A x))) (h1 : (putL A x).length ≤ 4398046511104) => q_limited ad kk (putL A x) c V h h1 hc (put_w hw hxw))
  have HPF := Lib.hid (@put_found A x)
  have HPN := Lib.hid (@put_new A x)
  have HFL := Lib.hid (fun (h : Srt A) (hf : fndL A x.1 < A.length) => srt_fnd h hf)
  obtain ⟨r, hr⟩ : ∃ r, setX A c x = r := ⟨_, rfl⟩
  have HE1 : Hid (valE A c ≠ 0 → r = ([], 0, valE A c)) := Lib.hid fun h => by rw [← hr]; exact set_e1 h
  have HE2 : Hid (valE A c = 0 → isName (nums x.1) = false → r = ([], 0, 10)) := Lib.hid fun h h1 => by rw [← hr]; exact set_e2 h h1
  have HE3 : Hid (valE A c = 0 → isName (nums x.1) = true → 256 < (putL A x).length → r = ([], 0, 3)) := Lib.hid fun h h1 h2 => by rw [← hr]; exact set_e3 h h1 h2
  have HE4 : Hid (valE A c = 0 → isName (nums x.1) = true → ¬ 256 < (putL A x).length → r = cond (totB (putL A x) c) (putL A x, c, 0) ([], 0, 6)) := Lib.hid fun h h1 h2 => by rw [← hr]; exact set_fin h h1 h2
  have HOK := Lib.hid (@valE_ok A c)
  have HFU := Lib.hid (@put_full A x)
  rw [hr]
  obtain ⟨n, hnn⟩ : ∃ n, A.length = n := ⟨_, rfl⟩
  have HN := Lib.hid hnn
  have HKK : Hid (n ≤ k) := Lib.hid (by omega)
  rw [hnn] at hX0 hW0 CV HOK HFU
  rw [hnn]
  generalize hnm : isName (nums x.1) = nm at *
  generalize hve : valE A c = ve at *
  have HW00 := Lib.hid hW0
  clear hR hn hr hw hz hc hxw hxz hk hnm hve hW0
  go_enter Tryd.func11, Tryd.ntmps11
  go_upto_region 1 with fail
  change Code.wp _ _ _ _ (((w.alloc (.cells (lgA a n k c) 25)).alloc (.cells (acA x) 37)).alloc (.cells (lgA none 0 0 0) 25))
  rw [HW00.out]
  clear HW00
  obtain ⟨g0, hg0⟩ : ∃ g0, w.heap.size = g0 := ⟨_, rfl⟩
  obtain ⟨g1, hg1⟩ : ∃ g1, w.heap.size + 1 = g1 := ⟨_, rfl⟩
  obtain ⟨g2, hg2⟩ : ∃ g2, w.heap.size + 2 = g2 := ⟨_, rfl⟩
  have HGG : Hid (w.heap.size ≤ g0 ∧ w.heap.size ≤ g2 ∧ g0 < W0.heap.size ∧ g1 < W0.heap.size ∧ g2 < W0.heap.size ∧ g1 ≠ g0 ∧ g2 ≠ g0 ∧ w.heap.size ≤ W0.heap.size) := Lib.hid ⟨by omega, by omega, by have := hX0.lt; omega, by have := hY0.lt; omega, by have := hZ0.lt; omega, by omega, by omega, hb0.size⟩
  have HB0 := Lib.hid hb0
  rw [hg0] at hX0
  rw [hg1] at hY0
  rw [hg2] at hZ0
  simp only [hg0]
  rw [show g0 + 1 = g1 by omega, show g1 + 1 = g2 by omega]
  have HX := Lib.hid hX0
  have HY := Lib.hid hY0
  have HZ := Lib.hid hZ0
  clear hb0 hg0 hg1 hg2 hX0 hY0 hZ0 hnn
  apply wp_region_lit
  refine gw_load (by kernel_rfl) (some 9) rfl 25 (.tmp 2) rfl ⟨g0, 0, none⟩ (.agg (lgA a n k c)) (by kernel_rfl) (load_lg HX.out) ?_
  simp only [pu1, pu2, pu3, pu4]
  refine gw_call (by kernel_rfl) (some 10) rfl 14 #[.agg (lgA a n k c)] (.int .i64 ve) (fun w' => Below W0.heap.size W0 w') (by kernel_rfl) (CV) (fun V1 hV1 => ?_)
  have HX1 := Lib.hid (HX.out.below HX.out.lt hV1)
  have HY1 := Lib.hid (HY.out.below HY.out.lt hV1)
  have HZ1 := Lib.hid (HZ.out.below HZ.out.lt hV1)
  have HB1 := Lib.hid (HB0.out.trans (hV1.mono HB0.out.size))
  have HA1 := Lib.hid (HA.out.below hV1)
  have HW1 : Hid (W0.heap.size ≤ V1.heap.size) := Lib.hid hV1.size
  simp only [pu1, pu2, pu3, pu4]
  refine gw_val (by kernel_rfl) (some 6) rfl (.int .i64 ve) (by kernel_rfl) ?_
  simp only [pu1, pu2, pu3, pu4]
  apply wpList_nil
  clear CV hV1 HX HY HZ HB0 HA
  by_cases hv : ve = 0
  · skip
    subst hv
    obtain ⟨h256, hsrt, hnmd, -⟩ := HOK.out rfl
    have HSR := Lib.hid hsrt
    have H256 := Lib.hid h256
    clear hsrt hnmd h256 HE1 HOK
    go_upto_region 2 with fail
    apply wp_region_lit
    refine gw_val (by kernel_rfl) (some 11) rfl (.int .i64 0) (by kernel_rfl) ?_
    simp only [pu1, pu2, pu3, pu4]
    refine gw_val (by kernel_rfl) (some 12) rfl (.bool false) (neq_e rfl 0 0 (decide_eq_true rfl) (by kernel_rfl) (by kernel_rfl) _) ?_
    simp only [pu1, pu2, pu3, pu4]
    apply wpList_nil
    have CN1 := CN V1
    clear CN
    go_upto_region 4 with fail
    cases nm
    · skip
      apply wp_region_lit
      refine gw_val (by kernel_rfl) (some 15) rfl (.pointer (some ⟨g1, 0, none⟩)) (by kernel_rfl) ?_
      simp only [pu1, pu2, pu3, pu4]
      refine gw_load (by kernel_rfl) (some 16) rfl 9 (.tmp 15) rfl ⟨g1, 0, none⟩ (.string x.1) (by kernel_rfl) (HY1.out.load (i := 0) rfl (by kernel_rfl)) ?_
      simp only [pu1, pu2, pu3, pu4]
      refine gw_call (by kernel_rfl) (some 17) rfl 25 #[.string x.1] (.bool false) (fun w' => Below V1.heap.size V1 w') (by kernel_rfl) (CN1) (fun V2 hV2 => ?_)
      replace HX1 := Lib.hid (HX1.out.below HX1.out.lt hV2)
      replace HY1 := Lib.hid (HY1.out.below HY1.out.lt hV2)
      replace HZ1 := Lib.hid (HZ1.out.below HZ1.out.lt hV2)
      replace HB1 := Lib.hid (HB1.out.trans (hV2.mono HB1.out.size))
      replace HA1 := Lib.hid (HA1.out.below hV2)
      replace HW1 : Hid (W0.heap.size ≤ V2.heap.size) := Lib.hid (Nat.le_trans HW1.out hV2.size)
      simp only [pu1, pu2, pu3, pu4]
      refine gw_val (by kernel_rfl) (some 18) rfl (.bool true) (by kernel_rfl) ?_
      simp only [pu1, pu2, pu3, pu4]
      apply wpList_nil
      clear CN1 hV2
      obtain rfl := HE2.out rfl rfl
      have hst := store_lg (a' := none) (n' := 0) (k' := 0) (c' := 0) HZ1.out
      have HB9 := Lib.hid (belowRow HB1.out HGG.out.2.1 (lgA none 0 0 0))
      have HLD := Lib.hid (load_lg hst.2)
      have hst1 := hst.1
      generalize World.setRow V2 g2 (lgA none 0 0 0) = V9 at *
      clear hst
      go_upto_region 5 with fail
      apply wp_region_lit
      refine gw_val (by kernel_rfl) (some 19) rfl (.agg #[.slice none 0 0, .int .u64 0]) (by kernel_rfl) ?_
      simp only [pu1, pu2, pu3, pu4]
      refine gw_store (by kernel_rfl) rfl 25 (.tmp 4) (.tmp 19) rfl (.pointer (some ⟨g2, 0, none⟩)) (.agg #[.slice none 0 0, .int .u64 0]) (by kernel_rfl) (by kernel_rfl) (V9) (hst1) ?_
      refine gw_val (by kernel_rfl) (some 5) rfl (.int .i64 10) (by kernel_rfl) ?_
      simp only [pu1, pu2, pu3, pu4]
      apply wpList_nil
      clear hst1
      go_wp2_with fail
      exact bodyPost_ret (results_c (p := 4) (q := 5) rfl (by kernel_rfl) HLD.out rfl) rfl (LedO.err HB9.out)
    · skip
      apply wp_region_lit
      refine gw_val (by kernel_rfl) (some 15) rfl (.pointer (some ⟨g1, 0, none⟩)) (by kernel_rfl) ?_
      simp only [pu1, pu2, pu3, pu4]
      refine gw_load (by kernel_rfl) (some 16) rfl 9 (.tmp 15) rfl ⟨g1, 0, none⟩ (.string x.1) (by kernel_rfl) (HY1.out.load (i := 0) rfl (by kernel_rfl)) ?_
      simp only [pu1, pu2, pu3, pu4]
      refine gw_call (by kernel_rfl) (some 17) rfl 25 #[.string x.1] (.bool true) (fun w' => Below V1.heap.size V1 w') (by kernel_rfl) (CN1) (fun V2 hV2 => ?_)
      replace HX1 := Lib.hid (HX1.out.below HX1.out.lt hV2)
      replace HY1 := Lib.hid (HY1.out.below HY1.out.lt hV2)
      replace HZ1 := Lib.hid (HZ1.out.below HZ1.out.lt hV2)
      replace HB1 := Lib.hid (HB1.out.trans (hV2.mono HB1.out.size))
      replace HA1 := Lib.hid (HA1.out.below hV2)
      replace HW1 : Hid (W0.heap.size ≤ V2.heap.size) := Lib.hid (Nat.le_trans HW1.out hV2.size)
      simp only [pu1, pu2, pu3, pu4]
      refine gw_val (by kernel_rfl) (some 18) rfl (.bool false) (by kernel_rfl) ?_
      simp only [pu1, pu2, pu3, pu4]
      apply wpList_nil
      clear CN1 hV2
      have HE3r := Lib.hid (HE3.out rfl rfl)
      have HE4r := Lib.hid (HE4.out rfl rfl)
      have HFR := Lib.hid (HFU.out H256.out)
      clear HE2 HE3 HE4 HFU
      have CP := HPL.out V2 HSR.out (by rw [HN.out]; have := H256.out; omega) HA1.out
      rw [HN.out] at CP
      by_cases hf : fndL A x.1 < n
      · skip
        rw [decide_eq_true hf] at CP
        have hle := les_le A x.1
        rw [HN.out] at hle
        have hfl := HFL.out HSR.out (by rw [HN.out]; exact hf)
        go_upto_region 6 with fail
        apply wp_region_lit
        refine gw_val (by kernel_rfl) (some 21) rfl (.pointer (some ⟨g0, 0, none⟩)) (by kernel_rfl) ?_
        simp only [pu1, pu2, pu3, pu4]
        refine gw_load (by kernel_rfl) (some 22) rfl 22 (.tmp 21) rfl ⟨g0, 0, none⟩ (.slice a n k) (by kernel_rfl) (HX1.out.load (i := 0) rfl (by kernel_rfl)) ?_
        simp only [pu1, pu2, pu3, pu4]
        refine gw_val (by kernel_rfl) (some 23) rfl (.pointer (some ⟨g1, 0, none⟩)) (by kernel_rfl) ?_
        simp only [pu1, pu2, pu3, pu4]
        refine gw_load (by kernel_rfl) (some 24) rfl 9 (.tmp 23) rfl ⟨g1, 0, none⟩ (.string x.1) (by kernel_rfl) (HY1.out.load (i := 0) rfl (by kernel_rfl)) ?_
        simp only [pu1, pu2, pu3, pu4]
        refine gw_call (by kernel_rfl) (some 25) rfl 26 #[.slice a n k, .string x.1] (.tuple #[.int .i64 (lesL A x.1 : Nat), .bool true]) (fun w' => Below V2.heap.size V2 w') (by kernel_rfl) (CP) (fun V3 hV3 => ?_)
        simp only [pu1, pu2, pu3, pu4]
        refine gw_val (by kernel_rfl) (some 20) rfl (.tuple #[.int .i64 (lesL A x.1 : Nat), .bool true]) (by kernel_rfl) ?_
        simp only [pu1, pu2, pu3, pu4]
        refine gw_val (by kernel_rfl) (some 26) rfl (.int .i64 (lesL A x.1 : Nat)) (by kernel_rfl) ?_
        simp only [pu1, pu2, pu3, pu4]
        refine gw_val (by kernel_rfl) (some 27) rfl (.bool true) (by kernel_rfl) ?_
        simp only [pu1, pu2, pu3, pu4]
        refine gw_val (by kernel_rfl) (some 7) rfl (.int .i64 (lesL A x.1 : Nat)) (by kernel_rfl) ?_
        simp only [pu1, pu2, pu3, pu4]
        refine gw_val (by kernel_rfl) (some 8) rfl (.bool true) (by kernel_rfl) ?_
        simp only [pu1, pu2, pu3, pu4]
        apply wpList_nil
        replace HX1 := Lib.hid (HX1.out.below HX1.out.lt hV3)
        replace HY1 := Lib.hid (HY1.out.below HY1.out.lt hV3)
        replace HZ1 := Lib.hid (HZ1.out.below HZ1.out.lt hV3)
        replace HB1 := Lib.hid (HB1.out.trans (hV3.mono HB1.out.size))
        replace HA1 := Lib.hid (HA1.out.below hV3)
        replace HW1 : Hid (W0.heap.size ≤ V3.heap.size) := Lib.hid (Nat.le_trans HW1.out hV3.size)
        clear CP hV3
        go_upto_region 7 with fail
        apply wp_region_lit
        refine gw_val (by kernel_rfl) (some 28) rfl (.bool true) (by kernel_rfl) ?_
        simp only [pu1, pu2, pu3, pu4]
        refine gw_val (by kernel_rfl) (some 29) rfl (.bool false) (by kernel_rfl) ?_
        simp only [pu1, pu2, pu3, pu4]
        refine gw_val (by kernel_rfl) (some 30) rfl (.bool false) (by kernel_rfl) ?_
        simp only [pu1, pu2, pu3, pu4]
        with_reducible refine gw_not (by kernel_rfl) (some 31) rfl ?_
        simp only [pu1, pu2, pu3, pu4]
        with_reducible refine gw_not (by kernel_rfl) (some 32) rfl ?_
        simp only [pu1, pu2, pu3, pu4]
        with_reducible refine gw_not (by kernel_rfl) (some 33) rfl ?_
        simp only [pu1, pu2, pu3, pu4]
        with_reducible refine gw_not (by kernel_rfl) (some 34) rfl ?_
        simp only [pu1, pu2, pu3, pu4]
        refine gw_val (by kernel_rfl) (some 35) rfl (.bool false) (by kernel_rfl) ?_
        simp only [pu1, pu2, pu3, pu4]
        apply wpList_nil
        have CC := HCL.out V3 (by rw [HN.out]; have := H256.out; omega) HA1.out
        rw [HN.out] at CC
        go_upto_region 9 with fail
        apply wp_region_lit
        refine gw_val (by kernel_rfl) (some 37) rfl (.pointer (some ⟨g0, 0, none⟩)) (by kernel_rfl) ?_
        simp only [pu1, pu2, pu3, pu4]
        refine gw_load (by kernel_rfl) (some 38) rfl 22 (.tmp 37) rfl ⟨g0, 0, none⟩ (.slice a n k) (by kernel_rfl) (HX1.out.load (i := 0) rfl (by kernel_rfl)) ?_
        simp only [pu1, pu2, pu3, pu4]
        refine gw_callE (by kernel_rfl) (some 39) rfl 29 #[.slice a n k] (fun v w' => RowA w' V3.heap.size v A ∧ Below V3.heap.size V3 w') (by kernel_rfl) CC (fun v5 V5 hq => ?_)
        obtain ⟨hr5, hb5⟩ := hq
        obtain ⟨a5, k5, rfl, -, -⟩ := hr5.cs
        rw [HN.out]
        obtain ⟨V6, hst6, hbx6, hb6, hbt6⟩ := st_row (a' := a5) (n' := n) (k' := k5) (HX1.out.below HX1.out.lt hb5) (B := w.heap.size) (w0 := w) (HB1.out.trans (hb5.mono HB1.out.size)) HGG.out.1
        have hr6 : V6.ownsRow W0.heap.size 37 3 (.slice a5 n k5) n (acc A) := by have := own_base (own_but hr5 hbt6 (Nat.lt_of_lt_of_le HGG.out.2.2.1 HW1.out)) HW1.out; rwa [HN.out] at this
        have HY6 := Lib.hid ((HY1.out.below HY1.out.lt hb5).but hbt6 HGG.out.2.2.2.2.2.1)
        have HZ6 := Lib.hid ((HZ1.out.below HZ1.out.lt hb5).but hbt6 HGG.out.2.2.2.2.2.2.1)
        have HB6 := Lib.hid hb6
        have HX6 := Lib.hid hbx6
        have HW6 : Hid (W0.heap.size ≤ V6.heap.size) := Lib.hid (Nat.le_trans HW1.out (Nat.le_trans hb5.size hbt6.1.size))
        have HR6 := Lib.hid hr6
        simp only [pu1, pu2, pu3, pu4]
        refine gw_val (by kernel_rfl) (some 40) rfl (.pointer (some ⟨g0, 0, none⟩)) (by kernel_rfl) ?_
        simp only [pu1, pu2, pu3, pu4]
        refine gw_store (by kernel_rfl) rfl 22 (.tmp 40) (.tmp 39) rfl (.pointer (some ⟨g0, 0, none⟩)) (.slice a5 n k5) (by kernel_rfl) (by kernel_rfl) (V6) (hst6) ?_
        apply wpList_nil
        clear hr5 hb5 hst6 hbx6 hb6 hbt6 hr6 CC HX1 HY1 HZ1 HB1 HA1 HW1
        go_upto_region 10 with fail
        apply wp_region_lit
        refine gw_val (by kernel_rfl) (some 41) rfl (.bool true) (by kernel_rfl) ?_
        simp only [pu1, pu2, pu3, pu4]
        apply wpList_nil
        obtain ⟨g5, e5, hg5, -⟩ := own_at HR6.out (by omega)
        subst e5
        obtain ⟨V7, hst7, hr7, hb7, hbt7⟩ := set_ac (show RowA V6 W0.heap.size (.slice (some ⟨g5, 0, none⟩) n k5) A by unfold RowA; rw [HN.out]; exact HR6.out) HN.out.symm (i := lesL A x.1) (by rw [HN.out]; omega) x
        rw [hfl, ← HPF.out (by rw [HN.out]; exact hf)] at hr7
        have hpl : (putL A x).length = n := by rw [put_len, if_pos (by rw [HN.out]; exact hf)]; exact HN.out
        have HXB := Lib.hid HX6.out
        have HX7 := Lib.hid (HX6.out.below HGG.out.2.2.1 hb7)
        have HZ7 := Lib.hid (HZ6.out.below HGG.out.2.2.2.2.1 hb7)
        have HB7 := Lib.hid (HB6.out.trans (hb7.mono HGG.out.2.2.2.2.2.2.2))
        have HR7 := Lib.hid hr7
        have HL7 := Lib.hid hpl
        clear hg5 hr7 hb7 hbt7 HX6 HZ6 HB6 HR6 hpl
        go_upto_region 11 with fail
        apply wp_region_lit
        refine gw_val (by kernel_rfl) (some 42) rfl (.pointer (some ⟨g0, 0, none⟩)) (by kernel_rfl) ?_
        simp only [pu1, pu2, pu3, pu4]
        refine gw_load (by kernel_rfl) (some 43) rfl 22 (.tmp 42) rfl ⟨g0, 0, none⟩ (.slice (some ⟨g5, 0, none⟩) n k5) (by kernel_rfl) (HXB.out.load (i := 0) rfl (by kernel_rfl)) ?_
        simp only [pu1, pu2, pu3, pu4]
        refine gw_val (by kernel_rfl) (some 44) rfl (.int .i64 (lesL A x.1 : Nat)) (by kernel_rfl) ?_
        simp only [pu1, pu2, pu3, pu4]
        refine gw_load (by kernel_rfl) (some 45) rfl 37 (.tmp 3) rfl ⟨g1, 0, none⟩ (.agg (acA x)) (by kernel_rfl) (load_acb HY6.out) ?_
        simp only [pu1, pu2, pu3, pu4]
        refine gw_val (by kernel_rfl) (some 46) rfl (.pointer (some ⟨g5, 0 + lesL A x.1 * 3, none⟩)) (idx_ac g5 0 n k5 (lesL A x.1) (by omega) _ _ _ rfl (by kernel_rfl) (by kernel_rfl)) ?_
        simp only [pu1, pu2, pu3, pu4]
        refine gw_store (by kernel_rfl) rfl 37 (.tmp 46) (.tmp 45) rfl (.pointer (some ⟨g5, 0 + lesL A x.1 * 3, none⟩)) (.agg (acA x)) (by kernel_rfl) (by kernel_rfl) (V7) (hst7) ?_
        apply wpList_nil
        clear hst7 HXB HY6
        have hr9 := HR7.out
        obtain ⟨a9, k9, e9, hc9, -⟩ := hr9.cs
        rw [HL7.out] at e9
        simp only [Value.slice.injEq, true_and] at e9
        obtain ⟨rfl, rfl⟩ := e9
        have CT := HLI.out (some ⟨g5, 0, none⟩) k5 V7 hc9 (by rw [HL7.out]; have := H256.out; omega)
        have HER := HE4r.out (by intro h; have := HFR.out.1 h; exact this.1 hf)
        generalize hP : putL A x = P at *
        generalize totB P c = tb at *
        rw [HL7.out] at CT
        clear hr9 hc9 HE4r HE3r HFR
        go_upto_region 13 with fail
        cases tb
        · skip
          obtain rfl := HER
          apply wp_region_lit
          refine gw_load (by kernel_rfl) (some 53) rfl 25 (.tmp 2) rfl ⟨g0, 0, none⟩ (.agg (lgA (some ⟨g5, 0, none⟩) n k5 c)) (by kernel_rfl) (load_lg HX7.out) ?_
          simp only [pu1, pu2, pu3, pu4]
          refine gw_call (by kernel_rfl) (some 54) rfl 28 #[.agg (lgA (some ⟨g5, 0, none⟩) n k5 c)] (.tuple #[.agg (lgA none 0 0 0), .int .i64 6]) (fun w' => Below V7.heap.size V7 w') (by kernel_rfl) CT (fun V10 hV10 => ?_)
          have HZ10 := Lib.hid (HZ7.out.below HZ7.out.lt hV10)
          have HB10 := Lib.hid (HB7.out.trans (hV10.mono HB7.out.size))
          have hst := store_lg (a' := none) (n' := 0) (k' := 0) (c' := 0) HZ10.out
          have HB9 := Lib.hid (belowRow HB10.out HGG.out.2.1 (lgA none 0 0 0))
          have HLD := Lib.hid (load_lg hst.2)
          have hst1 := hst.1
          generalize World.setRow V10 g2 (lgA none 0 0 0) = V9 at *
          clear hst
          simp only [pu1, pu2, pu3, pu4]
          refine gw_val (by kernel_rfl) (some 55) rfl (.agg (lgA none 0 0 0)) (by kernel_rfl) ?_
          simp only [pu1, pu2, pu3, pu4]
          refine gw_val (by kernel_rfl) (some 56) rfl (.int .i64 6) (by kernel_rfl) ?_
          simp only [pu1, pu2, pu3, pu4]
          refine gw_store (by kernel_rfl) rfl 25 (.tmp 4) (.tmp 55) rfl (.pointer (some ⟨g2, 0, none⟩)) (.agg (lgA none 0 0 0)) (by kernel_rfl) (by kernel_rfl) (V9) (hst1) ?_
          refine gw_val (by kernel_rfl) (some 5) rfl (.int .i64 6) (by kernel_rfl) ?_
          simp only [pu1, pu2, pu3, pu4]
          apply wpList_nil
          clear hst1 CT hV10
          go_wp2_with fail
          exact bodyPost_ret (results_c (p := 4) (q := 5) rfl (by kernel_rfl) HLD.out rfl) rfl (LedO.err HB9.out)
        · skip
          obtain rfl := HER
          apply wp_region_lit
          refine gw_load (by kernel_rfl) (some 53) rfl 25 (.tmp 2) rfl ⟨g0, 0, none⟩ (.agg (lgA (some ⟨g5, 0, none⟩) n k5 c)) (by kernel_rfl) (load_lg HX7.out) ?_
          simp only [pu1, pu2, pu3, pu4]
          refine gw_call (by kernel_rfl) (some 54) rfl 28 #[.agg (lgA (some ⟨g5, 0, none⟩) n k5 c)] (.tuple #[.agg (lgA (some ⟨g5, 0, none⟩) n k5 c), .int .i64 0]) (fun w' => Below V7.heap.size V7 w') (by kernel_rfl) CT (fun V10 hV10 => ?_)
          have HZ10 := Lib.hid (HZ7.out.below HZ7.out.lt hV10)
          have HB10 := Lib.hid (HB7.out.trans (hV10.mono HB7.out.size))
          have hst := store_lg (a' := (some ⟨g5, 0, none⟩)) (n' := n) (k' := k5) (c' := c) HZ10.out
          have HB9 := Lib.hid (belowRow HB10.out HGG.out.2.1 (lgA (some ⟨g5, 0, none⟩) n k5 c))
          have HLD := Lib.hid (load_lg hst.2)
          have hst1 := hst.1
          have HE := Lib.hid (own_but (own_below HR7.out hV10) (But.setRow V10 (g := g2) (lgA (some ⟨g5, 0, none⟩) n k5 c)) HGG.out.2.2.2.2.1)
          generalize World.setRow V10 g2 (lgA (some ⟨g5, 0, none⟩) n k5 c) = V9 at *
          clear hst
          simp only [pu1, pu2, pu3, pu4]
          refine gw_val (by kernel_rfl) (some 55) rfl (.agg (lgA (some ⟨g5, 0, none⟩) n k5 c)) (by kernel_rfl) ?_
          simp only [pu1, pu2, pu3, pu4]
          refine gw_val (by kernel_rfl) (some 56) rfl (.int .i64 0) (by kernel_rfl) ?_
          simp only [pu1, pu2, pu3, pu4]
          refine gw_store (by kernel_rfl) rfl 25 (.tmp 4) (.tmp 55) rfl (.pointer (some ⟨g2, 0, none⟩)) (.agg (lgA (some ⟨g5, 0, none⟩) n k5 c)) (by kernel_rfl) (by kernel_rfl) (V9) (hst1) ?_
          refine gw_val (by kernel_rfl) (some 5) rfl (.int .i64 0) (by kernel_rfl) ?_
          simp only [pu1, pu2, pu3, pu4]
          apply wpList_nil
          clear hst1 CT hV10
          go_wp2_with fail
          exact bodyPost_ret (results_c (p := 4) (q := 5) rfl (by kernel_rfl) HLD.out rfl) rfl (LedO.ok HL7.out (own_base HE.out HGG.out.2.2.2.2.2.2.2) HB9.out)
      · skip
        rw [decide_eq_false hf] at CP
        have hle := les_le A x.1
        rw [HN.out] at hle
        go_upto_region 6 with fail
        apply wp_region_lit
        refine gw_val (by kernel_rfl) (some 21) rfl (.pointer (some ⟨g0, 0, none⟩)) (by kernel_rfl) ?_
        simp only [pu1, pu2, pu3, pu4]
        refine gw_load (by kernel_rfl) (some 22) rfl 22 (.tmp 21) rfl ⟨g0, 0, none⟩ (.slice a n k) (by kernel_rfl) (HX1.out.load (i := 0) rfl (by kernel_rfl)) ?_
        simp only [pu1, pu2, pu3, pu4]
        refine gw_val (by kernel_rfl) (some 23) rfl (.pointer (some ⟨g1, 0, none⟩)) (by kernel_rfl) ?_
        simp only [pu1, pu2, pu3, pu4]
        refine gw_load (by kernel_rfl) (some 24) rfl 9 (.tmp 23) rfl ⟨g1, 0, none⟩ (.string x.1) (by kernel_rfl) (HY1.out.load (i := 0) rfl (by kernel_rfl)) ?_
        simp only [pu1, pu2, pu3, pu4]
        refine gw_call (by kernel_rfl) (some 25) rfl 26 #[.slice a n k, .string x.1] (.tuple #[.int .i64 (lesL A x.1 : Nat), .bool false]) (fun w' => Below V2.heap.size V2 w') (by kernel_rfl) (CP) (fun V3 hV3 => ?_)
        simp only [pu1, pu2, pu3, pu4]
        refine gw_val (by kernel_rfl) (some 20) rfl (.tuple #[.int .i64 (lesL A x.1 : Nat), .bool false]) (by kernel_rfl) ?_
        simp only [pu1, pu2, pu3, pu4]
        refine gw_val (by kernel_rfl) (some 26) rfl (.int .i64 (lesL A x.1 : Nat)) (by kernel_rfl) ?_
        simp only [pu1, pu2, pu3, pu4]
        refine gw_val (by kernel_rfl) (some 27) rfl (.bool false) (by kernel_rfl) ?_
        simp only [pu1, pu2, pu3, pu4]
        refine gw_val (by kernel_rfl) (some 7) rfl (.int .i64 (lesL A x.1 : Nat)) (by kernel_rfl) ?_
        simp only [pu1, pu2, pu3, pu4]
        refine gw_val (by kernel_rfl) (some 8) rfl (.bool false) (by kernel_rfl) ?_
        simp only [pu1, pu2, pu3, pu4]
        apply wpList_nil
        replace HX1 := Lib.hid (HX1.out.below HX1.out.lt hV3)
        replace HY1 := Lib.hid (HY1.out.below HY1.out.lt hV3)
        replace HZ1 := Lib.hid (HZ1.out.below HZ1.out.lt hV3)
        replace HB1 := Lib.hid (HB1.out.trans (hV3.mono HB1.out.size))
        replace HA1 := Lib.hid (HA1.out.below hV3)
        replace HW1 : Hid (W0.heap.size ≤ V3.heap.size) := Lib.hid (Nat.le_trans HW1.out hV3.size)
        clear CP hV3
        by_cases h25 : n = 256
        · skip
          obtain rfl := HE3r.out (HFR.out.2 ⟨hf, h25⟩)
          go_upto_region 7 with fail
          apply wp_region_lit
          refine gw_val (by kernel_rfl) (some 28) rfl (.bool false) (by kernel_rfl) ?_
          simp only [pu1, pu2, pu3, pu4]
          refine gw_val (by kernel_rfl) (some 29) rfl (.bool true) (by kernel_rfl) ?_
          simp only [pu1, pu2, pu3, pu4]
          refine gw_val (by kernel_rfl) (some 30) rfl (.bool true) (by kernel_rfl) ?_
          simp only [pu1, pu2, pu3, pu4]
          refine gw_val (by kernel_rfl) (some 31) rfl (.pointer (some ⟨g0, 0, none⟩)) (by kernel_rfl) ?_
          simp only [pu1, pu2, pu3, pu4]
          refine gw_load (by kernel_rfl) (some 32) rfl 22 (.tmp 31) rfl ⟨g0, 0, none⟩ (.slice a n k) (by kernel_rfl) (HX1.out.load (i := 0) rfl (by kernel_rfl)) ?_
          simp only [pu1, pu2, pu3, pu4]
          refine gw_val (by kernel_rfl) (some 33) rfl (.int .i64 n) (by kernel_rfl) ?_
          simp only [pu1, pu2, pu3, pu4]
          refine gw_val (by kernel_rfl) (some 34) rfl (.bool true) (eql_n rfl n 256 (decide_eq_true (by omega)) (by kernel_rfl) (by kernel_rfl) _) ?_
          simp only [pu1, pu2, pu3, pu4]
          refine gw_val (by kernel_rfl) (some 35) rfl (.bool true) (by kernel_rfl) ?_
          simp only [pu1, pu2, pu3, pu4]
          apply wpList_nil
          have hst := store_lg (a' := none) (n' := 0) (k' := 0) (c' := 0) HZ1.out
          have HB9 := Lib.hid (belowRow HB1.out HGG.out.2.1 (lgA none 0 0 0))
          have HLD := Lib.hid (load_lg hst.2)
          have hst1 := hst.1
          generalize World.setRow V3 g2 (lgA none 0 0 0) = V9 at *
          clear hst
          go_upto_region 8 with fail
          apply wp_region_lit
          refine gw_val (by kernel_rfl) (some 36) rfl (.agg #[.slice none 0 0, .int .u64 0]) (by kernel_rfl) ?_
          simp only [pu1, pu2, pu3, pu4]
          refine gw_store (by kernel_rfl) rfl 25 (.tmp 4) (.tmp 36) rfl (.pointer (some ⟨g2, 0, none⟩)) (.agg #[.slice none 0 0, .int .u64 0]) (by kernel_rfl) (by kernel_rfl) (V9) (hst1) ?_
          refine gw_val (by kernel_rfl) (some 5) rfl (.int .i64 3) (by kernel_rfl) ?_
          simp only [pu1, pu2, pu3, pu4]
          apply wpList_nil
          clear hst1
          go_wp2_with fail
          exact bodyPost_ret (results_c (p := 4) (q := 5) rfl (by kernel_rfl) HLD.out rfl) rfl (LedO.err HB9.out)
        · skip
          go_upto_region 7 with fail
          apply wp_region_lit
          refine gw_val (by kernel_rfl) (some 28) rfl (.bool false) (by kernel_rfl) ?_
          simp only [pu1, pu2, pu3, pu4]
          refine gw_val (by kernel_rfl) (some 29) rfl (.bool true) (by kernel_rfl) ?_
          simp only [pu1, pu2, pu3, pu4]
          refine gw_val (by kernel_rfl) (some 30) rfl (.bool true) (by kernel_rfl) ?_
          simp only [pu1, pu2, pu3, pu4]
          refine gw_val (by kernel_rfl) (some 31) rfl (.pointer (some ⟨g0, 0, none⟩)) (by kernel_rfl) ?_
          simp only [pu1, pu2, pu3, pu4]
          refine gw_load (by kernel_rfl) (some 32) rfl 22 (.tmp 31) rfl ⟨g0, 0, none⟩ (.slice a n k) (by kernel_rfl) (HX1.out.load (i := 0) rfl (by kernel_rfl)) ?_
          simp only [pu1, pu2, pu3, pu4]
          refine gw_val (by kernel_rfl) (some 33) rfl (.int .i64 n) (by kernel_rfl) ?_
          simp only [pu1, pu2, pu3, pu4]
          refine gw_val (by kernel_rfl) (some 34) rfl (.bool false) (eql_n rfl n 256 (decide_eq_false (by omega)) (by kernel_rfl) (by kernel_rfl) _) ?_
          simp only [pu1, pu2, pu3, pu4]
          refine gw_val (by kernel_rfl) (some 35) rfl (.bool false) (by kernel_rfl) ?_
          simp only [pu1, pu2, pu3, pu4]
          apply wpList_nil
          have CC := HCL.out V3 (by rw [HN.out]; have := H256.out; omega) HA1.out
          rw [HN.out] at CC
          go_upto_region 9 with fail
          apply wp_region_lit
          refine gw_val (by kernel_rfl) (some 37) rfl (.pointer (some ⟨g0, 0, none⟩)) (by kernel_rfl) ?_
          simp only [pu1, pu2, pu3, pu4]
          refine gw_load (by kernel_rfl) (some 38) rfl 22 (.tmp 37) rfl ⟨g0, 0, none⟩ (.slice a n k) (by kernel_rfl) (HX1.out.load (i := 0) rfl (by kernel_rfl)) ?_
          simp only [pu1, pu2, pu3, pu4]
          refine gw_callE (by kernel_rfl) (some 39) rfl 29 #[.slice a n k] (fun v w' => RowA w' V3.heap.size v A ∧ Below V3.heap.size V3 w') (by kernel_rfl) CC (fun v5 V5 hq => ?_)
          obtain ⟨hr5, hb5⟩ := hq
          obtain ⟨a5, k5, rfl, -, -⟩ := hr5.cs
          rw [HN.out]
          obtain ⟨V6, hst6, hbx6, hb6, hbt6⟩ := st_row (a' := a5) (n' := n) (k' := k5) (HX1.out.below HX1.out.lt hb5) (B := w.heap.size) (w0 := w) (HB1.out.trans (hb5.mono HB1.out.size)) HGG.out.1
          have hr6 : V6.ownsRow W0.heap.size 37 3 (.slice a5 n k5) n (acc A) := by have := own_base (own_but hr5 hbt6 (Nat.lt_of_lt_of_le HGG.out.2.2.1 HW1.out)) HW1.out; rwa [HN.out] at this
          have HY6 := Lib.hid ((HY1.out.below HY1.out.lt hb5).but hbt6 HGG.out.2.2.2.2.2.1)
          have HZ6 := Lib.hid ((HZ1.out.below HZ1.out.lt hb5).but hbt6 HGG.out.2.2.2.2.2.2.1)
          have HB6 := Lib.hid hb6
          have HX6 := Lib.hid hbx6
          have HW6 : Hid (W0.heap.size ≤ V6.heap.size) := Lib.hid (Nat.le_trans HW1.out (Nat.le_trans hb5.size hbt6.1.size))
          have HR6 := Lib.hid hr6
          simp only [pu1, pu2, pu3, pu4]
          refine gw_val (by kernel_rfl) (some 40) rfl (.pointer (some ⟨g0, 0, none⟩)) (by kernel_rfl) ?_
          simp only [pu1, pu2, pu3, pu4]
          refine gw_store (by kernel_rfl) rfl 22 (.tmp 40) (.tmp 39) rfl (.pointer (some ⟨g0, 0, none⟩)) (.slice a5 n k5) (by kernel_rfl) (by kernel_rfl) (V6) (hst6) ?_
          apply wpList_nil
          clear hr5 hb5 hst6 hbx6 hb6 hbt6 hr6 CC HX1 HY1 HZ1 HB1 HA1 HW1
          go_upto_region 10 with fail
          apply wp_region_lit
          refine gw_val (by kernel_rfl) (some 41) rfl (.bool false) (by kernel_rfl) ?_
          simp only [pu1, pu2, pu3, pu4]
          apply wpList_nil
          have CI := HIN.out (.slice a5 n k5) W0.heap.size V6 (by unfold RowA; rw [HN.out]; exact HR6.out) HW6.out (by rw [HN.out]; have := H256.out; omega)
          rw [← HPN.out (by rw [HN.out]; exact hf)] at CI
          have hpl : (putL A x).length = n + 1 := by rw [put_len, if_neg (by rw [HN.out]; exact hf), HN.out]
          go_upto_region 12 with fail
          apply wp_region_lit
          refine gw_val (by kernel_rfl) (some 47) rfl (.pointer (some ⟨g0, 0, none⟩)) (by kernel_rfl) ?_
          simp only [pu1, pu2, pu3, pu4]
          refine gw_load (by kernel_rfl) (some 48) rfl 22 (.tmp 47) rfl ⟨g0, 0, none⟩ (.slice a5 n k5) (by kernel_rfl) (HX6.out.load (i := 0) rfl (by kernel_rfl)) ?_
          simp only [pu1, pu2, pu3, pu4]
          refine gw_val (by kernel_rfl) (some 49) rfl (.int .i64 (lesL A x.1 : Nat)) (by kernel_rfl) ?_
          simp only [pu1, pu2, pu3, pu4]
          refine gw_load (by kernel_rfl) (some 50) rfl 37 (.tmp 3) rfl ⟨g1, 0, none⟩ (.agg (acA x)) (by kernel_rfl) (load_acb HY6.out) ?_
          simp only [pu1, pu2, pu3, pu4]
          refine gw_callE (by kernel_rfl) (some 51) rfl 27 #[.slice a5 n k5, .int .i64 (lesL A x.1 : Nat), .agg (acA x)] (fun v w' => RowA w' W0.heap.size v (putL A x) ∧ Below W0.heap.size V6 w') (by kernel_rfl) CI (fun v7 V7 hq => ?_)
          obtain ⟨hr7, hb7⟩ := hq
          obtain ⟨a7, k7, rfl, -, -⟩ := hr7.cs
          rw [hpl]
          obtain ⟨V8, hst8, hbx8, hb8, hbt8⟩ := st_row (a' := a7) (n' := n + 1) (k' := k7) (HX6.out.below HGG.out.2.2.1 hb7) (B := w.heap.size) (w0 := w) (HB6.out.trans (hb7.mono HGG.out.2.2.2.2.2.2.2)) HGG.out.1
          have HR7 : Hid (RowA V8 W0.heap.size (.slice a7 (n + 1) k7) (putL A x)) := Lib.hid (by rw [← hpl]; exact own_but hr7 hbt8 HGG.out.2.2.1)
          have HX7 := Lib.hid hbx8
          have HZ7 := Lib.hid ((HZ6.out.below HGG.out.2.2.2.2.1 hb7).but hbt8 HGG.out.2.2.2.2.2.2.1)
          have HB7 := Lib.hid hb8
          simp only [pu1, pu2, pu3, pu4]
          refine gw_val (by kernel_rfl) (some 52) rfl (.pointer (some ⟨g0, 0, none⟩)) (by kernel_rfl) ?_
          simp only [pu1, pu2, pu3, pu4]
          refine gw_store (by kernel_rfl) rfl 22 (.tmp 52) (.tmp 51) rfl (.pointer (some ⟨g0, 0, none⟩)) (.slice a7 (n + 1) k7) (by kernel_rfl) (by kernel_rfl) (V8) (hst8) ?_
          apply wpList_nil
          have HL7 := Lib.hid hpl
          clear hr7 hb7 hst8 hbx8 hb8 hbt8 CI HX6 HY6 HZ6 HB6 HR6 hpl
          have hr9 := HR7.out
          obtain ⟨a9, k9, e9, hc9, -⟩ := hr9.cs
          rw [HL7.out] at e9
          simp only [Value.slice.injEq, true_and] at e9
          obtain ⟨rfl, rfl⟩ := e9
          have CT := HLI.out a7 k7 V8 hc9 (by rw [HL7.out]; have := H256.out; omega)
          have HER := HE4r.out (by intro h; have := HFR.out.1 h; exact h25 this.2)
          generalize hP : putL A x = P at *
          generalize totB P c = tb at *
          rw [HL7.out] at CT
          clear hr9 hc9 HE4r HE3r HFR
          go_upto_region 13 with fail
          cases tb
          · skip
            obtain rfl := HER
            apply wp_region_lit
            refine gw_load (by kernel_rfl) (some 53) rfl 25 (.tmp 2) rfl ⟨g0, 0, none⟩ (.agg (lgA a7 (n + 1) k7 c)) (by kernel_rfl) (load_lg HX7.out) ?_
            simp only [pu1, pu2, pu3, pu4]
            refine gw_call (by kernel_rfl) (some 54) rfl 28 #[.agg (lgA a7 (n + 1) k7 c)] (.tuple #[.agg (lgA none 0 0 0), .int .i64 6]) (fun w' => Below V8.heap.size V8 w') (by kernel_rfl) CT (fun V10 hV10 => ?_)
            have HZ10 := Lib.hid (HZ7.out.below HZ7.out.lt hV10)
            have HB10 := Lib.hid (HB7.out.trans (hV10.mono HB7.out.size))
            have hst := store_lg (a' := none) (n' := 0) (k' := 0) (c' := 0) HZ10.out
            have HB9 := Lib.hid (belowRow HB10.out HGG.out.2.1 (lgA none 0 0 0))
            have HLD := Lib.hid (load_lg hst.2)
            have hst1 := hst.1
            generalize World.setRow V10 g2 (lgA none 0 0 0) = V9 at *
            clear hst
            simp only [pu1, pu2, pu3, pu4]
            refine gw_val (by kernel_rfl) (some 55) rfl (.agg (lgA none 0 0 0)) (by kernel_rfl) ?_
            simp only [pu1, pu2, pu3, pu4]
            refine gw_val (by kernel_rfl) (some 56) rfl (.int .i64 6) (by kernel_rfl) ?_
            simp only [pu1, pu2, pu3, pu4]
            refine gw_store (by kernel_rfl) rfl 25 (.tmp 4) (.tmp 55) rfl (.pointer (some ⟨g2, 0, none⟩)) (.agg (lgA none 0 0 0)) (by kernel_rfl) (by kernel_rfl) (V9) (hst1) ?_
            refine gw_val (by kernel_rfl) (some 5) rfl (.int .i64 6) (by kernel_rfl) ?_
            simp only [pu1, pu2, pu3, pu4]
            apply wpList_nil
            clear hst1 CT hV10
            go_wp2_with fail
            exact bodyPost_ret (results_c (p := 4) (q := 5) rfl (by kernel_rfl) HLD.out rfl) rfl (LedO.err HB9.out)
          · skip
            obtain rfl := HER
            apply wp_region_lit
            refine gw_load (by kernel_rfl) (some 53) rfl 25 (.tmp 2) rfl ⟨g0, 0, none⟩ (.agg (lgA a7 (n + 1) k7 c)) (by kernel_rfl) (load_lg HX7.out) ?_
            simp only [pu1, pu2, pu3, pu4]
            refine gw_call (by kernel_rfl) (some 54) rfl 28 #[.agg (lgA a7 (n + 1) k7 c)] (.tuple #[.agg (lgA a7 (n + 1) k7 c), .int .i64 0]) (fun w' => Below V8.heap.size V8 w') (by kernel_rfl) CT (fun V10 hV10 => ?_)
            have HZ10 := Lib.hid (HZ7.out.below HZ7.out.lt hV10)
            have HB10 := Lib.hid (HB7.out.trans (hV10.mono HB7.out.size))
            have hst := store_lg (a' := a7) (n' := (n + 1)) (k' := k7) (c' := c) HZ10.out
            have HB9 := Lib.hid (belowRow HB10.out HGG.out.2.1 (lgA a7 (n + 1) k7 c))
            have HLD := Lib.hid (load_lg hst.2)
            have hst1 := hst.1
            have HE := Lib.hid (own_but (own_below HR7.out hV10) (But.setRow V10 (g := g2) (lgA a7 (n + 1) k7 c)) HGG.out.2.2.2.2.1)
            generalize World.setRow V10 g2 (lgA a7 (n + 1) k7 c) = V9 at *
            clear hst
            simp only [pu1, pu2, pu3, pu4]
            refine gw_val (by kernel_rfl) (some 55) rfl (.agg (lgA a7 (n + 1) k7 c)) (by kernel_rfl) ?_
            simp only [pu1, pu2, pu3, pu4]
            refine gw_val (by kernel_rfl) (some 56) rfl (.int .i64 0) (by kernel_rfl) ?_
            simp only [pu1, pu2, pu3, pu4]
            refine gw_store (by kernel_rfl) rfl 25 (.tmp 4) (.tmp 55) rfl (.pointer (some ⟨g2, 0, none⟩)) (.agg (lgA a7 (n + 1) k7 c)) (by kernel_rfl) (by kernel_rfl) (V9) (hst1) ?_
            refine gw_val (by kernel_rfl) (some 5) rfl (.int .i64 0) (by kernel_rfl) ?_
            simp only [pu1, pu2, pu3, pu4]
            apply wpList_nil
            clear hst1 CT hV10
            go_wp2_with fail
            exact bodyPost_ret (results_c (p := 4) (q := 5) rfl (by kernel_rfl) HLD.out rfl) rfl (LedO.ok HL7.out (own_base HE.out HGG.out.2.2.2.2.2.2.2) HB9.out)
  · skip
    obtain rfl := HE1.out hv
    go_upto_region 2 with fail
    apply wp_region_lit
    refine gw_val (by kernel_rfl) (some 11) rfl (.int .i64 ve) (by kernel_rfl) ?_
    simp only [pu1, pu2, pu3, pu4]
    refine gw_val (by kernel_rfl) (some 12) rfl (.bool true) (neq_e rfl ve 0 (decide_eq_false hv) (by kernel_rfl) (by kernel_rfl) _) ?_
    simp only [pu1, pu2, pu3, pu4]
    apply wpList_nil
    have hst := store_lg (a' := none) (n' := 0) (k' := 0) (c' := 0) HZ1.out
    have HB9 := Lib.hid (belowRow HB1.out HGG.out.2.1 (lgA none 0 0 0))
    have HLD := Lib.hid (load_lg hst.2)
    have hst1 := hst.1
    generalize World.setRow V1 g2 (lgA none 0 0 0) = V9 at *
    clear hst
    go_upto_region 3 with fail
    apply wp_region_lit
    refine gw_val (by kernel_rfl) (some 13) rfl (.agg #[.slice none 0 0, .int .u64 0]) (by kernel_rfl) ?_
    simp only [pu1, pu2, pu3, pu4]
    refine gw_val (by kernel_rfl) (some 14) rfl (.int .i64 ve) (by kernel_rfl) ?_
    simp only [pu1, pu2, pu3, pu4]
    refine gw_store (by kernel_rfl) rfl 25 (.tmp 4) (.tmp 13) rfl (.pointer (some ⟨g2, 0, none⟩)) (.agg #[.slice none 0 0, .int .u64 0]) (by kernel_rfl) (by kernel_rfl) (V9) (hst1) ?_
    refine gw_val (by kernel_rfl) (some 5) rfl (.int .i64 ve) (by kernel_rfl) ?_
    simp only [pu1, pu2, pu3, pu4]
    apply wpList_nil
    clear hst1
    go_wp2_with fail
    exact bodyPost_ret (results_c (p := 4) (q := 5) rfl (by kernel_rfl) HLD.out rfl) rfl (LedO.err HB9.out)
/-- What the region keeps in which the new ledger is made. -/
structure K6 (W : World) (P : List Ac) (c : Int) (b3 b6 b7 b8 : Bool) (x24 x7 : Value) (V : World) : Prop where
  bel : Below W.heap.size W V
  row : b3 = true → RowA V W.heap.size x24 P
  o3 : b8 = true → b3 = true
  o6 : b6 = true → b3 = true
  o7 : b8 = true → b7 = true
  box : b7 = true → ∃ g, x7 = .pointer (some ⟨g, 0, none⟩) ∧ W.heap.size ≤ g ∧ (b8 = false → Bx V g (lgA none 0 0 0) 25) ∧ (b3 = true → x24.ownBlock ≠ some g) ∧ (b8 = true → ∃ ad kk, x24 = .slice ad P.length kk ∧ Bx V g (lgA ad P.length kk c) 25)
theorem K6.alloc {W : World} {P : List Ac} {c : Int} {b3 b6 b8 : Bool} {x24 x7 : Value} {V : World} (h : K6 W P c b3 b6 false b8 x24 x7 V) : K6 W P c b3 b6 true b8 x24 (.pointer (some ⟨V.heap.size, 0, none⟩)) (V.alloc (.cells (lgA none 0 0 0) 25)) := by
  obtain rfl := ff h.o7 rfl
  have hb : Below V.heap.size V (V.alloc (.cells (lgA none 0 0 0) 25)) := (Below.refl _ V).alloc (Nat.le_refl _) _
  exact ⟨h.bel.trans (hb.mono h.bel.size), fun e => own_below (h.row e) hb, (fun e => nomatch e), h.o6, (fun e => nomatch e), fun _ => ⟨V.heap.size, rfl, h.bel.size, fun _ => heap_alloc_last V _, fun e e2 => Nat.lt_irrefl _ (World.ownsRow.lt (h.row e) _ e2).2, (fun e => nomatch e)⟩⟩
theorem K6.call {W : World} {P : List Ac} {c : Int} {b6 b7 b8 : Bool} {x24 x7 v : Value} {V V2 : World} (h : K6 W P c false b6 b7 b8 x24 x7 V) (hr : RowA V2 V.heap.size v P) (hb : Below V.heap.size V V2) : K6 W P c true b6 b7 b8 v x7 V2 := by
  obtain rfl := ff h.o3 rfl
  exact ⟨h.bel.trans (hb.mono h.bel.size), fun _ => own_base hr h.bel.size, (fun e => nomatch e), fun _ => rfl, (fun e => nomatch e), fun e => by
    obtain ⟨g, h1, h2, h3, -, -⟩ := h.box e
    have h4 := h3 rfl
    exact ⟨g, h1, h2, fun _ => h4.below h4.lt hb, fun _ e2 => by have := (World.ownsRow.lt hr _ e2).1; have := h4.lt; omega, (fun e => nomatch e)⟩⟩
theorem K6.store {W : World} {P : List Ac} {c : Int} {b6 : Bool} {x24 x7 : Value} {V : World} (h : K6 W P c true b6 true false x24 x7 V) : ∃ g ad kk V2, x7 = .pointer (some ⟨g, 0, none⟩) ∧ x24 = .slice ad P.length kk ∧ (Instr.storeAt 25 (.pointer (some ⟨g, 0, none⟩)) (.agg (lgA ad P.length kk c))).run Tryd.prog V = .ok () V2 ∧ K6 W P c true b6 true true (.slice ad P.length kk) (.pointer (some ⟨g, 0, none⟩)) V2 := by
  obtain ⟨g, rfl, h2, h3, h4, -⟩ := h.box rfl
  obtain ⟨ad, kk, rfl, -, -⟩ := (h.row rfl).cs
  have hst := store_lg (a' := ad) (n' := P.length) (k' := kk) (c' := c) (h3 rfl)
  refine ⟨g, ad, kk, _, rfl, rfl, hst.1, ⟨belowRow h.bel h2 _, fun _ => own_eq (h.row rfl) fun q hq => ?_, fun _ => rfl, fun _ => rfl, fun _ => rfl, fun _ => ⟨g, rfl, h2, (fun e => nomatch e), h4, fun _ => ⟨ad, kk, rfl, hst.2⟩⟩⟩⟩
  exact (But.setRow (g := g) V _).2 q (World.ownsRow.lt (h.row rfl) q hq).2 (fun e => h4 rfl (e ▸ hq))
set_option maxRecDepth 100000 in
set_option maxHeartbeats 8000000 in
theorem ref_set (a : Option Addr) (k : Nat) (A : List Ac) (c : Int) (x : Ac) (w : World) (hR : Cs w a (acc A)) (hk : A.length ≤ k) (hn : A.length ≤ 4398046511104) (hc : W64 c) (hw : AcW A) (hz : ∀ x, x ∈ A → x.1.size ≤ 140737488355328) (hxw : W64 x.2.1 ∧ W64 x.2.2) (hxz : x.1.size ≤ 140737488355328) :
    Calls Tryd.prog 19 #[.agg (lgA a A.length k c), .agg (acA x)] w (LedO w (setX A c x)) := by
  obtain ⟨hb0, hX0, hY0, hZ0⟩ := three_boxes w (lgA a A.length k c) (acA x) (lgA none 0 0 0) 25 37 25
  obtain ⟨W0, hW0⟩ : ∃ W0, ((w.alloc (.cells (lgA a A.length k c) 25)).alloc (.cells (acA x) 37)).alloc (.cells (lgA none 0 0 0) 25) = W0 := ⟨_, rfl⟩
  rw [hW0] at hb0 hX0 hY0 hZ0
  have HA := Lib.hid (hR.below hb0)
  have CV := ref_validate a k A c W0 (hR.below hb0) hn hc hw hz
  have CN := fun V => ref_isname x.1 V hxz
  have HPU := Lib.hid (fun V (h1 : A.length ≤ 1000) (h : Cs V a (acc A)) => ref_put a k A x V h hk h1)
  have HLI := Lib.hid (fun (ad : Option Addr) (kk : Nat) (V : World) (h : Cs V ad (acc (putL A x))) (h1 : (putL A x).length ≤ 4398046511104) => ref_total ad kk (putL A x) c V h h1 hc (put_w hw hxw))
  obtain ⟨r, hr⟩ : ∃ r, setX A c x = r := ⟨_, rfl⟩
  have HE1 : Hid (valE A c ≠ 0 → r = ([], 0, valE A c)) := Lib.hid fun h => by rw [← hr]; exact set_e1 h
  have HE2 : Hid (valE A c = 0 → isName (nums x.1) = false → r = ([], 0, 10)) := Lib.hid fun h h1 => by rw [← hr]; exact set_e2 h h1
  have HE3 : Hid (valE A c = 0 → isName (nums x.1) = true → 256 < (putL A x).length → r = ([], 0, 3)) := Lib.hid fun h h1 h2 => by rw [← hr]; exact set_e3 h h1 h2
  have HE4 : Hid (valE A c = 0 → isName (nums x.1) = true → ¬ 256 < (putL A x).length → r = cond (totB (putL A x) c) (putL A x, c, 0) ([], 0, 6)) := Lib.hid fun h h1 h2 => by rw [← hr]; exact set_fin h h1 h2
  have HOK := Lib.hid (@valE_ok A c)
  have HFU := Lib.hid (@put_full A x)
  rw [hr]
  obtain ⟨n, hnn⟩ : ∃ n, A.length = n := ⟨_, rfl⟩
  have HN := Lib.hid hnn
  have HKK : Hid (n ≤ k) := Lib.hid (by omega)
  rw [hnn] at hX0 hW0 CV HOK HFU
  rw [hnn]
  generalize hnm : isName (nums x.1) = nm at *
  generalize hve : valE A c = ve at *
  have HW00 := Lib.hid hW0
  clear hR hn hr hw hz hc hxw hxz hk hnm hve hW0
  go_enter Tryd.func19, Tryd.ntmps19
  go_upto_region 1 with fail
  change Code.wp _ _ _ _ (((w.alloc (.cells (lgA a n k c) 25)).alloc (.cells (acA x) 37)).alloc (.cells (lgA none 0 0 0) 25))
  rw [HW00.out]
  clear HW00
  obtain ⟨g0, hg0⟩ : ∃ g0, w.heap.size = g0 := ⟨_, rfl⟩
  obtain ⟨g1, hg1⟩ : ∃ g1, w.heap.size + 1 = g1 := ⟨_, rfl⟩
  obtain ⟨g2, hg2⟩ : ∃ g2, w.heap.size + 2 = g2 := ⟨_, rfl⟩
  have HGG : Hid (w.heap.size ≤ g0 ∧ w.heap.size ≤ g2 ∧ g0 < W0.heap.size ∧ g1 < W0.heap.size ∧ g2 < W0.heap.size ∧ g1 ≠ g0 ∧ g2 ≠ g0 ∧ w.heap.size ≤ W0.heap.size) := Lib.hid ⟨by omega, by omega, by have := hX0.lt; omega, by have := hY0.lt; omega, by have := hZ0.lt; omega, by omega, by omega, hb0.size⟩
  have HB0 := Lib.hid hb0
  rw [hg0] at hX0
  rw [hg1] at hY0
  rw [hg2] at hZ0
  simp only [hg0]
  rw [show g0 + 1 = g1 by omega, show g1 + 1 = g2 by omega]
  have HX := Lib.hid hX0
  have HY := Lib.hid hY0
  have HZ := Lib.hid hZ0
  clear hb0 hg0 hg1 hg2 hX0 hY0 hZ0 hnn
  apply wp_region_lit
  refine gw_load (by kernel_rfl) (some 10) rfl 25 (.tmp 2) rfl ⟨g0, 0, none⟩ (.agg (lgA a n k c)) (by kernel_rfl) (load_lg HX.out) ?_
  simp only [pu1, pu2, pu3, pu4]
  refine gw_call (by kernel_rfl) (some 11) rfl 36 #[.agg (lgA a n k c)] (.int .i64 ve) (fun w' => Below W0.heap.size W0 w') (by kernel_rfl) (CV) (fun V1 hV1 => ?_)
  have HX1 := Lib.hid (HX.out.below HX.out.lt hV1)
  have HY1 := Lib.hid (HY.out.below HY.out.lt hV1)
  have HZ1 := Lib.hid (HZ.out.below HZ.out.lt hV1)
  have HB1 := Lib.hid (HB0.out.trans (hV1.mono HB0.out.size))
  have HA1 := Lib.hid (HA.out.below hV1)
  have HW1 : Hid (W0.heap.size ≤ V1.heap.size) := Lib.hid hV1.size
  simp only [pu1, pu2, pu3, pu4]
  refine gw_val (by kernel_rfl) (some 6) rfl (.int .i64 ve) (by kernel_rfl) ?_
  simp only [pu1, pu2, pu3, pu4]
  apply wpList_nil
  clear CV hV1 HX HY HZ HB0 HA
  by_cases hv : ve = 0
  · skip
    subst hv
    obtain ⟨h256, hsrt, hnmd, -⟩ := HOK.out rfl
    have HSR := Lib.hid hsrt
    have H256 := Lib.hid h256
    clear hsrt hnmd h256 HE1 HOK
    go_upto_region 2 with fail
    apply wp_region_lit
    refine gw_val (by kernel_rfl) (some 12) rfl (.int .i64 0) (by kernel_rfl) ?_
    simp only [pu1, pu2, pu3, pu4]
    refine gw_val (by kernel_rfl) (some 13) rfl (.bool false) (neq_e rfl 0 0 (decide_eq_true rfl) (by kernel_rfl) (by kernel_rfl) _) ?_
    simp only [pu1, pu2, pu3, pu4]
    apply wpList_nil
    have CN1 := CN V1
    clear CN
    go_upto_region 4 with fail
    cases nm
    · skip
      apply wp_region_lit
      refine gw_val (by kernel_rfl) (some 16) rfl (.pointer (some ⟨g1, 0, none⟩)) (by kernel_rfl) ?_
      simp only [pu1, pu2, pu3, pu4]
      refine gw_load (by kernel_rfl) (some 17) rfl 9 (.tmp 16) rfl ⟨g1, 0, none⟩ (.string x.1) (by kernel_rfl) (HY1.out.load (i := 0) rfl (by kernel_rfl)) ?_
      simp only [pu1, pu2, pu3, pu4]
      refine gw_call (by kernel_rfl) (some 18) rfl 31 #[.string x.1] (.bool false) (fun w' => V1 = w') (by kernel_rfl) (CN1) (fun V9 hV9 => ?_)
      subst hV9
      simp only [pu1, pu2, pu3, pu4]
      refine gw_val (by kernel_rfl) (some 19) rfl (.bool true) (by kernel_rfl) ?_
      simp only [pu1, pu2, pu3, pu4]
      apply wpList_nil
      clear CN1
      obtain rfl := HE2.out rfl rfl
      have hst := store_lg (a' := none) (n' := 0) (k' := 0) (c' := 0) HZ1.out
      have HB9 := Lib.hid (belowRow HB1.out HGG.out.2.1 (lgA none 0 0 0))
      have HLD := Lib.hid (load_lg hst.2)
      have hst1 := hst.1
      generalize World.setRow V1 g2 (lgA none 0 0 0) = V9 at *
      clear hst
      go_upto_region 5 with fail
      apply wp_region_lit
      refine gw_val (by kernel_rfl) (some 20) rfl (.agg #[.slice none 0 0, .int .u64 0]) (by kernel_rfl) ?_
      simp only [pu1, pu2, pu3, pu4]
      refine gw_store (by kernel_rfl) rfl 25 (.tmp 4) (.tmp 20) rfl (.pointer (some ⟨g2, 0, none⟩)) (.agg #[.slice none 0 0, .int .u64 0]) (by kernel_rfl) (by kernel_rfl) (V9) (hst1) ?_
      refine gw_val (by kernel_rfl) (some 5) rfl (.int .i64 10) (by kernel_rfl) ?_
      simp only [pu1, pu2, pu3, pu4]
      apply wpList_nil
      clear hst1
      go_wp2_with fail
      exact bodyPost_ret (results_c (p := 4) (q := 5) rfl (by kernel_rfl) HLD.out rfl) rfl (LedO.err HB9.out)
    · skip
      apply wp_region_lit
      refine gw_val (by kernel_rfl) (some 16) rfl (.pointer (some ⟨g1, 0, none⟩)) (by kernel_rfl) ?_
      simp only [pu1, pu2, pu3, pu4]
      refine gw_load (by kernel_rfl) (some 17) rfl 9 (.tmp 16) rfl ⟨g1, 0, none⟩ (.string x.1) (by kernel_rfl) (HY1.out.load (i := 0) rfl (by kernel_rfl)) ?_
      simp only [pu1, pu2, pu3, pu4]
      refine gw_call (by kernel_rfl) (some 18) rfl 31 #[.string x.1] (.bool true) (fun w' => V1 = w') (by kernel_rfl) (CN1) (fun V9 hV9 => ?_)
      subst hV9
      simp only [pu1, pu2, pu3, pu4]
      refine gw_val (by kernel_rfl) (some 19) rfl (.bool false) (by kernel_rfl) ?_
      simp only [pu1, pu2, pu3, pu4]
      apply wpList_nil
      clear CN1
      have HE3r := Lib.hid (HE3.out rfl rfl)
      have HE4r := Lib.hid (HE4.out rfl rfl)
      have HFR := Lib.hid (HFU.out H256.out)
      clear HE2 HE3 HE4 HFU
      have HPV := Lib.hid (fun V (h : Cs V a (acc A)) => HPU.out V (by rw [HN.out]; have := H256.out; omega) h)
      clear HPU
      generalize putL A x = P at *
      have h0 : K6 V1 P c false false false false undef undef V1.drew := ⟨(Below.refl _ V1).drew, (fun e => nomatch e), (fun e => nomatch e), (fun e => nomatch e), (fun e => nomatch e), (fun e => nomatch e)⟩
      rw [HN.out] at HPV
      go_upto_region 6 with fail
      refine wp_region_inv (fun listed act9 V => ∃ b0 b1 b2 b3 b4 b5 b6 b7 b8 : Bool, ∃ x24 x7 : Value, listed = #[b0, b1, b2, b3, b4, b5, b6, b7, b8] ∧ act9 = { tmps := #[.agg (lgA a n k c), .agg (acA x), .pointer (some ⟨g0, 0, none⟩), .pointer (some ⟨g1, 0, none⟩), .pointer (some ⟨g2, 0, none⟩), .int .i64 0, .int .i64 0, x7, undef, undef, .agg (lgA a n k c), .int .i64 0, .int .i64 0, .bool false, undef, undef, .pointer (some ⟨g1, 0, none⟩), .string x.1, .bool true, .bool false, undef, (cond b0 (.pointer (some ⟨g0, 0, none⟩)) undef), (cond b1 (.slice a n k) undef), (cond b2 (.agg (acA x)) undef), x24, (cond b4 (.pointer (some ⟨g0, 1, none⟩)) undef), (cond b5 (.int .u64 c) undef), (cond b6 (.agg #[x24, .int .u64 c]) undef), undef, undef, undef, undef, undef, undef, undef, undef, undef, undef, undef, undef, undef, undef], defers := [] } ∧ K6 V1 P c b3 b6 b7 b8 x24 x7 V) (by kernel_rfl) (by kernel_rfl) ?_ ?_ ?_
      · exact ⟨false, false, false, false, false, false, false, false, false, undef, undef, rfl, rfl, h0⟩
      · intro i9 listed act9 V hi9 hr hJ
        obtain ⟨b0, b1, b2, b3, b4, b5, b6, b7, b8, x24, x7, rfl, rfl, hF⟩ := hJ
        have hi2 : i9 < 9 := hi9
        have hi3 : i9 = 0 ∨ i9 = 1 ∨ i9 = 2 ∨ i9 = 3 ∨ i9 = 4 ∨ i9 = 5 ∨ i9 = 6 ∨ i9 = 7 ∨ i9 = 8 := by omega
        rcases hi3 with rfl | rfl | rfl | rfl | rfl | rfl | rfl | rfl | rfl
        · obtain rfl : b0 = false := ready_self hr
          refine st_val rfl (by kernel_rfl) (some 21) rfl (.pointer (some ⟨g0, 0, none⟩)) V (by kernel_rfl) ?_
          exact ⟨true, b1, b2, b3, b4, b5, b6, b7, b8, x24, x7, rfl, rfl, hF⟩
        · obtain rfl : b1 = false := ready_self hr
          obtain rfl : b0 = true := ready_dep hr 0 (by kernel_rfl)
          refine st_load rfl (by kernel_rfl) (some 22) rfl 22 (.tmp 21) rfl ⟨g0, 0, none⟩ (.slice a n k) (by kernel_rfl) ((HX1.out.below HX1.out.lt hF.bel).load (i := 0) rfl (by kernel_rfl)) ?_
          exact ⟨true, true, b2, b3, b4, b5, b6, b7, b8, x24, x7, rfl, rfl, hF⟩
        · obtain rfl : b2 = false := ready_self hr
          refine st_load rfl (by kernel_rfl) (some 23) rfl 37 (.tmp 3) rfl ⟨g1, 0, none⟩ (.agg (acA x)) (by kernel_rfl) (load_acb (HY1.out.below HY1.out.lt hF.bel)) ?_
          exact ⟨b0, b1, true, b3, b4, b5, b6, b7, b8, x24, x7, rfl, rfl, hF⟩
        · obtain rfl : b3 = false := ready_self hr
          obtain rfl : b1 = true := ready_dep hr 1 (by kernel_rfl)
          obtain rfl : b2 = true := ready_dep hr 2 (by kernel_rfl)
          obtain rfl : b6 = false := ff hF.o6 rfl
          refine st_call rfl (by kernel_rfl) (some 24) rfl 33 #[.slice a n k, .agg (acA x)] (by kernel_rfl) ((HPV.out V (HA1.out.below hF.bel)).mono fun e w' z => ?_)
          obtain ⟨v, rfl, hr, hb⟩ := z
          exact ⟨v, rfl, b0, true, true, true, b4, b5, false, b7, b8, v, x7, rfl, rfl, hF.call hr hb⟩
        · obtain rfl : b4 = false := ready_self hr
          refine st_val rfl (by kernel_rfl) (some 25) rfl (.pointer (some ⟨g0, 1, none⟩)) V (by kernel_rfl) ?_
          exact ⟨b0, b1, b2, b3, true, b5, b6, b7, b8, x24, x7, rfl, rfl, hF⟩
        · obtain rfl : b5 = false := ready_self hr
          obtain rfl : b4 = true := ready_dep hr 4 (by kernel_rfl)
          refine st_load rfl (by kernel_rfl) (some 26) rfl 23 (.tmp 25) rfl ⟨g0, 1, none⟩ (.int .u64 c) (by kernel_rfl) ((HX1.out.below HX1.out.lt hF.bel).load (i := 1) rfl (by kernel_rfl)) ?_
          exact ⟨b0, b1, b2, b3, true, true, b6, b7, b8, x24, x7, rfl, rfl, hF⟩
        · obtain rfl : b6 = false := ready_self hr
          obtain rfl : b3 = true := ready_dep hr 3 (by kernel_rfl)
          obtain rfl : b5 = true := ready_dep hr 5 (by kernel_rfl)
          obtain ⟨ad9, kk9, rfl, -, -⟩ := (hF.row rfl).cs
          refine st_val rfl (by kernel_rfl) (some 27) rfl (.agg #[.slice ad9 P.length kk9, .int .u64 c]) V (by kernel_rfl) ?_
          exact ⟨b0, b1, b2, true, b4, true, true, b7, b8, _, x7, rfl, rfl, { hF with o6 := fun _ => rfl }⟩
        · obtain rfl : b7 = false := ready_self hr
          refine st_val rfl (by kernel_rfl) (some 7) rfl (.pointer (some ⟨V.heap.size, 0, none⟩)) (V.alloc (.cells (lgA none 0 0 0) 25)) (by kernel_rfl) ?_
          exact ⟨b0, b1, b2, b3, b4, b5, b6, true, b8, x24, _, rfl, rfl, hF.alloc⟩
        · obtain rfl : b8 = false := ready_self hr
          obtain rfl : b6 = true := ready_dep hr 6 (by kernel_rfl)
          obtain rfl : b7 = true := ready_dep hr 7 (by kernel_rfl)
          obtain rfl : b3 = true := ready_dep hr 3 (by kernel_rfl)
          obtain ⟨g9, ad, kk, V2, rfl, rfl, hst, hF2⟩ := hF.store
          refine st_storeA rfl (by kernel_rfl) rfl 25 (.tmp 7) (.tmp 27) rfl (.pointer (some ⟨g9, 0, none⟩)) (.agg (lgA ad P.length kk c)) (by kernel_rfl) (by kernel_rfl) _ hst ?_
          exact ⟨b0, b1, b2, true, b4, b5, true, true, true, _, _, rfl, rfl, hF2⟩
      · intro act9 V hJ
        obtain ⟨b0, b1, b2, b3, b4, b5, b6, b7, b8, x24, x7, he, rfl, hF⟩ := hJ
        have he : (#[true, true, true, true, true, true, true, true, true] : Array Bool) = #[b0, b1, b2, b3, b4, b5, b6, b7, b8] := he
        simp only [Array.mk.injEq, List.cons.injEq, and_true] at he
        obtain ⟨rfl, rfl, rfl, rfl, rfl, rfl, rfl, rfl, rfl⟩ := he
        simp only [cond_true]
        obtain ⟨g9, rfl, hg9, -, -, hbx⟩ := hF.box rfl
        obtain ⟨ad, kk, rfl, hbx2⟩ := hbx rfl
        clear hbx
        have hrow := hF.row rfl
        have HX2 := Lib.hid hbx2
        have HZ2 := Lib.hid (HZ1.out.below HZ1.out.lt hF.bel)
        have HB2 := Lib.hid (HB1.out.trans (hF.bel.mono HB1.out.size))
        have HR2 := Lib.hid (own_base hrow HB1.out.size)
        have HRV := Lib.hid hrow
        have HW1B : Hid (w.heap.size ≤ V1.heap.size) := Lib.hid HB1.out.size
        have HVV : Hid (g2 < V1.heap.size) := Lib.hid HZ1.out.lt
        obtain ⟨a9, k9, e9, hc9, -⟩ := hrow.cs
        simp only [Value.slice.injEq, true_and] at e9
        obtain ⟨rfl, rfl⟩ := e9
        have CT := fun h1 => HLI.out ad kk V hc9 h1
        generalize totB P c = tb at *
        generalize totV P c = tv at *
        obtain ⟨m, hm⟩ : ∃ m, P.length = m := ⟨_, rfl⟩
        have HL7 := Lib.hid hm
        rw [hm] at HX2 HR2 HRV CT HE3r HE4r ⊢
        clear hF h0 hbx2 hrow hc9 hm HX1 HY1 HZ1 HB1 HA1 hg9 HLI HFR
        by_cases hbig : 256 < m
        go_upto_region 7 with fail
        · skip
          obtain rfl := HE3r.out hbig
          apply wp_region_lit
          refine gw_val (by kernel_rfl) (some 28) rfl (.pointer (some ⟨g9, 0, none⟩)) (by kernel_rfl) ?_
          simp only [pu1, pu2, pu3, pu4]
          refine gw_load (by kernel_rfl) (some 29) rfl 22 (.tmp 28) rfl ⟨g9, 0, none⟩ (.slice ad m kk) (by kernel_rfl) (HX2.out.load (i := 0) rfl (by kernel_rfl)) ?_
          simp only [pu1, pu2, pu3, pu4]
          refine gw_val (by kernel_rfl) (some 30) rfl (.int .i64 m) (by kernel_rfl) ?_
          simp only [pu1, pu2, pu3, pu4]
          refine gw_val (by kernel_rfl) (some 31) rfl (.bool true) (gtr_n rfl (m) (256) (decide_eq_true (by omega)) (by kernel_rfl) (by kernel_rfl) _) ?_
          simp only [pu1, pu2, pu3, pu4]
          apply wpList_nil
          have hst := store_lg (a' := none) (n' := 0) (k' := 0) (c' := 0) HZ2.out
          have HB9 := Lib.hid (belowRow HB2.out HGG.out.2.1 (lgA none 0 0 0))
          have HLD := Lib.hid (load_lg hst.2)
          have hst1 := hst.1
          generalize World.setRow V g2 (lgA none 0 0 0) = V9 at *
          clear hst
          go_upto_region 8 with fail
          apply wp_region_lit
          refine gw_val (by kernel_rfl) (some 32) rfl (.agg #[.slice none 0 0, .int .u64 0]) (by kernel_rfl) ?_
          simp only [pu1, pu2, pu3, pu4]
          refine gw_store (by kernel_rfl) rfl 25 (.tmp 4) (.tmp 32) rfl (.pointer (some ⟨g2, 0, none⟩)) (.agg #[.slice none 0 0, .int .u64 0]) (by kernel_rfl) (by kernel_rfl) (V9) (hst1) ?_
          refine gw_val (by kernel_rfl) (some 5) rfl (.int .i64 3) (by kernel_rfl) ?_
          simp only [pu1, pu2, pu3, pu4]
          apply wpList_nil
          clear hst1
          go_wp2_with fail
          exact bodyPost_ret (results_c (p := 4) (q := 5) rfl (by kernel_rfl) HLD.out rfl) rfl (LedO.err HB9.out)
        · skip
          have HER := HE4r.out hbig
          have CTT := CT (by omega)
          clear CT HE3r HE4r
          apply wp_region_lit
          refine gw_val (by kernel_rfl) (some 28) rfl (.pointer (some ⟨g9, 0, none⟩)) (by kernel_rfl) ?_
          simp only [pu1, pu2, pu3, pu4]
          refine gw_load (by kernel_rfl) (some 29) rfl 22 (.tmp 28) rfl ⟨g9, 0, none⟩ (.slice ad m kk) (by kernel_rfl) (HX2.out.load (i := 0) rfl (by kernel_rfl)) ?_
          simp only [pu1, pu2, pu3, pu4]
          refine gw_val (by kernel_rfl) (some 30) rfl (.int .i64 m) (by kernel_rfl) ?_
          simp only [pu1, pu2, pu3, pu4]
          refine gw_val (by kernel_rfl) (some 31) rfl (.bool false) (gtr_n rfl (m) (256) (decide_eq_false (by omega)) (by kernel_rfl) (by kernel_rfl) _) ?_
          simp only [pu1, pu2, pu3, pu4]
          apply wpList_nil
          go_upto_region 9 with fail
          cases tb
          · skip
            obtain rfl := HER
            apply wp_region_lit
            refine gw_load (by kernel_rfl) (some 34) rfl 25 (.tmp 7) rfl ⟨g9, 0, none⟩ (.agg (lgA ad m kk c)) (by kernel_rfl) (load_lg HX2.out) ?_
            simp only [pu1, pu2, pu3, pu4]
            refine gw_call (by kernel_rfl) (some 35) rfl 34 #[.agg (lgA ad m kk c)] (.tuple #[.int .u64 tv, .bool false]) (fun w' => Below V.heap.size V w') (by kernel_rfl) (CTT) (fun V10 hV10 => ?_)
            have HZ10 := Lib.hid (HZ2.out.below HZ2.out.lt hV10)
            have HB10 := Lib.hid (HB2.out.trans (hV10.mono HB2.out.size))
            have HX10 := Lib.hid (HX2.out.below HX2.out.lt hV10)
            simp only [pu1, pu2, pu3, pu4]
            refine gw_val (by kernel_rfl) (some 33) rfl (.tuple #[.int .u64 tv, .bool false]) (by kernel_rfl) ?_
            simp only [pu1, pu2, pu3, pu4]
            refine gw_val (by kernel_rfl) (some 36) rfl (.int .u64 tv) (by kernel_rfl) ?_
            simp only [pu1, pu2, pu3, pu4]
            refine gw_val (by kernel_rfl) (some 37) rfl (.bool false) (by kernel_rfl) ?_
            simp only [pu1, pu2, pu3, pu4]
            refine gw_val (by kernel_rfl) (some 8) rfl (.int .u64 tv) (by kernel_rfl) ?_
            simp only [pu1, pu2, pu3, pu4]
            refine gw_val (by kernel_rfl) (some 9) rfl (.bool false) (by kernel_rfl) ?_
            simp only [pu1, pu2, pu3, pu4]
            apply wpList_nil
            go_upto_region 10 with fail
            apply wp_region_lit
            refine gw_val (by kernel_rfl) (some 38) rfl (.bool false) (by kernel_rfl) ?_
            simp only [pu1, pu2, pu3, pu4]
            refine gw_val (by kernel_rfl) (some 39) rfl (.bool true) (by kernel_rfl) ?_
            simp only [pu1, pu2, pu3, pu4]
            apply wpList_nil
            have hst := store_lg (a' := none) (n' := 0) (k' := 0) (c' := 0) HZ10.out
            have HB9 := Lib.hid (belowRow HB10.out HGG.out.2.1 (lgA none 0 0 0))
            have HLD := Lib.hid (load_lg hst.2)
            have hst1 := hst.1
            generalize World.setRow V10 g2 (lgA none 0 0 0) = V9 at *
            clear hst
            clear CTT hV10
            go_upto_region 11 with fail
            apply wp_region_lit
            refine gw_val (by kernel_rfl) (some 40) rfl (.agg #[.slice none 0 0, .int .u64 0]) (by kernel_rfl) ?_
            simp only [pu1, pu2, pu3, pu4]
            refine gw_store (by kernel_rfl) rfl 25 (.tmp 4) (.tmp 40) rfl (.pointer (some ⟨g2, 0, none⟩)) (.agg #[.slice none 0 0, .int .u64 0]) (by kernel_rfl) (by kernel_rfl) (V9) (hst1) ?_
            refine gw_val (by kernel_rfl) (some 5) rfl (.int .i64 6) (by kernel_rfl) ?_
            simp only [pu1, pu2, pu3, pu4]
            apply wpList_nil
            clear hst1
            go_wp2_with fail
            exact bodyPost_ret (results_c (p := 4) (q := 5) rfl (by kernel_rfl) HLD.out rfl) rfl (LedO.err HB9.out)
          · skip
            obtain rfl := HER
            apply wp_region_lit
            refine gw_load (by kernel_rfl) (some 34) rfl 25 (.tmp 7) rfl ⟨g9, 0, none⟩ (.agg (lgA ad m kk c)) (by kernel_rfl) (load_lg HX2.out) ?_
            simp only [pu1, pu2, pu3, pu4]
            refine gw_call (by kernel_rfl) (some 35) rfl 34 #[.agg (lgA ad m kk c)] (.tuple #[.int .u64 tv, .bool true]) (fun w' => Below V.heap.size V w') (by kernel_rfl) (CTT) (fun V10 hV10 => ?_)
            have HZ10 := Lib.hid (HZ2.out.below HZ2.out.lt hV10)
            have HB10 := Lib.hid (HB2.out.trans (hV10.mono HB2.out.size))
            have HX10 := Lib.hid (HX2.out.below HX2.out.lt hV10)
            simp only [pu1, pu2, pu3, pu4]
            refine gw_val (by kernel_rfl) (some 33) rfl (.tuple #[.int .u64 tv, .bool true]) (by kernel_rfl) ?_
            simp only [pu1, pu2, pu3, pu4]
            refine gw_val (by kernel_rfl) (some 36) rfl (.int .u64 tv) (by kernel_rfl) ?_
            simp only [pu1, pu2, pu3, pu4]
            refine gw_val (by kernel_rfl) (some 37) rfl (.bool true) (by kernel_rfl) ?_
            simp only [pu1, pu2, pu3, pu4]
            refine gw_val (by kernel_rfl) (some 8) rfl (.int .u64 tv) (by kernel_rfl) ?_
            simp only [pu1, pu2, pu3, pu4]
            refine gw_val (by kernel_rfl) (some 9) rfl (.bool true) (by kernel_rfl) ?_
            simp only [pu1, pu2, pu3, pu4]
            apply wpList_nil
            go_upto_region 10 with fail
            apply wp_region_lit
            refine gw_val (by kernel_rfl) (some 38) rfl (.bool true) (by kernel_rfl) ?_
            simp only [pu1, pu2, pu3, pu4]
            refine gw_val (by kernel_rfl) (some 39) rfl (.bool false) (by kernel_rfl) ?_
            simp only [pu1, pu2, pu3, pu4]
            apply wpList_nil
            have hst := store_lg (a' := ad) (n' := m) (k' := kk) (c' := c) HZ10.out
            have HB9 := Lib.hid (belowRow HB10.out HGG.out.2.1 (lgA ad m kk c))
            have HLD := Lib.hid (load_lg hst.2)
            have hst1 := hst.1
            have HE := Lib.hid (own_but (own_below HRV.out hV10) (But.setRow V10 (g := g2) (lgA ad m kk c)) HVV.out)
            generalize World.setRow V10 g2 (lgA ad m kk c) = V9 at *
            clear hst
            clear CTT hV10
            go_upto_region 12 with fail
            apply wp_region_lit
            refine gw_load (by kernel_rfl) (some 41) rfl 25 (.tmp 7) rfl ⟨g9, 0, none⟩ (.agg (lgA ad m kk c)) (by kernel_rfl) (load_lg HX10.out) ?_
            simp only [pu1, pu2, pu3, pu4]
            refine gw_store (by kernel_rfl) rfl 25 (.tmp 4) (.tmp 41) rfl (.pointer (some ⟨g2, 0, none⟩)) (.agg (lgA ad m kk c)) (by kernel_rfl) (by kernel_rfl) (V9) (hst1) ?_
            refine gw_val (by kernel_rfl) (some 5) rfl (.int .i64 0) (by kernel_rfl) ?_
            simp only [pu1, pu2, pu3, pu4]
            apply wpList_nil
            clear hst1
            go_wp2_with fail
            exact bodyPost_ret (results_c (p := 4) (q := 5) rfl (by kernel_rfl) HLD.out rfl) rfl (LedO.ok HL7.out (own_base HE.out HW1B.out) HB9.out)
  · skip
    obtain rfl := HE1.out hv
    go_upto_region 2 with fail
    apply wp_region_lit
    refine gw_val (by kernel_rfl) (some 12) rfl (.int .i64 ve) (by kernel_rfl) ?_
    simp only [pu1, pu2, pu3, pu4]
    refine gw_val (by kernel_rfl) (some 13) rfl (.bool true) (neq_e rfl ve 0 (decide_eq_false hv) (by kernel_rfl) (by kernel_rfl) _) ?_
    simp only [pu1, pu2, pu3, pu4]
    apply wpList_nil
    have hst := store_lg (a' := none) (n' := 0) (k' := 0) (c' := 0) HZ1.out
    have HB9 := Lib.hid (belowRow HB1.out HGG.out.2.1 (lgA none 0 0 0))
    have HLD := Lib.hid (load_lg hst.2)
    have hst1 := hst.1
    generalize World.setRow V1 g2 (lgA none 0 0 0) = V9 at *
    clear hst
    go_upto_region 3 with fail
    apply wp_region_lit
    refine gw_val (by kernel_rfl) (some 14) rfl (.agg #[.slice none 0 0, .int .u64 0]) (by kernel_rfl) ?_
    simp only [pu1, pu2, pu3, pu4]
    refine gw_val (by kernel_rfl) (some 15) rfl (.int .i64 ve) (by kernel_rfl) ?_
    simp only [pu1, pu2, pu3, pu4]
    refine gw_store (by kernel_rfl) rfl 25 (.tmp 4) (.tmp 14) rfl (.pointer (some ⟨g2, 0, none⟩)) (.agg #[.slice none 0 0, .int .u64 0]) (by kernel_rfl) (by kernel_rfl) (V9) (hst1) ?_
    refine gw_val (by kernel_rfl) (some 5) rfl (.int .i64 ve) (by kernel_rfl) ?_
    simp only [pu1, pu2, pu3, pu4]
    apply wpList_nil
    clear hst1
    go_wp2_with fail
    exact bodyPost_ret (results_c (p := 4) (q := 5) rfl (by kernel_rfl) HLD.out rfl) rfl (LedO.err HB9.out)
end Go.Proofs.YtebnlklodokhkaaDoor.Lg
