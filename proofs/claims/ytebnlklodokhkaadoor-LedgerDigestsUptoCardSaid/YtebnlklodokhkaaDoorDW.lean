/-
  The walk of LedgerDigests.
-/
import Derived.Test.YtebnlklodokhkaaDoorDG
namespace Go.Proofs.YtebnlklodokhkaaDoor.Lg
open Go.RowKit
set_option linter.unusedSimpArgs false
set_option linter.unusedVariables false

theorem eql_kk {ρ : Operand → Value} {o : Oper} {x y : Operand} (ho : o.op = .binOp .eql 32 x y 32) (S : List Int) (hS : S.length = 32) (hx : ρ x = .agg (w8s S)) (hy : ρ y = .agg (w8s S)) (w : World) : (execOp ρ o).run Tryd.prog w = .ok (.value (.bool true)) w := by
  have h := eq_key ho S S hS hS hx hy w
  rwa [beq_self_eq_true] at h
/-- The sizes of the names. -/
def szA (A : List Ac) : Nat := (A.map fun x => x.1.size).sum
theorem szA_mem {A : List Ac} : ∀ x, x ∈ A → x.1.size ≤ szA A := fun x hx => by
  unfold szA
  induction A with
  | nil => cases hx
  | cons y r ih =>
    rw [List.map_cons, List.sum_cons]
    rcases List.mem_cons.1 hx with rfl | h
    · omega
    · have := ih h
      omega
theorem szA_take {A : List Ac} {j : Nat} (h : j < A.length) : szA (A.take (j + 1)) = szA (A.take j) + (aca A j).1.size := by
  unfold szA
  rw [List.take_succ_eq_append_getElem h, List.map_append, List.sum_append, aca_get h]
  simp
theorem szA_le (A : List Ac) (j : Nat) : szA (A.take j) ≤ szA A := by
  unfold szA
  conv => rhs; rw [← List.take_append_drop j A, List.map_append, List.sum_append]
  omega
set_option maxRecDepth 100000 in
set_option maxHeartbeats 8000000 in
theorem big_is (a : Option Addr) (c : Nat) (A : List Ac) (w : World) (hR : Cs w a (acc A)) (hn : A.length ≤ 4398046511104) (hs : szA A ≤ 4398046511104) :
    Calls Tryd.prog 5 #[.slice a A.length c] w fun e w' => e = .returned (.bool (decide ((300 : Int) < (A.length + szA A : Nat)))) ∧ Below w.heap.size w w' := by
  have HA := Lib.hid hR
  have HST : Hid (∀ j, j < A.length → szA (A.take (j + 1)) = szA (A.take j) + (aca A j).1.size) := Lib.hid fun j h => szA_take h
  have HSL := Lib.hid (szA_le A)
  obtain ⟨zs, hzs⟩ : ∃ zs, szA A = zs := ⟨_, rfl⟩
  have HZS := Lib.hid hzs
  rw [hzs] at hs HSL ⊢
  obtain ⟨n, hnn⟩ : ∃ n, A.length = n := ⟨_, rfl⟩
  have HN := Lib.hid hnn
  have HNL : Hid (n ≤ 4398046511104 ∧ zs ≤ 4398046511104) := Lib.hid ⟨by omega, hs⟩
  rw [hnn] at HST ⊢
  clear hR hn hnn hs hzs
  go_enter Tryd.func5, Tryd.ntmps5
  go_upto_region 1 with fail
  apply wp_region_lit
  refine gw_val (by kernel_rfl) (some 6) rfl (.slice a n c) (by kernel_rfl) ?_
  simp only [pu1, pu2, pu3, pu4]
  refine gw_val (by kernel_rfl) (some 7) rfl (.int .i64 n) (by kernel_rfl) ?_
  simp only [pu1, pu2, pu3, pu4]
  refine gw_val (by kernel_rfl) (some 3) rfl (.int .i64 n) (by kernel_rfl) ?_
  simp only [pu1, pu2, pu3, pu4]
  apply wpList_nil
  go_upto_region 2 with fail
  apply wp_region_lit
  refine gw_val (by kernel_rfl) (some 8) rfl (.slice a n c) (by kernel_rfl) ?_
  simp only [pu1, pu2, pu3, pu4]
  refine gw_val (by kernel_rfl) (some 9) rfl (.int .i64 n) (by kernel_rfl) ?_
  simp only [pu1, pu2, pu3, pu4]
  refine gw_val (by kernel_rfl) (some 10) rfl (.int .i64 0) (by kernel_rfl) ?_
  simp only [pu1, pu2, pu3, pu4]
  apply wpList_nil
  go_wp2_with fail
  go_loopg [3, 10] n (fun gg s3 s10 wx => ∃ (m j : Nat), s3 = .int .i64 m ∧ s10 = .int .i64 j ∧ j ≤ n ∧ Hid (m = n + szA (A.take j)) ∧ Hid (Below w.heap.size w wx) ∧ n - j = gg)
  case atStart => exact ⟨n, 0, rfl, rfl, by omega, Lib.hid (by simp [szA]), Lib.hid (Below.refl _ _), by omega⟩
  case round =>
    obtain ⟨m, j, rfl, rfl, hj, HM, HB, hg⟩ := hrel
    by_cases hlt : j < n
    · skip
      have HG : Hid (n - (j + 1) = gk - 1 ∧ 0 < gk ∧ j + 1 ≤ n) := Lib.hid ⟨by omega, by omega, by omega⟩
      obtain ⟨b, off, rfl, -, hrx⟩ := ac_range (HA.out.below HB.out) (k := j) (by rw [HN.out]; exact hlt)
      have HLD := Lib.hid (load_ac hrx)
      have hst9 := HST.out j hlt
      have hsl9 := HSL.out j
      have hsl8 := HSL.out (j + 1)
      generalize aca A j = y at *
      obtain ⟨V2, hst, hb2, hbx⟩ := new_ac wr y
      have HB2 := Lib.hid (HB.out.trans (hb2.mono HB.out.size))
      obtain ⟨ly, hly⟩ : ∃ ly, y.1.size = ly := ⟨_, rfl⟩
      have HM2 : Hid (m + ly = n + szA (A.take (j + 1)) ∧ m + ly ≤ 8796093022208) := Lib.hid ⟨by have := HM.out; omega, by have := HM.out; have := HNL.out; omega⟩
      clear hrx hb2 hg HB hst9 hsl9 hsl8 HM
      go_upto_region 3 with fail
      apply wp_region_lit
      refine gw_val (by kernel_rfl) (some 11) rfl (.bool true) (lss_n rfl (j) (n) (decide_eq_true (by omega)) (by kernel_rfl) (by kernel_rfl) _) ?_
      simp only [pu1, pu2, pu3, pu4]
      apply wpList_nil
      go_upto_region 4 with fail
      apply wp_region_lit
      refine gw_val (by kernel_rfl) (some 12) rfl (.pointer (some ⟨b, off + j * 3, none⟩)) (idx_ac b off n c j hlt _ _ _ rfl (by kernel_rfl) (by kernel_rfl)) ?_
      simp only [pu1, pu2, pu3, pu4]
      refine gw_load (by kernel_rfl) (some 13) rfl 37 (.tmp 12) rfl ⟨b, off + j * 3, none⟩ (.agg (acA y)) (by kernel_rfl) (HLD.out) ?_
      simp only [pu1, pu2, pu3, pu4]
      refine run_to rfl (some 5) rfl (.pointer (some ⟨wr.heap.size, 0, none⟩)) (wr.alloc (.cells (acA zAc) 37)) (by kernel_rfl) ?_
      simp only [pu1, pu2, pu3, pu4]
      refine gw_store (by kernel_rfl) rfl 37 (.tmp 5) (.tmp 13) rfl (.pointer (some ⟨wr.heap.size, 0, none⟩)) (.agg (acA y)) (by kernel_rfl) (by kernel_rfl) (V2) (hst) ?_
      apply wpList_nil
      obtain ⟨g4, hg4⟩ : ∃ g4, wr.heap.size = g4 := ⟨_, rfl⟩
      rw [hg4] at hbx ⊢
      clear hst hg4 HLD
      go_upto_region 5 with fail
      apply wp_region_lit
      refine gw_val (by kernel_rfl) (some 14) rfl (.int .i64 m) (by kernel_rfl) ?_
      simp only [pu1, pu2, pu3, pu4]
      refine gw_val (by kernel_rfl) (some 15) rfl (.pointer (some ⟨g4, 0, none⟩)) (by kernel_rfl) ?_
      simp only [pu1, pu2, pu3, pu4]
      refine gw_load (by kernel_rfl) (some 16) rfl 9 (.tmp 15) rfl ⟨g4, 0, none⟩ (.string y.1) (by kernel_rfl) (hbx.load (i := 0) rfl (by kernel_rfl)) ?_
      simp only [pu1, pu2, pu3, pu4]
      refine gw_val (by kernel_rfl) (some 17) rfl (.int .i64 ly) (by rw [← hly]; kernel_rfl) ?_
      simp only [pu1, pu2, pu3, pu4]
      refine gw_val (by kernel_rfl) (some 18) rfl (.int .i64 (m + ly : Nat)) (add_nat rfl m ly (by have := HM2.out; omega) (by kernel_rfl) (by kernel_rfl) _) ?_
      simp only [pu1, pu2, pu3, pu4]
      refine gw_val (by kernel_rfl) (some 3) rfl (.int .i64 (m + ly : Nat)) (by kernel_rfl) ?_
      simp only [pu1, pu2, pu3, pu4]
      apply wpList_nil
      clear hly hbx
      go_upto_region 6 with fail
      apply wp_region_lit
      refine gw_val (by kernel_rfl) (some 19) rfl (.int .i64 (j + 1 : Nat)) (add_nat rfl j 1 (by have := HNL.out; have := HG.out; omega) (by kernel_rfl) (by kernel_rfl) _) ?_
      simp only [pu1, pu2, pu3, pu4]
      refine gw_val (by kernel_rfl) (some 10) rfl (.int .i64 (j + 1 : Nat)) (by kernel_rfl) ?_
      simp only [pu1, pu2, pu3, pu4]
      apply wpList_nil
      go_wp2_with fail
      go_roundg (gk - 1)
      case measure => have := HG.out; omega
      case rel => exact ⟨m + ly, j + 1, rfl, rfl, HG.out.2.2, Lib.hid HM2.out.1, HB2, HG.out.1⟩
    · skip
      have HB9 := HB
      have hm : m = n + zs := by have h1 := HM.out; have h2 := HN.out; have h3 := HZS.out; rw [List.take_of_length_le (by omega)] at h1; omega
      subst hm
      clear hg HM
      go_upto_region 3 with fail
      apply wp_region_lit
      refine gw_val (by kernel_rfl) (some 11) rfl (.bool false) (lss_n rfl (j) (n) (decide_eq_false (by omega)) (by kernel_rfl) (by kernel_rfl) _) ?_
      simp only [pu1, pu2, pu3, pu4]
      apply wpList_nil
      go_upto_region 7 with fail
      apply wp_region_lit
      refine gw_val (by kernel_rfl) (some 20) rfl (.int .i64 (n + zs : Nat)) (by kernel_rfl) ?_
      simp only [pu1, pu2, pu3, pu4]
      refine gw_val (by kernel_rfl) (some 21) rfl (.bool (decide ((300 : Int) < (n + zs : Nat)))) (gtr_any rfl (n + zs : Nat) 300 (by kernel_rfl) (by kernel_rfl) _) ?_
      simp only [pu1, pu2, pu3, pu4]
      refine gw_val (by kernel_rfl) (some 2) rfl (.bool (decide ((300 : Int) < (n + zs : Nat)))) (by kernel_rfl) ?_
      simp only [pu1, pu2, pu3, pu4]
      apply wpList_nil
      go_wp2_with fail
      go_ret
      exact ⟨rfl, HB9.out⟩
set_option maxRecDepth 100000 in
set_option maxHeartbeats 8000000 in
theorem digests_core (la : Option Addr) (lk : Nat) (A : List Ac) (lc : Int) (ak : Option Addr) (ck : Nat) (L : List Int) (w : World) (hla : Cs w la (acc A)) (hn : A.length ≤ 4398046511104) (hsz : szA A ≤ 4398046511104) (haw : AcW A) (hlc : W64 lc) (hck : Cs w ak (icells L)) (hl : L.length ≤ 9223372036854775807) (hG : Glob w) :
    Calls Tryd.prog 3 #[.agg (lgA la A.length lk lc), .slice ak L.length ck] w fun e w' => e = .returned (.bool true) ∧ Below w.heap.size w w' := by
  have HK := Lib.hid (fun (V : World) (h : Below w.heap.size w V) => (known_true V).mono fun e w' (q : e = .returned (.bool true) ∧ Below V.heap.size V w') => (⟨q.1, h.trans (q.2.mono h.size)⟩ : e = .returned (.bool true) ∧ Below w.heap.size w w'))
  have hb0 : Below w.heap.size w (w.alloc (.cells (lgA la A.length lk lc) 25)) := (Below.refl _ w).alloc (Nat.le_refl _) _
  have hX0 : Bx (w.alloc (.cells (lgA la A.length lk lc) 25)) w.heap.size (lgA la A.length lk lc) 25 := heap_alloc_last w _
  have HNL := Lib.hid hl
  have HAL := Lib.hid hn
  have HAS := Lib.hid hsz
  have HAW := Lib.hid haw
  have HLC := Lib.hid hlc
  have HG := Lib.hid hG
  have HLA := Lib.hid (hla.below hb0)
  have HCK := Lib.hid (hck.below hb0)
  clear hla hck hl hn hsz haw hlc hG
  go_enter Tryd.func3, Tryd.ntmps3
  go_upto_region 1 with fail
  change Code.wp _ _ _ _ (w.alloc (.cells (lgA la A.length lk lc) 25))
  generalize w.alloc (.cells (lgA la A.length lk lc) 25) = W at *
  obtain ⟨g0, hg0⟩ : ∃ g0, w.heap.size = g0 := ⟨_, rfl⟩
  have HB0 := Lib.hid hb0
  rw [hg0] at hX0
  simp only [hg0]
  have HX := Lib.hid hX0
  clear hb0 hX0 hg0
  have CLn := long_one W.heap.size ak L.length ck (W.alloc (.cells #[.slice ak L.length ck] 26)) (heap_alloc_last W _) HNL.out
  have hor := one_row ak L.length ck W
  have hb1 : Below W.heap.size W (W.alloc (.cells #[.slice ak L.length ck] 26)) := (Below.refl _ W).alloc (Nat.le_refl _) _
  generalize W.alloc (.cells #[.slice ak L.length ck] 26) = W1 at *
  have HB1 := Lib.hid (HB0.out.trans (hb1.mono HB0.out.size))
  have HCK1 := Lib.hid (HCK.out.below hb1)
  have HLA1 := Lib.hid (HLA.out.below hb1)
  have HX1 := Lib.hid (HX.out.below HX.out.lt hb1)
  by_cases hlong : 160 < L.length
  · skip
    rw [decide_eq_true (by omega)] at CLn
    apply wp_region_lit
    refine gw_val (by kernel_rfl) (some 6) rfl (.slice ak L.length ck) (by kernel_rfl) ?_
    simp only [pu1, pu2, pu3, pu4]
    refine gw_build (by kernel_rfl) (some 7) rfl 35 1 #[(0, .tmp 6)] rfl #[(0, .slice ak L.length ck)] (by kernel_rfl) (.slice (some ⟨W.heap.size, 0, none⟩) 1 1) _ hor ?_
    simp only [pu1, pu2, pu3, pu4]
    refine gw_call (by kernel_rfl) (some 8) rfl 4 #[.slice (some ⟨W.heap.size, 0, none⟩) 1 1] (.bool true) (fun w' => W1 = w') (by kernel_rfl) (CLn) (fun V9 hV9 => ?_)
    subst hV9
    simp only [pu1, pu2, pu3, pu4]
    refine gw_val (by kernel_rfl) (some 9) rfl (.bool true) (by kernel_rfl) ?_
    simp only [pu1, pu2, pu3, pu4]
    with_reducible refine gw_not (by kernel_rfl) (some 10) rfl ?_
    simp only [pu1, pu2, pu3, pu4]
    with_reducible refine gw_not (by kernel_rfl) (some 11) rfl ?_
    simp only [pu1, pu2, pu3, pu4]
    with_reducible refine gw_not (by kernel_rfl) (some 12) rfl ?_
    simp only [pu1, pu2, pu3, pu4]
    refine gw_val (by kernel_rfl) (some 13) rfl (.bool true) (by kernel_rfl) ?_
    simp only [pu1, pu2, pu3, pu4]
    apply wpList_nil
    clear CLn hor
    go_upto_region 2 with fail
    apply wp_region_lit
    refine gw_call (by kernel_rfl) (some 14) rfl 6 #[] (.bool true) (fun w' => Below w.heap.size w w') (by kernel_rfl) (HK.out W1 (HB1.out)) (fun V9 hV9 => ?_)
    simp only [pu1, pu2, pu3, pu4]
    refine gw_val (by kernel_rfl) (some 4) rfl (.bool true) (by kernel_rfl) ?_
    simp only [pu1, pu2, pu3, pu4]
    apply wpList_nil
    have HE := Lib.hid hV9
    clear hV9
    go_wp2_with fail
    go_ret
    exact ⟨rfl, HE.out⟩
  · skip
    rw [decide_eq_false (by omega)] at CLn
    have CB := big_is la lk A W1 HLA1.out HAL.out HAS.out
    by_cases hbig : 300 < A.length + szA A
    · skip
      rw [decide_eq_true (by omega)] at CB
      apply wp_region_lit
      refine gw_val (by kernel_rfl) (some 6) rfl (.slice ak L.length ck) (by kernel_rfl) ?_
      simp only [pu1, pu2, pu3, pu4]
      refine gw_build (by kernel_rfl) (some 7) rfl 35 1 #[(0, .tmp 6)] rfl #[(0, .slice ak L.length ck)] (by kernel_rfl) (.slice (some ⟨W.heap.size, 0, none⟩) 1 1) _ hor ?_
      simp only [pu1, pu2, pu3, pu4]
      refine gw_call (by kernel_rfl) (some 8) rfl 4 #[.slice (some ⟨W.heap.size, 0, none⟩) 1 1] (.bool false) (fun w' => W1 = w') (by kernel_rfl) (CLn) (fun V9 hV9 => ?_)
      subst hV9
      simp only [pu1, pu2, pu3, pu4]
      refine gw_val (by kernel_rfl) (some 9) rfl (.bool false) (by kernel_rfl) ?_
      simp only [pu1, pu2, pu3, pu4]
      refine gw_val (by kernel_rfl) (some 10) rfl (.pointer (some ⟨g0, 0, none⟩)) (by kernel_rfl) ?_
      simp only [pu1, pu2, pu3, pu4]
      refine gw_load (by kernel_rfl) (some 11) rfl 22 (.tmp 10) rfl ⟨g0, 0, none⟩ (.slice la A.length lk) (by kernel_rfl) (HX1.out.load (i := 0) rfl (by kernel_rfl)) ?_
      simp only [pu1, pu2, pu3, pu4]
      refine gw_call (by kernel_rfl) (some 12) rfl 5 #[.slice la A.length lk] (.bool true) (fun w' => Below W1.heap.size W1 w') (by kernel_rfl) (CB) (fun W2 hb2 => ?_)
      simp only [pu1, pu2, pu3, pu4]
      refine gw_val (by kernel_rfl) (some 13) rfl (.bool true) (by kernel_rfl) ?_
      simp only [pu1, pu2, pu3, pu4]
      apply wpList_nil
      have HB2 := Lib.hid (HB1.out.trans (hb2.mono HB1.out.size))
      have HCK2 := Lib.hid (HCK1.out.below hb2)
      have HLA2 := Lib.hid (HLA1.out.below hb2)
      have HX2 := Lib.hid (HX1.out.below HX1.out.lt hb2)
      clear CB CLn hor hb1 hb2 HB1 HCK1 HLA1 HX1 HB0 HCK HLA HX
      go_upto_region 2 with fail
      apply wp_region_lit
      refine gw_call (by kernel_rfl) (some 14) rfl 6 #[] (.bool true) (fun w' => Below w.heap.size w w') (by kernel_rfl) (HK.out W2 (HB2.out)) (fun V9 hV9 => ?_)
      simp only [pu1, pu2, pu3, pu4]
      refine gw_val (by kernel_rfl) (some 4) rfl (.bool true) (by kernel_rfl) ?_
      simp only [pu1, pu2, pu3, pu4]
      apply wpList_nil
      have HE := Lib.hid hV9
      clear hV9
      go_wp2_with fail
      go_ret
      exact ⟨rfl, HE.out⟩
    · skip
      rw [decide_eq_false (by omega)] at CB
      apply wp_region_lit
      refine gw_val (by kernel_rfl) (some 6) rfl (.slice ak L.length ck) (by kernel_rfl) ?_
      simp only [pu1, pu2, pu3, pu4]
      refine gw_build (by kernel_rfl) (some 7) rfl 35 1 #[(0, .tmp 6)] rfl #[(0, .slice ak L.length ck)] (by kernel_rfl) (.slice (some ⟨W.heap.size, 0, none⟩) 1 1) _ hor ?_
      simp only [pu1, pu2, pu3, pu4]
      refine gw_call (by kernel_rfl) (some 8) rfl 4 #[.slice (some ⟨W.heap.size, 0, none⟩) 1 1] (.bool false) (fun w' => W1 = w') (by kernel_rfl) (CLn) (fun V9 hV9 => ?_)
      subst hV9
      simp only [pu1, pu2, pu3, pu4]
      refine gw_val (by kernel_rfl) (some 9) rfl (.bool false) (by kernel_rfl) ?_
      simp only [pu1, pu2, pu3, pu4]
      refine gw_val (by kernel_rfl) (some 10) rfl (.pointer (some ⟨g0, 0, none⟩)) (by kernel_rfl) ?_
      simp only [pu1, pu2, pu3, pu4]
      refine gw_load (by kernel_rfl) (some 11) rfl 22 (.tmp 10) rfl ⟨g0, 0, none⟩ (.slice la A.length lk) (by kernel_rfl) (HX1.out.load (i := 0) rfl (by kernel_rfl)) ?_
      simp only [pu1, pu2, pu3, pu4]
      refine gw_call (by kernel_rfl) (some 12) rfl 5 #[.slice la A.length lk] (.bool false) (fun w' => Below W1.heap.size W1 w') (by kernel_rfl) (CB) (fun W2 hb2 => ?_)
      simp only [pu1, pu2, pu3, pu4]
      refine gw_val (by kernel_rfl) (some 13) rfl (.bool false) (by kernel_rfl) ?_
      simp only [pu1, pu2, pu3, pu4]
      apply wpList_nil
      have HB2 := Lib.hid (HB1.out.trans (hb2.mono HB1.out.size))
      have HCK2 := Lib.hid (HCK1.out.below hb2)
      have HLA2 := Lib.hid (HLA1.out.below hb2)
      have HX2 := Lib.hid (HX1.out.below HX1.out.lt hb2)
      clear CB CLn hor hb1 hb2 HB1 HCK1 HLA1 HX1 HB0 HCK HLA HX
      have HA300 : Hid (A.length ≤ 300 ∧ szA A ≤ 300) := Lib.hid ⟨by omega, by omega⟩
      have CM := made_any ak ck L W2 HCK2.out (by omega)
      go_upto_region 3 with fail
      apply wp_region_lit
      refine gw_val (by kernel_rfl) (some 15) rfl (.slice ak L.length ck) (by kernel_rfl) ?_
      simp only [pu1, pu2, pu3, pu4]
      refine gw_callE (by kernel_rfl) (some 16) rfl 7 #[.slice ak L.length ck] (fun v w' => ∃ ad kk P c, v = .agg (lgA ad (List.length P) kk c) ∧ Cs w' ad (acc P) ∧ P.length ≤ kk ∧ LQ P c ∧ Below W2.heap.size W2 w') (by kernel_rfl) (CM.mono fun e w' q => by obtain ⟨ad, kk, P, c, h1, h2⟩ := q; exact ⟨_, h1, ad, kk, P, c, rfl, h2⟩) (fun vv W3 hq => ?_)
      obtain ⟨ma, mk, P, mc, rfl, hcm, hkm, hlq, hb3⟩ := hq
      obtain ⟨W4, hst4, hb4, hbx4⟩ := new_lg W3 ma P.length mk mc
      simp only [pu1, pu2, pu3, pu4]
      refine run_to rfl (some 5) rfl (.pointer (some ⟨W3.heap.size, 0, none⟩)) (W3.alloc (.cells (lgA none 0 0 0) 25)) (by kernel_rfl) ?_
      simp only [pu1, pu2, pu3, pu4]
      refine gw_store (by kernel_rfl) rfl 25 (.tmp 5) (.tmp 16) rfl (.pointer (some ⟨W3.heap.size, 0, none⟩)) (.agg (lgA ma P.length mk mc)) (by kernel_rfl) (by kernel_rfl) (W4) (hst4) ?_
      apply wpList_nil
      obtain ⟨g7, hg7⟩ : ∃ g7, W3.heap.size = g7 := ⟨_, rfl⟩
      have hb34 := hb3.trans (hb4.mono hb3.size)
      have HB4 := Lib.hid (HB2.out.trans (hb34.mono HB2.out.size))
      have HLA4 := Lib.hid (HLA2.out.below hb34)
      have HX4 := Lib.hid (HX2.out.below HX2.out.lt hb34)
      have HX7 := Lib.hid hbx4
      have HMA := Lib.hid (hcm.below hb4)
      have HLQ := Lib.hid hlq
      have HG4 := Lib.hid (HG.out.below HG.out.size HB4.out)
      rw [hg7] at HX7 ⊢
      obtain ⟨S1, hS1⟩ : ∃ S, rootL (leavesL A lc) = S := ⟨_, rfl⟩
      obtain ⟨S2, hS2⟩ : ∃ S, rootL (leavesL P mc) = S := ⟨_, rfl⟩
      have HD1 := Lib.hid (fun (U : World) (hU : Below W4.heap.size W4 U) => q_digest la lk A lc U (HLA4.out.below hU) (Nat.le_trans HA300.out.1 (by decide)) HAW.out (fun x hx => Nat.le_trans (szA_mem x hx) (Nat.le_trans HA300.out.2 (by decide))) HLC.out (HG4.out.below HG4.out.size hU))
      have HR1 := Lib.hid (fun (U : World) (hU : Below W4.heap.size W4 U) => ref_digest la lk A lc U (HLA4.out.below hU) (Nat.le_trans HA300.out.1 (by decide)) HAW.out (fun x hx => Nat.le_trans (szA_mem x hx) (Nat.le_trans HA300.out.2 (by decide))) HLC.out (HG4.out.below HG4.out.size hU))
      have HD2 := Lib.hid (fun (U : World) (hU : Below W4.heap.size W4 U) => q_digest ma mk P mc U (HMA.out.below hU) (Nat.le_trans HLQ.out.l (by decide)) HLQ.out.w (fun x hx => Nat.le_trans (HLQ.out.z x hx) (by decide)) HLQ.out.c (HG4.out.below HG4.out.size hU))
      have HR2 := Lib.hid (fun (U : World) (hU : Below W4.heap.size W4 U) => ref_digest ma mk P mc U (HMA.out.below hU) (Nat.le_trans HLQ.out.l (by decide)) HLQ.out.w (fun x hx => Nat.le_trans (HLQ.out.z x hx) (by decide)) HLQ.out.c (HG4.out.below HG4.out.size hU))
      have HS1 : Hid (S1.length = 32) := Lib.hid (by rw [← hS1]; exact (root_byte _).1)
      have HS2 : Hid (S2.length = 32) := Lib.hid (by rw [← hS2]; exact (root_byte _).1)
      rw [hS1] at HD1 HR1
      rw [hS2] at HD2 HR2
      clear CM hcm hkm hlq hb3 hb4 hbx4 hb34 hg7 hst4 HB2 HCK2 HLA2 HX2 hS1 hS2 hbig hlong
      go_upto_region 4 with fail
      refine wp_region_class (C := fun U => Below W4.heap.size W4 U) (by kernel_rfl) (by kernel_rfl) ((Below.refl _ W4).drew) ?_
      refine gq_load (by kernel_rfl) (some 17) rfl 25 (.tmp 2) rfl ⟨g0, 0, none⟩ (.agg (lgA la A.length lk lc)) (by kernel_rfl) (fun U hU => load_lg (HX4.out.below HX4.out.lt hU)) ?_
      simp only [pu1, pu2, pu3, pu4]
      refine gq_call (by kernel_rfl) (some 18) rfl 8 #[.agg (lgA la A.length lk lc)] (.agg (w8s S1)) (fun U hU => by kernel_rfl) (fun U hU => (HD1.out U hU).mono fun e w' q => ⟨q.1, hU.trans (q.2.mono hU.size)⟩) ?_
      simp only [pu1, pu2, pu3, pu4]
      refine gq_load (by kernel_rfl) (some 19) rfl 25 (.tmp 2) rfl ⟨g0, 0, none⟩ (.agg (lgA la A.length lk lc)) (by kernel_rfl) (fun U hU => load_lg (HX4.out.below HX4.out.lt hU)) ?_
      simp only [pu1, pu2, pu3, pu4]
      refine gq_call (by kernel_rfl) (some 20) rfl 9 #[.agg (lgA la A.length lk lc)] (.agg (w8s S1)) (fun U hU => by kernel_rfl) (fun U hU => (HR1.out U hU).mono fun e w' q => ⟨q.1, hU.trans (q.2.mono hU.size)⟩) ?_
      simp only [pu1, pu2, pu3, pu4]
      refine gq_val (by kernel_rfl) (some 21) rfl (.bool true) (fun U hU => eql_kk rfl S1 HS1.out (by kernel_rfl) (by kernel_rfl) _) ?_
      simp only [pu1, pu2, pu3, pu4]
      refine gq_val (by kernel_rfl) (some 22) rfl (.bool true) (fun U hU => by kernel_rfl) ?_
      simp only [pu1, pu2, pu3, pu4]
      refine gq_load (by kernel_rfl) (some 23) rfl 25 (.tmp 5) rfl ⟨g7, 0, none⟩ (.agg (lgA ma P.length mk mc)) (by kernel_rfl) (fun U hU => load_lg (HX7.out.below HX7.out.lt hU)) ?_
      simp only [pu1, pu2, pu3, pu4]
      refine gq_call (by kernel_rfl) (some 24) rfl 8 #[.agg (lgA ma P.length mk mc)] (.agg (w8s S2)) (fun U hU => by kernel_rfl) (fun U hU => (HD2.out U hU).mono fun e w' q => ⟨q.1, hU.trans (q.2.mono hU.size)⟩) ?_
      simp only [pu1, pu2, pu3, pu4]
      refine gq_load (by kernel_rfl) (some 25) rfl 25 (.tmp 5) rfl ⟨g7, 0, none⟩ (.agg (lgA ma P.length mk mc)) (by kernel_rfl) (fun U hU => load_lg (HX7.out.below HX7.out.lt hU)) ?_
      simp only [pu1, pu2, pu3, pu4]
      refine gq_call (by kernel_rfl) (some 26) rfl 9 #[.agg (lgA ma P.length mk mc)] (.agg (w8s S2)) (fun U hU => by kernel_rfl) (fun U hU => (HR2.out U hU).mono fun e w' q => ⟨q.1, hU.trans (q.2.mono hU.size)⟩) ?_
      simp only [pu1, pu2, pu3, pu4]
      refine gq_val (by kernel_rfl) (some 27) rfl (.bool true) (fun U hU => eql_kk rfl S2 HS2.out (by kernel_rfl) (by kernel_rfl) _) ?_
      simp only [pu1, pu2, pu3, pu4]
      refine gq_val (by kernel_rfl) (some 28) rfl (.bool true) (fun U hU => by kernel_rfl) ?_
      simp only [pu1, pu2, pu3, pu4]
      refine gq_val (by kernel_rfl) (some 29) rfl (.bool true) (fun U hU => by kernel_rfl) ?_
      simp only [pu1, pu2, pu3, pu4]
      refine gq_call (by kernel_rfl) (some 30) rfl 6 #[] (.bool true) (fun U hU => by kernel_rfl) (fun U hU => (known_true U).mono fun e w' q => ⟨q.1, hU.trans (q.2.mono hU.size)⟩) ?_
      simp only [pu1, pu2, pu3, pu4]
      refine gq_val (by kernel_rfl) (some 31) rfl (.bool true) (fun U hU => by kernel_rfl) ?_
      simp only [pu1, pu2, pu3, pu4]
      refine gq_val (by kernel_rfl) (some 4) rfl (.bool true) (fun U hU => by kernel_rfl) ?_
      simp only [pu1, pu2, pu3, pu4]
      apply wpQuiet_nil
      intro V9 h9
      have HE := Lib.hid (HB4.out.trans (h9.mono HB4.out.size))
      clear h9
      go_wp2_with fail
      go_ret
      exact ⟨rfl, HE.out⟩
end Go.Proofs.YtebnlklodokhkaaDoor.Lg
