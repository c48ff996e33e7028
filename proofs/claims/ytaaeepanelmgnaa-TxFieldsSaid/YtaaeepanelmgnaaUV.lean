/-
  The reference's ValidateTx: contract.
-/
import Derived.Test.YtaaeepanelmgnaaTI
namespace Go.Proofs.Ytaaeepanelmgnaa
open Go.RowKit
set_option linter.unusedSimpArgs false
set_option linter.unusedVariables false

theorem eql_u0 {ρ : Operand → Value} {o : Oper} {x y : Operand} (ho : o.op = .binOp .eql 26 x y 26) (a : Int) {t : Bool} (ht : decide (a = 0) = t) (hx : ρ x = .int .u64 a) (hy : ρ y = .int .u64 0) (w : World) : (execOp ρ o).run Try.prog w = .ok (.value (.bool t)) w := by
  have e : (a == 0) = t := ht
  unfold execOp
  simp only [ho, hx, hy]
  go_simp
theorem gtr_n {ρ : Operand → Value} {o : Oper} {x y : Operand} (ho : o.op = .binOp .gtr 3 x y 3) (a b : Int) {t : Bool} (ht : decide (b < a) = t) (hx : ρ x = .int .i64 a) (hy : ρ y = .int .i64 b) (w : World) : (execOp ρ o).run Try.prog w = .ok (.value (.bool t)) w := by
  rw [← ht]
  unfold execOp
  simp only [ho, hx, hy]
  go_simp
set_option maxRecDepth 100000 in
set_option maxHeartbeats 8000000 in
theorem ref_validate (x : Txd) (a : Option Addr) (c : Nat) (w : World) (hR : Cs w a (tfc x.tr)) (h1 : x.snd.size ≤ 140737488355328) (h2 : x.memo.size ≤ 140737488355328) (h3 : ∀ y, y ∈ x.tr → y.1.size ≤ 140737488355328) :
    Calls Try.prog 18 #[.agg (txA x a c)] w fun e w' => e = .returned (.int .i64 (valX x)) ∧ Below w.heap.size w w' := by
  have hb0 : Below w.heap.size w (w.alloc (.cells (txA x a c) 29)) := (Below.refl _ w).alloc (Nat.le_refl _) _
  have hX0 : Bx (w.alloc (.cells (txA x a c) 29)) w.heap.size (txA x a c) 29 := heap_alloc_last w _
  have HA := Lib.hid (hR.below hb0)
  have CN := Lib.hid (fun V => ref_isname x.snd V h1)
  have CM := Lib.hid (fun V => ref_ismemo x.memo V h2)
  have HV : Hid (valX x = if isName (nums x.snd) = false then 10 else if x.gas = 0 then 15 else if isMemo (nums x.memo) = false then 11 else if x.tr.length = 0 ∨ 16 < x.tr.length then 3 else valT x.tr) := Lib.hid rfl
  have HT := Lib.hid (fun j (hj : j < x.tr.length) V => ref_isname (tfa x.tr j).1 V (h3 _ (by rw [tfa_get hj]; exact List.getElem_mem hj)))
  obtain ⟨snd, sq, gas, fee, memo, M⟩ := x
  simp only [txA] at hb0 hX0 HA ⊢
  dsimp only at *
  have HO := Lib.hid (Okt.zero M)
  generalize valX _ = r at *
  generalize isName (nums snd) = t1 at *
  generalize isMemo (nums memo) = t2 at *
  obtain ⟨n, hn⟩ : ∃ n, M.length = n := ⟨_, rfl⟩
  have HN := Lib.hid hn
  rw [hn] at hb0 hX0 HA HV ⊢
  clear hR h1 h2 h3
  go_enter Try.func18, Try.ntmps18
  go_upto_region 1 with fail
  change Code.wp _ _ _ _ (w.alloc (.cells #[.string snd, .int .u64 sq, .int .u64 gas, .int .u64 fee, .string memo, .slice a n c] 29))
  generalize w.alloc (.cells #[.string snd, .int .u64 sq, .int .u64 gas, .int .u64 fee, .string memo, .slice a n c] 29) = W at *
  obtain ⟨g0, hg0⟩ : ∃ g0, w.heap.size = g0 := ⟨_, rfl⟩
  have HB0 := Lib.hid hb0
  have HG0 := Lib.hid hg0
  rw [hg0] at hX0
  simp only [hg0]
  clear hb0 hg0 hn
  have CNW := CN.out W
  have CMW := CM.out W
  clear CN CM
  cases t1
  · skip
    apply wp_region_lit
    refine gw_val (by kernel_rfl) (some 6) rfl (.pointer (some ⟨g0, 0, none⟩)) (by kernel_rfl) ?_
    simp only [pu1, pu2, pu3, pu4]
    refine gw_load (by kernel_rfl) (some 7) rfl 9 (.tmp 6) rfl ⟨g0, 0, none⟩ (.string snd) (by kernel_rfl) (hX0.load (i := 0) rfl (by kernel_rfl)) ?_
    simp only [pu1, pu2, pu3, pu4]
    refine gw_call (by kernel_rfl) (some 8) rfl 11 #[.string snd] (.bool false) (fun w' => W = w') (by kernel_rfl) (CNW) (fun V hV => ?_)
    subst hV
    simp only [pu1, pu2, pu3, pu4]
    refine gw_val (by kernel_rfl) (some 9) rfl (.bool true) (by kernel_rfl) ?_
    simp only [pu1, pu2, pu3, pu4]
    refine gw_val (by kernel_rfl) (some 5) rfl (.bool true) (by kernel_rfl) ?_
    simp only [pu1, pu2, pu3, pu4]
    apply wpList_nil
    have HE : Hid (r = 10) := Lib.hid (by rw [HV.out]; rfl)
    clear HV
    go_upto_region 2 with fail
    apply wp_region_lit
    refine gw_val (by kernel_rfl) (some 2) rfl (.int .i64 10) (by kernel_rfl) ?_
    simp only [pu1, pu2, pu3, pu4]
    apply wpList_nil
    go_wp2_with fail
    go_ret
    rw [HE.out]
    exact ⟨rfl, HB0.out⟩
  · skip
    apply wp_region_lit
    refine gw_val (by kernel_rfl) (some 6) rfl (.pointer (some ⟨g0, 0, none⟩)) (by kernel_rfl) ?_
    simp only [pu1, pu2, pu3, pu4]
    refine gw_load (by kernel_rfl) (some 7) rfl 9 (.tmp 6) rfl ⟨g0, 0, none⟩ (.string snd) (by kernel_rfl) (hX0.load (i := 0) rfl (by kernel_rfl)) ?_
    simp only [pu1, pu2, pu3, pu4]
    refine gw_call (by kernel_rfl) (some 8) rfl 11 #[.string snd] (.bool true) (fun w' => W = w') (by kernel_rfl) (CNW) (fun V hV => ?_)
    subst hV
    simp only [pu1, pu2, pu3, pu4]
    refine gw_val (by kernel_rfl) (some 9) rfl (.bool false) (by kernel_rfl) ?_
    simp only [pu1, pu2, pu3, pu4]
    refine gw_val (by kernel_rfl) (some 5) rfl (.bool false) (by kernel_rfl) ?_
    simp only [pu1, pu2, pu3, pu4]
    apply wpList_nil
    clear CNW
    go_upto_region 3 with fail
    by_cases hgas : gas = 0
    · skip
      apply wp_region_lit
      refine gw_val (by kernel_rfl) (some 11) rfl (.pointer (some ⟨g0, 2, none⟩)) (by kernel_rfl) ?_
      simp only [pu1, pu2, pu3, pu4]
      refine gw_load (by kernel_rfl) (some 12) rfl 26 (.tmp 11) rfl ⟨g0, 2, none⟩ (.int .u64 gas) (by kernel_rfl) (hX0.load (i := 2) rfl (by kernel_rfl)) ?_
      simp only [pu1, pu2, pu3, pu4]
      refine gw_val (by kernel_rfl) (some 13) rfl (.bool true) (eql_u0 rfl gas (decide_eq_true hgas) (by kernel_rfl) (by kernel_rfl) _) ?_
      simp only [pu1, pu2, pu3, pu4]
      refine gw_val (by kernel_rfl) (some 10) rfl (.bool true) (by kernel_rfl) ?_
      simp only [pu1, pu2, pu3, pu4]
      apply wpList_nil
      have HE : Hid (r = 15) := Lib.hid (by rw [HV.out]; rw [if_neg (by decide), if_pos hgas])
      clear HV
      go_upto_region 4 with fail
      apply wp_region_lit
      refine gw_val (by kernel_rfl) (some 2) rfl (.int .i64 15) (by kernel_rfl) ?_
      simp only [pu1, pu2, pu3, pu4]
      apply wpList_nil
      go_wp2_with fail
      go_ret
      rw [HE.out]
      exact ⟨rfl, HB0.out⟩
    · skip
      apply wp_region_lit
      refine gw_val (by kernel_rfl) (some 11) rfl (.pointer (some ⟨g0, 2, none⟩)) (by kernel_rfl) ?_
      simp only [pu1, pu2, pu3, pu4]
      refine gw_load (by kernel_rfl) (some 12) rfl 26 (.tmp 11) rfl ⟨g0, 2, none⟩ (.int .u64 gas) (by kernel_rfl) (hX0.load (i := 2) rfl (by kernel_rfl)) ?_
      simp only [pu1, pu2, pu3, pu4]
      refine gw_val (by kernel_rfl) (some 13) rfl (.bool false) (eql_u0 rfl gas (decide_eq_false hgas) (by kernel_rfl) (by kernel_rfl) _) ?_
      simp only [pu1, pu2, pu3, pu4]
      refine gw_val (by kernel_rfl) (some 10) rfl (.bool false) (by kernel_rfl) ?_
      simp only [pu1, pu2, pu3, pu4]
      apply wpList_nil
      go_upto_region 5 with fail
      cases t2
      · skip
        apply wp_region_lit
        refine gw_val (by kernel_rfl) (some 15) rfl (.pointer (some ⟨g0, 4, none⟩)) (by kernel_rfl) ?_
        simp only [pu1, pu2, pu3, pu4]
        refine gw_load (by kernel_rfl) (some 16) rfl 9 (.tmp 15) rfl ⟨g0, 4, none⟩ (.string memo) (by kernel_rfl) (hX0.load (i := 4) rfl (by kernel_rfl)) ?_
        simp only [pu1, pu2, pu3, pu4]
        refine gw_call (by kernel_rfl) (some 17) rfl 13 #[.string memo] (.bool false) (fun w' => W = w') (by kernel_rfl) (CMW) (fun V hV => ?_)
        subst hV
        simp only [pu1, pu2, pu3, pu4]
        refine gw_val (by kernel_rfl) (some 18) rfl (.bool true) (by kernel_rfl) ?_
        simp only [pu1, pu2, pu3, pu4]
        refine gw_val (by kernel_rfl) (some 14) rfl (.bool true) (by kernel_rfl) ?_
        simp only [pu1, pu2, pu3, pu4]
        apply wpList_nil
        have HE : Hid (r = 11) := Lib.hid (by rw [HV.out]; rw [if_neg (by decide), if_neg hgas, if_pos rfl])
        clear HV
        go_upto_region 6 with fail
        apply wp_region_lit
        refine gw_val (by kernel_rfl) (some 2) rfl (.int .i64 11) (by kernel_rfl) ?_
        simp only [pu1, pu2, pu3, pu4]
        apply wpList_nil
        go_wp2_with fail
        go_ret
        rw [HE.out]
        exact ⟨rfl, HB0.out⟩
      · skip
        apply wp_region_lit
        refine gw_val (by kernel_rfl) (some 15) rfl (.pointer (some ⟨g0, 4, none⟩)) (by kernel_rfl) ?_
        simp only [pu1, pu2, pu3, pu4]
        refine gw_load (by kernel_rfl) (some 16) rfl 9 (.tmp 15) rfl ⟨g0, 4, none⟩ (.string memo) (by kernel_rfl) (hX0.load (i := 4) rfl (by kernel_rfl)) ?_
        simp only [pu1, pu2, pu3, pu4]
        refine gw_call (by kernel_rfl) (some 17) rfl 13 #[.string memo] (.bool true) (fun w' => W = w') (by kernel_rfl) (CMW) (fun V hV => ?_)
        subst hV
        simp only [pu1, pu2, pu3, pu4]
        refine gw_val (by kernel_rfl) (some 18) rfl (.bool false) (by kernel_rfl) ?_
        simp only [pu1, pu2, pu3, pu4]
        refine gw_val (by kernel_rfl) (some 14) rfl (.bool false) (by kernel_rfl) ?_
        simp only [pu1, pu2, pu3, pu4]
        apply wpList_nil
        clear CMW
        go_upto_region 7 with fail
        rcases (show n = 0 ∨ 16 < n ∨ (0 < n ∧ n ≤ 16) by omega) with hc | hc | hc
        · subst hc
          apply wp_region_lit
          refine gw_val (by kernel_rfl) (some 20) rfl (.pointer (some ⟨g0, 5, none⟩)) (by kernel_rfl) ?_
          simp only [pu1, pu2, pu3, pu4]
          refine gw_load (by kernel_rfl) (some 21) rfl 27 (.tmp 20) rfl ⟨g0, 5, none⟩ (.slice a 0 c) (by kernel_rfl) (hX0.load (i := 5) rfl (by kernel_rfl)) ?_
          simp only [pu1, pu2, pu3, pu4]
          refine gw_val (by kernel_rfl) (some 22) rfl (.int .i64 0) (by kernel_rfl) ?_
          simp only [pu1, pu2, pu3, pu4]
          refine gw_val (by kernel_rfl) (some 23) rfl (.bool true) (by kernel_rfl) ?_
          simp only [pu1, pu2, pu3, pu4]
          refine gw_val (by kernel_rfl) (some 24) rfl (.bool true) (by kernel_rfl) ?_
          simp only [pu1, pu2, pu3, pu4]
          with_reducible refine gw_not (by kernel_rfl) (some 25) rfl ?_
          simp only [pu1, pu2, pu3, pu4]
          with_reducible refine gw_not (by kernel_rfl) (some 26) rfl ?_
          simp only [pu1, pu2, pu3, pu4]
          with_reducible refine gw_not (by kernel_rfl) (some 27) rfl ?_
          simp only [pu1, pu2, pu3, pu4]
          with_reducible refine gw_not (by kernel_rfl) (some 28) rfl ?_
          simp only [pu1, pu2, pu3, pu4]
          refine gw_val (by kernel_rfl) (some 29) rfl (.bool true) (by kernel_rfl) ?_
          simp only [pu1, pu2, pu3, pu4]
          refine gw_val (by kernel_rfl) (some 19) rfl (.bool true) (by kernel_rfl) ?_
          simp only [pu1, pu2, pu3, pu4]
          apply wpList_nil
          have HE : Hid (r = 3) := Lib.hid (by rw [HV.out]; rw [if_neg (by decide), if_neg hgas, if_neg (by decide), if_pos (.inl rfl)])
          clear HV
          go_upto_region 8 with fail
          apply wp_region_lit
          refine gw_val (by kernel_rfl) (some 2) rfl (.int .i64 3) (by kernel_rfl) ?_
          simp only [pu1, pu2, pu3, pu4]
          apply wpList_nil
          go_wp2_with fail
          go_ret
          rw [HE.out]
          exact ⟨rfl, HB0.out⟩
        · skip
          apply wp_region_lit
          refine gw_val (by kernel_rfl) (some 20) rfl (.pointer (some ⟨g0, 5, none⟩)) (by kernel_rfl) ?_
          simp only [pu1, pu2, pu3, pu4]
          refine gw_load (by kernel_rfl) (some 21) rfl 27 (.tmp 20) rfl ⟨g0, 5, none⟩ (.slice a n c) (by kernel_rfl) (hX0.load (i := 5) rfl (by kernel_rfl)) ?_
          simp only [pu1, pu2, pu3, pu4]
          refine gw_val (by kernel_rfl) (some 22) rfl (.int .i64 n) (by kernel_rfl) ?_
          simp only [pu1, pu2, pu3, pu4]
          refine gw_val (by kernel_rfl) (some 23) rfl (.bool false) (eql_i0 rfl n (decide_eq_false (by omega)) (by kernel_rfl) (by kernel_rfl) _) ?_
          simp only [pu1, pu2, pu3, pu4]
          refine gw_val (by kernel_rfl) (some 24) rfl (.bool false) (by kernel_rfl) ?_
          simp only [pu1, pu2, pu3, pu4]
          refine gw_val (by kernel_rfl) (some 25) rfl (.pointer (some ⟨g0, 5, none⟩)) (by kernel_rfl) ?_
          simp only [pu1, pu2, pu3, pu4]
          refine gw_load (by kernel_rfl) (some 26) rfl 27 (.tmp 25) rfl ⟨g0, 5, none⟩ (.slice a n c) (by kernel_rfl) (hX0.load (i := 5) rfl (by kernel_rfl)) ?_
          simp only [pu1, pu2, pu3, pu4]
          refine gw_val (by kernel_rfl) (some 27) rfl (.int .i64 n) (by kernel_rfl) ?_
          simp only [pu1, pu2, pu3, pu4]
          refine gw_val (by kernel_rfl) (some 28) rfl (.bool true) (gtr_n rfl n 16 (decide_eq_true (by omega)) (by kernel_rfl) (by kernel_rfl) _) ?_
          simp only [pu1, pu2, pu3, pu4]
          refine gw_val (by kernel_rfl) (some 29) rfl (.bool true) (by kernel_rfl) ?_
          simp only [pu1, pu2, pu3, pu4]
          refine gw_val (by kernel_rfl) (some 19) rfl (.bool true) (by kernel_rfl) ?_
          simp only [pu1, pu2, pu3, pu4]
          apply wpList_nil
          have HE : Hid (r = 3) := Lib.hid (by rw [HV.out]; rw [if_neg (by decide), if_neg hgas, if_neg (by decide), if_pos (.inr hc)])
          clear HV
          go_upto_region 8 with fail
          apply wp_region_lit
          refine gw_val (by kernel_rfl) (some 2) rfl (.int .i64 3) (by kernel_rfl) ?_
          simp only [pu1, pu2, pu3, pu4]
          apply wpList_nil
          go_wp2_with fail
          go_ret
          rw [HE.out]
          exact ⟨rfl, HB0.out⟩
        · skip
          apply wp_region_lit
          refine gw_val (by kernel_rfl) (some 20) rfl (.pointer (some ⟨g0, 5, none⟩)) (by kernel_rfl) ?_
          simp only [pu1, pu2, pu3, pu4]
          refine gw_load (by kernel_rfl) (some 21) rfl 27 (.tmp 20) rfl ⟨g0, 5, none⟩ (.slice a n c) (by kernel_rfl) (hX0.load (i := 5) rfl (by kernel_rfl)) ?_
          simp only [pu1, pu2, pu3, pu4]
          refine gw_val (by kernel_rfl) (some 22) rfl (.int .i64 n) (by kernel_rfl) ?_
          simp only [pu1, pu2, pu3, pu4]
          refine gw_val (by kernel_rfl) (some 23) rfl (.bool false) (eql_i0 rfl n (decide_eq_false (by omega)) (by kernel_rfl) (by kernel_rfl) _) ?_
          simp only [pu1, pu2, pu3, pu4]
          refine gw_val (by kernel_rfl) (some 24) rfl (.bool false) (by kernel_rfl) ?_
          simp only [pu1, pu2, pu3, pu4]
          refine gw_val (by kernel_rfl) (some 25) rfl (.pointer (some ⟨g0, 5, none⟩)) (by kernel_rfl) ?_
          simp only [pu1, pu2, pu3, pu4]
          refine gw_load (by kernel_rfl) (some 26) rfl 27 (.tmp 25) rfl ⟨g0, 5, none⟩ (.slice a n c) (by kernel_rfl) (hX0.load (i := 5) rfl (by kernel_rfl)) ?_
          simp only [pu1, pu2, pu3, pu4]
          refine gw_val (by kernel_rfl) (some 27) rfl (.int .i64 n) (by kernel_rfl) ?_
          simp only [pu1, pu2, pu3, pu4]
          refine gw_val (by kernel_rfl) (some 28) rfl (.bool false) (gtr_n rfl n 16 (decide_eq_false (by omega)) (by kernel_rfl) (by kernel_rfl) _) ?_
          simp only [pu1, pu2, pu3, pu4]
          refine gw_val (by kernel_rfl) (some 29) rfl (.bool false) (by kernel_rfl) ?_
          simp only [pu1, pu2, pu3, pu4]
          refine gw_val (by kernel_rfl) (some 19) rfl (.bool false) (by kernel_rfl) ?_
          simp only [pu1, pu2, pu3, pu4]
          apply wpList_nil
          have HE : Hid (r = valT M) := Lib.hid (by rw [HV.out, if_neg (by decide), if_neg hgas, if_neg (by decide), if_neg (by omega)])
          clear HV
          go_upto_region 9 with fail
          apply wp_region_lit
          refine gw_val (by kernel_rfl) (some 30) rfl (.pointer (some ⟨g0, 5, none⟩)) (by kernel_rfl) ?_
          simp only [pu1, pu2, pu3, pu4]
          refine gw_load (by kernel_rfl) (some 31) rfl 27 (.tmp 30) rfl ⟨g0, 5, none⟩ (.slice a n c) (by kernel_rfl) (hX0.load (i := 5) rfl (by kernel_rfl)) ?_
          simp only [pu1, pu2, pu3, pu4]
          refine gw_val (by kernel_rfl) (some 32) rfl (.int .i64 n) (by kernel_rfl) ?_
          simp only [pu1, pu2, pu3, pu4]
          refine gw_val (by kernel_rfl) (some 33) rfl (.int .i64 0) (by kernel_rfl) ?_
          simp only [pu1, pu2, pu3, pu4]
          apply wpList_nil
          have HS0 := Lib.hid hX0
          clear hX0
          go_wp2_with fail
          go_loopg [33] n (fun gg s33 wx => ∃ j : Nat, s33 = .int .i64 j ∧ j ≤ n ∧ Hid (Okt M j) ∧ Hid (Below W.heap.size W wx) ∧ n - j = gg)
          case atStart => exact ⟨0, rfl, by omega, HO, Lib.hid (Below.refl _ _), by omega⟩
          case round =>
            obtain ⟨j, rfl, hj, HK, HB, hg⟩ := hrel
            clear HO
            by_cases hlt : j < n
            · have HD : Hid (decide ((j : Int) < (n : Int)) = true) := Lib.hid (decide_eq_true (by omega))
              have HG : Hid (n - (j + 1) = gk - 1 ∧ 0 < gk ∧ j + 1 ≤ n) := Lib.hid ⟨by omega, by omega, by omega⟩
              have hjm : j < M.length := by rw [HN.out]; exact hlt
              obtain ⟨b, off, rfl, -, hrx⟩ := tf_range (HA.out.below HB.out) (k := j) hjm
              have HLD := Lib.hid (load_tf hrx)
              have CT := Lib.hid (fun V => HT.out j hjm V)
              have HK1 := Lib.hid (HK.out.name hjm)
              have HK2 := Lib.hid (HK.out.zam hjm)
              have HK3 := Lib.hid (HK.out.step hjm)
              generalize tfa M j = y at *
              obtain ⟨V2, hst, hb2, hbx⟩ := new_tf wr y
              have HB2 := Lib.hid (HB.out.trans (hb2.mono HB.out.size))
              clear hrx hb2 HK HB hjm hg
              go_upto_region 10 with fail
              apply wp_region_lit
              refine gw_val (by kernel_rfl) (some 34) rfl (.bool true) (lss_n rfl j n HD.out (by kernel_rfl) (by kernel_rfl) _) ?_
              simp only [pu1, pu2, pu3, pu4]
              apply wpList_nil
              go_upto_region 11 with fail
              apply wp_region_lit
              refine gw_val (by kernel_rfl) (some 35) rfl (.pointer (some ⟨b, off + j * 2, none⟩)) (idx_tf b off n c j hlt _ _ _ rfl (by kernel_rfl) (by kernel_rfl)) ?_
              simp only [pu1, pu2, pu3, pu4]
              refine gw_load (by kernel_rfl) (some 36) rfl 58 (.tmp 35) rfl ⟨b, off + j * 2, none⟩ (.agg (tfA y)) (by kernel_rfl) HLD.out ?_
              simp only [pu1, pu2, pu3, pu4]
              refine run_to rfl (some 4) rfl (.pointer (some ⟨wr.heap.size, 0, none⟩)) (wr.alloc (.cells (tfA zTf) 58)) (by kernel_rfl) ?_
              simp only [pu1, pu2, pu3, pu4]
              refine gw_store (by kernel_rfl) rfl 58 (.tmp 4) (.tmp 36) rfl (.pointer (some ⟨wr.heap.size, 0, none⟩)) (.agg (tfA y)) (by kernel_rfl) (by kernel_rfl) V2 hst ?_
              apply wpList_nil
              obtain ⟨g4, hg4⟩ : ∃ g4, wr.heap.size = g4 := ⟨_, rfl⟩
              rw [hg4] at hbx ⊢
              clear hst hg4 HLD
              have CTV := CT.out V2
              clear CT
              generalize isName (nums y.1) = ty at *
              go_upto_region 12 with fail
              cases ty
              · skip
                apply wp_region_lit
                refine gw_val (by kernel_rfl) (some 37) rfl (.pointer (some ⟨g4, 0, none⟩)) (by kernel_rfl) ?_
                simp only [pu1, pu2, pu3, pu4]
                refine gw_load (by kernel_rfl) (some 38) rfl 9 (.tmp 37) rfl ⟨g4, 0, none⟩ (.string y.1) (by kernel_rfl) (hbx.load (i := 0) rfl (by kernel_rfl)) ?_
                simp only [pu1, pu2, pu3, pu4]
                refine gw_call (by kernel_rfl) (some 39) rfl 11 #[.string y.1] (.bool false) (fun w' => V2 = w') (by kernel_rfl) CTV (fun V hV => ?_)
                subst hV
                simp only [pu1, pu2, pu3, pu4]
                refine gw_val (by kernel_rfl) (some 40) rfl (.bool true) (by kernel_rfl) ?_
                simp only [pu1, pu2, pu3, pu4]
                apply wpList_nil
                have HE2 : Hid (r = 10) := Lib.hid (by rw [HE.out]; exact HK1.out rfl)
                have HB9 := Lib.hid (HB0.out.trans (HB2.out.mono HB0.out.size))
                clear HE HB2 HK1 HK2 HK3 HB0
                go_upto_region 13 with fail
                apply wp_region_lit
                refine gw_val (by kernel_rfl) (some 2) rfl (.int .i64 10) (by kernel_rfl) ?_
                simp only [pu1, pu2, pu3, pu4]
                apply wpList_nil
                go_wp2_with fail
                go_ret
                rw [HE2.out]
                exact ⟨rfl, HB9.out⟩
              · skip
                apply wp_region_lit
                refine gw_val (by kernel_rfl) (some 37) rfl (.pointer (some ⟨g4, 0, none⟩)) (by kernel_rfl) ?_
                simp only [pu1, pu2, pu3, pu4]
                refine gw_load (by kernel_rfl) (some 38) rfl 9 (.tmp 37) rfl ⟨g4, 0, none⟩ (.string y.1) (by kernel_rfl) (hbx.load (i := 0) rfl (by kernel_rfl)) ?_
                simp only [pu1, pu2, pu3, pu4]
                refine gw_call (by kernel_rfl) (some 39) rfl 11 #[.string y.1] (.bool true) (fun w' => V2 = w') (by kernel_rfl) CTV (fun V hV => ?_)
                subst hV
                simp only [pu1, pu2, pu3, pu4]
                refine gw_val (by kernel_rfl) (some 40) rfl (.bool false) (by kernel_rfl) ?_
                simp only [pu1, pu2, pu3, pu4]
                apply wpList_nil
                clear CTV
                go_upto_region 14 with fail
                by_cases h0 : y.2 = 0
                · skip
                  apply wp_region_lit
                  refine gw_val (by kernel_rfl) (some 41) rfl (.pointer (some ⟨g4, 1, none⟩)) (by kernel_rfl) ?_
                  simp only [pu1, pu2, pu3, pu4]
                  refine gw_load (by kernel_rfl) (some 42) rfl 26 (.tmp 41) rfl ⟨g4, 1, none⟩ (.int .u64 y.2) (by kernel_rfl) (hbx.load (i := 1) rfl (by kernel_rfl)) ?_
                  simp only [pu1, pu2, pu3, pu4]
                  refine gw_val (by kernel_rfl) (some 43) rfl (.bool true) (eql_u0 rfl y.2 (decide_eq_true h0) (by kernel_rfl) (by kernel_rfl) _) ?_
                  simp only [pu1, pu2, pu3, pu4]
                  apply wpList_nil
                  have HE2 : Hid (r = 12) := Lib.hid (by rw [HE.out]; exact HK2.out rfl h0)
                  have HB9 := Lib.hid (HB0.out.trans (HB2.out.mono HB0.out.size))
                  clear HE HB2 HK1 HK2 HK3 HB0
                  go_upto_region 15 with fail
                  apply wp_region_lit
                  refine gw_val (by kernel_rfl) (some 2) rfl (.int .i64 12) (by kernel_rfl) ?_
                  simp only [pu1, pu2, pu3, pu4]
                  apply wpList_nil
                  go_wp2_with fail
                  go_ret
                  rw [HE2.out]
                  exact ⟨rfl, HB9.out⟩
                · skip
                  apply wp_region_lit
                  refine gw_val (by kernel_rfl) (some 41) rfl (.pointer (some ⟨g4, 1, none⟩)) (by kernel_rfl) ?_
                  simp only [pu1, pu2, pu3, pu4]
                  refine gw_load (by kernel_rfl) (some 42) rfl 26 (.tmp 41) rfl ⟨g4, 1, none⟩ (.int .u64 y.2) (by kernel_rfl) (hbx.load (i := 1) rfl (by kernel_rfl)) ?_
                  simp only [pu1, pu2, pu3, pu4]
                  refine gw_val (by kernel_rfl) (some 43) rfl (.bool false) (eql_u0 rfl y.2 (decide_eq_false h0) (by kernel_rfl) (by kernel_rfl) _) ?_
                  simp only [pu1, pu2, pu3, pu4]
                  apply wpList_nil
                  have HK9 := Lib.hid (HK3.out rfl h0)
                  clear HK1 HK2 HK3 hbx
                  go_upto_region 16 with fail
                  apply wp_region_lit
                  refine gw_val (by kernel_rfl) (some 44) rfl (.int .i64 (j + 1 : Nat)) (add_one rfl j (by omega) (by kernel_rfl) _) ?_
                  simp only [pu1, pu2, pu3, pu4]
                  refine gw_val (by kernel_rfl) (some 33) rfl (.int .i64 (j + 1 : Nat)) (by kernel_rfl) ?_
                  simp only [pu1, pu2, pu3, pu4]
                  apply wpList_nil
                  go_wp2_with fail
                  go_roundg (gk - 1)
                  case measure => have := HG.out; omega
                  case rel => exact ⟨j + 1, rfl, HG.out.2.2, HK9, HB2, HG.out.1⟩
            · have HD : Hid (decide ((j : Int) < (n : Int)) = false) := Lib.hid (decide_eq_false (by omega))
              have HE2 : Hid (r = 0) := Lib.hid (by rw [HE.out]; exact HK.out.done (by rw [HN.out]; omega))
              have HB9 := Lib.hid (HB0.out.trans (HB.out.mono HB0.out.size))
              clear HE HB HK HB0 hg
              go_upto_region 10 with fail
              apply wp_region_lit
              refine gw_val (by kernel_rfl) (some 34) rfl (.bool false) (lss_n rfl j n HD.out (by kernel_rfl) (by kernel_rfl) _) ?_
              simp only [pu1, pu2, pu3, pu4]
              apply wpList_nil
              go_upto_region 17 with fail
              apply wp_region_lit
              refine gw_val (by kernel_rfl) (some 2) rfl (.int .i64 0) (by kernel_rfl) ?_
              simp only [pu1, pu2, pu3, pu4]
              apply wpList_nil
              go_wp2_with fail
              go_ret
              rw [HE2.out]
              exact ⟨rfl, HB9.out⟩
end Go.Proofs.Ytaaeepanelmgnaa
