/-
  The walk of the statement on asking, over what the program's functions are held to.
-/
import Derived.Test.YtjblfpifhbmfoaaCN
namespace Go.Proofs.Ytjblfpifhbmfoaa
open Go.RowKit
set_option linter.unusedSimpArgs false
set_option linter.unusedVariables false

/-- Different keys one after the other: the last z of the first i. -/
def stK (kf : Nat → List Int) (z i : Nat) : List (List Int) := ((List.range i).drop (i - z)).map kf
section
variable {kf : Nat → List Int} {z M : Nat}
theorem stK_len (i : Nat) : (stK kf z i).length = min i z := by
  unfold stK
  rw [List.length_map, List.length_drop, List.length_range]
  omega
theorem range_drop (i k j : Nat) : j ∈ (List.range i).drop k ↔ k ≤ j ∧ j < i := by
  rw [List.mem_iff_getElem]
  constructor
  · rintro ⟨m, hm, rfl⟩
    rw [List.length_drop, List.length_range] at hm
    simp
    omega
  · rintro ⟨h1, h2⟩
    exact ⟨j - k, by rw [List.length_drop, List.length_range]; omega, by simp; omega⟩
theorem stK_mem (hinj : ∀ i j, i < M → j < M → kf i = kf j → i = j) {i j : Nat} (hi : i ≤ M) (hj : j < M) : kf j ∈ stK kf z i ↔ i - z ≤ j ∧ j < i := by
  unfold stK
  rw [List.mem_map]
  constructor
  · rintro ⟨m, hm, e⟩
    have hm2 := (range_drop i (i - z) m).1 hm
    rw [hinj m j (by omega) hj e] at hm2
    exact hm2
  · intro h
    exact ⟨j, (range_drop _ _ _).2 h, rfl⟩
theorem stK_push (hinj : ∀ i j, i < M → j < M → kf i = kf j → i = j) {i : Nat} (hi : i < M) (hz : 1 ≤ z) : pushZ (stK kf z i) z (kf i) = (stK kf z (i + 1), true) := by
  have hn : idxL (kf i) (stK kf z i) 0 < 0 := by
    rcases Int.lt_or_le (idxL (kf i) (stK kf z i) 0) 0 with h | h
    · exact h
    · have := (stK_mem (z := z) hinj (Nat.le_of_lt hi) hi).1 ((idxL_mem (kf i) (stK kf z i) 0).2 h)
      omega
  have happ : stK kf z i ++ [kf i] = ((List.range (i + 1)).drop (i - z)).map kf := by
    unfold stK
    rw [List.range_succ, List.drop_append_of_le_length (by rw [List.length_range]; omega), List.map_append]
    rfl
  unfold pushZ
  rw [if_pos hn, stK_len, happ]
  congr 1
  unfold stK
  by_cases h : z < min i z + 1
  · rw [if_pos h, ← List.map_drop, List.drop_drop, show i - z + 1 = i + 1 - z by omega]
  · rw [if_neg h, show i - z = 0 by omega, show i + 1 - z = 0 by omega]
theorem stK_zero : stK kf z 0 = [] := by simp [stK]
end
theorem capN_nat {z : Nat} (h : z ≤ 1024) : (capN (z : Int)).toNat = z := by unfold capN; omega
theorem sub_int {ρ : Operand → Value} {o : Oper} {x : Operand} (ho : o.op = .binOp .sub 3 x (.const (.int .i64 1)) 3) (k : Int) (h0 : -1000000 ≤ k) (h1 : k ≤ 1000000) (hx : ρ x = .int .i64 k) (w : World) (hρ : ρ (.const (.int .i64 1)) = .int .i64 1 := by rfl) : (execOp ρ o).run Try.prog w = .ok (.value (.int .i64 (k - 1))) w := by
  unfold execOp
  simp only [ho, hx, hρ]
  simp [go_sem]
  rw [IntKind.wrap_i64]
  omega
def keyN (i : Nat) : List Int := keyL (i : Int)
theorem keyN_inj : ∀ i j, i < 256 → j < 256 → keyN i = keyN j → i = j := fun i j _ _ h => by have := keyL_inj h; omega
set_option maxRecDepth 100000 in
set_option maxHeartbeats 4000000 in
theorem has_core {R : CRep} (hC : CacheC R 11 17 14 21 19 20 15) (size asks : Int) (w : World) : Calls Try.prog 5 #[.int .i64 size, .int .i64 asks] w fun e w' => e = .returned (.bool true) ∧ Below w.heap.size w w' := by
  have C1 := mk_place size 8 w (by omega) (by omega)
  have hp1 := pl_range size 8 (by omega)
  have CA := fun V => mk_place asks 4 V (by omega) (by omega)
  have hp2 := pl_range asks 4 (by omega)
  have CK := fun V => known_true hC V
  generalize pl size 8 = p0 at *
  generalize pl asks 4 = q0 at *
  obtain ⟨p, rfl⟩ := Int.eq_ofNat_of_zero_le hp1.1
  obtain ⟨q, rfl⟩ := Int.eq_ofNat_of_zero_le hp2.1
  obtain ⟨z, hz⟩ : ∃ z, z = 1 + p := ⟨_, rfl⟩
  have hz1 : 1 ≤ z ∧ z ≤ 8 := by omega
  have HZ := Lib.hid hz
  have hp7 : p ≤ 7 := by omega
  have CN := kc_new hC w (z : Int) ⟨by omega, by omega⟩
  rw [capN_nat (by omega)] at CN
  have KO := fun V (i : Nat) (h : i ≤ 8) => key_of (i : Int) V (by omega) (by omega)
  have HS : Hid (∀ i, i ≤ 8 → pushZ (stK keyN z i) z (keyN i) = (stK keyN z (i + 1), true)) := Lib.hid fun i h => stK_push keyN_inj (by omega) hz1.1
  have HM : Hid (∀ i j, i ≤ 9 → j ≤ 8 → (keyN j ∈ stK keyN z i ↔ i - z ≤ j ∧ j < i)) := Lib.hid fun i j h1 h2 => stK_mem keyN_inj (by omega) (by omega)
  have HLn : Hid (∀ i, (stK keyN z i).length = min i z) := Lib.hid fun i => stK_len i
  have HK0 : Hid (stK keyN z 0 = []) := Lib.hid stK_zero
  have HKL : Hid (∀ i, (keyN i).length = 32) := Lib.hid fun i => keyL_len _
  have hO : ∀ i : Nat, keyL (i : Int) = keyN i := fun _ => rfl
  have KO2 := fun V (i : Nat) (h : i ≤ 8) => (by have := KO V i h; rw [hO i] at this; exact this : Calls Try.prog 12 #[.int .i64 i] V fun e w' => e = .returned (.agg (w8s (keyN i))) ∧ Below V.heap.size V w')
  generalize keyN = kf at *
  generalize hst : stK kf z = st at *
  clear hst hO KO hp1 hz
  go_enter Try.func5, Try.ntmps5
  go_upto_region 1 with fail
  apply wp_region_lit
  refine gw_val (by kernel_rfl) (some 8) rfl (.int .i64 size) (by kernel_rfl) ?_
  simp only [Act.put, List.setIfInBounds_toArray, List.set_cons_succ, List.set_cons_zero]
  refine gw_call (by kernel_rfl) (some 9) rfl 23 #[.int .i64 size, .int .i64 8] (.int .i64 p) (fun w' => w = w') (by kernel_rfl) C1 (fun W1 hW => ?_)
  subst hW
  simp only [Act.put, List.setIfInBounds_toArray, List.set_cons_succ, List.set_cons_zero]
  refine gw_val (by kernel_rfl) (some 10) rfl (.int .i64 (1 + p : Nat)) (add_nat rfl 1 p (by omega) (by kernel_rfl) (by kernel_rfl) _) ?_
  simp only [Act.put, List.setIfInBounds_toArray, List.set_cons_succ, List.set_cons_zero]
  rw [← HZ.out]
  refine gw_val (by kernel_rfl) (some 0) rfl (.int .i64 z) (by kernel_rfl) ?_
  simp only [Act.put, List.setIfInBounds_toArray, List.set_cons_succ, List.set_cons_zero]
  apply wpList_nil
  clear C1
  go_upto_region 2 with fail
  apply wp_region_lit
  refine gw_val (by kernel_rfl) (some 11) rfl (.int .i64 z) (by kernel_rfl) ?_
  simp only [Act.put, List.setIfInBounds_toArray, List.set_cons_succ, List.set_cons_zero]
  refine gw_callE (by kernel_rfl) (some 12) rfl 11 #[.int .i64 z] (fun v w' => ∃ g, v = .pointer (some ⟨g, 0, none⟩) ∧ KC R w g z [] w') (by kernel_rfl) (CN.mono fun e w' q => by obtain ⟨g, he, h⟩ := q; exact ⟨_, he, g, rfl, h⟩) (fun v V0 hq => ?_)
  obtain ⟨gc, rfl, h0⟩ := hq
  simp only [Act.put, List.setIfInBounds_toArray, List.set_cons_succ, List.set_cons_zero]
  refine gw_val (by kernel_rfl) (some 5) rfl (.pointer (some ⟨gc, 0, none⟩)) (by kernel_rfl) ?_
  simp only [Act.put, List.setIfInBounds_toArray, List.set_cons_succ, List.set_cons_zero]
  apply wpList_nil
  clear CN
  rw [← HK0.out] at h0
  have hw0 : Wc z (st 0) := by rw [HK0.out]; exact Wc.nil (by omega)
  go_upto_region 3 with fail
  apply wp_region_lit
  refine gw_val (by kernel_rfl) (some 13) rfl (.pointer (some ⟨gc, 0, none⟩)) (by kernel_rfl) ?_
  simp only [Act.put, List.setIfInBounds_toArray, List.set_cons_succ, List.set_cons_zero]
  refine gw_val (by kernel_rfl) (some 14) rfl (.bool false) (by kernel_rfl) ?_
  simp only [Act.put, List.setIfInBounds_toArray, List.set_cons_succ, List.set_cons_zero]
  apply wpList_nil
  go_upto_region 5 with fail
  apply wp_region_lit
  refine gw_val (by kernel_rfl) (some 6) rfl (.int .i64 0) (by kernel_rfl) ?_
  simp only [Act.put, List.setIfInBounds_toArray, List.set_cons_succ, List.set_cons_zero]
  apply wpList_nil
  go_wp2_with fail
  go_loopg [6] z (fun gg s6 wx => ∃ i : Nat, s6 = .int .i64 i ∧ i ≤ z ∧ KC R w gc z (st i) wx ∧ Wc z (st i) ∧ z - i = gg)
  case atStart => exact ⟨0, rfl, by omega, h0, hw0, rfl⟩
  case round =>
    obtain ⟨i, rfl, hi, hk, hw, hg⟩ := hrel
    clear h0 hw0
    by_cases hlt : i < z
    · have hd : decide (i < z) = true := decide_eq_true hlt
      have HG : Hid (z - (i + 1) = gk - 1 ∧ 0 < gk ∧ i + 1 ≤ z) := Lib.hid ⟨by omega, by omega, by omega⟩
      have CO := KO2 wr i (by omega)
      have hps := HS.out i (by omega)
      have hwn := hw.push (HKL.out i)
      rw [hps] at hwn
      have CP := fun V (h : KC R w gc z (st i) V) => h.push hC hw (HKL.out i)
      rw [hps] at CP
      clear hps hg CA CK
      go_upto_region 6 with fail
      apply wp_region_lit
      refine gw_val (by kernel_rfl) (some 15) rfl (.int .i64 i) (by kernel_rfl) ?_
      simp only [Act.put, List.setIfInBounds_toArray, List.set_cons_succ, List.set_cons_zero]
      refine gw_val (by kernel_rfl) (some 16) rfl (.int .i64 z) (by kernel_rfl) ?_
      simp only [Act.put, List.setIfInBounds_toArray, List.set_cons_succ, List.set_cons_zero]
      refine gw_val (by kernel_rfl) (some 17) rfl (.bool (decide (i < z))) (lt_nat rfl i z (by kernel_rfl) (by kernel_rfl) _) ?_
      simp only [Act.put, List.setIfInBounds_toArray, List.set_cons_succ, List.set_cons_zero]
      rw [hd]
      apply wpList_nil
      go_upto_region 8 with fail
      apply wp_region_lit
      refine gw_val (by kernel_rfl) (some 20) rfl (.pointer (some ⟨gc, 0, none⟩)) (by kernel_rfl) ?_
      simp only [Act.put, List.setIfInBounds_toArray, List.set_cons_succ, List.set_cons_zero]
      refine gw_val (by kernel_rfl) (some 21) rfl (.int .i64 i) (by kernel_rfl) ?_
      simp only [Act.put, List.setIfInBounds_toArray, List.set_cons_succ, List.set_cons_zero]
      refine gw_call (by kernel_rfl) (some 22) rfl 12 #[.int .i64 i] (.agg (w8s (kf i))) (KC R w gc z (st i)) (by kernel_rfl) (CO.mono fun e w' q => ⟨q.1, hk.below hC q.2⟩) (fun V1 h1 => ?_)
      simp only [Act.put, List.setIfInBounds_toArray, List.set_cons_succ, List.set_cons_zero]
      refine gw_call (by kernel_rfl) (some 23) rfl 17 #[.pointer (some ⟨gc, 0, none⟩), .agg (w8s (kf i))] (.bool true) (KC R w gc z (st (i + 1))) (by kernel_rfl) (CP V1 h1) (fun V2 h2 => ?_)
      simp only [Act.put, List.setIfInBounds_toArray, List.set_cons_succ, List.set_cons_zero]
      apply wpList_nil
      have HV := Lib.hid (And.intro h2 hwn)
      clear h1 h2 hk CO CP hw hwn
      go_upto_region 7 with fail
      apply wp_region_lit
      refine gw_val (by kernel_rfl) (some 18) rfl (.int .i64 i) (by kernel_rfl) ?_
      simp only [Act.put, List.setIfInBounds_toArray, List.set_cons_succ, List.set_cons_zero]
      refine gw_val (by kernel_rfl) (some 19) rfl (.int .i64 (i + 1 : Nat)) (add_one rfl i (by omega) (by kernel_rfl) _) ?_
      simp only [Act.put, List.setIfInBounds_toArray, List.set_cons_succ, List.set_cons_zero]
      refine gw_val (by kernel_rfl) (some 6) rfl (.int .i64 (i + 1 : Nat)) (by kernel_rfl) ?_
      simp only [Act.put, List.setIfInBounds_toArray, List.set_cons_succ, List.set_cons_zero]
      apply wpList_nil
      go_wp2_with fail
      go_roundg (gk - 1)
      case measure => have := HG.out; omega
      case rel => exact ⟨i + 1, rfl, HG.out.2.2, HV.out.1, HV.out.2, HG.out.1⟩
    · have hd : decide (i < z) = false := decide_eq_false hlt
      obtain rfl : i = z := by omega
      have hd : decide (i < i) = false := decide_eq_false hlt
      have CAw := CA wr
      clear hg hlt hi
      go_upto_region 6 with fail
      apply wp_region_lit
      refine gw_val (by kernel_rfl) (some 15) rfl (.int .i64 i) (by kernel_rfl) ?_
      simp only [Act.put, List.setIfInBounds_toArray, List.set_cons_succ, List.set_cons_zero]
      refine gw_val (by kernel_rfl) (some 16) rfl (.int .i64 i) (by kernel_rfl) ?_
      simp only [Act.put, List.setIfInBounds_toArray, List.set_cons_succ, List.set_cons_zero]
      refine gw_val (by kernel_rfl) (some 17) rfl (.bool (decide (i < i))) (lt_nat rfl i i (by kernel_rfl) (by kernel_rfl) _) ?_
      simp only [Act.put, List.setIfInBounds_toArray, List.set_cons_succ, List.set_cons_zero]
      rw [hd]
      apply wpList_nil
      go_upto_region 9 with fail
      apply wp_region_lit
      refine gw_val (by kernel_rfl) (some 24) rfl (.int .i64 asks) (by kernel_rfl) ?_
      simp only [Act.put, List.setIfInBounds_toArray, List.set_cons_succ, List.set_cons_zero]
      refine gw_call (by kernel_rfl) (some 25) rfl 23 #[.int .i64 asks, .int .i64 4] (.int .i64 q) (fun w' => wr = w') (by kernel_rfl) CAw (fun W1 hW => ?_)
      subst hW
      simp only [Act.put, List.setIfInBounds_toArray, List.set_cons_succ, List.set_cons_zero]
      refine gw_val (by kernel_rfl) (some 7) rfl (.int .i64 q) (by kernel_rfl) ?_
      simp only [Act.put, List.setIfInBounds_toArray, List.set_cons_succ, List.set_cons_zero]
      apply wpList_nil
      clear CAw CA
      generalize wr = wR at *
      go_wp2_with fail
      go_loopg [7] (q + 1) (fun gg s7 wx => ∃ j : Int, s7 = .int .i64 j ∧ -1 ≤ j ∧ j ≤ 3 ∧ KC R w gc i (st i) wx ∧ (j + 1).toNat = gg)
      case atStart => exact ⟨q, rfl, by omega, by omega, hk, by omega⟩
      case round =>
        obtain ⟨j, rfl, hj0, hj1, hk2, hg⟩ := hrel
        clear hk
        by_cases hj : 0 ≤ j
        · have hd2 : decide (0 ≤ j) = true := decide_eq_true hj
          have HG : Hid ((j - 1 + 1).toNat = gk - 1 ∧ 0 < gk ∧ -1 ≤ j - 1 ∧ j - 1 ≤ 3) := Lib.hid ⟨by omega, by omega, by omega, by omega⟩
          have CO := KO2 wr 0 (by omega)
          have hm : decide (kf 0 ∈ st i) = true := decide_eq_true ((HM.out i 0 (by omega) (by omega)).2 ⟨by omega, by omega⟩)
          have CHs := fun V (h : KC R w gc i (st i) V) => h.has hC hw (HKL.out 0)
          rw [hm] at CHs
          clear hm hg CK
          go_upto_region 10 with fail
          apply wp_region_lit
          refine gw_val (by kernel_rfl) (some 26) rfl (.int .i64 j) (by kernel_rfl) ?_
          simp only [Act.put, List.setIfInBounds_toArray, List.set_cons_succ, List.set_cons_zero]
          refine gw_val (by kernel_rfl) (some 27) rfl (.bool (decide (0 ≤ j))) (by kernel_rfl) ?_
          simp only [Act.put, List.setIfInBounds_toArray, List.set_cons_succ, List.set_cons_zero]
          rw [hd2]
          apply wpList_nil
          go_upto_region 12 with fail
          apply wp_region_lit
          refine gw_val (by kernel_rfl) (some 30) rfl (.pointer (some ⟨gc, 0, none⟩)) (by kernel_rfl) ?_
          simp only [Act.put, List.setIfInBounds_toArray, List.set_cons_succ, List.set_cons_zero]
          refine gw_call (by kernel_rfl) (some 31) rfl 12 #[.int .i64 0] (.agg (w8s (kf 0))) (KC R w gc i (st i)) (by kernel_rfl) (CO.mono fun e w' q => ⟨q.1, hk2.below hC q.2⟩) (fun V1 h1 => ?_)
          simp only [Act.put, List.setIfInBounds_toArray, List.set_cons_succ, List.set_cons_zero]
          refine gw_call (by kernel_rfl) (some 32) rfl 21 #[.pointer (some ⟨gc, 0, none⟩), .agg (w8s (kf 0))] (.bool true) (KC R w gc i (st i)) (by kernel_rfl) (CHs V1 h1) (fun V2 h2 => ?_)
          simp only [Act.put, List.setIfInBounds_toArray, List.set_cons_succ, List.set_cons_zero]
          refine gw_val (by kernel_rfl) (some 33) rfl (.bool false) (by kernel_rfl) ?_
          simp only [Act.put, List.setIfInBounds_toArray, List.set_cons_succ, List.set_cons_zero]
          apply wpList_nil
          have HV := Lib.hid h2
          clear h1 h2 hk2 CO CHs
          go_upto_region 11 with fail
          apply wp_region_lit
          refine gw_val (by kernel_rfl) (some 28) rfl (.int .i64 j) (by kernel_rfl) ?_
          simp only [Act.put, List.setIfInBounds_toArray, List.set_cons_succ, List.set_cons_zero]
          refine gw_val (by kernel_rfl) (some 29) rfl (.int .i64 (j - 1)) (sub_int rfl j (by omega) (by omega) (by kernel_rfl) _) ?_
          simp only [Act.put, List.setIfInBounds_toArray, List.set_cons_succ, List.set_cons_zero]
          refine gw_val (by kernel_rfl) (some 7) rfl (.int .i64 (j - 1)) (by kernel_rfl) ?_
          simp only [Act.put, List.setIfInBounds_toArray, List.set_cons_succ, List.set_cons_zero]
          apply wpList_nil
          go_wp2_with fail
          go_roundg (gk - 1)
          case measure => have := HG.out; omega
          case rel => exact ⟨j - 1, rfl, HG.out.2.2.1, HG.out.2.2.2, HV.out, HG.out.1⟩
        · have hd2 : decide (0 ≤ j) = false := decide_eq_false hj
          have CO := fun V => KO2 V i (by omega)
          have C0 := fun V => KO2 V 0 (by omega)
          have hps := HS.out i (by omega)
          have hwn := hw.push (HKL.out i)
          rw [hps] at hwn
          have CP := fun V (h : KC R w gc i (st i) V) => h.push hC hw (HKL.out i)
          rw [hps] at CP
          have hm0 : decide (kf 0 ∈ st (i + 1)) = false := decide_eq_false (fun h => by have := (HM.out (i + 1) 0 (by omega) (by omega)).1 h; omega)
          have hmi : decide (kf i ∈ st (i + 1)) = true := decide_eq_true ((HM.out (i + 1) i (by omega) (by omega)).2 ⟨by omega, by omega⟩)
          have H0 := fun V (h : KC R w gc i (st (i + 1)) V) => h.has hC hwn (HKL.out 0)
          have Hi := fun V (h : KC R w gc i (st (i + 1)) V) => h.has hC hwn (HKL.out i)
          rw [hm0] at H0
          rw [hmi] at Hi
          have HLe := fun V (h : KC R w gc i (st (i + 1)) V) => h.len hC hwn
          rw [show (st (i + 1)).length = i by rw [HLn.out]; omega] at HLe
          clear hps hm0 hmi hg hj hj0 hj1 hw hwn
          go_upto_region 10 with fail
          apply wp_region_lit
          refine gw_val (by kernel_rfl) (some 26) rfl (.int .i64 j) (by kernel_rfl) ?_
          simp only [Act.put, List.setIfInBounds_toArray, List.set_cons_succ, List.set_cons_zero]
          refine gw_val (by kernel_rfl) (some 27) rfl (.bool (decide (0 ≤ j))) (by kernel_rfl) ?_
          simp only [Act.put, List.setIfInBounds_toArray, List.set_cons_succ, List.set_cons_zero]
          rw [hd2]
          apply wpList_nil
          go_upto_region 14 with fail
          apply wp_region_lit
          refine gw_val (by kernel_rfl) (some 34) rfl (.pointer (some ⟨gc, 0, none⟩)) (by kernel_rfl) ?_
          simp only [Act.put, List.setIfInBounds_toArray, List.set_cons_succ, List.set_cons_zero]
          refine gw_val (by kernel_rfl) (some 35) rfl (.int .i64 i) (by kernel_rfl) ?_
          simp only [Act.put, List.setIfInBounds_toArray, List.set_cons_succ, List.set_cons_zero]
          refine gw_call (by kernel_rfl) (some 36) rfl 12 #[.int .i64 i] (.agg (w8s (kf i))) (KC R w gc i (st i)) (by kernel_rfl) ((CO wr).mono fun e w' q => ⟨q.1, hk2.below hC q.2⟩) (fun V1 h1 => ?_)
          simp only [Act.put, List.setIfInBounds_toArray, List.set_cons_succ, List.set_cons_zero]
          refine gw_call (by kernel_rfl) (some 37) rfl 17 #[.pointer (some ⟨gc, 0, none⟩), .agg (w8s (kf i))] (.bool true) (KC R w gc i (st (i + 1))) (by kernel_rfl) (CP V1 h1) (fun V2 h2 => ?_)
          simp only [Act.put, List.setIfInBounds_toArray, List.set_cons_succ, List.set_cons_zero]
          apply wpList_nil
          clear h1 hk2 CP
          go_upto_region 15 with fail
          apply wp_region_lit
          refine gw_val (by kernel_rfl) (some 38) rfl (.pointer (some ⟨gc, 0, none⟩)) (by kernel_rfl) ?_
          simp only [Act.put, List.setIfInBounds_toArray, List.set_cons_succ, List.set_cons_zero]
          refine gw_call (by kernel_rfl) (some 39) rfl 12 #[.int .i64 0] (.agg (w8s (kf 0))) (KC R w gc i (st (i + 1))) (by kernel_rfl) ((C0 V2).mono fun e w' q => ⟨q.1, h2.below hC q.2⟩) (fun V3 h3 => ?_)
          simp only [Act.put, List.setIfInBounds_toArray, List.set_cons_succ, List.set_cons_zero]
          refine gw_call (by kernel_rfl) (some 40) rfl 21 #[.pointer (some ⟨gc, 0, none⟩), .agg (w8s (kf 0))] (.bool false) (KC R w gc i (st (i + 1))) (by kernel_rfl) (H0 V3 h3) (fun V4 h4 => ?_)
          simp only [Act.put, List.setIfInBounds_toArray, List.set_cons_succ, List.set_cons_zero]
          refine gw_val (by kernel_rfl) (some 41) rfl (.bool true) (by kernel_rfl) ?_
          simp only [Act.put, List.setIfInBounds_toArray, List.set_cons_succ, List.set_cons_zero]
          refine gw_val (by kernel_rfl) (some 42) rfl (.bool true) (by kernel_rfl) ?_
          simp only [Act.put, List.setIfInBounds_toArray, List.set_cons_succ, List.set_cons_zero]
          refine gw_val (by kernel_rfl) (some 43) rfl (.pointer (some ⟨gc, 0, none⟩)) (by kernel_rfl) ?_
          simp only [Act.put, List.setIfInBounds_toArray, List.set_cons_succ, List.set_cons_zero]
          refine gw_val (by kernel_rfl) (some 44) rfl (.int .i64 i) (by kernel_rfl) ?_
          simp only [Act.put, List.setIfInBounds_toArray, List.set_cons_succ, List.set_cons_zero]
          refine gw_call (by kernel_rfl) (some 45) rfl 12 #[.int .i64 i] (.agg (w8s (kf i))) (KC R w gc i (st (i + 1))) (by kernel_rfl) ((CO V4).mono fun e w' q => ⟨q.1, h4.below hC q.2⟩) (fun V5 h5 => ?_)
          simp only [Act.put, List.setIfInBounds_toArray, List.set_cons_succ, List.set_cons_zero]
          refine gw_call (by kernel_rfl) (some 46) rfl 21 #[.pointer (some ⟨gc, 0, none⟩), .agg (w8s (kf i))] (.bool true) (KC R w gc i (st (i + 1))) (by kernel_rfl) (Hi V5 h5) (fun V6 h6 => ?_)
          simp only [Act.put, List.setIfInBounds_toArray, List.set_cons_succ, List.set_cons_zero]
          refine gw_val (by kernel_rfl) (some 47) rfl (.bool true) (by kernel_rfl) ?_
          simp only [Act.put, List.setIfInBounds_toArray, List.set_cons_succ, List.set_cons_zero]
          refine gw_val (by kernel_rfl) (some 48) rfl (.bool true) (by kernel_rfl) ?_
          simp only [Act.put, List.setIfInBounds_toArray, List.set_cons_succ, List.set_cons_zero]
          refine gw_val (by kernel_rfl) (some 49) rfl (.pointer (some ⟨gc, 0, none⟩)) (by kernel_rfl) ?_
          simp only [Act.put, List.setIfInBounds_toArray, List.set_cons_succ, List.set_cons_zero]
          refine gw_call (by kernel_rfl) (some 50) rfl 20 #[.pointer (some ⟨gc, 0, none⟩)] (.int .i64 i) (KC R w gc i (st (i + 1))) (by kernel_rfl) (HLe V6 h6) (fun V7 h7 => ?_)
          simp only [Act.put, List.setIfInBounds_toArray, List.set_cons_succ, List.set_cons_zero]
          refine gw_val (by kernel_rfl) (some 51) rfl (.int .i64 i) (by kernel_rfl) ?_
          simp only [Act.put, List.setIfInBounds_toArray, List.set_cons_succ, List.set_cons_zero]
          refine gw_val (by kernel_rfl) (some 52) rfl (.bool ((i : Int) == (i : Int))) (by kernel_rfl) ?_
          rw [show ((i : Int) == (i : Int)) = true by simp]
          simp only [Act.put, List.setIfInBounds_toArray, List.set_cons_succ, List.set_cons_zero]
          refine gw_val (by kernel_rfl) (some 53) rfl (.bool true) (by kernel_rfl) ?_
          simp only [Act.put, List.setIfInBounds_toArray, List.set_cons_succ, List.set_cons_zero]
          refine gw_val (by kernel_rfl) (some 54) rfl (.bool true) (by kernel_rfl) ?_
          simp only [Act.put, List.setIfInBounds_toArray, List.set_cons_succ, List.set_cons_zero]
          refine gw_call (by kernel_rfl) (some 55) rfl 8 #[] (.bool true) (fun w' => Below V7.heap.size V7 w') (by kernel_rfl) (CK V7) (fun V8 h8 => ?_)
          simp only [Act.put, List.setIfInBounds_toArray, List.set_cons_succ, List.set_cons_zero]
          refine gw_val (by kernel_rfl) (some 56) rfl (.bool true) (by kernel_rfl) ?_
          simp only [Act.put, List.setIfInBounds_toArray, List.set_cons_succ, List.set_cons_zero]
          refine gw_val (by kernel_rfl) (some 4) rfl (.bool true) (by kernel_rfl) ?_
          simp only [Act.put, List.setIfInBounds_toArray, List.set_cons_succ, List.set_cons_zero]
          apply wpList_nil
          have HB := Lib.hid (h7.bel.trans (h8.mono h7.bel.size))
          clear h2 h3 h4 h5 h6 h7 h8 CO C0 H0 Hi HLe CK
          go_wp2_with fail
          go_ret
          exact ⟨rfl, HB.out⟩
end Go.Proofs.Ytjblfpifhbmfoaa
