/-
  The walk of the statement on limits, over what the program's functions are held to.
-/
import Derived.Test.YtjblfpifhbmfoaaCH
import Derived.Test.YtjblfpifhbmfoaaCD
namespace Go.Proofs.Ytjblfpifhbmfoaa
open Go.RowKit
set_option linter.unusedSimpArgs false
set_option linter.unusedVariables false

def keyM (i : Nat) : List Int := ((i % 256 : Nat) : Int) :: ((i / 256 % 256 : Nat) : Int) :: List.replicate 30 0
theorem keyM_len (i : Nat) : (keyM i).length = 32 := by simp [keyM]
theorem keyM_inj : ∀ i j, i < 65536 → j < 65536 → keyM i = keyM j → i = j := fun i j hi hj h => by
  unfold keyM at h
  simp only [List.cons.injEq, and_true] at h
  omega
theorem conv_nat {ρ : Operand → Value} {o : Oper} {x : Operand} (ho : o.op = .convert 3 5 x) (n : Nat) (hx : ρ x = .int .i64 n) (w : World) : (execOp ρ o).run Try.prog w = .ok (.value (.int .u8 (n % 256 : Nat))) w := by
  have e : IntKind.u8.wrap (n : Int) = ((n % 256 : Nat) : Int) := by
    simp [IntKind.wrap, IntKind.bits, IntKind.signed]
  unfold execOp
  simp only [ho, hx]
  simp [go_sem, e]
theorem shr_nat {ρ : Operand → Value} {o : Oper} {x : Operand} (ho : o.op = .binOp .shr 3 x (.const (.int .u64 8)) 48) (n : Nat) (hn : n ≤ 1000000) (hx : ρ x = .int .i64 n) (w : World) (hρ : ρ (.const (.int .u64 8)) = .int .u64 8 := by rfl) : (execOp ρ o).run Try.prog w = .ok (.value (.int .i64 (n / 256 : Nat))) w := by
  have e : IntKind.i64.wrap ((n : Int) / 256) = ((n / 256 : Nat) : Int) := by rw [IntKind.wrap_i64]; omega
  unfold execOp
  simp only [ho, hx, hρ]
  simp [go_sem]
set_option maxRecDepth 100000 in
set_option maxHeartbeats 4000000 in
theorem limits_core {R : CRep} (hC : CacheC R 11 17 14 21 19 20 15) (hN : NilCC 17 14 21 19 20 15) (x : Int) (w : World) : Calls Try.prog 6 #[.int .i64 x] w fun e w' => e = .returned (.bool true) ∧ Below w.heap.size w w' := by
  have CA := fun V => mk_place x 4 V (by omega) (by omega)
  have hp1 := pl_range x 4 (by omega)
  have CK := fun V => known_true hC V
  generalize pl x 4 = p0 at *
  obtain ⟨p, rfl⟩ := Int.eq_ofNat_of_zero_le hp1.1
  have hp3 : p ≤ 3 := by omega
  obtain ⟨s, hs⟩ : ∃ s, s = 1023 + p := ⟨_, rfl⟩
  have HZ := Lib.hid hs
  have hs1 : 1023 ≤ s ∧ s ≤ 1026 := by omega
  have CN := kc_new hC w (s : Int) ⟨by omega, by omega⟩
  obtain ⟨z, hz⟩ : ∃ z, z = min s 1024 := ⟨_, rfl⟩
  have hz1 : 1 ≤ z ∧ z ≤ 1024 := by omega
  rw [show (capN (s : Int)).toNat = z by unfold capN; omega] at CN
  have HMin : Hid (min (s : Int) 1024 = (z : Int)) := Lib.hid (by omega)
  have K1 := fun V => key_of 1 V (by omega) (by omega)
  have l1 := keyL_len 1
  generalize keyL 1 = k1 at *
  have HS : Hid (∀ i, i ≤ 1026 → pushZ (stK keyM z i) z (keyM i) = (stK keyM z (i + 1), true)) := Lib.hid fun i h => stK_push keyM_inj (by omega) hz1.1
  have HLn : Hid ((stK keyM z 1026).length = z) := Lib.hid (by rw [stK_len]; omega)
  have HK0 : Hid (stK keyM z 0 = []) := Lib.hid stK_zero
  generalize hst : stK keyM z = st at *
  clear hst hp1 hs hz
  go_enter Try.func6, Try.ntmps6
  go_upto_region 1 with fail
  apply wp_region_lit
  refine gw_val (by kernel_rfl) (some 6) rfl (.int .i64 x) (by kernel_rfl) ?_
  simp only [Act.put, List.setIfInBounds_toArray, List.set_cons_succ, List.set_cons_zero]
  refine gw_call (by kernel_rfl) (some 7) rfl 23 #[.int .i64 x, .int .i64 4] (.int .i64 p) (fun w' => w = w') (by kernel_rfl) (CA w) (fun W1 hW => ?_)
  subst hW
  simp only [Act.put, List.setIfInBounds_toArray, List.set_cons_succ, List.set_cons_zero]
  refine gw_val (by kernel_rfl) (some 8) rfl (.int .i64 (1023 + p : Nat)) (add_nat rfl 1023 p (by omega) (by kernel_rfl) (by kernel_rfl) _) ?_
  simp only [Act.put, List.setIfInBounds_toArray, List.set_cons_succ, List.set_cons_zero]
  rw [← HZ.out]
  refine gw_callE (by kernel_rfl) (some 9) rfl 11 #[.int .i64 s] (fun v w' => ∃ g, v = .pointer (some ⟨g, 0, none⟩) ∧ KC R w g z [] w') (by kernel_rfl) (CN.mono fun e w' q => by obtain ⟨g, he, h⟩ := q; exact ⟨_, he, g, rfl, h⟩) (fun v V0 hq => ?_)
  obtain ⟨gc, rfl, h0⟩ := hq
  simp only [Act.put, List.setIfInBounds_toArray, List.set_cons_succ, List.set_cons_zero]
  refine gw_val (by kernel_rfl) (some 3) rfl (.pointer (some ⟨gc, 0, none⟩)) (by kernel_rfl) ?_
  simp only [Act.put, List.setIfInBounds_toArray, List.set_cons_succ, List.set_cons_zero]
  apply wpList_nil
  clear CN
  rw [← HK0.out] at h0
  have hw0 : Wc z (st 0) := by rw [HK0.out]; exact Wc.nil hz1.2
  go_upto_region 2 with fail
  apply wp_region_lit
  refine gw_val (by kernel_rfl) (some 10) rfl (.pointer (some ⟨gc, 0, none⟩)) (by kernel_rfl) ?_
  simp only [Act.put, List.setIfInBounds_toArray, List.set_cons_succ, List.set_cons_zero]
  refine gw_val (by kernel_rfl) (some 11) rfl (.bool false) (by kernel_rfl) ?_
  simp only [Act.put, List.setIfInBounds_toArray, List.set_cons_succ, List.set_cons_zero]
  apply wpList_nil
  go_upto_region 4 with fail
  apply wp_region_lit
  refine gw_val (by kernel_rfl) (some 4) rfl (.int .i64 0) (by kernel_rfl) ?_
  simp only [Act.put, List.setIfInBounds_toArray, List.set_cons_succ, List.set_cons_zero]
  apply wpList_nil
  go_wp2_with fail
  go_loopg [4] 1026 (fun gg s4 wx => ∃ i : Nat, s4 = .int .i64 i ∧ i ≤ 1026 ∧ KC R w gc z (st i) wx ∧ Wc z (st i) ∧ 1026 - i = gg)
  case atStart => exact ⟨0, rfl, by omega, h0, hw0, rfl⟩
  case round =>
    obtain ⟨i, rfl, hi, hk, hw, hg⟩ := hrel
    clear h0 hw0
    by_cases hlt : i < 1026
    · have hd : decide ((i : Int) < 1026) = true := decide_eq_true (by omega)
      have HG : Hid (1026 - (i + 1) = gk - 1 ∧ 0 < gk ∧ i + 1 ≤ 1026) := Lib.hid ⟨by omega, by omega, by omega⟩
      have hps := HS.out i (by omega)
      have hwn := hw.push (keyM_len i)
      rw [hps] at hwn
      have CP := hk.push hC hw (keyM_len i)
      rw [hps] at CP
      clear hps hg CA CK
      go_upto_region 5 with fail
      apply wp_region_lit
      refine gw_val (by kernel_rfl) (some 12) rfl (.int .i64 i) (by kernel_rfl) ?_
      simp only [Act.put, List.setIfInBounds_toArray, List.set_cons_succ, List.set_cons_zero]
      refine gw_val (by kernel_rfl) (some 13) rfl (.bool (decide ((i : Int) < 1026))) (by kernel_rfl) ?_
      simp only [Act.put, List.setIfInBounds_toArray, List.set_cons_succ, List.set_cons_zero]
      rw [hd]
      apply wpList_nil
      go_upto_region 7 with fail
      apply wp_region_lit
      refine gw_val (by kernel_rfl) (some 16) rfl (.pointer (some ⟨gc, 0, none⟩)) (by kernel_rfl) ?_
      simp only [Act.put, List.setIfInBounds_toArray, List.set_cons_succ, List.set_cons_zero]
      refine gw_val (by kernel_rfl) (some 17) rfl (.int .i64 i) (by kernel_rfl) ?_
      simp only [Act.put, List.setIfInBounds_toArray, List.set_cons_succ, List.set_cons_zero]
      refine gw_val (by kernel_rfl) (some 18) rfl (.int .u8 (i % 256 : Nat)) (conv_nat rfl i (by kernel_rfl) _) ?_
      simp only [Act.put, List.setIfInBounds_toArray, List.set_cons_succ, List.set_cons_zero]
      refine gw_val (by kernel_rfl) (some 19) rfl (.int .i64 i) (by kernel_rfl) ?_
      simp only [Act.put, List.setIfInBounds_toArray, List.set_cons_succ, List.set_cons_zero]
      refine gw_val (by kernel_rfl) (some 20) rfl (.int .i64 (i / 256 : Nat)) (shr_nat rfl i (by omega) (by kernel_rfl) _) ?_
      simp only [Act.put, List.setIfInBounds_toArray, List.set_cons_succ, List.set_cons_zero]
      refine gw_val (by kernel_rfl) (some 21) rfl (.int .u8 (i / 256 % 256 : Nat)) (conv_nat rfl (i / 256) (by kernel_rfl) _) ?_
      simp only [Act.put, List.setIfInBounds_toArray, List.set_cons_succ, List.set_cons_zero]
      refine gw_val (by kernel_rfl) (some 22) rfl (.agg (w8s (keyM i))) (by kernel_rfl) ?_
      simp only [Act.put, List.setIfInBounds_toArray, List.set_cons_succ, List.set_cons_zero]
      refine gw_call (by kernel_rfl) (some 23) rfl 17 #[.pointer (some ⟨gc, 0, none⟩), .agg (w8s (keyM i))] (.bool true) (KC R w gc z (st (i + 1))) (by kernel_rfl) CP (fun V2 h2 => ?_)
      simp only [Act.put, List.setIfInBounds_toArray, List.set_cons_succ, List.set_cons_zero]
      refine gw_val (by kernel_rfl) (some 24) rfl (.bool false) (by kernel_rfl) ?_
      simp only [Act.put, List.setIfInBounds_toArray, List.set_cons_succ, List.set_cons_zero]
      apply wpList_nil
      have HV := Lib.hid (And.intro h2 hwn)
      clear h2 hk CP hw hwn
      go_upto_region 6 with fail
      apply wp_region_lit
      refine gw_val (by kernel_rfl) (some 14) rfl (.int .i64 i) (by kernel_rfl) ?_
      simp only [Act.put, List.setIfInBounds_toArray, List.set_cons_succ, List.set_cons_zero]
      refine gw_val (by kernel_rfl) (some 15) rfl (.int .i64 (i + 1 : Nat)) (add_one rfl i (by omega) (by kernel_rfl) _) ?_
      simp only [Act.put, List.setIfInBounds_toArray, List.set_cons_succ, List.set_cons_zero]
      refine gw_val (by kernel_rfl) (some 4) rfl (.int .i64 (i + 1 : Nat)) (by kernel_rfl) ?_
      simp only [Act.put, List.setIfInBounds_toArray, List.set_cons_succ, List.set_cons_zero]
      apply wpList_nil
      go_wp2_with fail
      go_roundg (gk - 1)
      case measure => have := HG.out; omega
      case rel => exact ⟨i + 1, rfl, HG.out.2.2, HV.out.1, HV.out.2, HG.out.1⟩
    · have hd : decide ((i : Int) < 1026) = false := decide_eq_false (by omega)
      have hie : i = 1026 := by omega
      have hLL : (st i).length = z := by rw [hie]; exact HLn.out
      have HLe := fun V (h : KC R w gc z (st i) V) => h.len hC hw
      rw [hLL] at HLe
      clear hg hlt hi hLL hie hw
      go_upto_region 5 with fail
      apply wp_region_lit
      refine gw_val (by kernel_rfl) (some 12) rfl (.int .i64 i) (by kernel_rfl) ?_
      simp only [Act.put, List.setIfInBounds_toArray, List.set_cons_succ, List.set_cons_zero]
      refine gw_val (by kernel_rfl) (some 13) rfl (.bool (decide ((i : Int) < 1026))) (by kernel_rfl) ?_
      simp only [Act.put, List.setIfInBounds_toArray, List.set_cons_succ, List.set_cons_zero]
      rw [hd]
      apply wpList_nil
      go_upto_region 9 with fail
      apply wp_region_lit
      refine gw_val (by kernel_rfl) (some 5) rfl (.pointer none) (by kernel_rfl) ?_
      simp only [Act.put, List.setIfInBounds_toArray, List.set_cons_succ, List.set_cons_zero]
      apply wpList_nil
      go_upto_region 10 with fail
      apply wp_region_lit
      refine gw_val (by kernel_rfl) (some 25) rfl (.pointer none) (by kernel_rfl) ?_
      simp only [Act.put, List.setIfInBounds_toArray, List.set_cons_succ, List.set_cons_zero]
      refine gw_call (by kernel_rfl) (some 26) rfl 15 #[.pointer none] (.tuple #[]) (KC R w gc z (st i)) (by kernel_rfl) ((hN.reset wr).mono fun e w' q => ⟨q.1, hk.below hC q.2⟩) (fun V1 h1 => ?_)
      clear hk
      simp only [Act.put, List.setIfInBounds_toArray, List.set_cons_succ, List.set_cons_zero]
      apply wpList_nil
      go_upto_region 11 with fail
      apply wp_region_lit
      refine gw_val (by kernel_rfl) (some 27) rfl (.pointer (some ⟨gc, 0, none⟩)) (by kernel_rfl) ?_
      simp only [Act.put, List.setIfInBounds_toArray, List.set_cons_succ, List.set_cons_zero]
      refine gw_call (by kernel_rfl) (some 28) rfl 20 #[.pointer (some ⟨gc, 0, none⟩)] (.int .i64 z) (KC R w gc z (st i)) (by kernel_rfl) (HLe V1 h1) (fun V2 h2 => ?_)
      clear h1 HLe
      simp only [Act.put, List.setIfInBounds_toArray, List.set_cons_succ, List.set_cons_zero]
      refine gw_val (by kernel_rfl) (some 29) rfl (.int .i64 x) (by kernel_rfl) ?_
      simp only [Act.put, List.setIfInBounds_toArray, List.set_cons_succ, List.set_cons_zero]
      refine gw_call (by kernel_rfl) (some 30) rfl 23 #[.int .i64 x, .int .i64 4] (.int .i64 p) (fun w' => V2 = w') (by kernel_rfl) (CA V2) (fun W1 hW => ?_)
      subst hW
      simp only [Act.put, List.setIfInBounds_toArray, List.set_cons_succ, List.set_cons_zero]
      refine gw_val (by kernel_rfl) (some 31) rfl (.int .i64 (1023 + p : Nat)) (add_nat rfl 1023 p (by omega) (by kernel_rfl) (by kernel_rfl) _) ?_
      simp only [Act.put, List.setIfInBounds_toArray, List.set_cons_succ, List.set_cons_zero]
      rw [← HZ.out]
      refine gw_val (by kernel_rfl) (some 32) rfl (.int .i64 (min (s : Int) 1024)) (min_int rfl s 1024 (by kernel_rfl) (by kernel_rfl) _) ?_
      simp only [Act.put, List.setIfInBounds_toArray, List.set_cons_succ, List.set_cons_zero]
      rw [HMin.out]
      refine gw_val (by kernel_rfl) (some 33) rfl (.bool ((z : Int) == (z : Int))) (by kernel_rfl) ?_
      rw [show ((z : Int) == (z : Int)) = true by simp]
      simp only [Act.put, List.setIfInBounds_toArray, List.set_cons_succ, List.set_cons_zero]
      refine gw_val (by kernel_rfl) (some 34) rfl (.bool true) (by kernel_rfl) ?_
      simp only [Act.put, List.setIfInBounds_toArray, List.set_cons_succ, List.set_cons_zero]
      refine gw_val (by kernel_rfl) (some 35) rfl (.pointer none) (by kernel_rfl) ?_
      simp only [Act.put, List.setIfInBounds_toArray, List.set_cons_succ, List.set_cons_zero]
      refine gw_call (by kernel_rfl) (some 36) rfl 12 #[.int .i64 1] (.agg (w8s k1)) (KC R w gc z (st i)) (by kernel_rfl) ((K1 V2).mono fun e w' q => ⟨q.1, h2.below hC q.2⟩) (fun V3 h3 => ?_)
      clear h2
      simp only [Act.put, List.setIfInBounds_toArray, List.set_cons_succ, List.set_cons_zero]
      refine gw_call (by kernel_rfl) (some 37) rfl 17 #[.pointer none, .agg (w8s k1)] (.bool true) (KC R w gc z (st i)) (by kernel_rfl) ((hN.push V3 k1 l1).mono fun e w' q => ⟨q.1, h3.below hC q.2⟩) (fun V4 h4 => ?_)
      clear h3
      simp only [Act.put, List.setIfInBounds_toArray, List.set_cons_succ, List.set_cons_zero]
      refine gw_val (by kernel_rfl) (some 38) rfl (.bool true) (by kernel_rfl) ?_
      simp only [Act.put, List.setIfInBounds_toArray, List.set_cons_succ, List.set_cons_zero]
      refine gw_val (by kernel_rfl) (some 39) rfl (.bool true) (by kernel_rfl) ?_
      simp only [Act.put, List.setIfInBounds_toArray, List.set_cons_succ, List.set_cons_zero]
      refine gw_val (by kernel_rfl) (some 40) rfl (.pointer none) (by kernel_rfl) ?_
      simp only [Act.put, List.setIfInBounds_toArray, List.set_cons_succ, List.set_cons_zero]
      refine gw_call (by kernel_rfl) (some 41) rfl 12 #[.int .i64 1] (.agg (w8s k1)) (KC R w gc z (st i)) (by kernel_rfl) ((K1 V4).mono fun e w' q => ⟨q.1, h4.below hC q.2⟩) (fun V5 h5 => ?_)
      clear h4
      simp only [Act.put, List.setIfInBounds_toArray, List.set_cons_succ, List.set_cons_zero]
      refine gw_call (by kernel_rfl) (some 42) rfl 17 #[.pointer none, .agg (w8s k1)] (.bool true) (KC R w gc z (st i)) (by kernel_rfl) ((hN.push V5 k1 l1).mono fun e w' q => ⟨q.1, h5.below hC q.2⟩) (fun V6 h6 => ?_)
      clear h5
      simp only [Act.put, List.setIfInBounds_toArray, List.set_cons_succ, List.set_cons_zero]
      refine gw_val (by kernel_rfl) (some 43) rfl (.bool true) (by kernel_rfl) ?_
      simp only [Act.put, List.setIfInBounds_toArray, List.set_cons_succ, List.set_cons_zero]
      refine gw_val (by kernel_rfl) (some 44) rfl (.bool true) (by kernel_rfl) ?_
      simp only [Act.put, List.setIfInBounds_toArray, List.set_cons_succ, List.set_cons_zero]
      refine gw_val (by kernel_rfl) (some 45) rfl (.pointer none) (by kernel_rfl) ?_
      simp only [Act.put, List.setIfInBounds_toArray, List.set_cons_succ, List.set_cons_zero]
      refine gw_call (by kernel_rfl) (some 46) rfl 12 #[.int .i64 1] (.agg (w8s k1)) (KC R w gc z (st i)) (by kernel_rfl) ((K1 V6).mono fun e w' q => ⟨q.1, h6.below hC q.2⟩) (fun V7 h7 => ?_)
      clear h6
      simp only [Act.put, List.setIfInBounds_toArray, List.set_cons_succ, List.set_cons_zero]
      refine gw_call (by kernel_rfl) (some 47) rfl 14 #[.pointer none, .agg (w8s k1)] (.bool false) (KC R w gc z (st i)) (by kernel_rfl) ((hN.remove V7 k1 l1).mono fun e w' q => ⟨q.1, h7.below hC q.2⟩) (fun V8 h8 => ?_)
      clear h7
      simp only [Act.put, List.setIfInBounds_toArray, List.set_cons_succ, List.set_cons_zero]
      refine gw_val (by kernel_rfl) (some 48) rfl (.bool true) (by kernel_rfl) ?_
      simp only [Act.put, List.setIfInBounds_toArray, List.set_cons_succ, List.set_cons_zero]
      refine gw_val (by kernel_rfl) (some 49) rfl (.bool true) (by kernel_rfl) ?_
      simp only [Act.put, List.setIfInBounds_toArray, List.set_cons_succ, List.set_cons_zero]
      refine gw_val (by kernel_rfl) (some 50) rfl (.bool true) (by kernel_rfl) ?_
      simp only [Act.put, List.setIfInBounds_toArray, List.set_cons_succ, List.set_cons_zero]
      refine gw_val (by kernel_rfl) (some 51) rfl (.pointer none) (by kernel_rfl) ?_
      simp only [Act.put, List.setIfInBounds_toArray, List.set_cons_succ, List.set_cons_zero]
      refine gw_call (by kernel_rfl) (some 52) rfl 12 #[.int .i64 1] (.agg (w8s k1)) (KC R w gc z (st i)) (by kernel_rfl) ((K1 V8).mono fun e w' q => ⟨q.1, h8.below hC q.2⟩) (fun V9 h9 => ?_)
      clear h8
      simp only [Act.put, List.setIfInBounds_toArray, List.set_cons_succ, List.set_cons_zero]
      refine gw_call (by kernel_rfl) (some 53) rfl 21 #[.pointer none, .agg (w8s k1)] (.bool false) (KC R w gc z (st i)) (by kernel_rfl) ((hN.has V9 k1 l1).mono fun e w' q => ⟨q.1, h9.below hC q.2⟩) (fun V10 h10 => ?_)
      clear h9
      simp only [Act.put, List.setIfInBounds_toArray, List.set_cons_succ, List.set_cons_zero]
      refine gw_val (by kernel_rfl) (some 54) rfl (.bool true) (by kernel_rfl) ?_
      simp only [Act.put, List.setIfInBounds_toArray, List.set_cons_succ, List.set_cons_zero]
      refine gw_val (by kernel_rfl) (some 55) rfl (.bool true) (by kernel_rfl) ?_
      simp only [Act.put, List.setIfInBounds_toArray, List.set_cons_succ, List.set_cons_zero]
      refine gw_val (by kernel_rfl) (some 56) rfl (.bool true) (by kernel_rfl) ?_
      simp only [Act.put, List.setIfInBounds_toArray, List.set_cons_succ, List.set_cons_zero]
      refine gw_val (by kernel_rfl) (some 57) rfl (.pointer none) (by kernel_rfl) ?_
      simp only [Act.put, List.setIfInBounds_toArray, List.set_cons_succ, List.set_cons_zero]
      refine gw_callE (by kernel_rfl) (some 58) rfl 19 #[.pointer none] (fun v w' => ∃ a c, v = .slice a 0 c ∧ KC R w gc z (st i) w') (by kernel_rfl) ((hN.keys V10).mono fun e w' q => by obtain ⟨a, c, he, hb⟩ := q; exact ⟨_, he, a, c, rfl, h10.below hC hb⟩) (fun v V11 hq => ?_)
      obtain ⟨ka, kc, rfl, h11⟩ := hq
      clear h10
      simp only [Act.put, List.setIfInBounds_toArray, List.set_cons_succ, List.set_cons_zero]
      refine gw_val (by kernel_rfl) (some 59) rfl (.int .i64 (0 : Nat)) (by kernel_rfl) ?_
      simp only [Act.put, List.setIfInBounds_toArray, List.set_cons_succ, List.set_cons_zero]
      refine gw_val (by kernel_rfl) (some 60) rfl (.bool true) (by kernel_rfl) ?_
      simp only [Act.put, List.setIfInBounds_toArray, List.set_cons_succ, List.set_cons_zero]
      refine gw_val (by kernel_rfl) (some 61) rfl (.bool true) (by kernel_rfl) ?_
      simp only [Act.put, List.setIfInBounds_toArray, List.set_cons_succ, List.set_cons_zero]
      refine gw_val (by kernel_rfl) (some 62) rfl (.bool true) (by kernel_rfl) ?_
      simp only [Act.put, List.setIfInBounds_toArray, List.set_cons_succ, List.set_cons_zero]
      refine gw_val (by kernel_rfl) (some 63) rfl (.pointer none) (by kernel_rfl) ?_
      simp only [Act.put, List.setIfInBounds_toArray, List.set_cons_succ, List.set_cons_zero]
      refine gw_call (by kernel_rfl) (some 64) rfl 20 #[.pointer none] (.int .i64 0) (KC R w gc z (st i)) (by kernel_rfl) ((hN.len V11).mono fun e w' q => ⟨q.1, h11.below hC q.2⟩) (fun V12 h12 => ?_)
      clear h11
      simp only [Act.put, List.setIfInBounds_toArray, List.set_cons_succ, List.set_cons_zero]
      refine gw_val (by kernel_rfl) (some 65) rfl (.bool true) (by kernel_rfl) ?_
      simp only [Act.put, List.setIfInBounds_toArray, List.set_cons_succ, List.set_cons_zero]
      refine gw_val (by kernel_rfl) (some 66) rfl (.bool true) (by kernel_rfl) ?_
      simp only [Act.put, List.setIfInBounds_toArray, List.set_cons_succ, List.set_cons_zero]
      refine gw_val (by kernel_rfl) (some 67) rfl (.bool true) (by kernel_rfl) ?_
      simp only [Act.put, List.setIfInBounds_toArray, List.set_cons_succ, List.set_cons_zero]
      refine gw_call (by kernel_rfl) (some 68) rfl 8 #[] (.bool true) (fun w' => Below V12.heap.size V12 w') (by kernel_rfl) (CK V12) (fun VE hE => ?_)
      simp only [Act.put, List.setIfInBounds_toArray, List.set_cons_succ, List.set_cons_zero]
      refine gw_val (by kernel_rfl) (some 69) rfl (.bool true) (by kernel_rfl) ?_
      simp only [Act.put, List.setIfInBounds_toArray, List.set_cons_succ, List.set_cons_zero]
      refine gw_val (by kernel_rfl) (some 2) rfl (.bool true) (by kernel_rfl) ?_
      simp only [Act.put, List.setIfInBounds_toArray, List.set_cons_succ, List.set_cons_zero]
      apply wpList_nil
      have HB := Lib.hid (h12.bel.trans (hE.mono h12.bel.size))
      clear h12 hE CK CA K1
      go_wp2_with fail
      go_ret
      exact ⟨rfl, HB.out⟩
end Go.Proofs.Ytjblfpifhbmfoaa
