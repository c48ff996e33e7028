/-
  The contracts of the reference's Compare and digit.
-/
import Derived.Test.YtapojahoaglgaaaDoorSP1
import Derived.Test.YtapojahoaglgaaaDoorKAp
namespace Go.Proofs.YtapojahoaglgaaaDoor
open Go.RowKit

theorem cmpL_at (A B : List Int) (i : Nat) (hi : i < A.length) (hj : i < B.length) : cmpL (A.drop i) (B.drop i) = if A.getD i 0 < B.getD i 0 then -1 else if B.getD i 0 < A.getD i 0 then 1 else cmpL (A.drop (i + 1)) (B.drop (i + 1)) := by
  rw [List.drop_eq_getElem_cons hi, List.drop_eq_getElem_cons hj, getD_lt A i 0 hi, getD_lt B i 0 hj]
  rfl

set_option maxRecDepth 100000 in
set_option maxHeartbeats 4000000 in
theorem refcmp_any (A B : List Int) (w : World) (hA : A.length = 32) (hB : B.length = 32) :
    Calls Tryd.prog 11 #[.agg (w8s A), .agg (w8s B)] w fun e w' => e = .returned (.int .i64 (cmpL A B)) ∧ Below w.heap.size w w' := by
  go_enter Tryd.func11, Tryd.ntmps11
  go_upto_region 1 with fail
  have h1 : Ab ((w.alloc (.cells (w8s A) 25)).alloc (.cells (w8s B) 25)) w.heap.size 25 A := Ab.alloc (heap_alloc_last w _) _
  have h2 : Ab ((w.alloc (.cells (w8s A) 25)).alloc (.cells (w8s B) 25)) (w.heap.size + 1) 25 B := by
    have := heap_alloc_last (w.alloc (.cells (w8s A) 25)) (.cells (w8s B) 25)
    simpa [Ab] using this
  have h3 : Below w.heap.size w ((w.alloc (.cells (w8s A) 25)).alloc (.cells (w8s B) 25)) := ((Below.refl _ w).alloc (by simp) _).alloc (by simp) _
  generalize (w.alloc (.cells (w8s A) 25)).alloc (.cells (w8s B) 25) = W at *
  have H1 := Lib.hid h1
  have H2 := Lib.hid h2
  have H3 := Lib.hid h3
  have HA := Lib.hid hA
  have HB := Lib.hid hB
  clear h1 h2 h3 hA hB
  go_wp2_with fail
  go_loopg [6] 32 (fun g s6 wx => ∃ i : Nat, i ≤ 32 ∧ s6 = .int .i64 i ∧ Ab wx w.heap.size 25 A ∧ Ab wx (w.heap.size + 1) 25 B ∧ Below w.heap.size w wx ∧ Hid (cmpL A B = cmpL (A.drop i) (B.drop i)) ∧ 32 - i = g)
  case atStart => exact ⟨0, by omega, by go_num, H1.out, H2.out, H3.out, Lib.hid rfl, rfl⟩
  case round =>
    clear H1 H2 H3 W
    obtain ⟨i, hi, rfl, hA, hB, hW, hc, hgk⟩ := hrel
    by_cases hlt : i < 32
    · have x1 := hA.cell i (by rw [HA.out]; omega)
      have x2 := hB.cell i (by rw [HB.out]; omega)
      have hcc := hc.out.trans (cmpL_at A B i (by rw [HA.out]; omega) (by rw [HB.out]; omega))
      have KA := Lib.hid hA
      have KB := Lib.hid hB
      have KW := Lib.hid hW
      have KC := Lib.hid hcc
      clear hA hB hW hc hcc
      generalize A.getD i 0 = x at *
      generalize B.getD i 0 = y at *
      by_cases hxy : x < y
      · have d1 : decide (x < y) = true := decide_eq_true hxy
        have kc := KC.out
        rw [if_pos hxy] at kc
        have KC2 := Lib.hid kc
        clear kc
        go_wp2_with fail
        go_region
        go_wp2_with fail
        go_ret
        exact ⟨by rw [KC2.out]; rfl, KW.out.drew⟩
      · by_cases hyx : y < x
        · have kc := KC.out
          rw [if_neg hxy, if_pos hyx] at kc
          have KC2 := Lib.hid kc
          clear kc
          go_wp2_with fail
          go_region
          go_wp2_with fail
          go_region
          go_wp2_with fail
          go_ret
          exact ⟨by rw [KC2.out]; rfl, KW.out.drew.drew⟩
        · have kc := KC.out
          rw [if_neg hxy, if_neg hyx] at kc
          have KC2 := Lib.hid kc
          clear kc
          go_wp2_with fail
          go_region
          go_wp2_with fail
          go_region
          go_wp2_with fail
          go_roundg (32 - (i + 1))
          case measure => omega
          case rel => exact ⟨i + 1, by omega, by go_num, KA.out, KB.out, KW.out.drew.drew, KC2, rfl⟩
    · have kc := hc.out
      rw [List.drop_eq_nil_of_le (by rw [HA.out]; omega)] at kc
      have KC := Lib.hid kc
      clear kc hc
      go_wp2_with fail
      go_ret
      exact ⟨by rw [KC.out]; rfl, hW⟩

set_option maxHeartbeats 1000000 in
theorem refdigit_any (x : Int) (w : World) (hx : W8 x) : Calls Tryd.prog 35 #[.int .u8 x] w fun e w' => e = .returned (.int .i64 (digL x)) ∧ w = w' := by
  obtain ⟨h0, h1⟩ := hx
  by_cases a1 : 48 ≤ x
  · by_cases a2 : x ≤ 57
    · have e : digL x = x - 48 := if_pos ⟨a1, a2⟩
      rw [e]
      go_enter Tryd.func35, Tryd.ntmps35
      go_wp2
      go_ret
      exact ⟨by congr 2 <;> simp, rfl⟩
    · by_cases b1 : 97 ≤ x
      · by_cases b2 : x ≤ 102
        · have e : digL x = x - 87 := by unfold digL; rw [if_neg (by omega), if_pos ⟨b1, b2⟩]
          rw [e]
          go_enter Tryd.func35, Tryd.ntmps35
          go_wp2
          go_ret
          exact ⟨by congr 2; simp; omega, rfl⟩
        · have e : digL x = -1 := by unfold digL; rw [if_neg (by omega), if_neg (by omega)]
          rw [e]
          go_enter Tryd.func35, Tryd.ntmps35
          go_wp2
          go_ret
          exact ⟨rfl, rfl⟩
      · have e : digL x = -1 := by unfold digL; rw [if_neg (by omega), if_neg (by omega)]
        rw [e]
        go_enter Tryd.func35, Tryd.ntmps35
        go_wp2
        go_ret
        exact ⟨rfl, rfl⟩
  · have e : digL x = -1 := by unfold digL; rw [if_neg (by omega), if_neg (by omega)]
    rw [e]
    go_enter Tryd.func35, Tryd.ntmps35
    go_wp2
    go_ret
    exact ⟨rfl, rfl⟩
end Go.Proofs.YtapojahoaglgaaaDoor
