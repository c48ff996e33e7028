/-
  The contract of the reference's Hex.
-/
import Derived.Test.YtapojahoaglgaaaDoorKR1
namespace Go.Proofs.YtapojahoaglgaaaDoor
open Go.RowKit

def hexS : ByteArray := { data := #[48, 49, 50, 51, 52, 53, 54, 55, 56, 57, 97, 98, 99, 100, 101, 102] }
theorem hexS_at : ∀ n : Nat, n < 16 → hexS.extract n (n + 1) = strOfNums [hexd n] := by decide +kernel
theorem strOfNums_app (A B : List Int) : strOfNums A ++ strOfNums B = strOfNums (A ++ B) := by
  apply ByteArray.ext
  simp [strOfNums]
theorem hex_slice (n : Nat) (h : n < 16) (w : World) : (Instr.slice 9 (.string hexS) (some (.int .u8 (n : Int))) (some (.int .u8 ((n : Int) + 1))) none).run Tryd.prog w = .ok (.string (strOfNums [hexd n])) w := by
  have hs : hexS.size = 16 := by decide
  rw [← hexS_at n h]
  have h1 : (n : Int) + 1 ≤ 16 := by omega
  have h2 : ((n : Int) + 1).toNat = n + 1 := by omega
  simp [Instr.slice, run_underlying Tryd.underlying9, Instr.sliceBounds, Instr.sliceBound, asIntOf, hs, h1, h2, go_sem]
  intro h'
  omega
theorem hexL_take (L : List Int) (i : Nat) (hi : i < L.length) : hexL (L.take i) ++ ([hexd (L.getD i 0 / 16)] ++ [hexd (L.getD i 0 % 16)]) = hexL (L.take (i + 1)) := by
  rw [List.take_succ_eq_append_getElem hi, getD_lt L i 0 hi]
  simp only [hexL, List.flatMap_append, List.flatMap_cons, List.flatMap_nil, List.append_nil]
  rfl

set_option maxRecDepth 100000 in
set_option maxHeartbeats 4000000 in
theorem refhex_any (a : Option Addr) (c : Nat) (L : List Int) (w : World) (hs : Sl w a c L) (h8 : ∀ x, x ∈ L → W8 x) (hl : L.length ≤ 1000) :
    Calls Tryd.prog 24 #[.slice a L.length c] w fun e w' => e = .returned (.string (strOfNums (hexL L))) ∧ ∃ m, w' = w.drewN m := by
  go_enter Tryd.func24, Tryd.ntmps24
  go_wp2_with fail
  go_loopg [3, 8] L.length (fun g s3 s8 wx => ∃ i : Nat, i ≤ L.length ∧ s8 = .int .i64 i ∧ s3 = .string (strOfNums (hexL (L.take i))) ∧ (∃ m, wx = w.drewN m) ∧ L.length - i = g)
  case atStart => exact ⟨0, by omega, by go_num, by rfl, ⟨0, rfl⟩, rfl⟩
  case round =>
    obtain ⟨i, hi, rfl, rfl, ⟨m, rfl⟩, hgk⟩ := hrel
    by_cases hlt : i < L.length
    · obtain ⟨b, off, rfl, hb, hc⟩ := sl_at hs hlt
      have xc : (w.drewN m).cell? ⟨b, off + i, none⟩ = some (.int .u8 (L.getD i 0)) := hc
      have h8x := W8.getD h8 i hlt
      have h16 : L.getD i 0 / 16 = ((L.getD i 0 / 16).toNat : Int) := by have := h8x.1; omega
      have hm16 : bits .and .u8 (L.getD i 0) 15 = ((L.getD i 0 % 16).toNat : Int) := by
        obtain ⟨n, hn⟩ := Int.eq_ofNat_of_zero_le h8x.1
        have := h8x.2
        rw [hn]
        have e := u8_and_nat n 15 (by omega) (by omega)
        rw [show n &&& 15 = n % 16 from Nat.and_two_pow_sub_one_eq_mod n 4] at e
        rw [show ((15 : Nat) : Int) = 15 from rfl] at e
        rw [e]
        omega
      have hb1 : (L.getD i 0 / 16).toNat < 16 := by have := h8x.1; have := h8x.2; omega
      have hb2 : (L.getD i 0 % 16).toNat < 16 := by omega
      have e1 := fun w => hex_slice _ hb1 w
      have e2 := fun w => hex_slice _ hb2 w
      have HT := Lib.hid (hexL_take L i hlt)
      have hx16 : hexd (L.getD i 0 / 16) = hexd ((L.getD i 0 / 16).toNat : Int) := by rw [← h16]
      have hy16 : hexd (L.getD i 0 % 16) = hexd ((L.getD i 0 % 16).toNat : Int) := by congr 1; omega
      have HT2 : Hid (strOfNums (hexL (L.take i)) ++ (strOfNums [hexd ((L.getD i 0 / 16).toNat : Int)] ++ strOfNums [hexd ((L.getD i 0 % 16).toNat : Int)]) = strOfNums (hexL (L.take (i + 1)))) := Lib.hid (by
        rw [← HT.out, strOfNums_app, strOfNums_app, hx16, hy16])
      have h8x' := h8x
      obtain ⟨hx0, hx1⟩ := h8x'
      clear hx16 hy16 HT h8x
      generalize (L.getD i 0 % 16).toNat = lo at *
      generalize (L.getD i 0 / 16).toNat = hi4 at *
      generalize L.getD i 0 = x at *
      have a1 : (hi4 : Int) + 1 ≤ 255 := by omega
      have a2 : (lo : Int) + 1 ≤ 255 := by omega
      generalize hV : w.drewN m = V at *
      have HVV := Lib.hid hV
      clear hV
      have hw1 : IntKind.u8.wrap ((hi4 : Int) + 1) = (hi4 : Int) + 1 := by rw [IntKind.wrap_u8']; omega
      have hw2 : IntKind.u8.wrap ((lo : Int) + 1) = (lo : Int) + 1 := by rw [IntKind.wrap_u8']; omega
      have HW1 := Lib.hid hw1
      have HW2 := Lib.hid hw2
      clear hw1 hw2
      go_upto_region 5 with fail
      refine wp_region_quiet_lit (by kernel_rfl) (by kernel_rfl) ?_
      iterate 6 (quiet_step (fail))
      refine wpQ_slice rfl 9 (.const (.string hexS)) (.tmp 14) (.tmp 17) rfl (.string hexS) (.int .u8 hi4) (.int .u8 (IntKind.u8.wrap ((hi4 : Int) + 1))) (.string (strOfNums [hexd hi4])) (by kernel_rfl) (by kernel_rfl) (by kernel_rfl) (fun w _ => by rw [HW1.out]; exact e1 w) ?_
      iterate 5 (quiet_step (fail))
      refine wpQ_slice rfl 9 (.const (.string hexS)) (.tmp 20) (.tmp 23) rfl (.string hexS) (.int .u8 lo) (.int .u8 (IntKind.u8.wrap ((lo : Int) + 1))) (.string (strOfNums [hexd lo])) (by kernel_rfl) (by kernel_rfl) (by kernel_rfl) (fun w _ => by rw [HW2.out]; exact e2 w) ?_
      have k1 : ¬ 9223372036854775807 < (strOfNums [hexd hi4]).size + (strOfNums [hexd lo]).size := by simp [strOfNums_size]
      have k2 : ¬ 9223372036854775807 < (strOfNums (hexL (L.take i))).size + (strOfNums [hexd hi4] ++ strOfNums [hexd lo]).size := by simp only [strOfNums_app, strOfNums_size, hexL_len]; simp; omega
      have k3 : ¬ 9223372036854775807 < (strOfNums (hexL (L.take i))).size + ((strOfNums [hexd hi4]).size + (strOfNums [hexd lo]).size) := by simp only [strOfNums_size, hexL_len]; simp; omega
      iterate 3 (quiet_step (fail))
      refine wpQuiet_nil ?_
      rintro _ ⟨nq, rfl⟩
      go_wp2_with fail
      go_roundg (L.length - (i + 1))
      case measure => omega
      case rel => exact ⟨i + 1, by omega, by go_num, by rw [HT2.out], ⟨m + nq, by rw [← HVV.out, World.drewN_drewN]⟩, rfl⟩
    · have e : L.take i = L := List.take_of_length_le (by omega)
      go_wp2_with fail
      go_ret
      exact ⟨by rw [e]; rfl, m, rfl⟩
end Go.Proofs.YtapojahoaglgaaaDoor
