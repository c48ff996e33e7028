/-
  The walk over the statement that Read inverts Append, where at most 100 bytes follow.
  Conditions: as typed.
-/
import Derived.Test.YtdkcbffkjdagpaaD2
namespace Go.Proofs.Ytdkcbffkjdagpaa
open Go.RowKit

set_option maxHeartbeats 1000000 in
set_option maxRecDepth 100000 in
theorem trips_core (n s : Int) (a : Option Addr) (c : Nat) (L : List Int) (w : World) (hL : L.length ≤ 100) (hr : Sl w a c L) (hw : ∀ x, x ∈ L → W8 x) (hn : W64 n) (hs : W8 s) :
    Calls Try.prog 5 #[.int .u64 n, .int .u8 s, .slice a L.length c] w fun e w' => e = .returned (.bool true) ∧ Below w.heap.size w w' := by
  have hb : decide ((100 : Int) < (L.length : Int)) = false := decide_eq_false (by omega)
  have HW := Lib.hid hw
  obtain ⟨hs0, hs1⟩ := hs
  have q1 : W64 (n / 2 ^ (s % 64).toNat) := ⟨Int.ediv_nonneg hn.1 (Int.pow_nonneg (by omega)), Int.le_trans (Int.ediv_le_self _ hn.1) hn.2⟩
  obtain ⟨i0, hi, hz0, hz1, hz2⟩ := info_parts info5
  have HI := Lib.hid hi
  have HZ0 := Lib.hid hz0
  have HZ1 := Lib.hid hz1
  have HZ2 := Lib.hid hz2
  clear hi hz0 hz1 hz2 hw
  have cA := fun m hm w => code_append none 0 [] m w (by simp) (.inl ⟨rfl, rfl, rfl⟩) hm
  simp only [List.length_nil, List.nil_append] at cA
  go_enter Try.func5, Try.ntmps5
  go_wp2_with fail
  generalize n / 2 ^ (s % 64).toNat = m at *
  have cA' := cA m q1
  have HR := Lib.hid (rd_Enc m q1.1 q1.2 L)
  have HC := Lib.hid (rd_Enc_cut m q1.1 q1.2)
  have HE := Enc_len m
  have HEB := Lib.hid (Enc_bytes m q1.1 q1.2)
  have cS := fun w => size_any m w q1
  clear cA
  generalize Enc m = E at *
  refine (cA' _).mono ?_
  rintro e w2 ⟨v1, rfl, ho1, hb1⟩
  obtain ⟨a1, c1, rfl, m1, -, hcap⟩ := sl_own ho1
  clear cA' ho1
  have hsz := hb1.size
  have M1 := Lib.hid (sl_below m1 ((Below.refl w2.heap.size w2).alloc (Nat.le_refl _) (.cells #[] 5)))
  have T0 := Lib.hid (sl_below hr hb1)
  have M0 := Lib.hid m1
  clear m1 hr
  go_wp2_with (at_builtin; refine append_src rfl _ _ 22 rfl w2.heap.size i0 Try.underlying22 HI.out HZ0.out HZ1.out HZ2.out _ 0 [] rfl (own_empty w2) a1 E.length c1 E rfl rfl M1.out ?c1 ?c2 ?_)
  case c1 => omega
  case c2 => simp
  intro v2 w3 ho3 hgrow
  have hb3 := after_append (w0 := w2) (Nat.le_refl _) (by simp) (own_empty w2) ((Below.refl _ w2).alloc (Nat.le_refl _) _) hgrow
  have T2 := Lib.hid (sl_below T0.out hb3)
  have M2 := Lib.hid (sl_below M0.out hb3)
  have hsz3 := hb3.size
  clear hgrow M1 T0
  go_wp2_with (at_builtin; refine append_src rfl _ _ 22 rfl w2.heap.size i0 Try.underlying22 HI.out HZ0.out HZ1.out HZ2.out _ E.length _ rfl ho3 a L.length c L rfl rfl T2.out ?d1 ?d2 ?_)
  case d1 => omega
  case d2 => exact hsz3
  intro v3 w4 ho4 hgrow
  have hb4 := after_append (Nat.le_refl _) hsz3 ho3 hb3 hgrow
  have M4 := Lib.hid (sl_below M0.out hb4)
  have HO4 : Hid (w4.ownsRow w2.heap.size 5 1 v3 (E.length + L.length) ((E ++ L).map (Value.int .u8))) := by
    show w4.ownsRow _ _ _ _ _ _
    simpa using ho4
  obtain ⟨a4, c4, rfl, m4, -, -⟩ := sl_own HO4.out
  have hlen : (E ++ L).length = E.length + L.length := by simp
  have cR := code_read a4 c4 (E ++ L) w4 (by omega) m4 (fun x hx => (List.mem_append.1 hx).elim (HEB.out x) (HW.out x))
  rw [HR.out] at cR
  replace cR : Calls Try.prog 13 #[.slice a4 (E ++ L).length c4] w4 fun e w' => e = .returned (.tuple #[.int .u64 m, .int .i64 (E.length : Int), .int .i64 0]) ∧ w4 = w' := cR
  have HB4 := Lib.hid (hb1.trans (hb4.mono hb1.size))
  rw [hlen] at cR
  clear hgrow ho4 ho3 M2 T2 HO4 m4 hb3 hlen hsz3 hb4
  go_wp2_with fail
  refine cR.mono ?_
  rintro e w5 ⟨rfl, rfl⟩
  clear cR
  go_wp2_with fail
  go_loopg [37] E.length (fun g s37 wx => w4 = wx ∧ ∃ k : Nat, k ≤ E.length ∧ s37 = .int .i64 k ∧ E.length - k = g)
  case atStart => exact ⟨rfl, 0, by omega, rfl, by omega⟩
  case round =>
    obtain ⟨rfl, k, hk, rfl, rfl⟩ := hrel
    by_cases hlt : k < E.length
    · have hsl := fun wx => slice_to a1 E.length c1 k wx (by omega)
      have htl : (E.take k).length = k := by rw [List.length_take]; omega
      have cR := code_read a1 c1 (E.take k) w4 (by omega) (sl_take M4.out k) (fun x hx => HEB.out x (List.mem_of_mem_take hx))
      rw [HC.out k hlt, htl] at cR
      replace cR : Calls Try.prog 13 #[.slice a1 k c1] w4 fun e w' => e = .returned (.tuple #[.int .u64 0, .int .i64 0, .int .i64 5]) ∧ w4 = w' := cR
      clear htl
      go_wp2_with fail
      refine cR.mono ?_
      rintro e w5 ⟨rfl, rfl⟩
      clear cR
      go_wp2
      go_roundg (E.length - (k + 1))
      case measure => omega
      case rel => exact ⟨rfl, k + 1, by omega, by go_num, rfl⟩
    · go_wp2_with fail
      refine (cS _).mono ?_
      rintro e w5 ⟨rfl, rfl⟩
      go_wp2_with fail
      refine (known_true _).mono ?_
      rintro e w6 ⟨rfl, hb6⟩
      go_wp2
      go_ret
      exact ⟨rfl, HB4.out.trans (hb6.mono HB4.out.size)⟩
end Go.Proofs.Ytdkcbffkjdagpaa
