/-
  The walk over the statement on Append and Size, where at most 200 bytes come in.
  Conditions: as typed.
-/
import Derived.Test.YtdkcbffkjdagpaaC6
namespace Go.Proofs.Ytdkcbffkjdagpaa
open Go.RowKit

set_option maxHeartbeats 4000000 in
theorem appends_core (a : Option Addr) (c : Nat) (L : List Int) (n s : Int) (w : World) (hL : L.length ≤ 200) (hr : Sl w a c L) (hn : W64 n) (hs : W8 s) :
    Calls Try.prog 3 #[.slice a L.length c, .int .u64 n, .int .u8 s] w fun e w' => e = .returned (.bool true) ∧ Below w.heap.size w w' := by
  have hb : decide ((200 : Int) < (L.length : Int)) = false := decide_eq_false (by omega)
  have HR := Lib.hid hr
  have q1 : W64 (n / 2 ^ (s % 64).toNat) := ⟨Int.ediv_nonneg hn.1 (Int.pow_nonneg (by omega)), Int.le_trans (Int.ediv_le_self _ hn.1) hn.2⟩
  have q2 : W64 (IntKind.u64.wrap (IntKind.u64.wrap (2 ^ (s % 64).toNat) - 1)) := by rw [IntKind.wrap_u64]; constructor <;> omega
  have q3 : W64 (IntKind.u64.wrap (2 ^ (s % 64).toNat)) := by rw [IntKind.wrap_u64]; constructor <;> omega
  obtain ⟨hs0, hs1⟩ := hs
  clear hr
  go_enter Try.func3, Try.ntmps3
  go_wp2_with fail
  generalize n / 2 ^ (s % 64).toNat = x1 at *
  generalize IntKind.u64.wrap (IntKind.u64.wrap (2 ^ (s % 64).toNat) - 1) = x2 at *
  generalize IntKind.u64.wrap (2 ^ (s % 64).toNat) = x3 at *
  obtain ⟨w1, hw1⟩ : ∃ w1, w1 = w.alloc (.cells #[.int .u64 n, .int .u64 x1, .int .u64 x2, .int .u64 x3] 23) := ⟨_, rfl⟩
  have hB := (Below.refl w.heap.size w).alloc (Nat.le_refl _) (.cells #[.int .u64 n, .int .u64 x1, .int .u64 x2, .int .u64 x3] 23)
  have HC : ∀ k : Nat, k < 4 → ∃ x, W64 x ∧ w1.cell? ⟨w.heap.size, k, none⟩ = some (.int .u64 x) := by
    intro k hk
    rw [hw1, cell_of_row _ w.heap.size k _ 23 (0, 0) (heap_alloc_new w _)]
    match k, hk with
    | 0, _ => exact ⟨n, hn, rfl⟩
    | 1, _ => exact ⟨x1, q1, rfl⟩
    | 2, _ => exact ⟨x2, q2, rfl⟩
    | 3, _ => exact ⟨x3, q3, rfl⟩
  have hz : w.heap.size < w1.heap.size := by rw [hw1]; simp
  rw [← hw1] at hB ⊢
  have HB := Lib.hid hB
  have HCC := Lib.hid HC
  clear hw1 hB HC
  go_loopg [27] 4 (fun g s27 wx => ∃ k : Nat, k ≤ 4 ∧ s27 = .int .i64 k ∧ Below w1.heap.size w1 wx ∧ 4 - k = g)
  case atStart => exact ⟨0, by omega, rfl, Below.refl _ _, rfl⟩
  case round =>
    obtain ⟨k, hk, rfl, hb1, rfl⟩ := hrel
    have hsz := hb1.size
    by_cases hlt : k < 4
    · obtain ⟨x, hx, hc⟩ := HCC.out k hlt
      have hc1 := (hb1.cell (p := ⟨w.heap.size, k, none⟩) hz).trans hc
      have cA := fun w hr => code_append a c L x w (by omega) hr hx
      have cB := fun w hr => ref_append a c L x w (by omega) hr hx
      have cS := fun w => size_any x w hx
      have cR := fun w => ref_size x w hx
      generalize Enc x = E at *
      generalize L ++ E = M at *
      have r0 := sl_below HR.out (HB.out)
      have r1 := sl_below r0 hb1
      clear hc
      go_wp2_with fail
      refine (cA _ r1).mono ?_
      rintro e w2 ⟨v1, rfl, ho1, hb2⟩
      obtain ⟨a1, c1, rfl, m1, _, _⟩ := sl_own ho1
      have r2 := sl_below r1 hb2
      clear ho1 cA
      go_wp2_with fail
      refine (cB _ r2).mono ?_
      rintro e w3 ⟨v2, rfl, ho2, hb3⟩
      obtain ⟨a2, c2, rfl, m2, _, _⟩ := sl_own ho2
      have cQ := same_true a1 c1 a2 c2 M w3 (sl_below m1 hb3) m2
      clear ho2 cB m1 m2 r0 r1 r2
      have hb23 := (hb1.trans (hb2.mono hsz)).trans (hb3.mono (Nat.le_trans hsz hb2.size))
      have HB3 := Lib.hid hb23
      clear hb23 hb2 hb3
      go_wp2_with fail
      refine cQ.mono ?_
      rintro e w4 ⟨rfl, rfl⟩
      clear cQ
      go_wp2_with fail
      refine (cS _).mono ?_
      rintro e w4 ⟨rfl, rfl⟩
      go_wp2_with fail
      refine (cR _).mono ?_
      rintro e w4 ⟨rfl, hb4⟩
      have HB4 := Lib.hid (HB3.out.trans (hb4.mono HB3.out.size))
      clear cS cR hb4
      go_wp2
      go_roundg (4 - (k + 1))
      case measure => omega
      case rel => exact ⟨k + 1, by omega, by go_num, HB4.out, rfl⟩
    · go_wp2_with fail
      refine (known_true _).mono ?_
      rintro e w2 ⟨rfl, hb2⟩
      go_wp2
      go_ret
      exact ⟨rfl, (HB.out.trans (hb1.mono HB.out.size)).trans (hb2.mono (Nat.le_trans HB.out.size hsz))⟩
end Go.Proofs.Ytdkcbffkjdagpaa
