/-
  The contracts of the two functions that read an encoding: both return what rd says of the bytes.
  Conditions: at most 1000000 bytes come in.
-/
import Derived.Test.YtaaeepanelmgnaaVC2
namespace Go.Proofs.Ytaaeepanelmgnaa
set_option maxRecDepth 100000
open Go.RowKit

/-- What Read returns for the result r. -/
def rdOut (r : Int × Int × Int) : Value := .tuple #[.int .u64 r.1, .int .i64 r.2.1, .int .i64 r.2.2]

theorem grp (x : Int) (h : W8 x) : IntKind.u64.wrap (bits .andNot .u8 x 128) = x % 128 := by
  rw [andNot128 x h, IntKind.wrap_u64]
  omega
theorem grp2 (x : Int) (h : W8 x) : IntKind.u64.wrap (bits .and .u8 x 127) = x % 128 := by
  rw [and127 x h, IntKind.wrap_u64]
  omega
/-- A group y is put at the place k. -/
theorem put_group (acc y : Int) (k : Nat) (ha : 0 ≤ acc ∧ acc < 128 ^ k) (hk : k ≤ 9) (h0 : 0 ≤ y) (h1 : y < 128) (h9 : ¬ (k = 9 ∧ 1 < y)) :
    bits .or .u64 acc (IntKind.u64.wrap (y * 2 ^ (7 * k))) = acc + y * 128 ^ k := by
  have hp : (128 : Int) ^ k ≤ 128 ^ 9 := pow_le hk
  rw [show (128 : Int) ^ 9 = 9223372036854775808 from rfl] at hp
  refine or64 acc y k ha.1 ha.2 h0 ?_ (by omega)
  by_cases h : k = 9
  · subst h
    rw [show (128 : Int) ^ 9 = 9223372036854775808 from rfl]
    omega
  · have hp8 : (128 : Int) ^ k ≤ 128 ^ 8 := pow_le (by omega)
    rw [show (128 : Int) ^ 8 = 72057594037927936 from rfl] at hp8
    have := Int.mul_le_mul (show y ≤ 127 by omega) hp8 (Int.pow_nonneg (by omega)) (by omega)
    omega
theorem put_bound (acc y : Int) (k : Nat) (ha : 0 ≤ acc ∧ acc < 128 ^ k) (h0 : 0 ≤ y) (h1 : y < 128) : 0 ≤ acc + y * 128 ^ k ∧ acc + y * 128 ^ k < 128 ^ (k + 1) := by
  have hp : (0 : Int) < 128 ^ k := Int.pow_pos (by omega)
  have h2 := Int.mul_le_mul_of_nonneg_right (show y ≤ 127 by omega) (Int.le_of_lt hp)
  have h3 := Int.mul_nonneg h0 (Int.le_of_lt hp)
  rw [Int.pow_succ]
  omega
theorem last_group (acc x : Int) (k : Nat) (ha : 0 ≤ acc ∧ acc < 128 ^ k) (hk : k ≤ 9) (h0 : 0 ≤ x) (h1 : x < 128) (h9 : ¬ (k = 9 ∧ 1 < x)) :
    bits .or .u64 acc (IntKind.u64.wrap (x % 128 * 2 ^ (7 * k))) = acc + x * 128 ^ k := by
  rw [show x % 128 = x by omega]
  exact put_group acc x k ha hk h0 h1 h9
theorem next_group (acc x : Int) (k : Nat) (ha : 0 ≤ acc ∧ acc < 128 ^ k) (hk : k ≤ 8) (h0 : 128 ≤ x) (h1 : x ≤ 255) :
    bits .or .u64 acc (IntKind.u64.wrap (x % 128 * 2 ^ (7 * k))) = acc + (x - 128) * 128 ^ k ∧ 0 ≤ acc + (x - 128) * 128 ^ k ∧ acc + (x - 128) * 128 ^ k < 128 ^ (k + 1) := by
  rw [show x % 128 = x - 128 by omega]
  exact ⟨put_group acc (x - 128) k ha (by omega) (by omega) (by omega) (by omega), put_bound acc (x - 128) k ha (by omega) (by omega)⟩
theorem pow63 : (9223372036854775808 : Int) = 2 ^ (7 * 9) := rfl
theorem rd_out_eq {n1 n2 s1 s2 e1 e2 : Int} (h1 : n1 = n2) (h2 : s1 = s2) (h3 : e1 = e2) : Ending.returned (.tuple #[.int .u64 n1, .int .i64 s1, .int .i64 e1]) = Ending.returned (rdOut (n2, s2, e2)) := by
  subst h1 h2 h3
  rfl

set_option maxHeartbeats 4000000 in
theorem code_read (a : Option Addr) (c : Nat) (L : List Int) (w : World) (hL : L.length ≤ 1000000) (hr : Sl w a c L) (hw : ∀ x, x ∈ L → W8 x) :
    Calls Try.prog 69 #[.slice a L.length c] w fun e w' => e = .returned (rdOut (rd 0 0 L)) ∧ w = w' := by
  have HR := Lib.hid hr
  have HW := Lib.hid hw
  have HD : Hid (rd 0 0 L = rd 0 0 (L.drop 0)) := rfl
  clear hr hw
  generalize rd 0 0 L = R at *
  go_enter Try.func69, Try.ntmps69
  go_wp2_with fail
  go_loopg [2, 9] L.length (fun g s2 s9 wx => w = wx ∧ ∃ (k : Nat) (acc : Int), s9 = .int .i64 k ∧ k ≤ L.length ∧ k ≤ 9 ∧ s2 = .int .u64 acc ∧ Hid (0 ≤ acc ∧ acc < 128 ^ k) ∧ Hid (R = rd acc k (L.drop k)) ∧ L.length - k = g)
  case atStart => exact ⟨rfl, 0, 0, rfl, by omega, by omega, rfl, Lib.hid (by decide), HD, by omega⟩
  case round =>
    obtain ⟨rfl, k, acc, rfl, hk, hk9, rfl, ha, hd, rfl⟩ := hrel
    by_cases hlt : k < L.length
    · obtain ⟨b, off, rfl, _, hc⟩ := sl_at HR.out hlt
      have hx := HW.out (L.getD k 0) (by rw [List.getD_eq_getElem?_getD, List.getElem?_eq_getElem hlt]; exact List.getElem_mem hlt)
      have hs : L.drop k = L.getD k 0 :: L.drop (k + 1) := by rw [List.drop_eq_getElem_cons hlt, List.getD_eq_getElem?_getD, List.getElem?_eq_getElem hlt]; rfl
      have HS := Lib.hid hs
      clear hs
      generalize L.getD k 0 = x at *
      obtain ⟨hx0, hx1⟩ := hx
      go_wp2
      · have h9 : k = 9 := by omega
        have hv : R = (0, 0, 6) := by rw [hd.out, HS.out, rd_over h9 (by assumption)]
        clear hd HD
        go_ret3
        exact ⟨by rw [hv]; rfl, rfl⟩
      · have h9 : k = 9 := by omega
        have h0 : x = 0 := WalkArith.int_eq (by assumption)
        have hv : R = (0, 0, 4) := by rw [hd.out, HS.out, rd_zero (by omega) h0]
        clear hd HD
        go_ret3
        exact ⟨by rw [hv]; rfl, rfl⟩
      · have h9 : k = 9 := by omega
        have h0 : x ≠ 0 := WalkArith.int_ne (by assumption)
        have hv : R = (acc + x * 128 ^ k, (k : Int) + 1, 0) := by rw [hd.out, HS.out, rd_last (by omega) (by omega) (by omega)]
        clear hd HD
        go_ret3
        subst h9
        exact ⟨by rw [hv]; exact rd_out_eq (by rw [grp x ⟨hx0, hx1⟩, pow63]; exact last_group acc x 9 ha.out (by omega) (by omega) (by omega) (by omega)) (by omega) rfl, rfl⟩
      · have h0 : x = 0 := WalkArith.int_eq (by assumption)
        have hv : R = (0, 0, 4) := by rw [hd.out, HS.out, rd_zero (by omega) h0]
        clear hd HD
        go_ret3
        exact ⟨by rw [hv]; rfl, rfl⟩
      · have h0 : x ≠ 0 := WalkArith.int_ne (by assumption)
        have hv : R = (acc + x * 128 ^ k, (k : Int) + 1, 0) := by rw [hd.out, HS.out, rd_last (by omega) (by omega) (by omega)]
        clear hd HD
        go_ret3
        exact ⟨by rw [hv]; exact rd_out_eq (by rw [grp x ⟨hx0, hx1⟩]; exact last_group acc x k ha.out (by omega) (by omega) (by omega) (by omega)) (by omega) rfl, rfl⟩
      · have hd2 : R = rd (acc + (x - 128) * 128 ^ k) (k + 1) (L.drop (k + 1)) := by rw [hd.out, HS.out, rd_next (by omega) (by omega)]
        have HD2 := Lib.hid hd2
        clear hd2 hd HD
        go_roundg (L.length - (k + 1))
        case measure => omega
        case rel => exact ⟨rfl, k + 1, _, by go_num, by omega, by omega, by rw [grp x ⟨hx0, hx1⟩]; exact congrArg _ (next_group acc x k ha.out (by omega) (by omega) (by omega)).1, Lib.hid (next_group acc x k ha.out (by omega) (by omega) (by omega)).2, HD2, by omega⟩
      · have hv : R = (acc + x * 128 ^ k, (k : Int) + 1, 0) := by rw [hd.out, HS.out, rd_last (by omega) (by omega) (by omega)]
        clear hd HD
        go_ret3
        exact ⟨by rw [hv]; exact rd_out_eq (by rw [grp x ⟨hx0, hx1⟩]; exact last_group acc x k ha.out (by omega) (by omega) (by omega) (by omega)) (by omega) rfl, rfl⟩
      · have hd2 : R = rd (acc + (x - 128) * 128 ^ k) (k + 1) (L.drop (k + 1)) := by rw [hd.out, HS.out, rd_next (by omega) (by omega)]
        have HD2 := Lib.hid hd2
        clear hd2 hd HD
        go_roundg (L.length - (k + 1))
        case measure => omega
        case rel => exact ⟨rfl, k + 1, _, by go_num, by omega, by omega, by rw [grp x ⟨hx0, hx1⟩]; exact congrArg _ (next_group acc x k ha.out (by omega) (by omega) (by omega)).1, Lib.hid (next_group acc x k ha.out (by omega) (by omega) (by omega)).2, HD2, by omega⟩
    · go_wp2
      have hv : R = (0, 0, 5) := by rw [hd.out, List.drop_eq_nil_of_le (by omega)]; rfl
      clear hd HD
      go_ret3
      exact ⟨by rw [hv]; rfl, rfl⟩

set_option maxHeartbeats 4000000 in
theorem ref_read (a : Option Addr) (c : Nat) (L : List Int) (w : World) (hL : L.length ≤ 1000000) (hr : Sl w a c L) (hw : ∀ x, x ∈ L → W8 x) :
    Calls Try.prog 56 #[.slice a L.length c] w fun e w' => e = .returned (rdOut (rd 0 0 L)) ∧ w = w' := by
  have HR := Lib.hid hr
  have HW := Lib.hid hw
  have HD : Hid (rd 0 0 L = rd 0 0 (L.drop 0)) := rfl
  clear hr hw
  generalize rd 0 0 L = R at *
  go_enter Try.func56, Try.ntmps56
  go_wp2_with fail
  go_loopg [5, 6] (L.length + 1) (fun g s2 s9 wx => w = wx ∧ ∃ (k : Nat) (acc : Int), s9 = .int .i64 k ∧ k ≤ L.length ∧ k ≤ 9 ∧ s2 = .int .u64 acc ∧ Hid (0 ≤ acc ∧ acc < 128 ^ k) ∧ Hid (R = rd acc k (L.drop k)) ∧ L.length + 1 - k = g)
  case atStart => exact ⟨rfl, 0, 0, rfl, by omega, by omega, rfl, Lib.hid (by decide), HD, by omega⟩
  case round =>
    obtain ⟨rfl, k, acc, rfl, hk, hk9, rfl, ha, hd, rfl⟩ := hrel
    by_cases hlt : k < L.length
    · obtain ⟨b, off, rfl, _, hc⟩ := sl_at HR.out hlt
      have hx := HW.out (L.getD k 0) (by rw [List.getD_eq_getElem?_getD, List.getElem?_eq_getElem hlt]; exact List.getElem_mem hlt)
      have hs : L.drop k = L.getD k 0 :: L.drop (k + 1) := by rw [List.drop_eq_getElem_cons hlt, List.getD_eq_getElem?_getD, List.getElem?_eq_getElem hlt]; rfl
      have HS := Lib.hid hs
      clear hs
      generalize L.getD k 0 = x at *
      obtain ⟨hx0, hx1⟩ := hx
      have hge : ¬ (L.length : Int) ≤ (k : Int) := by omega
      by_cases h9 : k = 9
      · subst h9
        go_wp2
        · have hv : R = (0, 0, 6) := by rw [hd.out, HS.out, rd_over rfl (by assumption)]
          clear hd HD
          go_ret3
          exact ⟨by rw [hv]; rfl, rfl⟩
        · have h0 : x = 0 := WalkArith.int_eq (by assumption)
          have hv : R = (0, 0, 4) := by rw [hd.out, HS.out, rd_zero (by omega) h0]
          clear hd HD
          go_ret3
          exact ⟨by rw [hv]; rfl, rfl⟩
        · have h0 : x ≠ 0 := WalkArith.int_ne (by assumption)
          have hv : R = (acc + x * 128 ^ 9, ((9 : Nat) : Int) + 1, 0) := by rw [hd.out, HS.out, rd_last (by omega) (by omega) (by omega)]
          clear hd HD
          go_ret3
          exact ⟨by rw [hv]; exact rd_out_eq (by rw [grp2 x ⟨hx0, hx1⟩, pow63]; exact last_group acc x 9 ha.out (by omega) (by omega) (by omega) (by omega)) (by omega) rfl, rfl⟩
      · go_wp2
        · have h0 : x = 0 := WalkArith.int_eq (by assumption)
          have hv : R = (0, 0, 4) := by rw [hd.out, HS.out, rd_zero (by omega) h0]
          clear hd HD
          go_ret3
          exact ⟨by rw [hv]; rfl, rfl⟩
        · have h0 : x ≠ 0 := WalkArith.int_ne (by assumption)
          have hv : R = (acc + x * 128 ^ k, (k : Int) + 1, 0) := by rw [hd.out, HS.out, rd_last (by omega) (by omega) (by omega)]
          clear hd HD
          go_ret3
          exact ⟨by rw [hv]; exact rd_out_eq (by rw [grp2 x ⟨hx0, hx1⟩]; exact last_group acc x k ha.out (by omega) (by omega) (by omega) (by omega)) (by omega) rfl, rfl⟩
        · have hd2 : R = rd (acc + (x - 128) * 128 ^ k) (k + 1) (L.drop (k + 1)) := by rw [hd.out, HS.out, rd_next (by omega) (by omega)]
          have HD2 := Lib.hid hd2
          clear hd2 hd HD
          go_roundg (L.length + 1 - (k + 1))
          case measure => omega
          case rel => exact ⟨rfl, k + 1, _, by go_num, by omega, by omega, by rw [grp2 x ⟨hx0, hx1⟩]; exact congrArg _ (next_group acc x k ha.out (by omega) (by omega) (by omega)).1, Lib.hid (next_group acc x k ha.out (by omega) (by omega) (by omega)).2, HD2, by omega⟩
        · have hv : R = (acc + x * 128 ^ k, (k : Int) + 1, 0) := by rw [hd.out, HS.out, rd_last (by omega) (by omega) (by omega)]
          clear hd HD
          go_ret3
          exact ⟨by rw [hv]; exact rd_out_eq (by rw [grp2 x ⟨hx0, hx1⟩]; exact last_group acc x k ha.out (by omega) (by omega) (by omega) (by omega)) (by omega) rfl, rfl⟩
        · have hd2 : R = rd (acc + (x - 128) * 128 ^ k) (k + 1) (L.drop (k + 1)) := by rw [hd.out, HS.out, rd_next (by omega) (by omega)]
          have HD2 := Lib.hid hd2
          clear hd2 hd HD
          go_roundg (L.length + 1 - (k + 1))
          case measure => omega
          case rel => exact ⟨rfl, k + 1, _, by go_num, by omega, by omega, by rw [grp2 x ⟨hx0, hx1⟩]; exact congrArg _ (next_group acc x k ha.out (by omega) (by omega) (by omega)).1, Lib.hid (next_group acc x k ha.out (by omega) (by omega) (by omega)).2, HD2, by omega⟩
    · go_wp2
      have hv : R = (0, 0, 5) := by rw [hd.out, List.drop_eq_nil_of_le (by omega)]; rfl
      clear hd HD
      go_ret3
      exact ⟨by rw [hv]; rfl, rfl⟩
end Go.Proofs.Ytaaeepanelmgnaa
