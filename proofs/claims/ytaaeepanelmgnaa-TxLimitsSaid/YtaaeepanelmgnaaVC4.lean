/-
  The contract of varint.Append: a new row with the given bytes and the encoding of the number.
  Conditions: the number has 64 bits; at most 1000000 bytes come in.
-/
import Derived.Test.YtaaeepanelmgnaaVC3
namespace Go.Proofs.Ytaaeepanelmgnaa
set_option maxRecDepth 100000
open Go.RowKit

theorem div_pow (n : Int) (i : Nat) : n / 128 ^ (i + 1) = n / 128 ^ i / 128 := by
  have h0 : (0 : Int) ≤ 128 ^ i := Int.pow_nonneg (by omega)
  rw [Int.pow_succ, Int.ediv_ediv, if_neg (fun h => by omega), Int.sub_zero]
theorem next_byte (n : Int) (i : Nat) (P E : List Int) (h : P ++ enc (9 - i) (n / 128 ^ i) = E) (hP : P.length = i) (hE : E.length ≤ 10) (hlt : i + 1 < E.length) :
    bits .or .u8 (n / 2 ^ (7 * i) % 256) 128 = n / 128 ^ i % 128 + 128 ∧ (P ++ [n / 128 ^ i % 128 + 128]) ++ enc (9 - (i + 1)) (n / 128 ^ (i + 1)) = E := by
  have hl : P.length + (enc (9 - i) (n / 128 ^ i)).length = E.length := by rw [← h, List.length_append]
  have hx := enc_more (9 - i) (n / 128 ^ i) (by omega)
  obtain ⟨g, hg⟩ : ∃ g, 9 - i = g + 1 := ⟨8 - i, by omega⟩
  rw [pow7, div_pow, show 9 - (i + 1) = g by omega]
  rw [hg] at h
  exact ⟨(or128 _ ⟨by omega, by omega⟩).trans (by omega), enc_snoc g _ P E hx h⟩
theorem last_byte (n : Int) (i : Nat) (P E : List Int) (hn : W64 n) (h : P ++ enc (9 - i) (n / 128 ^ i) = E) (hP : P.length = i) (hE : E.length ≤ 10) (hlt : i + 1 = E.length) :
    n / 2 ^ (7 * i) % 256 = n / 128 ^ i ∧ P ++ [n / 128 ^ i] = E := by
  have hl : P.length + (enc (9 - i) (n / 128 ^ i)).length = E.length := by rw [← h, List.length_append]
  have hf : Fit (9 - i) (n / 128 ^ i) := by
    refine ⟨Int.ediv_nonneg hn.1 (Int.pow_nonneg (by omega)), Int.ediv_lt_of_lt_mul (Int.pow_pos (by omega)) ?_⟩
    rw [← Int.pow_add, show 9 - i + 1 + i = 10 by omega]
    have := hn.2
    rw [show (128 : Int) ^ 10 = 1180591620717411303424 from rfl]
    omega
  have hx := enc_one _ _ hf (by omega)
  rw [enc_small _ _ hx] at h
  rw [pow7]
  have := hf.1
  exact ⟨by omega, h⟩

set_option maxHeartbeats 2000000 in
theorem code_append (a : Option Addr) (c : Nat) (L : List Int) (n : Int) (w : World) (hL : L.length ≤ 1000000) (hr : Sl w a c L) (hn : W64 n) :
    Calls Try.prog 64 #[.slice a L.length c, .int .u64 n] w fun e w' => ∃ v, e = .returned v ∧ w'.ownsRow w.heap.size 5 1 v (L ++ Enc n).length ((L ++ Enc n).map (Value.int .u8)) ∧ Below w.heap.size w w' := by
  have HE := Enc_len n
  have HF := Lib.hid (fit_word hn.1 hn.2)
  have HU := Lib.hid (show enc 9 n = Enc n from rfl)
  have C := size_any n w hn
  generalize Enc n = E at *
  obtain ⟨i0, hi, hz0, hz1, hz2⟩ := info_parts info5
  have HI := Lib.hid hi
  have HZ0 := Lib.hid hz0
  have HZ1 := Lib.hid hz1
  have HZ2 := Lib.hid hz2
  clear hi hz0 hz1 hz2
  have HR := Lib.hid hr
  clear hr
  go_enter Try.func64, Try.ntmps64
  go_wp2_with fail
  refine C.mono ?_
  rintro e w' ⟨rfl, rfl⟩
  clear C
  go_wp2_with (at_make; refine wpList_make_own _ rfl _ _ 39 rfl w.heap.size 5 i0 (.int .u8 0) 1 Try.underlying39 HI.out HZ0.out HZ1.out .i64 .i64 _ (L.length + E.length) rfl rfl ?c1 ?c2 ?c3 ?c4 ?_)
  case c1 => omega
  case c2 => rw [HZ2.out]; omega
  case c3 => unfold maxLen; omega
  case c4 => exact Nat.le_refl _
  intro w1 ho hgrow
  have hb := (Below.refl w.heap.size w).grown hgrow (Nat.le_refl _) (fun k hk => by cases hk)
  have HR1 := Lib.hid (sl_below HR.out hb)
  have hsz := hb.size
  clear hgrow HR
  go_wp2_with (at_builtin; refine append_src rfl _ _ 39 rfl w.heap.size i0 Try.underlying39 HI.out HZ0.out HZ1.out HZ2.out _ 0 [] rfl ho a L.length c L rfl rfl HR1.out ?d1 ?d2 ?_)
  case d1 => omega
  case d2 => exact hsz
  intro v2 w2 ho2 hgrow
  have hb2 := after_append (Nat.le_refl _) hsz ho hb hgrow
  clear hgrow HR1 ho hb hsz
  go_wp2_with fail
  go_loopg [6, 19] E.length (fun g s6 s19 wx => ∃ (i : Nat) (P : List Int), s19 = .int .i64 i ∧ i < E.length ∧ Hid (P.length = i) ∧ wx.ownsRow w.heap.size 5 1 s6 (L.length + i) ((L ++ P).map (Value.int .u8)) ∧ Below w.heap.size w wx ∧ Hid (P ++ enc (9 - i) (n / 128 ^ i) = E) ∧ E.length - i = g)
  case atStart => exact ⟨0, [], rfl, by omega, rfl, by simpa using ho2, hb2, by simpa [Hid] using HU.out, by omega⟩
  case round =>
    obtain ⟨i, P, rfl, hi, hP, ho, hb, hu, rfl⟩ := hrel
    have hsz := hb.size
    by_cases hlt : i + 1 < E.length
    · go_wp2_with (at_builtin; refine append_src rfl _ _ 39 rfl w.heap.size i0 Try.underlying39 HI.out HZ0.out HZ1.out HZ2.out _ (L.length + i) _ rfl (ho.alloc _) (some ⟨wr.heap.size, 0, none⟩) 1 1 [_] rfl rfl (sl_one _ _ _) ?e1 ?e2 ?_)
      case e1 => omega
      case e2 => have := (hb.alloc hsz (.cells #[.int .u8 (bits .or .u8 (n / 2 ^ (7 * i) % 256) 128)] 5)).size; omega
      intro v1 w3 ho3 hgrow
      have hb3 := after_append (Nat.le_refl _) (hb.alloc hsz _).size (ho.alloc _) (hb.alloc hsz _) hgrow
      have HN := next_byte n i P E hu.out hP.out HE.2 hlt
      rw [HN.1] at ho3
      have HP := Lib.hid HN.2
      have HL : Hid ((P ++ [n / 128 ^ i % 128 + 128]).length = i + 1) := by show _ = _; rw [List.length_append, hP.out]; rfl
      clear hgrow ho hb HN
      go_wp2
      go_roundg (E.length - (i + 1))
      case measure => omega
      case rel => exact ⟨i + 1, P ++ [n / 128 ^ i % 128 + 128], by go_num, hlt, HL, by simpa [Nat.add_assoc] using ho3, hb3, HP, rfl⟩
    · go_wp2_with (at_builtin; refine append_src rfl _ _ 39 rfl w.heap.size i0 Try.underlying39 HI.out HZ0.out HZ1.out HZ2.out _ (L.length + i) _ rfl (ho.alloc _) (some ⟨wr.heap.size, 0, none⟩) 1 1 [_] rfl rfl (sl_one _ _ _) ?f1 ?f2 ?_)
      case f1 => omega
      case f2 => have := (hb.alloc hsz (.cells #[.int .u8 (n / 2 ^ (7 * (E.length - 1)) % 256)] 5)).size; omega
      intro v1 w3 ho3 hgrow
      have hb3 := after_append (Nat.le_refl _) (hb.alloc hsz _).size (ho.alloc _) (hb.alloc hsz _) hgrow
      obtain rfl : i = E.length - 1 := by omega
      have HN := last_byte n (E.length - 1) P E hn hu.out hP.out HE.2 (by omega)
      rw [HN.1] at ho3
      have HN2 := HN.2
      generalize n / 128 ^ (E.length - 1) = y at ho3 HN2
      have HO : Hid (w3.ownsRow w.heap.size 5 1 v1 (L ++ E).length ((L ++ E).map (Value.int .u8))) := by
        have e1 : L.length + (E.length - 1) + 1 = (L ++ E).length := by rw [List.length_append]; omega
        have e2 : (L ++ E).map (Value.int .u8) = L.map (Value.int .u8) ++ (P.map (Value.int .u8) ++ [.int .u8 y]) := by rw [← HN2]; simp
        rw [← e1, e2]
        exact Lib.hid (by simpa using ho3)
      clear hgrow ho hb HN ho3 HN2
      go_wp2
      go_ret
      exact ⟨_, rfl, HO.out, hb3⟩
end Go.Proofs.Ytaaeepanelmgnaa
