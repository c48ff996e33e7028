/-
  The contracts of the two functions that append an encoding, and of SizeVarint: a new row with the given bytes and the encoding of the number.
  Conditions: the number has 64 bits; at most 1000000 bytes come in. The contract of varint.Append: a new row with the given bytes and the encoding of the number.
  Conditions: the number has 64 bits; at most 1000000 bytes come in. The contracts of the two functions that read an encoding: both return what rd says of the bytes.
  Conditions: at most 1000000 bytes come in. The plain arithmetic of messages: the encoding of a field as a list of bytes, what is read as one field, and what is read as a message.
  Conditions: none of their own. Slices of bytes, more: parts of a slice; rows that a call made and what becomes of them; blocks that were just made.
  Conditions: none of their own. The contracts of the small functions on a field: valid, tag, second, right.
  Conditions: as typed. The contracts of slices.Grow at nil, of slices.Concat, and of wire.Append.
  Conditions: as typed. The contracts of wire.Append and wire.Size.
  Conditions: as typed. The contracts of wire.Size, of both SizeBytes, and of wire.start.
  Conditions: as typed. The contract of wire.first: what onef says of the bytes.
  Conditions: as typed. The contracts of the reference's writing of a field, and of its size.
  Conditions: as typed.
-/
import Derived.Test.YtebnlklodokhkaaDoorVC2
import Derived.Test.YtebnlklodokhkaaDoorVAr
import Derived.Lib.AppendZeros
import Derived.Deep.Onto
import Derived.Deep.RegionHeld3
import Derived.Lib.LazyBuf
namespace Go.Proofs.YtebnlklodokhkaaDoor
set_option maxRecDepth 100000
open Go.RowKit

theorem enc_snoc (f : Nat) (x : Int) (P E : List Int) (hx : ¬ x < 128) (h : P ++ enc (f + 1) x = E) : (P ++ [x % 128 + 128]) ++ enc f (x / 128) = E := by
  rw [enc_large f x hx] at h
  simpa using h

/-- An empty row that was just made. -/
theorem own_empty (w : World) : (w.alloc (.cells #[] 5)).ownsRow w.heap.size 5 1 (.slice (some ⟨w.heap.size, 0, none⟩) 0 0) 0 [] :=
  ⟨by simp, .inr ⟨w.heap.size, 0, #[], rfl, Nat.le_refl _, heap_alloc_new w _, by omega, by unfold maxLen; omega, rfl, rfl⟩⟩

set_option maxHeartbeats 2000000 in
theorem ref_append (a : Option Addr) (c : Nat) (L : List Int) (n : Int) (w : World) (hL : L.length ≤ 1000000) (hr : Sl w a c L) (hn : W64 n) :
    Calls Tryd.prog 64 #[.slice a L.length c, .int .u64 n] w fun e w' => ∃ v, e = .returned v ∧ w'.ownsRow w.heap.size 5 1 v (L ++ Enc n).length ((L ++ Enc n).map (Value.int .u8)) ∧ Below w.heap.size w w' := by
  have HE := Enc_len n
  have HF := Lib.hid (fit_word hn.1 hn.2)
  have HU := Lib.hid (show enc 9 n = Enc n from rfl)
  have HR := Lib.hid hr
  generalize Enc n = E at *
  obtain ⟨i0, hi, hz0, hz1, hz2⟩ := info_parts info5
  have HI := Lib.hid hi
  have HZ0 := Lib.hid hz0
  have HZ1 := Lib.hid hz1
  have HZ2 := Lib.hid hz2
  clear hi hz0 hz1 hz2
  have hr1 := sl_below hr ((Below.refl w.heap.size w).alloc (Nat.le_refl _) (.cells #[] 5))
  have HR1 := Lib.hid hr1
  clear hr1 hr
  go_enter Tryd.func64, Tryd.ntmps64
  go_wp2_with (at_builtin; refine append_src rfl _ _ 53 rfl w.heap.size i0 Tryd.underlying53 HI.out HZ0.out HZ1.out HZ2.out _ 0 [] rfl (own_empty w) a L.length c L rfl rfl HR1.out ?c1 ?c2 ?_)
  case c1 => omega
  case c2 => simp
  intro v' w1 hown hgrow
  have hbel := after_append (w0 := w) (Nat.le_refl _) (by simp) (own_empty w) ((Below.refl _ w).alloc (Nat.le_refl _) _) hgrow
  clear hgrow HR1
  go_wp2_with fail
  go_loopg [1, 5] 9 (fun g s1 s5 wx => ∃ (f : Nat) (x : Int) (P : List Int), s1 = .int .u64 x ∧ W64 x ∧ Hid (Fit f x) ∧ wx.ownsRow w.heap.size 5 1 s5 (L.length + P.length) ((L ++ P).map (Value.int .u8)) ∧ Below w.heap.size w wx ∧ Hid (P ++ enc f x = E) ∧ f = g)
  case atStart => exact ⟨9, n, [], rfl, hn, HF, by simpa using hown, hbel, HU, rfl⟩
  case round =>
    obtain ⟨f, x, P, rfl, ⟨hx0, hx1⟩, hf, ho, hb, hu, rfl⟩ := hrel
    have hlen : P.length ≤ E.length := by rw [← hu.out]; simp
    have hsz := hb.size
    by_cases hlt : x < 128
    · go_wp2_with (at_builtin; refine append_src rfl _ _ 53 rfl w.heap.size i0 Tryd.underlying53 HI.out HZ0.out HZ1.out HZ2.out _ (L.length + P.length) _ rfl (ho.alloc _) (some ⟨wr.heap.size, 0, none⟩) 1 1 [x] rfl rfl (sl_one _ _ _) ?d1 ?d2 ?_)
      case d1 => omega
      case d2 => simp; omega
      intro v1 w2 ho2 hgrow
      have hb2 := after_append (Nat.le_refl _) (hb.alloc hsz _).size (ho.alloc _) (hb.alloc hsz _) hgrow
      have hu2 := hu.out
      rw [enc_small f x hlt] at hu2
      have HO : Hid (w2.ownsRow w.heap.size 5 1 v1 (L ++ E).length ((L ++ E).map (Value.int .u8))) := by
        rw [← hu2]
        simpa [Hid, Nat.add_assoc] using ho2
      clear hgrow ho hb ho2 hu2
      go_wp2
      go_ret
      exact ⟨_, rfl, HO.out, hb2⟩
    · obtain ⟨f', rfl⟩ := fit_pos hf.out hlt
      have hy1 : bits .or .u8 (x % 256) 128 = x % 128 + 128 := (or128 (x % 256) ⟨by omega, by omega⟩).trans (by omega)
      have hy2 : bits .or .u8 (IntKind.u8.wrap x) 128 = x % 128 + 128 := by rw [IntKind.wrap_u8']; exact hy1
      have HY := Lib.hid (enc_snoc f' x P E hlt hu.out)
      generalize x % 128 + 128 = y at *
      go_wp2_with (at_builtin; refine append_src rfl _ _ 53 rfl w.heap.size i0 Tryd.underlying53 HI.out HZ0.out HZ1.out HZ2.out _ (L.length + P.length) _ rfl (ho.alloc _) (some ⟨wr.heap.size, 0, none⟩) 1 1 [y] rfl rfl (sl_one _ _ _) ?e1 ?e2 ?_)
      case e1 => omega
      case e2 => have := (hb.alloc hsz (.cells #[.int .u8 y] 5)).size; omega
      intro v1 w2 ho2 hgrow
      have hb2 := after_append (Nat.le_refl _) (hb.alloc hsz _).size (ho.alloc _) (hb.alloc hsz _) hgrow
      clear hgrow ho hb hy1 hy2
      go_wp2
      go_roundg f'
      case measure => omega
      case rel => exact ⟨f', x / 128, P ++ [y], by rfl, ⟨by omega, by omega⟩, Lib.hid (fit_down hf.out), by simpa [Nat.add_assoc] using ho2, hb2, HY, rfl⟩

end Go.Proofs.YtebnlklodokhkaaDoor
namespace Go.Proofs.YtebnlklodokhkaaDoor
set_option maxRecDepth 100000
open Go.RowKit

theorem div_pow (n : Int) (i : Nat) : n / 128 ^ (i + 1) = n / 128 ^ i / 128 := by
  have h0 : (0 : Int) ≤ 128 ^ i := Int.pow_nonneg (by omega)
  rw [Int.pow_succ, Int.ediv_ediv, if_neg (fun h => by omega), Int.sub_zero]
theorem next_byte (n : Int) (i : Nat) (P E : List Int) (h : P ++ enc (9 - i) (n / 128 ^ i) = E) (hP : P.length = i) (hE : E.length ≤ 10) (hlt : i + 1 < E.length) :
    bits .or .u8 (n / 2 ^ (7 * i) % 256) 128 = n / 128 ^ i % 128 + 128 ∧ (P ++ [n / 128 ^ i % 128 + 128]) ++ enc (9 - (i + 1)) (n / 128 ^ (i + 1)) = E := by
  have hl : P.length + (enc (9 - i) (n / 128 ^ i)).length = E.length := by rw [← h, List.length_append]
  have hx := enc_more (9 - i) (n / 128 ^ i) (by omega)
  obtain ⟨g, hg⟩ : ∃ g, 9 - i = g + 1 := ⟨8 - i, by omega⟩
  rw [pow7, div_pow, show 9 - (i + 1) = g by omega]
  rw [hg] at h
  exact ⟨(or128 _ ⟨by omega, by omega⟩).trans (by omega), enc_snoc g _ P E hx h⟩
theorem last_byte (n : Int) (i : Nat) (P E : List Int) (hn : W64 n) (h : P ++ enc (9 - i) (n / 128 ^ i) = E) (hP : P.length = i) (hE : E.length ≤ 10) (hlt : i + 1 = E.length) :
    n / 2 ^ (7 * i) % 256 = n / 128 ^ i ∧ P ++ [n / 128 ^ i] = E := by
  have hl : P.length + (enc (9 - i) (n / 128 ^ i)).length = E.length := by rw [← h, List.length_append]
  have hf : Fit (9 - i) (n / 128 ^ i) := by
    refine ⟨Int.ediv_nonneg hn.1 (Int.pow_nonneg (by omega)), Int.ediv_lt_of_lt_mul (Int.pow_pos (by omega)) ?_⟩
    rw [← Int.pow_add, show 9 - i + 1 + i = 10 by omega]
    have := hn.2
    rw [show (128 : Int) ^ 10 = 1180591620717411303424 from rfl]
    omega
  have hx := enc_one _ _ hf (by omega)
  rw [enc_small _ _ hx] at h
  rw [pow7]
  have := hf.1
  exact ⟨by omega, h⟩

set_option maxHeartbeats 2000000 in
theorem code_append (a : Option Addr) (c : Nat) (L : List Int) (n : Int) (w : World) (hL : L.length ≤ 1000000) (hr : Sl w a c L) (hn : W64 n) :
    Calls Tryd.prog 54 #[.slice a L.length c, .int .u64 n] w fun e w' => ∃ v, e = .returned v ∧ w'.ownsRow w.heap.size 5 1 v (L ++ Enc n).length ((L ++ Enc n).map (Value.int .u8)) ∧ Below w.heap.size w w' := by
  have HE := Enc_len n
  have HF := Lib.hid (fit_word hn.1 hn.2)
  have HU := Lib.hid (show enc 9 n = Enc n from rfl)
  have C := size_any n w hn
  generalize Enc n = E at *
  obtain ⟨i0, hi, hz0, hz1, hz2⟩ := info_parts info5
  have HI := Lib.hid hi
  have HZ0 := Lib.hid hz0
  have HZ1 := Lib.hid hz1
  have HZ2 := Lib.hid hz2
  clear hi hz0 hz1 hz2
  have HR := Lib.hid hr
  clear hr
  go_enter Tryd.func54, Tryd.ntmps54
  go_wp2_with fail
  refine C.mono ?_
  rintro e w' ⟨rfl, rfl⟩
  clear C
  go_wp2_with (at_make; refine wpList_make_own _ rfl _ _ 53 rfl w.heap.size 5 i0 (.int .u8 0) 1 Tryd.underlying53 HI.out HZ0.out HZ1.out .i64 .i64 _ (L.length + E.length) rfl rfl ?c1 ?c2 ?c3 ?c4 ?_)
  case c1 => omega
  case c2 => rw [HZ2.out]; omega
  case c3 => unfold maxLen; omega
  case c4 => exact Nat.le_refl _
  intro w1 ho hgrow
  have hb := (Below.refl w.heap.size w).grown hgrow (Nat.le_refl _) (fun k hk => by cases hk)
  have HR1 := Lib.hid (sl_below HR.out hb)
  have hsz := hb.size
  clear hgrow HR
  go_wp2_with (at_builtin; refine append_src rfl _ _ 53 rfl w.heap.size i0 Tryd.underlying53 HI.out HZ0.out HZ1.out HZ2.out _ 0 [] rfl ho a L.length c L rfl rfl HR1.out ?d1 ?d2 ?_)
  case d1 => omega
  case d2 => exact hsz
  intro v2 w2 ho2 hgrow
  have hb2 := after_append (Nat.le_refl _) hsz ho hb hgrow
  clear hgrow HR1 ho hb hsz
  go_wp2_with fail
  go_loopg [6, 19] E.length (fun g s6 s19 wx => ∃ (i : Nat) (P : List Int), s19 = .int .i64 i ∧ i < E.length ∧ Hid (P.length = i) ∧ wx.ownsRow w.heap.size 5 1 s6 (L.length + i) ((L ++ P).map (Value.int .u8)) ∧ Below w.heap.size w wx ∧ Hid (P ++ enc (9 - i) (n / 128 ^ i) = E) ∧ E.length - i = g)
  case atStart => exact ⟨0, [], rfl, by omega, rfl, by simpa using ho2, hb2, by simpa [Hid] using HU.out, by omega⟩
  case round =>
    obtain ⟨i, P, rfl, hi, hP, ho, hb, hu, rfl⟩ := hrel
    have hsz := hb.size
    by_cases hlt : i + 1 < E.length
    · go_wp2_with (at_builtin; refine append_src rfl _ _ 53 rfl w.heap.size i0 Tryd.underlying53 HI.out HZ0.out HZ1.out HZ2.out _ (L.length + i) _ rfl (ho.alloc _) (some ⟨wr.heap.size, 0, none⟩) 1 1 [_] rfl rfl (sl_one _ _ _) ?e1 ?e2 ?_)
      case e1 => omega
      case e2 => have := (hb.alloc hsz (.cells #[.int .u8 (bits .or .u8 (n / 2 ^ (7 * i) % 256) 128)] 5)).size; omega
      intro v1 w3 ho3 hgrow
      have hb3 := after_append (Nat.le_refl _) (hb.alloc hsz _).size (ho.alloc _) (hb.alloc hsz _) hgrow
      have HN := next_byte n i P E hu.out hP.out HE.2 hlt
      rw [HN.1] at ho3
      have HP := Lib.hid HN.2
      have HL : Hid ((P ++ [n / 128 ^ i % 128 + 128]).length = i + 1) := by show _ = _; rw [List.length_append, hP.out]; rfl
      clear hgrow ho hb HN
      go_wp2
      go_roundg (E.length - (i + 1))
      case measure => omega
      case rel => exact ⟨i + 1, P ++ [n / 128 ^ i % 128 + 128], by go_num, hlt, HL, by simpa [Nat.add_assoc] using ho3, hb3, HP, rfl⟩
    · go_wp2_with (at_builtin; refine append_src rfl _ _ 53 rfl w.heap.size i0 Tryd.underlying53 HI.out HZ0.out HZ1.out HZ2.out _ (L.length + i) _ rfl (ho.alloc _) (some ⟨wr.heap.size, 0, none⟩) 1 1 [_] rfl rfl (sl_one _ _ _) ?f1 ?f2 ?_)
      case f1 => omega
      case f2 => have := (hb.alloc hsz (.cells #[.int .u8 (n / 2 ^ (7 * (E.length - 1)) % 256)] 5)).size; omega
      intro v1 w3 ho3 hgrow
      have hb3 := after_append (Nat.le_refl _) (hb.alloc hsz _).size (ho.alloc _) (hb.alloc hsz _) hgrow
      obtain rfl : i = E.length - 1 := by omega
      have HN := last_byte n (E.length - 1) P E hn hu.out hP.out HE.2 (by omega)
      rw [HN.1] at ho3
      have HN2 := HN.2
      generalize n / 128 ^ (E.length - 1) = y at ho3 HN2
      have HO : Hid (w3.ownsRow w.heap.size 5 1 v1 (L ++ E).length ((L ++ E).map (Value.int .u8))) := by
        have e1 : L.length + (E.length - 1) + 1 = (L ++ E).length := by rw [List.length_append]; omega
        have e2 : (L ++ E).map (Value.int .u8) = L.map (Value.int .u8) ++ (P.map (Value.int .u8) ++ [.int .u8 y]) := by rw [← HN2]; simp
        rw [← e1, e2]
        exact Lib.hid (by simpa using ho3)
      clear hgrow ho hb HN ho3 HN2
      go_wp2
      go_ret
      exact ⟨_, rfl, HO.out, hb3⟩
end Go.Proofs.YtebnlklodokhkaaDoor
namespace Go.Proofs.YtebnlklodokhkaaDoor
set_option maxRecDepth 100000
open Go.RowKit

/-- What Read returns for the result r. -/
def rdOut (r : Int × Int × Int) : Value := .tuple #[.int .u64 r.1, .int .i64 r.2.1, .int .i64 r.2.2]

theorem grp (x : Int) (h : W8 x) : IntKind.u64.wrap (bits .andNot .u8 x 128) = x % 128 := by
  rw [andNot128 x h, IntKind.wrap_u64]
  omega
theorem grp2 (x : Int) (h : W8 x) : IntKind.u64.wrap (bits .and .u8 x 127) = x % 128 := by
  rw [and127 x h, IntKind.wrap_u64]
  omega
/-- A group y is put at the place k. -/
theorem put_group (acc y : Int) (k : Nat) (ha : 0 ≤ acc ∧ acc < 128 ^ k) (hk : k ≤ 9) (h0 : 0 ≤ y) (h1 : y < 128) (h9 : ¬ (k = 9 ∧ 1 < y)) :
    bits .or .u64 acc (IntKind.u64.wrap (y * 2 ^ (7 * k))) = acc + y * 128 ^ k := by
  have hp : (128 : Int) ^ k ≤ 128 ^ 9 := pow_le hk
  rw [show (128 : Int) ^ 9 = 9223372036854775808 from rfl] at hp
  refine or64 acc y k ha.1 ha.2 h0 ?_ (by omega)
  by_cases h : k = 9
  · subst h
    rw [show (128 : Int) ^ 9 = 9223372036854775808 from rfl]
    omega
  · have hp8 : (128 : Int) ^ k ≤ 128 ^ 8 := pow_le (by omega)
    rw [show (128 : Int) ^ 8 = 72057594037927936 from rfl] at hp8
    have := Int.mul_le_mul (show y ≤ 127 by omega) hp8 (Int.pow_nonneg (by omega)) (by omega)
    omega
theorem put_bound (acc y : Int) (k : Nat) (ha : 0 ≤ acc ∧ acc < 128 ^ k) (h0 : 0 ≤ y) (h1 : y < 128) : 0 ≤ acc + y * 128 ^ k ∧ acc + y * 128 ^ k < 128 ^ (k + 1) := by
  have hp : (0 : Int) < 128 ^ k := Int.pow_pos (by omega)
  have h2 := Int.mul_le_mul_of_nonneg_right (show y ≤ 127 by omega) (Int.le_of_lt hp)
  have h3 := Int.mul_nonneg h0 (Int.le_of_lt hp)
  rw [Int.pow_succ]
  omega
theorem last_group (acc x : Int) (k : Nat) (ha : 0 ≤ acc ∧ acc < 128 ^ k) (hk : k ≤ 9) (h0 : 0 ≤ x) (h1 : x < 128) (h9 : ¬ (k = 9 ∧ 1 < x)) :
    bits .or .u64 acc (IntKind.u64.wrap (x % 128 * 2 ^ (7 * k))) = acc + x * 128 ^ k := by
  rw [show x % 128 = x by omega]
  exact put_group acc x k ha hk h0 h1 h9
theorem next_group (acc x : Int) (k : Nat) (ha : 0 ≤ acc ∧ acc < 128 ^ k) (hk : k ≤ 8) (h0 : 128 ≤ x) (h1 : x ≤ 255) :
    bits .or .u64 acc (IntKind.u64.wrap (x % 128 * 2 ^ (7 * k))) = acc + (x - 128) * 128 ^ k ∧ 0 ≤ acc + (x - 128) * 128 ^ k ∧ acc + (x - 128) * 128 ^ k < 128 ^ (k + 1) := by
  rw [show x % 128 = x - 128 by omega]
  exact ⟨put_group acc (x - 128) k ha (by omega) (by omega) (by omega) (by omega), put_bound acc (x - 128) k ha (by omega) (by omega)⟩
theorem pow63 : (9223372036854775808 : Int) = 2 ^ (7 * 9) := rfl
theorem rd_out_eq {n1 n2 s1 s2 e1 e2 : Int} (h1 : n1 = n2) (h2 : s1 = s2) (h3 : e1 = e2) : Ending.returned (.tuple #[.int .u64 n1, .int .i64 s1, .int .i64 e1]) = Ending.returned (rdOut (n2, s2, e2)) := by
  subst h1 h2 h3
  rfl

end Go.Proofs.YtebnlklodokhkaaDoor
namespace Go.Proofs.YtebnlklodokhkaaDoor
set_option maxRecDepth 100000
open Go

/-- A field. -/
structure Fld where
  num : Int
  kind : Int
  val : Int
  bytes : List Int

/-- The number behind the tag. -/
def secI (kind val : Int) (n : Nat) : Int := if kind = 2 then (n : Int) else val
/-- The field is valid: by its number, its kind, its value and the number of its bytes. -/
def Vfi (num kind val : Int) (n : Nat) : Prop := 1 ≤ num ∧ num ≤ 536870911 ∧ ((kind = 0 ∧ n = 0) ∨ (kind = 2 ∧ val = 0))
/-- The encoding of a field. -/
def encI (num kind val : Int) (B : List Int) : List Int := Enc (8 * num + kind) ++ (Enc (secI kind val B.length) ++ B)
def encF (f : Fld) : List Int := encI f.num f.kind f.val f.bytes
/-- A valid field whose value has 64 bits and whose bytes are bytes, not too many. -/
def Vf (f : Fld) : Prop := Vfi f.num f.kind f.val f.bytes.length ∧ (0 ≤ f.val ∧ f.val ≤ 18446744073709551615) ∧ (∀ x, x ∈ f.bytes → 0 ≤ x ∧ x ≤ 255) ∧ f.bytes.length ≤ 1000000

def zeroF : Fld := ⟨0, 0, 0, []⟩
/-- What is read as one field at the beginning of L: the field, its size, the error. -/
def onef (L : List Int) : Fld × Int × Int :=
  if (rd 0 0 L).2.2 ≠ 0 then (zeroF, 0, (rd 0 0 L).2.2) else
  if (rd 0 0 L).1 / 8 < 1 ∨ 536870911 < (rd 0 0 L).1 / 8 ∨ ((rd 0 0 L).1 % 8 ≠ 0 ∧ (rd 0 0 L).1 % 8 ≠ 2) then (zeroF, 0, 4) else
  if (rd 0 0 (L.drop (rd 0 0 L).2.1.toNat)).2.2 ≠ 0 then (zeroF, 0, (rd 0 0 (L.drop (rd 0 0 L).2.1.toNat)).2.2) else
  if (rd 0 0 L).1 % 8 = 0 then (⟨(rd 0 0 L).1 / 8, 0, (rd 0 0 (L.drop (rd 0 0 L).2.1.toNat)).1, []⟩, (rd 0 0 L).2.1 + (rd 0 0 (L.drop (rd 0 0 L).2.1.toNat)).2.1, 0) else
  if ((L.drop ((rd 0 0 L).2.1.toNat + (rd 0 0 (L.drop (rd 0 0 L).2.1.toNat)).2.1.toNat)).length : Int) < (rd 0 0 (L.drop (rd 0 0 L).2.1.toNat)).1 then (zeroF, 0, 5) else
  (⟨(rd 0 0 L).1 / 8, 2, 0, (L.drop ((rd 0 0 L).2.1.toNat + (rd 0 0 (L.drop (rd 0 0 L).2.1.toNat)).2.1.toNat)).take (rd 0 0 (L.drop (rd 0 0 L).2.1.toNat)).1.toNat⟩,
    (rd 0 0 L).2.1 + (rd 0 0 (L.drop (rd 0 0 L).2.1.toNat)).2.1 + (rd 0 0 (L.drop (rd 0 0 L).2.1.toNat)).1, 0)

/-- The tag's number and kind are those of a field. -/
def goodT (t : Int) : Prop := 1 ≤ t / 8 ∧ t / 8 ≤ 536870911 ∧ (t % 8 = 0 ∨ t % 8 = 2)

theorem one_tag {L : List Int} {a s e : Int} (h : rd 0 0 L = (a, s, e)) (he : e ≠ 0) : onef L = (zeroF, 0, e) := by
  unfold onef; rw [h]; rw [if_pos he]
theorem one_bad {L : List Int} {t s : Int} (h : rd 0 0 L = (t, s, 0)) (hb : ¬ goodT t) : onef L = (zeroF, 0, 4) := by
  unfold onef; rw [h]; rw [if_neg (by simp), if_pos]
  unfold goodT at hb
  simp only
  omega
theorem one_len {L : List Int} {t a s e : Int} {h : Nat} (h1 : rd 0 0 L = (t, (h : Int), 0)) (hg : goodT t) (h2 : rd 0 0 (L.drop h) = (a, s, e)) (he : e ≠ 0) : onef L = (zeroF, 0, e) := by
  unfold onef; rw [h1]; simp only [Int.toNat_natCast]; rw [h2]
  unfold goodT at hg
  rw [if_neg (by simp), if_neg (by omega), if_pos he]
theorem one_var {L : List Int} {t n : Int} {h k : Nat} (h1 : rd 0 0 L = (t, (h : Int), 0)) (hg : goodT t) (h2 : rd 0 0 (L.drop h) = (n, (k : Int), 0)) (h0 : t % 8 = 0) : onef L = (⟨t / 8, 0, n, []⟩, ((h + k : Nat) : Int), 0) := by
  unfold onef; rw [h1]; simp only [Int.toNat_natCast]; rw [h2]
  unfold goodT at hg
  rw [if_neg (by simp), if_neg (by omega), if_neg (by simp), if_pos h0]
  simp
theorem one_short {L : List Int} {t n : Int} {h k : Nat} (h1 : rd 0 0 L = (t, (h : Int), 0)) (hg : goodT t) (h2 : rd 0 0 (L.drop h) = (n, (k : Int), 0)) (h0 : t % 8 = 2) (hs : ((L.drop (h + k)).length : Int) < n) : onef L = (zeroF, 0, 5) := by
  unfold onef; rw [h1]; simp only [Int.toNat_natCast]; rw [h2]
  unfold goodT at hg
  rw [if_neg (by simp), if_neg (by omega), if_neg (by simp), if_neg (by omega), if_pos (by simpa using hs)]
theorem one_bytes {L : List Int} {t : Int} {n h k : Nat} (h1 : rd 0 0 L = (t, (h : Int), 0)) (hg : goodT t) (h2 : rd 0 0 (L.drop h) = ((n : Int), (k : Int), 0)) (h0 : t % 8 = 2) (hs : n ≤ (L.drop (h + k)).length) :
    onef L = (⟨t / 8, 2, 0, (L.drop (h + k)).take n⟩, ((h + k + n : Nat) : Int), 0) := by
  unfold onef; rw [h1]; simp only [Int.toNat_natCast]; rw [h2]
  unfold goodT at hg
  rw [if_neg (by simp), if_neg (by omega), if_neg (by simp), if_neg (by omega), if_neg (by simp only [Int.toNat_natCast]; omega)]
  simp

theorem drop_bytes {L : List Int} (hl : ∀ x, x ∈ L → 0 ≤ x ∧ x ≤ 255) (k : Nat) : ∀ x, x ∈ L.drop k → 0 ≤ x ∧ x ≤ 255 := fun x hx => hl x (List.mem_of_mem_drop hx)
theorem take_bytes {L : List Int} (hl : ∀ x, x ∈ L → 0 ≤ x ∧ x ≤ 255) (k : Nat) : ∀ x, x ∈ L.take k → 0 ≤ x ∧ x ≤ 255 := fun x hx => hl x (List.mem_of_mem_take hx)

theorem trip {r : Int × Int × Int} (h1 : r.1 = 0) (h2 : r.2.1 = 0) : r = (0, 0, r.2.2) := by
  obtain ⟨a, b, c⟩ := r
  simp only at h1 h2
  rw [h1, h2]

/-- The ways of reading one field. -/
theorem one_cases (L : List Int) (hl : ∀ x, x ∈ L → 0 ≤ x ∧ x ≤ 255) :
    (∃ e, rd 0 0 L = (0, 0, e) ∧ e ≠ 0) ∨
    ∃ (t : Int) (h : Nat), 0 ≤ t ∧ t ≤ 18446744073709551615 ∧ rd 0 0 L = (t, (h : Int), 0) ∧ 0 < h ∧ h ≤ 10 ∧ h ≤ L.length ∧ Enc t = L.take h ∧ (Enc t).length = h ∧
      (¬ goodT t ∨ (goodT t ∧
        ((∃ e, rd 0 0 (L.drop h) = (0, 0, e) ∧ e ≠ 0) ∨
         ∃ (n k : Nat), (n : Int) ≤ 18446744073709551615 ∧ rd 0 0 (L.drop h) = ((n : Int), (k : Int), 0) ∧ 0 < k ∧ k ≤ 10 ∧ h + k ≤ L.length ∧ Enc n = (L.drop h).take k ∧ (Enc (n : Int)).length = k))) := by
  rcases rd_Inv L hl with ⟨h1, h2, h3⟩ | ⟨t, ht0, ht1, hr, hle, htk⟩
  · refine .inl ⟨(rd 0 0 L).2.2, ?_, h3⟩
    exact trip h1 h2
  · refine .inr ⟨t, (Enc t).length, ht0, ht1, hr, (Enc_len t).1, (Enc_len t).2, hle, htk, rfl, ?_⟩
    by_cases hg : goodT t
    · refine .inr ⟨hg, ?_⟩
      rcases rd_Inv (L.drop (Enc t).length) (drop_bytes hl _) with ⟨h1, h2, h3⟩ | ⟨n, hn0, hn1, hr2, hle2, htk2⟩
      · refine .inl ⟨(rd 0 0 (L.drop (Enc t).length)).2.2, ?_, h3⟩
        exact trip h1 h2
      · obtain ⟨N, rfl⟩ := Int.eq_ofNat_of_zero_le hn0
        rw [List.length_drop] at hle2
        exact .inr ⟨N, (Enc (N : Int)).length, hn1, hr2, (Enc_len _).1, (Enc_len _).2, by omega, htk2, rfl⟩
    · exact .inl hg

/-- One field: the field, or the error. -/
theorem one_inv (L : List Int) (hl : ∀ x, x ∈ L → 0 ≤ x ∧ x ≤ 255) (hL : L.length ≤ 1000000) :
    (∃ e, onef L = (zeroF, 0, e) ∧ e ≠ 0) ∨ ∃ f, Vf f ∧ onef L = (f, ((encF f).length : Int), 0) ∧ (encF f).length ≤ L.length ∧ L = encF f ++ L.drop (encF f).length := by
  rcases one_cases L hl with ⟨e, h, he⟩ | ⟨t, h, ht0, ht1, hr, h0, h10, hle, htk, hlen, hc⟩
  · exact .inl ⟨e, one_tag h he, he⟩
  rcases hc with hb | ⟨hg, hc⟩
  · exact .inl ⟨4, one_bad hr hb, by omega⟩
  rcases hc with ⟨e, h2, he⟩ | ⟨n, k, hn, h2, hk0, hk10, hle2, htk2, hlen2⟩
  · exact .inl ⟨e, one_len hr hg h2 he, he⟩
  have hL1 : L = Enc t ++ (Enc (n : Int) ++ L.drop (h + k)) := by
    rw [htk, htk2, ← List.drop_drop, List.take_append_drop, List.take_append_drop]
  have hg' := hg
  unfold goodT at hg'
  by_cases h8 : t % 8 = 0
  · have ht : 8 * (t / 8) + 0 = t := by omega
    have he : encF ⟨t / 8, 0, n, []⟩ = Enc t ++ Enc (n : Int) := by
      show Enc (8 * (t / 8) + 0) ++ (Enc (secI 0 n 0) ++ []) = _
      rw [ht, List.append_nil]; rfl
    have hl2 : (encF ⟨t / 8, 0, n, []⟩).length = h + k := by rw [he, List.length_append, hlen, hlen2]
    refine .inr ⟨⟨t / 8, 0, n, []⟩, ⟨⟨by simp only; omega, by simp only; omega, .inl ⟨rfl, rfl⟩⟩, ⟨by simp only; omega, hn⟩, by simp, by simp⟩, ?_, ?_, ?_⟩
    · rw [one_var hr hg h2 h8, hl2]
    · rw [hl2]; omega
    · rw [hl2, he, List.append_assoc]; exact hL1
  · have h82 : t % 8 = 2 := by omega
    by_cases hs : n ≤ (L.drop (h + k)).length
    · have hbl : ((L.drop (h + k)).take n).length = n := by rw [List.length_take]; omega
      have he : encF ⟨t / 8, 2, 0, (L.drop (h + k)).take n⟩ = Enc t ++ (Enc (n : Int) ++ (L.drop (h + k)).take n) := by
        show Enc (8 * (t / 8) + 2) ++ (Enc (secI 2 0 ((L.drop (h + k)).take n).length) ++ _) = _
        rw [hbl, show 8 * (t / 8) + 2 = t by omega]; rfl
      have hl2 : (encF ⟨t / 8, 2, 0, (L.drop (h + k)).take n⟩).length = h + k + n := by rw [he, List.length_append, List.length_append, hlen, hlen2, hbl, Nat.add_assoc]
      refine .inr ⟨⟨t / 8, 2, 0, (L.drop (h + k)).take n⟩, ⟨⟨by simp only; omega, by simp only; omega, .inr ⟨rfl, rfl⟩⟩, ⟨by simp only; omega, by simp only; omega⟩, take_bytes (drop_bytes hl _) _, ?_⟩, ?_, ?_, ?_⟩
      · simp only [hbl]; rw [List.length_drop] at hs; omega
      · rw [one_bytes hr hg h2 h82 hs, hl2]
      · rw [hl2]; rw [List.length_drop] at hs; omega
      · have hd : L.drop (h + k + n) = (L.drop (h + k)).drop n := by rw [List.drop_drop]
        rw [hl2, he, hd, List.append_assoc, List.append_assoc, List.take_append_drop]; exact hL1
    · exact .inl ⟨5, one_short hr hg h2 h82 (by omega), by omega⟩

theorem tag_bounds {f : Fld} (h : Vf f) : 0 ≤ 8 * f.num + f.kind ∧ 8 * f.num + f.kind ≤ 18446744073709551615 := by
  obtain ⟨⟨h1, h2, h3⟩, _⟩ := h
  omega
theorem sec_bounds {f : Fld} (h : Vf f) : 0 ≤ secI f.kind f.val f.bytes.length ∧ secI f.kind f.val f.bytes.length ≤ 18446744073709551615 := by
  obtain ⟨_, h1, _, h3⟩ := h
  unfold secI
  split <;> omega
/-- The encoding of a field is read, whatever follows. -/
theorem one_enc (f : Fld) (h : Vf f) (T : List Int) : onef (encF f ++ T) = (f, ((encF f).length : Int), 0) := by
  have tb := tag_bounds h
  have sb := sec_bounds h
  obtain ⟨⟨v1, v2, v3⟩, w1, w2, w3⟩ := h
  have e0 : encF f ++ T = Enc (8 * f.num + f.kind) ++ (Enc (secI f.kind f.val f.bytes.length) ++ (f.bytes ++ T)) := by simp [encF, encI]
  have r1 := rd_Enc _ tb.1 tb.2 (Enc (secI f.kind f.val f.bytes.length) ++ (f.bytes ++ T))
  have r2 := rd_Enc _ sb.1 sb.2 (f.bytes ++ T)
  rw [← e0] at r1
  have d1 : (encF f ++ T).drop (Enc (8 * f.num + f.kind)).length = Enc (secI f.kind f.val f.bytes.length) ++ (f.bytes ++ T) := by rw [e0, List.drop_left]
  rw [← d1] at r2
  have d2 : (encF f ++ T).drop ((Enc (8 * f.num + f.kind)).length + (Enc (secI f.kind f.val f.bytes.length)).length) = f.bytes ++ T := by rw [← List.drop_drop, d1, List.drop_left]
  have hg : goodT (8 * f.num + f.kind) := by unfold goodT; omega
  have hlen : (encF f).length = (Enc (8 * f.num + f.kind)).length + (Enc (secI f.kind f.val f.bytes.length)).length + f.bytes.length := by
    simp only [encF, encI, List.length_append]; omega
  rw [hlen]
  obtain ⟨num, kind, val, B⟩ := f
  simp only at *
  rcases v3 with ⟨rfl, v4⟩ | ⟨rfl, v4⟩
  · obtain rfl : B = [] := List.eq_nil_of_length_eq_zero v4
    rw [one_var r1 hg r2 (by omega), show (8 * num + 0) / 8 = num by omega]
    rfl
  · subst v4
    have hs : secI 2 0 B.length = (B.length : Int) := rfl
    rw [hs] at r2 d2 ⊢
    rw [one_bytes r1 hg r2 (by omega) (by rw [d2, List.length_append]; omega), d2, List.take_left, show (8 * num + 2) / 8 = num by omega]

/-- What is read as a message: the fields, the offset, the error. -/
def fldsG : Nat → List Fld → Nat → List Int → List Fld × Int × Int
  | 0, acc, _, _ => (acc, 0, 0)
  | f + 1, acc, i, L =>
    if L.length = 0 then (acc, 0, 0) else if 1024 ≤ acc.length then ([], (i : Int), 3) else
    if (onef L).2.2 ≠ 0 then ([], (i : Int), (onef L).2.2) else fldsG f (acc ++ [(onef L).1]) (i + (onef L).2.1.toNat) (L.drop (onef L).2.1.toNat)
def flds (L : List Int) : List Fld × Int × Int := fldsG (L.length + 1) [] 0 L

theorem flds_end {f : Nat} {acc : List Fld} {i : Nat} {L : List Int} (h : L.length = 0) : fldsG (f + 1) acc i L = (acc, 0, 0) := by rw [fldsG, if_pos h]
theorem flds_limit {f : Nat} {acc : List Fld} {i : Nat} {L : List Int} (h : ¬ L.length = 0) (h1 : 1024 ≤ acc.length) : fldsG (f + 1) acc i L = ([], (i : Int), 3) := by rw [fldsG, if_neg h, if_pos h1]
theorem flds_err {f : Nat} {acc : List Fld} {i : Nat} {L : List Int} {x : Fld} {s e : Int} (h : ¬ L.length = 0) (h1 : acc.length < 1024) (h2 : onef L = (x, s, e)) (he : e ≠ 0) : fldsG (f + 1) acc i L = ([], (i : Int), e) := by
  rw [fldsG, if_neg h, if_neg (by omega), h2, if_pos he]
theorem flds_next {f : Nat} {acc : List Fld} {i : Nat} {L : List Int} {x : Fld} {s : Nat} (h : ¬ L.length = 0) (h1 : acc.length < 1024) (h2 : onef L = (x, (s : Int), 0)) : fldsG (f + 1) acc i L = fldsG f (acc ++ [x]) (i + s) (L.drop s) := by
  rw [fldsG, if_neg h, if_neg (by omega), h2, if_neg (by simp)]
  simp

theorem encF_pos (f : Fld) : 2 ≤ (encF f).length := by
  have h1 := (Enc_len (8 * f.num + f.kind)).1
  have h2 := (Enc_len (secI f.kind f.val f.bytes.length)).1
  simp only [encF, encI, List.length_append]
  omega
theorem encF_le (f : Fld) : (encF f).length ≤ 20 + f.bytes.length := by
  have h1 := (Enc_len (8 * f.num + f.kind)).2
  have h2 := (Enc_len (secI f.kind f.val f.bytes.length)).2
  simp only [encF, encI, List.length_append]
  omega
theorem encF_bytes (f : Fld) (h : Vf f) : ∀ x, x ∈ encF f → 0 ≤ x ∧ x ≤ 255 := by
  intro x hx
  have tb := tag_bounds h
  have sb := sec_bounds h
  simp only [encF, encI, List.mem_append] at hx
  rcases hx with hx | hx | hx
  · exact Enc_bytes _ tb.1 tb.2 x hx
  · exact Enc_bytes _ sb.1 sb.2 x hx
  · exact h.2.2.1 x hx

/-- Fields that were written are read. -/
theorem flds_enc (F : List Fld) : ∀ (f : Nat) (acc : List Fld) (i : Nat), (∀ x, x ∈ F → Vf x) → acc.length + F.length ≤ 1024 → (F.flatMap encF).length < f → fldsG f acc i (F.flatMap encF) = (acc ++ F, 0, 0) := by
  induction F with
  | nil =>
    intro f acc i _ _ hf
    obtain ⟨g, rfl⟩ : ∃ g, f = g + 1 := ⟨f - 1, by omega⟩
    rw [flds_end (by simp)]
    simp
  | cons x F ih =>
    intro f acc i hv hn hf
    obtain ⟨g, rfl⟩ : ∃ g, f = g + 1 := ⟨f - 1, by omega⟩
    have hp := encF_pos x
    rw [List.flatMap_cons, List.length_append] at hf
    simp only [List.length_cons] at hn
    rw [List.flatMap_cons, flds_next (by rw [List.length_append]; omega) (by omega) (one_enc x (hv x (by simp)) _), List.drop_left, ih g _ _ (fun y hy => hv y (by simp [hy])) (by simp; omega) (by omega)]
    simp
/-- Too many fields. -/
theorem flds_many (F : List Fld) : ∀ (f : Nat) (acc : List Fld) (i : Nat), (∀ x, x ∈ F → Vf x) → acc.length ≤ 1024 → 1024 < acc.length + F.length → (F.flatMap encF).length < f →
    fldsG f acc i (F.flatMap encF) = ([], ((i + ((F.take (1024 - acc.length)).flatMap encF).length : Nat) : Int), 3) := by
  induction F with
  | nil => intro f acc i _ h1 h2; simp at h2; omega
  | cons x F ih =>
    intro f acc i hv h1 hn hf
    obtain ⟨g, rfl⟩ : ∃ g, f = g + 1 := ⟨f - 1, by omega⟩
    have hp := encF_pos x
    rw [List.flatMap_cons, List.length_append] at hf
    simp only [List.length_cons] at hn
    rw [List.flatMap_cons]
    by_cases h : acc.length = 1024
    · rw [flds_limit (by rw [List.length_append]; omega) (by omega), h]
      simp
    · obtain ⟨d, hd⟩ : ∃ d, 1024 - acc.length = d + 1 := ⟨1023 - acc.length, by omega⟩
      rw [flds_next (by rw [List.length_append]; omega) (by omega) (one_enc x (hv x (by simp)) _), List.drop_left, ih g _ _ (fun y hy => hv y (by simp [hy])) (by simp; omega) (by simp; omega) (by omega), hd, List.take_succ_cons,
        List.flatMap_cons, List.length_append, show 1024 - (acc.length + [x].length) = d by simp; omega]
      simp
      omega
/-- What is read as a message is written again as it is; an error has an offset within the bytes. -/
theorem flds_inv (f : Nat) : ∀ (acc : List Fld) (i : Nat) (L : List Int), (∀ x, x ∈ L → 0 ≤ x ∧ x ≤ 255) → L.length ≤ 1000000 → L.length < f →
    (∃ e j, fldsG f acc i L = ([], ((j : Nat) : Int), e) ∧ e ≠ 0 ∧ i ≤ j ∧ j < i + L.length) ∨ ∃ G, fldsG f acc i L = (acc ++ G, 0, 0) ∧ G.flatMap encF = L ∧ (∀ x, x ∈ G → Vf x) := by
  induction f with
  | zero => intro acc i L _ _ h; omega
  | succ f ih =>
    intro acc i L hl hL hf
    by_cases h0 : L.length = 0
    · exact .inr ⟨[], by rw [flds_end h0, List.append_nil], (List.eq_nil_of_length_eq_zero h0).symm, by simp⟩
    by_cases h1 : 1024 ≤ acc.length
    · exact .inl ⟨3, i, flds_limit h0 h1, by omega, by omega, by omega⟩
    rcases one_inv L hl hL with ⟨e, ho, he⟩ | ⟨x, hx, ho, hle, hL2⟩
    · exact .inl ⟨e, i, flds_err h0 (by omega) ho he, he, by omega, by omega⟩
    · have hp := encF_pos x
      rw [flds_next h0 (by omega) ho]
      have hd : (L.drop (encF x).length).length = L.length - (encF x).length := List.length_drop
      rcases ih (acc ++ [x]) (i + (encF x).length) (L.drop (encF x).length) (drop_bytes hl _) (by omega) (by omega) with ⟨e, j, h2, h3, h4, h5⟩ | ⟨G, h2, h3, h4⟩
      · exact .inl ⟨e, j, h2, h3, by omega, by omega⟩
      · refine .inr ⟨x :: G, by rw [h2]; simp, by rw [List.flatMap_cons, h3]; exact hL2.symm, ?_⟩
        intro y hy
        rcases List.mem_cons.1 hy with rfl | hy
        · exact hx
        · exact h4 y hy
end Go.Proofs.YtebnlklodokhkaaDoor
namespace Go.Proofs.YtebnlklodokhkaaDoor
set_option maxRecDepth 100000
open Go.RowKit

theorem info25 : (Tryd.prog.info? 56).map (fun i => (i.zero, i.size, i.bytes)) = some (some (.agg #[.int .i64 0, .int .i64 0, .int .u64 0, .slice none 0 0]), 4, 48) := by kernel_rfl
theorem info22 : (Tryd.prog.info? 53).map (fun i => (i.zero, i.size, i.bytes)) = some (some (.slice none 0 0), 1, 24) := by kernel_rfl

theorem getD_lt {α : Type} (l : List α) (k : Nat) (d : α) (h : k < l.length) : l.getD k d = l[k] := by rw [List.getD_eq_getElem?_getD, List.getElem?_eq_getElem h]; rfl

/-- A block of bytes that was just made. -/
theorem sl_new (w : World) (xs : List Int) (c : Nat) : Sl (w.alloc (.cells (xs.map (Value.int .u8)).toArray 5)) (some ⟨w.heap.size, 0, none⟩) c xs := by
  refine .inr ⟨_, rfl, fun k hk => ⟨_, _, rfl, ?_⟩⟩
  rw [cell_of_row _ w.heap.size (0 + k) _ 5 (0, 0) (heap_alloc_new w _), Nat.zero_add]
  simp [List.getD_eq_getElem?_getD, List.getElem?_eq_getElem hk]

theorem own_at {w : World} {B e s n c : Nat} {a : Option Addr} {xs : List Value} (h : w.ownsRow B e s (.slice a n c) n xs) (hn : 0 < n) : ∃ g, a = some ⟨g, 0, none⟩ ∧ B ≤ g ∧ g < w.heap.size := by
  rcases h.2 with ⟨_, h0⟩ | ⟨g, cap, cur, e, hb, hg, _⟩
  · omega
  · simp only [Value.slice.injEq] at e
    exact ⟨g, e.1, hb, (Array.getElem?_eq_some_iff.1 hg).1⟩
theorem own_base {w : World} {B B' e size n : Nat} {v : Value} {xs : List Value} (h : w.ownsRow B' e size v n xs) (hB : B ≤ B') : w.ownsRow B e size v n xs :=
  ⟨h.1, h.2.imp id (fun ⟨g, cap, cur, a, b, c⟩ => ⟨g, cap, cur, a, Nat.le_trans hB b, c⟩)⟩
theorem own_below {w w' : World} {B e size n : Nat} {v : Value} {xs : List Value} (h : w.ownsRow B e size v n xs) (hb : Below w.heap.size w w') : w'.ownsRow B e size v n xs := by
  refine ⟨h.1, ?_⟩
  rcases h.2 with hn | ⟨g, cap, cur, rfl, hg, hgg, rest⟩
  · exact .inl hn
  · exact .inr ⟨g, cap, cur, rfl, hg, by rw [hb.block g (Array.getElem?_eq_some_iff.1 hgg).1]; exact hgg, rest⟩
/-- Rows of different element types lie in different blocks. -/
theorem own_ne {w : World} {B B' e e' size size' n n' : Nat} {v v' : Value} {xs xs' : List Value} (h : w.ownsRow B e size v n xs) (h' : w.ownsRow B' e' size' v' n' xs') (hne : e ≠ e') : v.ownBlock = none ∨ v.ownBlock ≠ v'.ownBlock := by
  rcases h.2 with ⟨rfl, _⟩ | ⟨g, cap, cur, rfl, _, hgg, _⟩
  · exact .inl rfl
  · rcases h'.2 with ⟨rfl, _⟩ | ⟨g', cap', cur', rfl, _, hgg', _⟩
    · exact .inr (by simp [Value.ownBlock])
    · refine .inr fun he => ?_
      simp only [Value.ownBlock, Option.some.injEq] at he
      subst he
      rw [hgg] at hgg'
      simp only [Option.some.injEq, Obj.cells.injEq] at hgg'
      exact hne hgg'.2.1

theorem sl_take {w : World} {a : Option Addr} {c : Nat} {M : List Int} (h : Sl w a c M) (n : Nat) : Sl w a c (M.take n) := by
  rcases h with ⟨rfl, rfl, rfl⟩ | ⟨x, rfl, hx⟩
  · exact .inl ⟨rfl, rfl, by simp⟩
  · refine .inr ⟨x, rfl, fun k hk => ?_⟩
    rw [List.length_take] at hk
    obtain ⟨b, off, rfl, hc⟩ := hx k (by omega)
    refine ⟨b, off, rfl, ?_⟩
    rw [hc, List.getD_eq_getElem?_getD, List.getD_eq_getElem?_getD, List.getElem?_take, if_pos (by omega)]
theorem slice_to (kh : IntKind) (a : Option Addr) (n c k : Nat) (w : World) (h : k ≤ c) : (Instr.slice 53 (.slice a n c) none (some (.int kh (k : Int))) none).run Tryd.prog w = .ok (.slice a k c) w := by
  have hs : (sizeOf (Tryd.prog.elem 53)).run Tryd.prog w = .ok 1 w := by kernel_rfl
  have e := run_slice_h (P := Tryd.prog) w 53 a n c (by kernel_rfl) kh (k : Int) (by omega) (by omega)
  rw [e, hs]
  cases a <;> simp [sliced, Result.andThen, Addr.add]
/-- Where the rest of a slice begins. -/
def fromA (a : Option Addr) (c k : Nat) : Option Addr := if c = k then a else a.map (·.add k)
theorem slice_from (kl : IntKind) (a : Option Addr) (n c k : Nat) (w : World) (h : k ≤ n) : (Instr.slice 53 (.slice a n c) (some (.int kl (k : Int))) none none).run Tryd.prog w = .ok (.slice (fromA a c k) (n - k) (c - k)) w := by
  have hs : (sizeOf (Tryd.prog.elem 53)).run Tryd.prog w = .ok 1 w := by kernel_rfl
  have e := run_slice_l (P := Tryd.prog) w 53 a n c (by kernel_rfl) kl (k : Int) (by omega) (by omega)
  rw [e, hs]
  by_cases hk : c = k <;> cases a <;> simp [sliced, Result.andThen, fromA, hk]
/-- A part of a slice. -/
theorem slice_part (kl kh : IntKind) (a : Option Addr) (n c k m : Nat) (w : World) (h : k ≤ m) (h1 : m ≤ c) : (Instr.slice 53 (.slice a n c) (some (.int kl (k : Int))) (some (.int kh (m : Int))) none).run Tryd.prog w = .ok (.slice (fromA a c k) (m - k) (c - k)) w := by
  have hs : (sizeOf (Tryd.prog.elem 53)).run Tryd.prog w = .ok 1 w := by kernel_rfl
  have e := run_slice_lh (P := Tryd.prog) w 53 a n c (by kernel_rfl) kl kh (k : Int) (m : Int) (by omega) (by omega) (by omega)
  rw [e, hs]
  by_cases hk : c = k <;> cases a <;> simp [sliced, Result.andThen, fromA, hk]
theorem sl_from {w : World} {a : Option Addr} {c : Nat} {L : List Int} (h : Sl w a c L) (k : Nat) (hc : L.length ≤ c) : Sl w (fromA a c k) (c - k) (L.drop k) := by
  rcases h with ⟨rfl, rfl, rfl⟩ | ⟨x, rfl, hx⟩
  · exact .inl ⟨by simp [fromA], by omega, by simp⟩
  · by_cases hk : c = k
    · refine .inr ⟨x, by simp [fromA, hk], fun j hj => ?_⟩
      rw [List.length_drop] at hj
      omega
    · refine .inr ⟨x.add k, by simp [fromA, hk], fun j hj => ?_⟩
      rw [List.length_drop] at hj
      obtain ⟨b, off, rfl, h1⟩ := hx (k + j) (by omega)
      refine ⟨b, off + k, by rw [Go.WideShapes.add_plain], ?_⟩
      rw [Nat.add_assoc, h1, List.getD_eq_getElem?_getD, List.getD_eq_getElem?_getD, List.getElem?_drop]

/-- A row that is nil or was made by the call, as bytes. -/
def Own (w : World) (B : Nat) (v : Value) (L : List Int) : Prop := w.ownsRow B 5 1 v L.length (L.map (Value.int .u8))
theorem Own.sl {w : World} {B : Nat} {v : Value} {L : List Int} (h : Own w B v L) : ∃ a c, v = .slice a L.length c ∧ Sl w a c L ∧ L.length ≤ c := by
  obtain ⟨a, c, h1, h2, _, h3⟩ := sl_own h
  exact ⟨a, c, h1, h2, h3⟩
theorem Own.below {w w' : World} {B : Nat} {v : Value} {L : List Int} (h : Own w B v L) (hb : Below w.heap.size w w') : Own w' B v L := own_below h hb
theorem Own.base {w : World} {B B' : Nat} {v : Value} {L : List Int} (h : Own w B' v L) (hB : B ≤ B') : Own w B v L := World.ownsRow.mono h hB
theorem Own.nil (w : World) (B : Nat) : Own w B (.slice none 0 0) [] := World.ownsRow_nil _ _ _ _
end Go.Proofs.YtebnlklodokhkaaDoor
namespace Go.Proofs.YtebnlklodokhkaaDoor
set_option maxRecDepth 100000
open Go.RowKit

/-- Is the field valid? -/
def vldB (num kind val : Int) (n : Nat) : Bool := decide (1 ≤ num ∧ num ≤ 536870911 ∧ ((kind = 0 ∧ n = 0) ∨ (kind = 2 ∧ val = 0)))
theorem vldB_true {num kind val : Int} {n : Nat} (h : Vfi num kind val n) : vldB num kind val n = true := by unfold vldB Vfi at *; exact decide_eq_true h
theorem vldB_false {num kind val : Int} {n : Nat} (h : ¬ Vfi num kind val n) : vldB num kind val n = false := by unfold vldB Vfi at *; exact decide_eq_false h
theorem bret {num kind val : Int} {n : Nat} {b : Bool} (h : b = true ↔ Vfi num kind val n) : Ending.returned (.bool b) = .returned (.bool (vldB num kind val n)) := by
  by_cases hv : Vfi num kind val n
  · rw [vldB_true hv, h.2 hv]
  · rw [vldB_false hv]
    cases b with
    | false => rfl
    | true => exact absurd (h.1 rfl) hv

set_option maxHeartbeats 1000000 in
theorem code_valid (num kind val : Int) (a : Option Addr) (n c : Nat) (w : World) :
    Calls Tryd.prog 53 #[.agg #[.int .i64 num, .int .i64 kind, .int .u64 val, .slice a n c]] w fun e w' => e = .returned (.bool (vldB num kind val n)) ∧ Below w.heap.size w w' := by
  have hb := (Below.refl w.heap.size w).alloc (Nat.le_refl _) (.cells #[.int .i64 num, .int .i64 kind, .int .u64 val, .slice a n c] 56)
  go_enter Tryd.func53, Tryd.ntmps53
  go_wp2
  all_goals go_ret
  all_goals refine ⟨bret ?_, (Below.refl _ _).alloc (Nat.le_refl _) _⟩
  all_goals clear hb
  all_goals unfold Vfi
  all_goals simp at *
  all_goals omega
set_option maxHeartbeats 1000000 in
theorem ref_right (num kind val : Int) (a : Option Addr) (n c : Nat) (w : World) :
    Calls Tryd.prog 63 #[.agg #[.int .i64 num, .int .i64 kind, .int .u64 val, .slice a n c]] w fun e w' => e = .returned (.bool (vldB num kind val n)) ∧ Below w.heap.size w w' := by
  have hb := (Below.refl w.heap.size w).alloc (Nat.le_refl _) (.cells #[.int .i64 num, .int .i64 kind, .int .u64 val, .slice a n c] 56)
  go_enter Tryd.func63, Tryd.ntmps63
  go_wp2
  all_goals go_ret
  all_goals refine ⟨bret ?_, (Below.refl _ _).alloc (Nat.le_refl _) _⟩
  all_goals clear hb
  all_goals unfold Vfi
  all_goals simp at *
  all_goals omega

set_option maxHeartbeats 1000000 in
theorem code_tag (num kind val : Int) (a : Option Addr) (n c : Nat) (w : World) (h0 : 1 ≤ num) (h1 : num ≤ 536870911) (h2 : kind = 0 ∨ kind = 2) :
    Calls Tryd.prog 55 #[.agg #[.int .i64 num, .int .i64 kind, .int .u64 val, .slice a n c]] w fun e w' => e = .returned (.int .u64 (8 * num + kind)) ∧ Below w.heap.size w w' := by
  have hb := (Below.refl w.heap.size w).alloc (Nat.le_refl _) (.cells #[.int .i64 num, .int .i64 kind, .int .u64 val, .slice a n c] 56)
  have h3 : 0 ≤ kind := by omega
  have h4 : kind ≤ 2 := by omega
  clear h2
  go_enter Tryd.func55, Tryd.ntmps55
  go_wp2
  go_ret
  exact ⟨rfl, hb⟩
set_option maxHeartbeats 1000000 in
theorem code_second (num kind val : Int) (a : Option Addr) (n c : Nat) (w : World) (hn : n ≤ 1000000) :
    Calls Tryd.prog 56 #[.agg #[.int .i64 num, .int .i64 kind, .int .u64 val, .slice a n c]] w fun e w' => e = .returned (.int .u64 (secI kind val n)) ∧ Below w.heap.size w w' := by
  have hb := (Below.refl w.heap.size w).alloc (Nat.le_refl _) (.cells #[.int .i64 num, .int .i64 kind, .int .u64 val, .slice a n c] 56)
  by_cases h : kind = 2
  · subst h
    go_enter Tryd.func56, Tryd.ntmps56
    go_wp2
    go_ret
    exact ⟨rfl, hb⟩
  · have h2 : (kind == 2) = false := by simpa using h
    have hs : secI kind val n = val := by unfold secI; rw [if_neg h]
    have HS := Lib.hid hs
    clear hs h
    go_enter Tryd.func56, Tryd.ntmps56
    go_wp2
    go_ret
    exact ⟨by rw [HS.out]; rfl, hb⟩

end Go.Proofs.YtebnlklodokhkaaDoor
namespace Go.Proofs.YtebnlklodokhkaaDoor
set_option maxRecDepth 100000
open Go.RowKit

set_option maxHeartbeats 1000000 in
theorem grow_nil (n : Nat) (w : World) (h0 : 0 < n) (h1 : n ≤ 100000000) :
    Calls Tryd.prog 69 #[.slice none 0 0, .int .i64 (n : Int)] w fun e w' => ∃ v, e = .returned v ∧ Own w' w.heap.size v [] ∧ Below w.heap.size w w' := by
  obtain ⟨i0, hi, hz0, hz1, hz2⟩ := info_parts info5
  have hrun := Lib.run_append_nil_zeros (P := Tryd.prog) w 53 3 53 5 i0 (.int .u8 0) .i64 .i64 Tryd.underlying53 Tryd.underlying3 hi hz0 n h0 (by rw [hz1]; omega) (by omega) (by rw [hz2]; omega)
  have hcap := grownCap_ge w n 0 5
  have hmax := grownCap_le_maxLen w n 0 5 (by unfold maxLen; omega)
  have hown : Own (w.drew.alloc (.cells (Builtin.zeroCells (Value.int .u8 0).cells n ++ Builtin.zeroCells (Value.int .u8 0).cells (grownCap w n 0 5 - n)) 5)) w.heap.size (.slice (some ⟨w.heap.size, 0, none⟩) 0 (grownCap w n 0 5)) [] :=
    ⟨rfl, .inr ⟨w.heap.size, _, _, rfl, Nat.le_refl _, heap_alloc_new w.drew _, Nat.zero_le _, hmax, by simp [size_zeroCells, Value.cells]; omega, by simp⟩⟩
  have hbel : Below w.heap.size w (w.drew.alloc (.cells (Builtin.zeroCells (Value.int .u8 0).cells n ++ Builtin.zeroCells (Value.int .u8 0).cells (grownCap w n 0 5 - n)) 5)) := (Below.refl _ w).drew.alloc (Nat.le_refl _) _
  clear hi hz0 hz1 hz2
  have HR := Lib.hid hrun
  clear hrun
  generalize (w.drew.alloc (.cells (Builtin.zeroCells (Value.int .u8 0).cells n ++ Builtin.zeroCells (Value.int .u8 0).cells (grownCap w n 0 5 - n)) 5)) = w1 at *
  generalize grownCap w n 0 5 = cp at *
  go_enter Tryd.func69, Tryd.ntmps69
  go_wp2_with (at_builtin; refine Lib.wpList_append_run _ rfl _ _ _ _ rfl _ _ rfl rfl _ _ HR.out ?_)
  go_wp2
  go_ret
  exact ⟨_, rfl, hown, hbel⟩

/-- A row of slices of bytes at block g. -/
def Sls (w : World) (g : Nat) (Ss : List (Option Addr × Nat × List Int)) : Prop :=
  ∀ k, k < Ss.length → w.cell? ⟨g, k, none⟩ = some (.slice (Ss.getD k (none, 0, [])).1 (Ss.getD k (none, 0, [])).2.2.length (Ss.getD k (none, 0, [])).2.1) ∧ Sl w (Ss.getD k (none, 0, [])).1 (Ss.getD k (none, 0, [])).2.1 (Ss.getD k (none, 0, [])).2.2
/-- All their bytes, one behind the other. -/
def flat (Ss : List (Option Addr × Nat × List Int)) : List Int := Ss.flatMap (·.2.2)
theorem flat_take (Ss : List (Option Addr × Nat × List Int)) (k : Nat) (h : k < Ss.length) : flat (Ss.take (k + 1)) = flat (Ss.take k) ++ (Ss.getD k (none, 0, [])).2.2 := by
  rw [getD_lt _ _ _ h, List.take_succ_eq_append_getElem h]
  simp only [flat, List.flatMap_append, List.flatMap_cons, List.flatMap_nil, List.append_nil]
theorem flat_le (Ss : List (Option Addr × Nat × List Int)) (k : Nat) : (flat (Ss.take k)).length ≤ (flat Ss).length := by
  have : flat Ss = flat (Ss.take k) ++ flat (Ss.drop k) := by
    unfold flat
    rw [← List.flatMap_append, List.take_append_drop]
  rw [this, List.length_append]
  omega

set_option maxHeartbeats 2000000 in
theorem concat_any (g : Nat) (Ss : List (Option Addr × Nat × List Int)) (w : World) (hg : g < w.heap.size) (hS : Sls w g Ss) (h0 : 0 < (flat Ss).length) (h1 : (flat Ss).length ≤ 100000000) (h2 : Ss.length ≤ 1000) :
    Calls Tryd.prog 57 #[.slice (some ⟨g, 0, none⟩) Ss.length Ss.length] w fun e w' => ∃ v, e = .returned v ∧ Own w' w.heap.size v (flat Ss) ∧ Below w.heap.size w w' := by
  obtain ⟨i0, hi, hz0, hz1, hz2⟩ := info_parts info5
  have HI := Lib.hid hi
  have HZ0 := Lib.hid hz0
  have HZ1 := Lib.hid hz1
  have HZ2 := Lib.hid hz2
  have HS := Lib.hid hS
  have HF := Lib.hid (fun k hk => flat_take Ss k hk)
  have HL := Lib.hid (fun k => flat_le Ss k)
  have HE : Hid (flat (Ss.take Ss.length) = flat Ss) := Lib.hid (by rw [List.take_length])
  clear hi hz0 hz1 hz2 hS
  go_enter Tryd.func57, Tryd.ntmps57
  go_wp2_with fail
  go_loop [3, 11] (fun s i => ∃ k : Nat, k ≤ Ss.length ∧ i = .int .i64 k ∧ s = .int .i64 ((flat (Ss.take k)).length : Nat)) (fun _ i => Ss.length - (intOf i).toNat)
  case atStart => exact ⟨0, by omega, rfl, rfl⟩
  case round =>
    obtain ⟨k, hk, rfl, rfl⟩ := hrel
    have hle := HL.out k
    by_cases hlt : k < Ss.length
    · obtain ⟨hc, -⟩ := HS.out k hlt
      have hle2 := HL.out (k + 1)
      have HF2 : Hid ((flat (Ss.take (k + 1))).length = (flat (Ss.take k)).length + (Ss.getD k (none, 0, [])).2.2.length) := Lib.hid (by rw [HF.out k hlt, List.length_append])
      have hx : (flat (Ss.take k)).length + (Ss.getD k (none, 0, [])).2.2.length ≤ (flat Ss).length := by have := HF2.out; omega
      clear hle2
      generalize Ss.getD k (none, 0, []) = S at *
      obtain ⟨sa, sc, SL⟩ := S
      simp only at *
      generalize (flat (Ss.take k)).length = x at *
      go_wp2
      go_round
      case rel => exact ⟨k + 1, by omega, by go_num, by rw [HF2.out]; go_num⟩
      case measure => simp [intOf]; omega
    · obtain rfl : k = Ss.length := by omega
      rw [HE.out]
      generalize hM : (flat Ss).length = M at *
      have HM := Lib.hid hM
      clear hM
      go_wp2_with fail
      refine (grow_nil M w h0 h1).mono ?_
      rintro e w1 ⟨v, rfl, hown, hb⟩
      have hz := hb.size
      go_wp2_with fail
      go_loopw [6, 27] (fun s i wx => ∃ k : Nat, k ≤ Ss.length ∧ i = .int .i64 k ∧ Own wx w.heap.size s (flat (Ss.take k)) ∧ Below w.heap.size w wx) (fun _ i _ => Ss.length - (intOf i).toNat)
      case atStart => exact ⟨0, by omega, rfl, hown, hb⟩
      case round =>
        obtain ⟨k, hk, rfl, ho, hb1⟩ := hrel
        have hle := HL.out k
        by_cases hlt : k < Ss.length
        · obtain ⟨hc, hs⟩ := HS.out k hlt
          have hc1 := (hb1.cell (p := ⟨g, k, none⟩) hg).trans hc
          have HSL := Lib.hid (sl_below hs hb1)
          have hle2 := HL.out (k + 1)
          have HF2 := Lib.hid (HF.out k hlt)
          have hx : (flat (Ss.take k)).length + (Ss.getD k (none, 0, [])).2.2.length ≤ M := by have := congrArg List.length HF2.out; rw [List.length_append] at this; omega
          clear hle2 hs hc
          generalize Ss.getD k (none, 0, []) = S at *
          obtain ⟨sa, sc, SL⟩ := S
          simp only at *
          generalize flat (Ss.take k) = x at *
          have hz1 := hb1.size
          go_wp2_with (at_builtin; refine append_src rfl _ _ 53 rfl w.heap.size i0 Tryd.underlying53 HI.out HZ0.out HZ1.out HZ2.out _ x.length _ rfl ho sa SL.length sc SL rfl rfl HSL.out ?d1 ?d2 ?_)
          case d1 => omega
          case d2 => exact hz1
          intro v2 w2 ho2 hgrow
          have hb2 := after_append (Nat.le_refl _) hz1 ho hb1 hgrow
          have HO : Hid (Own w2 w.heap.size v2 (flat (Ss.take (k + 1)))) := by
            rw [HF2.out]
            show w2.ownsRow _ _ _ _ _ _
            rw [List.length_append, List.map_append]
            exact ho2
          clear hgrow ho hb1 ho2
          go_wp2
          go_roundw
          case rel => exact ⟨k + 1, by omega, by go_num, HO.out, hb2⟩
          case measure => simp [intOf]; omega
        · obtain rfl : k = Ss.length := by omega
          have HO : Hid (Own wr w.heap.size _ (flat Ss)) := Lib.hid (HE.out ▸ ho)
          clear ho
          go_wp2
          go_ret
          exact ⟨_, rfl, HO.out, hb1⟩
end Go.Proofs.YtebnlklodokhkaaDoor
namespace Go.Proofs.YtebnlklodokhkaaDoor
set_option maxRecDepth 100000
open Go.RowKit

/-- A field lies in the cells from o on of block g. -/
def Box (w : World) (g o : Nat) (num kind val : Int) (b : Option Addr) (n d : Nat) : Prop :=
  w.cell? ⟨g, o, none⟩ = some (.int .i64 num) ∧ w.cell? ⟨g, o + 1, none⟩ = some (.int .i64 kind) ∧ w.cell? ⟨g, o + 2, none⟩ = some (.int .u64 val) ∧ w.cell? ⟨g, o + 3, none⟩ = some (.slice b n d)
theorem box_new (w : World) (num kind val : Int) (b : Option Addr) (n d : Nat) : Box (w.alloc (.cells #[.int .i64 num, .int .i64 kind, .int .u64 val, .slice b n d] 56)) w.heap.size 0 num kind val b n d := by
  refine ⟨?_, ?_, ?_, ?_⟩ <;> simp
theorem Box.lt {w : World} {g o : Nat} {num kind val : Int} {b : Option Addr} {n d : Nat} (h : Box w g o num kind val b n d) : g < w.heap.size := World.block_lt_of_cell? w (⟨g, o, none⟩ : Addr) h.1
theorem Box.below {w w' : World} {g o : Nat} {num kind val : Int} {b : Option Addr} {n d : Nat} (h : Box w g o num kind val b n d) (hb : Below w.heap.size w w') : Box w' g o num kind val b n d :=
  ⟨(hb.cell (p := ⟨g, o, none⟩) h.lt).trans h.1, (hb.cell (p := ⟨g, o + 1, none⟩) h.lt).trans h.2.1, (hb.cell (p := ⟨g, o + 2, none⟩) h.lt).trans h.2.2.1, (hb.cell (p := ⟨g, o + 3, none⟩) h.lt).trans h.2.2.2⟩

theorem sec_b (kind val : Int) (n : Nat) (hv : W64 val) (hn : n ≤ 1000000) : W64 (secI kind val n) := by
  unfold secI W64 at *
  split <;> omega

set_option maxHeartbeats 2000000 in
theorem code_wappend_bad (a : Option Addr) (len c : Nat) (num kind val : Int) (b : Option Addr) (n d : Nat) (w : World) (hv : ¬ Vfi num kind val n) :
    Calls Tryd.prog 37 #[.slice a len c, .agg #[.int .i64 num, .int .i64 kind, .int .u64 val, .slice b n d]] w fun e w' => e = .returned (.tuple #[.slice none 0 0, .int .i64 1]) ∧ Below w.heap.size w w' := by
  have cV := code_valid num kind val b n d
  rw [vldB_false hv] at cV
  go_enter Tryd.func37, Tryd.ntmps37
  go_wp2_with fail
  refine (cV _).mono ?_
  rintro e w1 ⟨rfl, hb1⟩
  have hb : Below w.heap.size w w1 := ((Below.refl _ w).alloc (Nat.le_refl _) (.cells #[.int .i64 num, .int .i64 kind, .int .u64 val, .slice b n d] 56)).trans (hb1.mono (by simp))
  clear cV hb1
  go_wp2
  go_ret2
  exact ⟨rfl, hb⟩

set_option maxHeartbeats 2000000 in
theorem code_wappend (a : Option Addr) (c : Nat) (L : List Int) (num kind val : Int) (b : Option Addr) (d : Nat) (B : List Int) (w : World) (hL : L.length ≤ 1000000) (hB : B.length ≤ 1000000) (hr : Sl w a c L) (hs : Sl w b d B) (hv : Vfi num kind val B.length) (hw : W64 val) :
    Calls Tryd.prog 37 #[.slice a L.length c, .agg #[.int .i64 num, .int .i64 kind, .int .u64 val, .slice b B.length d]] w fun e w' => ∃ v, e = .returned (.tuple #[v, .int .i64 0]) ∧ Own w' w.heap.size v (L ++ encI num kind val B) ∧ Below w.heap.size w w' := by
  have cV := code_valid num kind val b B.length d
  rw [vldB_true hv] at cV
  have hk : kind = 0 ∨ kind = 2 := by unfold Vfi at hv; omega
  have hn0 := hv.1
  have hn1 := hv.2.1
  have cT := fun w => code_tag num kind val b B.length d w hn0 hn1 hk
  have cS := fun w => code_second num kind val b B.length d w hB
  have hsb := sec_b kind val B.length hw hB
  have htb : W64 (8 * num + kind) := by unfold W64; omega
  have cA := fun w => code_append none 0 [] (8 * num + kind) w (by simp) (.inl ⟨rfl, rfl, rfl⟩) htb
  simp only [List.length_nil, List.nil_append] at cA
  have hEl := Enc_len (8 * num + kind)
  have hEl2 := Enc_len (secI kind val B.length)
  have cB := fun a c w hr => code_append a c (Enc (8 * num + kind)) (secI kind val B.length) w (by omega) hr hsb
  have hfin : encI num kind val B = (Enc (8 * num + kind) ++ Enc (secI kind val B.length)) ++ B := by simp [encI]
  generalize secI kind val B.length = sc at *
  generalize Enc (8 * num + kind) = E1 at *
  generalize Enc sc = E2 at *
  have HFIN := Lib.hid hfin
  have HR := Lib.hid hr
  have HS := Lib.hid hs
  clear hfin hr hs hk hv hsb
  go_enter Tryd.func37, Tryd.ntmps37
  go_wp2_with fail
  refine (cV _).mono ?_
  rintro e w1 ⟨rfl, hb1⟩
  have hx := (box_new w num kind val b B.length d).below hb1
  have hb : Below w.heap.size w w1 := ((Below.refl _ w).alloc (Nat.le_refl _) (.cells #[.int .i64 num, .int .i64 kind, .int .u64 val, .slice b B.length d] 56)).trans (hb1.mono (by simp))
  clear cV hb1
  go_wp2_with fail
  go_region_held3 (fun wx => wx.cell? ⟨w.heap.size, 0, none⟩ = some (.int .i64 num) ∧ wx.cell? ⟨w.heap.size, 0 + 1, none⟩ = some (.int .i64 kind) ∧ wx.cell? ⟨w.heap.size, 0 + 2, none⟩ = some (.int .u64 val) ∧ wx.cell? ⟨w.heap.size, 0 + 3, none⟩ = some (.slice b B.length d))
    (first | exact x5 | exact x4 | exact x3 | exact x2 | exact hx) (first
    | (go_at_call 54; refine (cB _ _ _ s4).mono ?_; rintro e w5 ⟨v5, rfl, ho5, hb5⟩; have x5 := x4.below hb5)
    | (go_at_call 55; refine (cT _).mono ?_; rintro e w2 ⟨rfl, hb2⟩; have x2 := Box.below (w := w1.drew) hx hb2)
    | (go_at_call 56; refine (cS _).mono ?_; rintro e w4 ⟨rfl, hb4⟩; have x4 := x3.below hb4; have s4 := sl_below s3 hb4)
    | (go_at_call 54; refine (cA _).mono ?_; rintro e w3 ⟨v3, rfl, ho3, hb3⟩; have x3 := x2.below hb3; obtain ⟨a3, c3, rfl, s3, -⟩ := Own.sl ho3))
  have hb5' : Below w.heap.size w w5 := (((hb.drew.trans (hb2.mono hb.size)).trans (hb3.mono (hb.drew.trans (hb2.mono hb.size)).size)).trans (hb4.mono ((hb.drew.trans (hb2.mono hb.size)).trans (hb3.mono (hb.drew.trans (hb2.mono hb.size)).size)).size)).trans
    (hb5.mono (((hb.drew.trans (hb2.mono hb.size)).trans (hb3.mono (hb.drew.trans (hb2.mono hb.size)).size)).trans (hb4.mono ((hb.drew.trans (hb2.mono hb.size)).trans (hb3.mono (hb.drew.trans (hb2.mono hb.size)).size)).size)).size)
  obtain ⟨a5, c5, rfl, s5, -⟩ := Own.sl ho5
  have x53 : w5.cell? ⟨w.heap.size, 3, none⟩ = some (.slice b B.length d) := x5.2.2.2
  have HB5 := Lib.hid hb5'
  have HS5 := Lib.hid s5
  have hlen : (E1 ++ E2).length ≤ 20 := by rw [List.length_append]; omega
  have hpos : 0 < (E1 ++ E2).length := by rw [List.length_append]; omega
  generalize E1 ++ E2 = E at *
  clear cT cS cA cB hx x2 x3 x4 x5 s3 s4 hb hb2 hb3 hb4 hb5 hb5' ho3 ho5 s5
  go_wp2_with fail
  have hbn := HB5.out.alloc HB5.out.size (.cells #[.slice a L.length c, .slice a5 E.length c5, .slice b B.length d] 53)
  have hbm := (Below.refl w5.heap.size w5).alloc (Nat.le_refl _) (.cells #[.slice a L.length c, .slice a5 E.length c5, .slice b B.length d] 53)
  have hS3 : Sls (w5.alloc (.cells #[.slice a L.length c, .slice a5 E.length c5, .slice b B.length d] 53)) w5.heap.size [(a, c, L), (a5, c5, E), (b, d, B)] := by
    intro k hk
    match k, hk with
    | 0, _ => exact ⟨by simp, sl_below HR.out hbn⟩
    | 1, _ => exact ⟨by simp, sl_below HS5.out hbm⟩
    | 2, _ => exact ⟨by simp, sl_below HS.out hbn⟩
  have hfl : flat [(a, c, L), (a5, c5, E), (b, d, B)] = L ++ (E ++ B) := by simp [flat]
  have cC := concat_any w5.heap.size [(a, c, L), (a5, c5, E), (b, d, B)] _ (by simp) hS3 (by rw [hfl]; simp only [List.length_append]; omega) (by rw [hfl]; simp only [List.length_append]; omega) (by simp)
  rw [hfl] at cC
  refine cC.mono ?_
  rintro e w6 ⟨v6, rfl, ho6, hb6⟩
  have hbl := hbn.trans (hb6.mono hbn.size)
  have HO : Hid (Own w6 w.heap.size v6 (L ++ encI num kind val B)) := by
    rw [HFIN.out]
    exact Lib.hid (ho6.base hbn.size)
  clear cC hS3 hbm hbn ho6 hb6 hfl
  go_wp2
  go_ret2
  exact ⟨_, rfl, HO.out, hbl⟩
end Go.Proofs.YtebnlklodokhkaaDoor
namespace Go.Proofs.YtebnlklodokhkaaDoor
set_option maxRecDepth 100000
open Go.RowKit

theorem bnext {w0 w w' : World} (h : Below w0.heap.size w0 w) (h2 : Below w.heap.size w w') : Below w0.heap.size w0 w' := h.trans (h2.mono h.size)

/-- The size of a field with n bytes and a small number. -/
def szB (n : Int) : Int := if n < 0 then 0 else 1 + ((Enc n).length : Nat) + n
end Go.Proofs.YtebnlklodokhkaaDoor
namespace Go.Proofs.YtebnlklodokhkaaDoor
set_option maxRecDepth 100000
open Go.RowKit

/-- A call returned the field, the size and the error R; the field's bytes lie in memory of its own. -/
def OneR (w : World) (R : Fld × Int × Int) (e : Ending) (w' : World) : Prop :=
  ∃ v, e = .returned (.tuple #[.agg #[.int .i64 R.1.num, .int .i64 R.1.kind, .int .u64 R.1.val, v], .int .i64 R.2.1, .int .i64 R.2.2]) ∧ Own w' w.heap.size v R.1.bytes ∧ Below w.heap.size w w'
theorem oneR_err {w w' : World} {e0 : Int} (hb : Below w.heap.size w w') : OneR w (zeroF, 0, e0) (.returned (.tuple #[.agg #[.int .i64 0, .int .i64 0, .int .u64 0, .slice none 0 0], .int .i64 0, .int .i64 e0])) w' := ⟨_, rfl, Own.nil _ _, hb⟩

/-- The four cells of a block, none of them frozen. -/
def Cells4 (w : World) (g : Nat) (c0 c1 c2 c3 : Value) : Prop :=
  w.cell? ⟨g, 0, none⟩ = some c0 ∧ w.cell? ⟨g, 1, none⟩ = some c1 ∧ w.cell? ⟨g, 2, none⟩ = some c2 ∧ w.cell? ⟨g, 3, none⟩ = some c3 ∧ ∀ o, w.frozen? ⟨g, o, none⟩ = false
theorem cells4_new (w : World) (c0 c1 c2 c3 : Value) : Cells4 (w.alloc (.cells #[c0, c1, c2, c3] 56)) w.heap.size c0 c1 c2 c3 := by
  refine ⟨by simp, by simp, by simp, by simp, fun o => World.frozen?_alloc_at _ _ _ _ rfl⟩
theorem Cells4.lt {w : World} {g : Nat} {c0 c1 c2 c3 : Value} (h : Cells4 w g c0 c1 c2 c3) : g < w.heap.size := World.block_lt_of_cell? w (⟨g, 0, none⟩ : Addr) h.1
theorem Cells4.below {w w' : World} {g : Nat} {c0 c1 c2 c3 : Value} (h : Cells4 w g c0 c1 c2 c3) (hb : Below w.heap.size w w') : Cells4 w' g c0 c1 c2 c3 := by
  have hl := h.lt
  obtain ⟨h0, h1, h2, h3, hf⟩ := h
  exact ⟨(hb.cell (p := ⟨g, 0, none⟩) hl).trans h0, (hb.cell (p := ⟨g, 1, none⟩) hl).trans h1, (hb.cell (p := ⟨g, 2, none⟩) hl).trans h2, (hb.cell (p := ⟨g, 3, none⟩) hl).trans h3, fun o => (hb.frozen (p := ⟨g, o, none⟩) hl).trans (hf o)⟩
theorem Cells4.set {w : World} {g : Nat} {c0 c1 c2 c3 : Value} (h : Cells4 w g c0 c1 c2 c3) (d0 d1 d2 d3 : Value) :
    Cells4 ((((w.setCell ⟨g, 0, none⟩ d0).setCell ⟨g, 1, none⟩ d1).setCell ⟨g, 2, none⟩ d2).setCell ⟨g, 3, none⟩ d3) g d0 d1 d2 d3 := by
  obtain ⟨h0, h1, h2, h3, hf⟩ := h
  refine ⟨?_, ?_, ?_, ?_, fun o => ?_⟩
  · rw [World.cell?_setCell_other _ _ _ _ (by simp), World.cell?_setCell_other _ _ _ _ (by simp), World.cell?_setCell_other _ _ _ _ (by simp)]
    exact World.cell?_setCell_same _ _ _ h0
  · rw [World.cell?_setCell_other _ _ _ _ (by simp), World.cell?_setCell_other _ _ _ _ (by simp)]
    exact World.cell?_setCell_same _ _ _ ((World.cell?_setCell_other _ _ _ _ (by simp)).trans h1)
  · rw [World.cell?_setCell_other _ _ _ _ (by simp)]
    exact World.cell?_setCell_same _ _ _ ((World.cell?_setCell_other _ _ _ _ (by simp)).trans ((World.cell?_setCell_other _ _ _ _ (by simp)).trans h2))
  · exact World.cell?_setCell_same _ _ _ ((World.cell?_setCell_other _ _ _ _ (by simp)).trans ((World.cell?_setCell_other _ _ _ _ (by simp)).trans ((World.cell?_setCell_other _ _ _ _ (by simp)).trans h3)))
  · rw [World.frozen?_setCell, World.frozen?_setCell, World.frozen?_setCell, World.frozen?_setCell]
    exact hf o
theorem below4 {w0 w : World} {g : Nat} (h : Below w0.heap.size w0 w) (hg : w0.heap.size ≤ g) (d0 d1 d2 d3 : Value) :
    Below w0.heap.size w0 ((((w.setCell ⟨g, 0, none⟩ d0).setCell ⟨g, 1, none⟩ d1).setCell ⟨g, 2, none⟩ d2).setCell ⟨g, 3, none⟩ d3) :=
  (((h.setCell (p := ⟨g, 0, none⟩) hg _).setCell (p := ⟨g, 1, none⟩) hg _).setCell (p := ⟨g, 2, none⟩) hg _).setCell (p := ⟨g, 3, none⟩) hg _

theorem set4 {w0 w : World} {g : Nat} {c0 c1 c2 c3 : Value} (h : Cells4 w g c0 c1 c2 c3) (hb : Below w0.heap.size w0 w) (hg : w0.heap.size ≤ g) (d0 d1 d2 d3 : Value) :
    ∃ W, (((w.setCell ⟨g, 0, none⟩ d0).setCell ⟨g, 1, none⟩ d1).setCell ⟨g, 2, none⟩ d2).setCell ⟨g, 3, none⟩ d3 = W ∧ Cells4 W g d0 d1 d2 d3 ∧ Below w0.heap.size w0 W ∧
      (∀ B v L, Own w B v L → g < B → Own W B v L) ∧ w.heap.size ≤ W.heap.size :=
  ⟨_, rfl, h.set _ _ _ _, below4 hb hg _ _ _ _, fun B v L ho hl => ownsRow_setCell_below (ownsRow_setCell_below (ownsRow_setCell_below (ownsRow_setCell_below ho (a := ⟨g, 0, none⟩) hl _) (a := ⟨g, 1, none⟩) hl _) (a := ⟨g, 2, none⟩) hl _) (a := ⟨g, 3, none⟩) hl _, by simp⟩
theorem set1_2 {w0 w : World} {g : Nat} {c0 c1 c2 c3 : Value} (h : Cells4 w g c0 c1 c2 c3) (hb : Below w0.heap.size w0 w) (hg : w0.heap.size ≤ g) (d : Value) :
    ∃ W, w.setCell ⟨g, 2, none⟩ d = W ∧ Cells4 W g c0 c1 d c3 ∧ Below w0.heap.size w0 W := by
  refine ⟨_, rfl, ?_, hb.setCell (p := ⟨g, 2, none⟩) hg _⟩
  obtain ⟨h0, h1, h2, h3, hf⟩ := h
  exact ⟨(World.cell?_setCell_other _ _ _ _ (by simp)).trans h0, (World.cell?_setCell_other _ _ _ _ (by simp)).trans h1, World.cell?_setCell_same _ _ _ h2, (World.cell?_setCell_other _ _ _ _ (by simp)).trans h3, fun o => (World.frozen?_setCell _ _ _ _).trans (hf o)⟩
theorem set1_3 {w0 w : World} {g : Nat} {c0 c1 c2 c3 : Value} (h : Cells4 w g c0 c1 c2 c3) (hb : Below w0.heap.size w0 w) (hg : w0.heap.size ≤ g) (d : Value) :
    ∃ W, w.setCell ⟨g, 3, none⟩ d = W ∧ Cells4 W g c0 c1 c2 d ∧ Below w0.heap.size w0 W ∧ (∀ B v L, Own w B v L → g < B → Own W B v L) := by
  refine ⟨_, rfl, ?_, hb.setCell (p := ⟨g, 3, none⟩) hg _, fun B v L ho hl => ownsRow_setCell_below ho (a := ⟨g, 3, none⟩) hl _⟩
  obtain ⟨h0, h1, h2, h3, hf⟩ := h
  exact ⟨(World.cell?_setCell_other _ _ _ _ (by simp)).trans h0, (World.cell?_setCell_other _ _ _ _ (by simp)).trans h1, (World.cell?_setCell_other _ _ _ _ (by simp)).trans h2, World.cell?_setCell_same _ _ _ h3, fun o => (World.frozen?_setCell _ _ _ _).trans (hf o)⟩

end Go.Proofs.YtebnlklodokhkaaDoor
namespace Go.Proofs.YtebnlklodokhkaaDoor
set_option maxRecDepth 100000
open Go.RowKit

/-- 'append' to a row of the call's own, from whatever source, inside a region that draws its order. -/
theorem step_append_src {P : Program} {w : World} {ops : Array Oper} {o : Oper} {a : Act} {K : Act → World → Prop} {Q : Exit → Act → World → Prop} {E : Prop} (hgd : o.guard = none) (s x : Operand) (t : TypeId)
    (ho : o.op = .call { callee := .builtin .append, args := #[s, x], argTypes := #[t, t] })
    (base : Nat) (i : TypeInfo) (ht : P.underlying t = some (.slice 5)) (hi : P.info? 5 = some i) (hz : i.zero = some (.int .u8 0)) (hsize : i.size = 1) (hby : i.bytes = 1)
    (v : Value) (n : Nat) (xs : List Value) (hs : a.eval s = v) (hown : w.ownsRow base 5 1 v n xs)
    (ad : Option Addr) (m c : Nat) (L : List Int) (hx : a.eval x = .slice ad m c) (hm : L.length = m) (hr : Sl w ad c L) (hb : n + m ≤ 140737488355328) (hbase : base ≤ w.heap.size)
    (h : ∀ v' w', w'.ownsRow base 5 1 v' (n + m) (xs ++ L.map (Value.int .u8)) → w.grownBy w' v.ownBlock → K (a.put o.dst v') w') :
    if Region.wanted o (yielded ops a.tmps) = true then Oper.wp P o a w K Q else E := by
  have hw : Region.wanted o (yielded ops a.tmps) = true := by simp [Region.wanted, hgd]
  rw [if_pos hw]
  subst hm
  rcases hr with ⟨rfl, rfl, rfl⟩ | ⟨y, rfl, hy⟩
  · have hrun := run_append_owned_none (P := P) (w := w) base t o.type 5 i 1 ht hi v n xs hown
    unfold Oper.wp
    simp [execOp, ho, resolve, invoke, builtin, hs, hx, hrun, Result.andThen]
    exact h v w (by simpa using hown) (World.grownBy.refl w _)
  · refine wp_append_own w s x t ho base 5 i (.int .u8 0) 1 1 ht hi hz hsize hby rfl (by decide) v n xs hs hown y L.length c (L.map (Value.int .u8)) hx (by simp) ?_ (ints_oneCell _ _) (by unfold maxLen; omega) (by omega) hbase (fun v' w' h1 h2 _ => h v' w' h1 h2)
    intro j u hj
    have hj' : j < L.length := by
      rcases Nat.lt_or_ge j L.length with h | h
      · exact h
      · rw [List.getElem?_eq_none (by simpa using h)] at hj; cases hj
    obtain ⟨b, off, rfl, hc⟩ := hy j hj'
    rw [Go.WideShapes.add_plain, hc]
    rw [List.getElem?_map, List.getElem?_eq_getElem hj'] at hj
    rw [List.getD_eq_getElem?_getD, List.getElem?_eq_getElem hj']
    exact hj

theorem far_own {w w' : World} {B g o n : Nat} {v u : Value} {xs : List Value} (hgrow : w.grownBy w' v.ownBlock) (ho : w.ownsRow B 5 1 v n xs) (hg : g < B) (hc : w.cell? ⟨g, o, none⟩ = some u) : w'.cell? ⟨g, o, none⟩ = some u := by
  refine hgrow.cell hc (fun e => ?_)
  have := (ho.lt _ e.symm).1
  simp only at this
  omega

set_option maxHeartbeats 2000000 in
theorem ref_field_bad (a : Option Addr) (len c : Nat) (num kind val : Int) (b : Option Addr) (n d : Nat) (w : World) (hv : ¬ Vfi num kind val n) :
    Calls Tryd.prog 42 #[.slice a len c, .agg #[.int .i64 num, .int .i64 kind, .int .u64 val, .slice b n d]] w fun e w' => e = .returned (.tuple #[.slice none 0 0, .int .i64 1]) ∧ Below w.heap.size w w' := by
  have cV := ref_right num kind val b n d
  rw [vldB_false hv] at cV
  go_enter Tryd.func42, Tryd.ntmps42
  go_wp2_with fail
  refine (cV _).mono ?_
  rintro e w1 ⟨rfl, hb1⟩
  have hb := bnext ((Below.refl _ w).alloc (Nat.le_refl _) (.cells #[.int .i64 num, .int .i64 kind, .int .u64 val, .slice b n d] 56)) hb1
  clear cV hb1
  go_wp2
  go_ret2
  exact ⟨rfl, hb⟩

set_option maxHeartbeats 2000000 in
theorem ref_field (a : Option Addr) (c : Nat) (L : List Int) (num kind val : Int) (b : Option Addr) (d : Nat) (B : List Int) (w : World) (hL : L.length ≤ 900000) (hB : B.length ≤ 1000000) (hr : Sl w a c L) (hs : Sl w b d B) (hv : Vfi num kind val B.length) (hw : W64 val) :
    Calls Tryd.prog 42 #[.slice a L.length c, .agg #[.int .i64 num, .int .i64 kind, .int .u64 val, .slice b B.length d]] w fun e w' => ∃ v, e = .returned (.tuple #[v, .int .i64 0]) ∧ Own w' w.heap.size v (L ++ encI num kind val B) ∧ Below w.heap.size w w' := by
  have cV := ref_right num kind val b B.length d
  rw [vldB_true hv] at cV
  have hn0 := hv.1
  have hn1 := hv.2.1
  have htb : W64 (8 * num + kind) := by unfold W64; unfold Vfi at hv; omega
  have cA := fun w hr => ref_append a c L (8 * num + kind) w (by omega) hr htb
  have hEl := Enc_len (8 * num + kind)
  have hfin : L ++ encI num kind val B = ((L ++ Enc (8 * num + kind)) ++ Enc (secI kind val B.length)) ++ B := by simp [encI]
  have hlen : (L ++ Enc (8 * num + kind)).length ≤ 1000000 := by rw [List.length_append]; omega
  have hx0 := box_new w num kind val b B.length d
  have hb0 := (Below.refl _ w).alloc (Nat.le_refl _) (.cells #[.int .i64 num, .int .i64 kind, .int .u64 val, .slice b B.length d] 56)
  rcases hv.2.2 with ⟨rfl, hb⟩ | ⟨rfl, rfl⟩
  · obtain rfl : B = [] := List.eq_nil_of_length_eq_zero hb
    have hsec : secI 0 val ([] : List Int).length = val := rfl
    rw [hsec, List.append_nil] at hfin
    have cB := fun a c w hr => ref_append a c (L ++ Enc (8 * num + 0)) val w hlen hr hw
    have e8 : 8 * num + 0 = num * 8 := by omega
    rw [e8] at cA hEl hlen hfin
    simp only [e8] at cB
    clear e8 htb
    generalize Enc (num * 8) = E1 at *
    generalize L ++ E1 = M at *
    generalize Enc val = E2 at *
    have HFIN := Lib.hid hfin
    have HR := Lib.hid hr
    clear hfin hr hs hv hsec hb
    go_enter Tryd.func42, Tryd.ntmps42
    go_wp2_with fail
    refine (cV _).mono ?_
    rintro e w1 ⟨rfl, hb1⟩
    have hx := hx0.below hb1
    have hb := bnext hb0 hb1
    obtain ⟨k0, k1, k2, k3⟩ := hx
    have k1' : w1.cell? ⟨w.heap.size, 1, none⟩ = some (.int .i64 0) := k1
    have k2' : w1.cell? ⟨w.heap.size, 2, none⟩ = some (.int .u64 val) := k2
    have hlt : w.heap.size < w1.heap.size := Box.lt ⟨k0, k1, k2, k3⟩
    clear cV hb1 k1 k2 k3 hx0 hb0
    go_wp2_with fail
    refine (cA _ (sl_below HR.out hb)).mono ?_
    rintro e w2 ⟨v2, rfl, ho2, hb2⟩
    have hb3 := bnext hb hb2
    have k2 := (hb2.cell (p := ⟨w.heap.size, 2, none⟩) hlt).trans k2'
    have k1 := (hb2.cell (p := ⟨w.heap.size, 1, none⟩) hlt).trans k1'
    obtain ⟨a2, c2, rfl, s2, -⟩ := Own.sl ho2
    clear k1' k2' k0 hb hb2 ho2 cA
    go_wp2_with fail
    refine (cB _ _ _ s2).mono ?_
    rintro e w3 ⟨v3, rfl, ho3, hb4⟩
    have hb5 := bnext hb3 hb4
    have HO : Hid (Own w3 w.heap.size v3 (L ++ encI num 0 val [])) := by rw [HFIN.out]; exact Lib.hid (Own.base ho3 hb3.size)
    clear cB ho3 hb4 s2
    go_wp2
    go_ret2
    exact ⟨_, rfl, HO.out, hb5⟩
  · have hsec : secI 2 0 B.length = (B.length : Int) := rfl
    rw [hsec] at hfin
    have hwB : W64 (B.length : Int) := by unfold W64; omega
    have cB := fun a c w hr => ref_append a c (L ++ Enc (8 * num + 2)) (B.length : Int) w hlen hr hwB
    have hE2 := Enc_len (B.length : Int)
    have e8 : 8 * num + 2 = num * 8 + 2 := by omega
    rw [e8] at cA hEl hlen hfin
    simp only [e8] at cB
    clear e8 htb
    generalize Enc (num * 8 + 2) = E1 at *
    generalize L ++ E1 = M at *
    have HFIN := Lib.hid hfin
    have HR := Lib.hid hr
    have HS := Lib.hid hs
    have hM2 : (M ++ Enc (B.length : Int)).length ≤ 2000000 := by rw [List.length_append]; omega
    generalize M ++ Enc (B.length : Int) = M2 at *
    obtain ⟨i0, hi, hz0, hz1, hz2⟩ := info_parts info5
    have HI := Lib.hid hi
    have HZ0 := Lib.hid hz0
    have HZ1 := Lib.hid hz1
    have HZ2 := Lib.hid hz2
    clear hfin hr hs hv hsec hi hz0 hz1 hz2 hE2
    go_enter Tryd.func42, Tryd.ntmps42
    go_wp2_with fail
    refine (cV _).mono ?_
    rintro e w1 ⟨rfl, hb1⟩
    have hx := hx0.below hb1
    have hb := bnext hb0 hb1
    obtain ⟨k0, k1, k2, k3⟩ := hx
    have k1' : w1.cell? ⟨w.heap.size, 1, none⟩ = some (.int .i64 2) := k1
    have k3' : w1.cell? ⟨w.heap.size, 3, none⟩ = some (.slice b B.length d) := k3
    have hlt : w.heap.size < w1.heap.size := Box.lt ⟨k0, k1, k2, k3⟩
    clear cV hb1 k1 k2 k3 hx0 hb0
    go_wp2_with fail
    refine (cA _ (sl_below HR.out hb)).mono ?_
    rintro e w2 ⟨v2, rfl, ho2, hb2⟩
    have hb3 := bnext hb hb2
    have k3 := (hb2.cell (p := ⟨w.heap.size, 3, none⟩) hlt).trans k3'
    have k1 := (hb2.cell (p := ⟨w.heap.size, 1, none⟩) hlt).trans k1'
    have hlt2 : w.heap.size < w2.heap.size := Nat.lt_of_lt_of_le hlt hb2.size
    obtain ⟨a2, c2, rfl, s2, -⟩ := Own.sl ho2
    clear k1' k3' k0 hb hb2 ho2 cA
    go_wp2_with fail
    have hc1 : M2.length + B.length ≤ 140737488355328 := by omega
    have hwr : IntKind.u64.wrap (B.length : Int) = (B.length : Int) := by rw [IntKind.wrap_u64]; omega
    go_region_held3 (fun wx => wx.cell? ⟨w.heap.size, 3, none⟩ = some (.slice b B.length d)) (first | exact k6 | exact k5 | exact k3) (first
      | (go_at_call 64; refine (cB _ _ w2.drew s2).mono ?_; rintro e w5 ⟨v5, rfl, ho5, hb5⟩; have k5 := (hb5.cell (p := ⟨w.heap.size, 3, none⟩) hlt2).trans k3; have hb6 := bnext hb3.drew hb5)
      | (refine step_append_src rfl _ _ 53 rfl w2.heap.size i0 Tryd.underlying53 HI.out HZ0.out HZ1.out HZ2.out _ _ _ rfl ho5 b B.length d B rfl rfl (sl_below HS.out hb6) hc1 hb5.size ?_; intro v6 w6 ho6 hgrow; have hb7 := after_append (w0 := w) hb3.size hb6.size ho5 hb6 hgrow; have k6 := far_own hgrow ho5 hlt2 k5))
    have HO : Hid (Own w6 w.heap.size v6 (L ++ encI num 2 0 B)) := by
      rw [HFIN.out]
      show w6.ownsRow _ _ _ _ _ _
      rw [List.length_append, List.map_append]
      exact own_base ho6 hb3.size
    clear cB ho6 hgrow hb6 s2 ho5 hb5
    go_wp2
    go_ret2
    exact ⟨_, rfl, HO.out, hb7⟩

end Go.Proofs.YtebnlklodokhkaaDoor
