/-
  The contracts of the two functions that append an encoding, and of SizeVarint: a new row with the given bytes and the encoding of the number.
  Conditions: the number has 64 bits; at most 1000000 bytes come in.
-/
import Derived.Test.YtaaeepanelmgnaaVC2
namespace Go.Proofs.Ytaaeepanelmgnaa
set_option maxRecDepth 100000
open Go.RowKit

theorem enc_snoc (f : Nat) (x : Int) (P E : List Int) (hx : ¬ x < 128) (h : P ++ enc (f + 1) x = E) : (P ++ [x % 128 + 128]) ++ enc f (x / 128) = E := by
  rw [enc_large f x hx] at h
  simpa using h

/-- An empty row that was just made. -/
theorem own_empty (w : World) : (w.alloc (.cells #[] 5)).ownsRow w.heap.size 5 1 (.slice (some ⟨w.heap.size, 0, none⟩) 0 0) 0 [] :=
  ⟨by simp, .inr ⟨w.heap.size, 0, #[], rfl, Nat.le_refl _, heap_alloc_new w _, by omega, by unfold maxLen; omega, rfl, rfl⟩⟩

set_option maxHeartbeats 2000000 in
theorem ref_append (a : Option Addr) (c : Nat) (L : List Int) (n : Int) (w : World) (hL : L.length ≤ 1000000) (hr : Sl w a c L) (hn : W64 n) :
    Calls Try.prog 58 #[.slice a L.length c, .int .u64 n] w fun e w' => ∃ v, e = .returned v ∧ w'.ownsRow w.heap.size 5 1 v (L ++ Enc n).length ((L ++ Enc n).map (Value.int .u8)) ∧ Below w.heap.size w w' := by
  have HE := Enc_len n
  have HF := Lib.hid (fit_word hn.1 hn.2)
  have HU := Lib.hid (show enc 9 n = Enc n from rfl)
  have HR := Lib.hid hr
  generalize Enc n = E at *
  obtain ⟨i0, hi, hz0, hz1, hz2⟩ := info_parts info5
  have HI := Lib.hid hi
  have HZ0 := Lib.hid hz0
  have HZ1 := Lib.hid hz1
  have HZ2 := Lib.hid hz2
  clear hi hz0 hz1 hz2
  have hr1 := sl_below hr ((Below.refl w.heap.size w).alloc (Nat.le_refl _) (.cells #[] 5))
  have HR1 := Lib.hid hr1
  clear hr1 hr
  go_enter Try.func58, Try.ntmps58
  go_wp2_with (at_builtin; refine append_src rfl _ _ 39 rfl w.heap.size i0 Try.underlying39 HI.out HZ0.out HZ1.out HZ2.out _ 0 [] rfl (own_empty w) a L.length c L rfl rfl HR1.out ?c1 ?c2 ?_)
  case c1 => omega
  case c2 => simp
  intro v' w1 hown hgrow
  have hbel := after_append (w0 := w) (Nat.le_refl _) (by simp) (own_empty w) ((Below.refl _ w).alloc (Nat.le_refl _) _) hgrow
  clear hgrow HR1
  go_wp2_with fail
  go_loopg [1, 5] 9 (fun g s1 s5 wx => ∃ (f : Nat) (x : Int) (P : List Int), s1 = .int .u64 x ∧ W64 x ∧ Hid (Fit f x) ∧ wx.ownsRow w.heap.size 5 1 s5 (L.length + P.length) ((L ++ P).map (Value.int .u8)) ∧ Below w.heap.size w wx ∧ Hid (P ++ enc f x = E) ∧ f = g)
  case atStart => exact ⟨9, n, [], rfl, hn, HF, by simpa using hown, hbel, HU, rfl⟩
  case round =>
    obtain ⟨f, x, P, rfl, ⟨hx0, hx1⟩, hf, ho, hb, hu, rfl⟩ := hrel
    have hlen : P.length ≤ E.length := by rw [← hu.out]; simp
    have hsz := hb.size
    by_cases hlt : x < 128
    · go_wp2_with (at_builtin; refine append_src rfl _ _ 39 rfl w.heap.size i0 Try.underlying39 HI.out HZ0.out HZ1.out HZ2.out _ (L.length + P.length) _ rfl (ho.alloc _) (some ⟨wr.heap.size, 0, none⟩) 1 1 [x] rfl rfl (sl_one _ _ _) ?d1 ?d2 ?_)
      case d1 => omega
      case d2 => simp; omega
      intro v1 w2 ho2 hgrow
      have hb2 := after_append (Nat.le_refl _) (hb.alloc hsz _).size (ho.alloc _) (hb.alloc hsz _) hgrow
      have hu2 := hu.out
      rw [enc_small f x hlt] at hu2
      have HO : Hid (w2.ownsRow w.heap.size 5 1 v1 (L ++ E).length ((L ++ E).map (Value.int .u8))) := by
        rw [← hu2]
        simpa [Hid, Nat.add_assoc] using ho2
      clear hgrow ho hb ho2 hu2
      go_wp2
      go_ret
      exact ⟨_, rfl, HO.out, hb2⟩
    · obtain ⟨f', rfl⟩ := fit_pos hf.out hlt
      have hy1 : bits .or .u8 (x % 256) 128 = x % 128 + 128 := (or128 (x % 256) ⟨by omega, by omega⟩).trans (by omega)
      have hy2 : bits .or .u8 (IntKind.u8.wrap x) 128 = x % 128 + 128 := by rw [IntKind.wrap_u8']; exact hy1
      have HY := Lib.hid (enc_snoc f' x P E hlt hu.out)
      generalize x % 128 + 128 = y at *
      go_wp2_with (at_builtin; refine append_src rfl _ _ 39 rfl w.heap.size i0 Try.underlying39 HI.out HZ0.out HZ1.out HZ2.out _ (L.length + P.length) _ rfl (ho.alloc _) (some ⟨wr.heap.size, 0, none⟩) 1 1 [y] rfl rfl (sl_one _ _ _) ?e1 ?e2 ?_)
      case e1 => omega
      case e2 => have := (hb.alloc hsz (.cells #[.int .u8 y] 5)).size; omega
      intro v1 w2 ho2 hgrow
      have hb2 := after_append (Nat.le_refl _) (hb.alloc hsz _).size (ho.alloc _) (hb.alloc hsz _) hgrow
      clear hgrow ho hb hy1 hy2
      go_wp2
      go_roundg f'
      case measure => omega
      case rel => exact ⟨f', x / 128, P ++ [y], by rfl, ⟨by omega, by omega⟩, Lib.hid (fit_down hf.out), by simpa [Nat.add_assoc] using ho2, hb2, HY, rfl⟩

end Go.Proofs.Ytaaeepanelmgnaa
