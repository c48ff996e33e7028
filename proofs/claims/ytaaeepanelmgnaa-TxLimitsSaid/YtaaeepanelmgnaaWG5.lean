/-
  The contracts of wire.Size, of both SizeBytes, and of wire.start.
  Conditions: as typed.
-/
import Derived.Test.YtaaeepanelmgnaaWG4
namespace Go.Proofs.Ytaaeepanelmgnaa
set_option maxRecDepth 100000
open Go.RowKit

theorem bnext {w0 w w' : World} (h : Below w0.heap.size w0 w) (h2 : Below w.heap.size w w') : Below w0.heap.size w0 w' := h.trans (h2.mono h.size)

/-- The size of a field with n bytes and a small number. -/
def szB (n : Int) : Int := if n < 0 then 0 else 1 + ((Enc n).length : Nat) + n
/-- A read with an error. -/
theorem read_err {a : Option Addr} {c : Nat} {L : List Int} {w : World} (hL : L.length ≤ 1000000) (hr : Sl w a c L) (hw : ∀ x, x ∈ L → W8 x) {e0 : Int} (h : rd 0 0 L = (0, 0, e0)) :
    Calls Try.prog 69 #[.slice a L.length c] w fun e w' => e = .returned (.tuple #[.int .u64 0, .int .i64 0, .int .i64 e0]) ∧ w = w' := by
  have := code_read a c L w hL hr hw
  rw [h] at this
  exact this
theorem read_ok {a : Option Addr} {c : Nat} {L : List Int} {w : World} (hL : L.length ≤ 1000000) (hr : Sl w a c L) (hw : ∀ x, x ∈ L → W8 x) {t : Int} {k : Nat} (h : rd 0 0 L = (t, (k : Int), 0)) :
    Calls Try.prog 69 #[.slice a L.length c] w fun e w' => e = .returned (.tuple #[.int .u64 t, .int .i64 (k : Int), .int .i64 0]) ∧ w = w' := by
  have := code_read a c L w hL hr hw
  rw [h] at this
  exact this

set_option maxHeartbeats 1000000 in
theorem start_err (a : Option Addr) (c : Nat) (L : List Int) (w : World) (hL : L.length ≤ 1000000) (hr : Sl w a c L) (hw : ∀ x, x ∈ L → W8 x) (e0 : Int) (h : rd 0 0 L = (0, 0, e0)) (he : e0 ≠ 0) :
    Calls Try.prog 68 #[.slice a L.length c] w fun e w' => e = .returned (.tuple #[.agg #[.int .i64 0, .int .i64 0, .int .u64 0, .slice none 0 0], .int .i64 0, .int .i64 e0]) ∧ Below w.heap.size w w' := by
  have hbn := (Below.refl w.heap.size w).alloc (Nat.le_refl _) (.cells #[.int .i64 0, .int .i64 0, .int .u64 0, .slice none 0 0] 54)
  have cR := read_err hL (sl_below hr hbn) hw h
  have h1 : (e0 != 0) = true := by simpa using he
  have h2 : (e0 == 0) = false := by simpa using he
  clear h he hbn
  go_enter Try.func68, Try.ntmps68
  go_wp2_with fail
  refine cR.mono ?_
  rintro e w1 ⟨rfl, rfl⟩
  clear cR
  go_wp2
  exact bodyPost_ret (v := .tuple #[.agg #[.int .i64 0, .int .i64 0, .int .u64 0, .slice none 0 0], .int .i64 0, .int .i64 e0]) (by simp [results, Try.results68, go_sem]) rfl ⟨rfl, (Below.refl _ _).alloc (Nat.le_refl _) _⟩

set_option maxHeartbeats 1000000 in
theorem start_ok (a : Option Addr) (c : Nat) (L : List Int) (w : World) (hL : L.length ≤ 1000000) (hr : Sl w a c L) (hw : ∀ x, x ∈ L → W8 x) (t kd : Int) (k : Nat) (h : rd 0 0 L = (t, (k : Int), 0)) (hg : goodT t) (hk : t % 8 = kd) (hkd : kd = 0 ∨ kd = 2) :
    Calls Try.prog 68 #[.slice a L.length c] w fun e w' => e = .returned (.tuple #[.agg #[.int .i64 (t / 8), .int .i64 kd, .int .u64 0, .slice none 0 0], .int .i64 (k : Int), .int .i64 0]) ∧ Below w.heap.size w w' := by
  have hbn := (Below.refl w.heap.size w).alloc (Nat.le_refl _) (.cells #[.int .i64 0, .int .i64 0, .int .u64 0, .slice none 0 0] 54)
  have cR := read_ok hL (sl_below hr hbn) hw h
  obtain ⟨h1, h2, h3⟩ := hg
  have h0 : 0 ≤ t := by omega
  have h4 : t ≤ 18446744073709551615 := by omega
  clear h hbn h3
  rcases hkd with rfl | rfl
  · go_enter Try.func68, Try.ntmps68
    go_wp2_with fail
    refine cR.mono ?_
    rintro e w1 ⟨rfl, rfl⟩
    clear cR
    go_wp2
    exact bodyPost_ret (v := .tuple #[.agg #[.int .i64 (t / 8), .int .i64 0, .int .u64 0, .slice none 0 0], .int .i64 (k : Int), .int .i64 0]) (by simp [results, Try.results68, go_sem]) rfl ⟨rfl, (Below.refl _ _).alloc (Nat.le_refl _) _⟩
  · go_enter Try.func68, Try.ntmps68
    go_wp2_with fail
    refine cR.mono ?_
    rintro e w1 ⟨rfl, rfl⟩
    clear cR
    go_wp2
    exact bodyPost_ret (v := .tuple #[.agg #[.int .i64 (t / 8), .int .i64 2, .int .u64 0, .slice none 0 0], .int .i64 (k : Int), .int .i64 0]) (by simp [results, Try.results68, go_sem]) rfl ⟨rfl, (Below.refl _ _).alloc (Nat.le_refl _) _⟩
set_option maxHeartbeats 1000000 in
theorem start_bad (a : Option Addr) (c : Nat) (L : List Int) (w : World) (hL : L.length ≤ 1000000) (hr : Sl w a c L) (hw : ∀ x, x ∈ L → W8 x) (t : Int) (k : Nat) (h : rd 0 0 L = (t, (k : Int), 0)) (h0 : 0 ≤ t) (h1 : t ≤ 18446744073709551615) (hg : ¬ goodT t) :
    Calls Try.prog 68 #[.slice a L.length c] w fun e w' => e = .returned (.tuple #[.agg #[.int .i64 0, .int .i64 0, .int .u64 0, .slice none 0 0], .int .i64 0, .int .i64 4]) ∧ Below w.heap.size w w' := by
  have hbn := (Below.refl w.heap.size w).alloc (Nat.le_refl _) (.cells #[.int .i64 0, .int .i64 0, .int .u64 0, .slice none 0 0] 54)
  have cR := read_ok hL (sl_below hr hbn) hw h
  unfold goodT at hg
  have HG := Lib.hid hg
  clear h hbn hg
  go_enter Try.func68, Try.ntmps68
  go_wp2_with fail
  refine cR.mono ?_
  rintro e w1 ⟨rfl, rfl⟩
  clear cR
  go_wp2
  all_goals first
    | (exfalso; have hh := HG.out; clear HG; simp at *; omega)
    | exact bodyPost_ret (v := .tuple #[.agg #[.int .i64 0, .int .i64 0, .int .u64 0, .slice none 0 0], .int .i64 0, .int .i64 4]) (by simp [results, Try.results68, go_sem]) rfl ⟨rfl, (Below.refl _ _).alloc (Nat.le_refl _) _⟩
end Go.Proofs.Ytaaeepanelmgnaa
