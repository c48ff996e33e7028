/-
  The contracts of wire.Size, of both SizeBytes, and of wire.start.
  Conditions: as typed.
-/
import Derived.Test.YtadngbpiepemjaaG4
namespace Go.Proofs.Ytadngbpiepemjaa
open Go.RowKit

theorem bnext {w0 w w' : World} (h : Below w0.heap.size w0 w) (h2 : Below w.heap.size w w') : Below w0.heap.size w0 w' := h.trans (h2.mono h.size)

set_option maxHeartbeats 2000000 in
theorem code_size_bad (num kind val : Int) (b : Option Addr) (n d : Nat) (w : World) (hv : ¬ Vfi num kind val n) :
    Calls Try.prog 13 #[.agg #[.int .i64 num, .int .i64 kind, .int .u64 val, .slice b n d]] w fun e w' => e = .returned (.int .i64 0) ∧ Below w.heap.size w w' := by
  have cV := code_valid num kind val b n d
  rw [vldB_false hv] at cV
  go_enter Try.func13, Try.ntmps13
  go_wp2_with fail
  refine (cV _).mono ?_
  rintro e w1 ⟨rfl, hb1⟩
  have hb := bnext ((Below.refl _ w).alloc (Nat.le_refl _) (.cells #[.int .i64 num, .int .i64 kind, .int .u64 val, .slice b n d] 25)) hb1
  clear cV hb1
  go_wp2
  go_ret
  exact ⟨rfl, hb⟩

set_option maxHeartbeats 2000000 in
theorem code_size (num kind val : Int) (b : Option Addr) (d : Nat) (B : List Int) (w : World) (hB : B.length ≤ 1000000) (hv : Vfi num kind val B.length) (hw : W64 val) :
    Calls Try.prog 13 #[.agg #[.int .i64 num, .int .i64 kind, .int .u64 val, .slice b B.length d]] w fun e w' => e = .returned (.int .i64 ((encI num kind val B).length : Nat)) ∧ Below w.heap.size w w' := by
  have cV := code_valid num kind val b B.length d
  rw [vldB_true hv] at cV
  have hk : kind = 0 ∨ kind = 2 := by unfold Vfi at hv; omega
  have hn0 := hv.1
  have hn1 := hv.2.1
  have cT := fun w => code_tag num kind val b B.length d w hn0 hn1 hk
  have cS := fun w => code_second num kind val b B.length d w hB
  have hsb := sec_b kind val B.length hw hB
  have htb : W64 (8 * num + kind) := by unfold W64; omega
  have cY := fun w => size_any (8 * num + kind) w htb
  have cZ := fun w => size_any (secI kind val B.length) w hsb
  have hEl := Enc_len (8 * num + kind)
  have hEl2 := Enc_len (secI kind val B.length)
  have hfin : (encI num kind val B).length = (Enc (8 * num + kind)).length + (Enc (secI kind val B.length)).length + B.length := by simp [encI]; omega
  have h1 : IntKind.i64.wrap (((Enc (8 * num + kind)).length : Int) + ((Enc (secI kind val B.length)).length : Int)) = ((Enc (8 * num + kind)).length : Int) + ((Enc (secI kind val B.length)).length : Int) := by rw [IntKind.wrap_i64]; omega
  have h2 : IntKind.i64.wrap (((Enc (8 * num + kind)).length : Int) + ((Enc (secI kind val B.length)).length : Int) + (B.length : Int)) = ((Enc (8 * num + kind)).length : Int) + ((Enc (secI kind val B.length)).length : Int) + (B.length : Int) := by rw [IntKind.wrap_i64]; omega
  generalize secI kind val B.length = sc at *
  generalize (Enc (8 * num + kind)).length = E1 at *
  generalize (Enc sc).length = E2 at *
  have HFIN := Lib.hid hfin
  clear hfin hk hv hsb
  go_enter Try.func13, Try.ntmps13
  go_wp2_with fail
  refine (cV _).mono ?_
  rintro e w1 ⟨rfl, hb1⟩
  have hx := (box_new w num kind val b B.length d).below hb1
  have hb := bnext ((Below.refl _ w).alloc (Nat.le_refl _) (.cells #[.int .i64 num, .int .i64 kind, .int .u64 val, .slice b B.length d] 25)) hb1
  clear cV hb1
  go_wp2_with fail
  go_region_held3 (fun wx => wx.cell? ⟨w.heap.size, 0, none⟩ = some (.int .i64 num) ∧ wx.cell? ⟨w.heap.size, 0 + 1, none⟩ = some (.int .i64 kind) ∧ wx.cell? ⟨w.heap.size, 0 + 2, none⟩ = some (.int .u64 val) ∧ wx.cell? ⟨w.heap.size, 0 + 3, none⟩ = some (.slice b B.length d))
    (first | exact x4 | exact x2 | exact hx) (first
    | (go_at_call 28; have q5 := x4; refine (cZ _).mono ?_; rintro e w5 ⟨rfl, rfl⟩)
    | (go_at_call 23; refine (cT _).mono ?_; rintro e w2 ⟨rfl, hb2⟩; have x2 := Box.below (w := w1.drew) hx hb2)
    | (go_at_call 24; refine (cS _).mono ?_; rintro e w4 ⟨rfl, hb4⟩; have x4 := x2.below hb4)
    | (go_at_call 28; refine (cY _).mono ?_; rintro e w3 ⟨rfl, rfl⟩))
  have hbl : Below w.heap.size w w4 := bnext (bnext hb.drew hb2) hb4
  clear cT cS cY cZ hx x2 x4 q5 h1 h2 hb hb2 hb4
  go_wp2
  go_ret
  exact ⟨by rw [HFIN.out]; rfl, hbl⟩

/-- The size of a field with n bytes and a small number. -/
def szB (n : Int) : Int := if n < 0 then 0 else 1 + ((Enc n).length : Nat) + n
set_option maxHeartbeats 1000000 in
theorem code_sizeBytes (n : Int) (w : World) (h1 : n ≤ 1099511627776) :
    Calls Try.prog 19 #[.int .i64 n] w fun e w' => e = .returned (.int .i64 (szB n)) ∧ w = w' := by
  by_cases h0 : n < 0
  · have hs : szB n = 0 := by unfold szB; rw [if_pos h0]
    have HS := Lib.hid hs
    clear hs
    go_enter Try.func19, Try.ntmps19
    go_wp2
    go_ret
    exact ⟨by rw [HS.out]; rfl, rfl⟩
  · have hs : szB n = 1 + ((Enc n).length : Nat) + n := by unfold szB; rw [if_neg h0]
    have h00 : 0 ≤ n := by omega
    have hw : W64 n := ⟨h00, by omega⟩
    have cZ := size_any n w hw
    have hE := Enc_len n
    generalize (Enc n).length = E at *
    have HS := Lib.hid hs
    clear hs h0
    go_enter Try.func19, Try.ntmps19
    go_wp2_with fail
    refine cZ.mono ?_
    rintro e w1 ⟨rfl, rfl⟩
    go_wp2
    go_ret
    exact ⟨by rw [HS.out]; rfl, rfl⟩
set_option maxHeartbeats 1000000 in
theorem ref_sizeBytes (n : Int) (w : World) (h1 : n ≤ 1099511627776) :
    Calls Try.prog 20 #[.int .i64 n] w fun e w' => e = .returned (.int .i64 (szB n)) ∧ Below w.heap.size w w' := by
  by_cases h0 : n < 0
  · have hs : szB n = 0 := by unfold szB; rw [if_pos h0]
    have HS := Lib.hid hs
    clear hs
    go_enter Try.func20, Try.ntmps20
    go_wp2
    go_ret
    exact ⟨by rw [HS.out]; rfl, Below.refl _ _⟩
  · have hs : szB n = 1 + ((Enc n).length : Nat) + n := by unfold szB; rw [if_neg h0]
    have h00 : 0 ≤ n := by omega
    have hw : W64 n := ⟨h00, by omega⟩
    have cZ := ref_size n w hw
    have hE := Enc_len n
    generalize (Enc n).length = E at *
    have HS := Lib.hid hs
    clear hs h0
    go_enter Try.func20, Try.ntmps20
    go_wp2_with fail
    refine cZ.mono ?_
    rintro e w1 ⟨rfl, hb⟩
    go_wp2
    go_ret
    exact ⟨by rw [HS.out]; rfl, hb⟩

/-- A read with an error. -/
theorem read_err {a : Option Addr} {c : Nat} {L : List Int} {w : World} (hL : L.length ≤ 1000000) (hr : Sl w a c L) (hw : ∀ x, x ∈ L → W8 x) {e0 : Int} (h : rd 0 0 L = (0, 0, e0)) :
    Calls Try.prog 34 #[.slice a L.length c] w fun e w' => e = .returned (.tuple #[.int .u64 0, .int .i64 0, .int .i64 e0]) ∧ w = w' := by
  have := code_read a c L w hL hr hw
  rw [h] at this
  exact this
theorem read_ok {a : Option Addr} {c : Nat} {L : List Int} {w : World} (hL : L.length ≤ 1000000) (hr : Sl w a c L) (hw : ∀ x, x ∈ L → W8 x) {t : Int} {k : Nat} (h : rd 0 0 L = (t, (k : Int), 0)) :
    Calls Try.prog 34 #[.slice a L.length c] w fun e w' => e = .returned (.tuple #[.int .u64 t, .int .i64 (k : Int), .int .i64 0]) ∧ w = w' := by
  have := code_read a c L w hL hr hw
  rw [h] at this
  exact this

set_option maxHeartbeats 1000000 in
theorem start_err (a : Option Addr) (c : Nat) (L : List Int) (w : World) (hL : L.length ≤ 1000000) (hr : Sl w a c L) (hw : ∀ x, x ∈ L → W8 x) (e0 : Int) (h : rd 0 0 L = (0, 0, e0)) (he : e0 ≠ 0) :
    Calls Try.prog 33 #[.slice a L.length c] w fun e w' => e = .returned (.tuple #[.agg #[.int .i64 0, .int .i64 0, .int .u64 0, .slice none 0 0], .int .i64 0, .int .i64 e0]) ∧ Below w.heap.size w w' := by
  have hbn := (Below.refl w.heap.size w).alloc (Nat.le_refl _) (.cells #[.int .i64 0, .int .i64 0, .int .u64 0, .slice none 0 0] 25)
  have cR := read_err hL (sl_below hr hbn) hw h
  have h1 : (e0 != 0) = true := by simpa using he
  have h2 : (e0 == 0) = false := by simpa using he
  clear h he hbn
  go_enter Try.func33, Try.ntmps33
  go_wp2_with fail
  refine cR.mono ?_
  rintro e w1 ⟨rfl, rfl⟩
  clear cR
  go_wp2
  exact bodyPost_ret (v := .tuple #[.agg #[.int .i64 0, .int .i64 0, .int .u64 0, .slice none 0 0], .int .i64 0, .int .i64 e0]) (by simp [results, Try.results33, go_sem]) rfl ⟨rfl, (Below.refl _ _).alloc (Nat.le_refl _) _⟩

set_option maxHeartbeats 1000000 in
theorem start_ok (a : Option Addr) (c : Nat) (L : List Int) (w : World) (hL : L.length ≤ 1000000) (hr : Sl w a c L) (hw : ∀ x, x ∈ L → W8 x) (t kd : Int) (k : Nat) (h : rd 0 0 L = (t, (k : Int), 0)) (hg : goodT t) (hk : t % 8 = kd) (hkd : kd = 0 ∨ kd = 2) :
    Calls Try.prog 33 #[.slice a L.length c] w fun e w' => e = .returned (.tuple #[.agg #[.int .i64 (t / 8), .int .i64 kd, .int .u64 0, .slice none 0 0], .int .i64 (k : Int), .int .i64 0]) ∧ Below w.heap.size w w' := by
  have hbn := (Below.refl w.heap.size w).alloc (Nat.le_refl _) (.cells #[.int .i64 0, .int .i64 0, .int .u64 0, .slice none 0 0] 25)
  have cR := read_ok hL (sl_below hr hbn) hw h
  obtain ⟨h1, h2, h3⟩ := hg
  have h0 : 0 ≤ t := by omega
  have h4 : t ≤ 18446744073709551615 := by omega
  clear h hbn h3
  rcases hkd with rfl | rfl
  · go_enter Try.func33, Try.ntmps33
    go_wp2_with fail
    refine cR.mono ?_
    rintro e w1 ⟨rfl, rfl⟩
    clear cR
    go_wp2
    exact bodyPost_ret (v := .tuple #[.agg #[.int .i64 (t / 8), .int .i64 0, .int .u64 0, .slice none 0 0], .int .i64 (k : Int), .int .i64 0]) (by simp [results, Try.results33, go_sem]) rfl ⟨rfl, (Below.refl _ _).alloc (Nat.le_refl _) _⟩
  · go_enter Try.func33, Try.ntmps33
    go_wp2_with fail
    refine cR.mono ?_
    rintro e w1 ⟨rfl, rfl⟩
    clear cR
    go_wp2
    exact bodyPost_ret (v := .tuple #[.agg #[.int .i64 (t / 8), .int .i64 2, .int .u64 0, .slice none 0 0], .int .i64 (k : Int), .int .i64 0]) (by simp [results, Try.results33, go_sem]) rfl ⟨rfl, (Below.refl _ _).alloc (Nat.le_refl _) _⟩
set_option maxHeartbeats 1000000 in
theorem start_bad (a : Option Addr) (c : Nat) (L : List Int) (w : World) (hL : L.length ≤ 1000000) (hr : Sl w a c L) (hw : ∀ x, x ∈ L → W8 x) (t : Int) (k : Nat) (h : rd 0 0 L = (t, (k : Int), 0)) (h0 : 0 ≤ t) (h1 : t ≤ 18446744073709551615) (hg : ¬ goodT t) :
    Calls Try.prog 33 #[.slice a L.length c] w fun e w' => e = .returned (.tuple #[.agg #[.int .i64 0, .int .i64 0, .int .u64 0, .slice none 0 0], .int .i64 0, .int .i64 4]) ∧ Below w.heap.size w w' := by
  have hbn := (Below.refl w.heap.size w).alloc (Nat.le_refl _) (.cells #[.int .i64 0, .int .i64 0, .int .u64 0, .slice none 0 0] 25)
  have cR := read_ok hL (sl_below hr hbn) hw h
  unfold goodT at hg
  have HG := Lib.hid hg
  clear h hbn hg
  go_enter Try.func33, Try.ntmps33
  go_wp2_with fail
  refine cR.mono ?_
  rintro e w1 ⟨rfl, rfl⟩
  clear cR
  go_wp2
  all_goals first
    | (exfalso; have hh := HG.out; clear HG; simp at *; omega)
    | exact bodyPost_ret (v := .tuple #[.agg #[.int .i64 0, .int .i64 0, .int .u64 0, .slice none 0 0], .int .i64 0, .int .i64 4]) (by simp [results, Try.results33, go_sem]) rfl ⟨rfl, (Below.refl _ _).alloc (Nat.le_refl _) _⟩
end Go.Proofs.Ytadngbpiepemjaa
