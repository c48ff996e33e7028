/-
  The walk over the statement on Read, where at most 200 and at most 14 bytes come in.
  Conditions: as typed.
-/
import Derived.Test.YtdkcbffkjdagpaaD2
namespace Go.Proofs.Ytdkcbffkjdagpaa
open Go.RowKit

theorem app_bytes {M N : List Int} (h : ∀ x, x ∈ M → W8 x) (h1 : ∀ x, x ∈ N → W8 x) : ∀ x, x ∈ M ++ N → W8 x := fun x hx => (List.mem_append.1 hx).elim (h x) (h1 x)

set_option maxHeartbeats 2000000 in
set_option maxRecDepth 100000 in
theorem reads_core (a : Option Addr) (c : Nat) (L : List Int) (b : Option Addr) (d : Nat) (S : List Int) (y : Int) (w : World) (hL : L.length ≤ 200) (hS : S.length ≤ 14) (hr : Sl w a c L) (hw : ∀ x, x ∈ L → W8 x)
    (hr' : Sl w b d S) (hw' : ∀ x, x ∈ S → W8 x) (hy : W8 y) :
    Calls Try.prog 4 #[.slice a L.length c, .slice b S.length d, .int .u8 y] w fun e w' => e = .returned (.bool true) ∧ Below w.heap.size w w' := by
  have hb0 : decide ((200 : Int) < (L.length : Int)) = false := decide_eq_false (by omega)
  have hb1 : decide ((14 : Int) < (S.length : Int)) = false := decide_eq_false (by omega)
  have HL := Lib.hid hw
  have HS := Lib.hid hw'
  have RL := Lib.hid hr
  have RS := Lib.hid hr'
  obtain ⟨hy0, hy1⟩ := hy
  obtain ⟨i0, hi, hz0, hz1, hz2⟩ := info_parts info5
  have HI := Lib.hid hi
  have HZ0 := Lib.hid hz0
  have HZ1 := Lib.hid hz1
  have HZ2 := Lib.hid hz2
  clear hi hz0 hz1 hz2 hw hw' hr hr'
  go_enter Try.func4, Try.ntmps4
  go_wp2_with fail
  clear hb0 hb1
  go_loopg [7, 29] S.length (fun g s7 s29 wx => ∃ (k : Nat) (M : List Int), s29 = .int .i64 k ∧ k ≤ S.length ∧ Hid (M.length = k) ∧ Hid (∀ x, x ∈ M → W8 x) ∧ wx.ownsRow w.heap.size 5 1 s7 k (M.map (Value.int .u8)) ∧ Below w.heap.size w wx ∧ S.length - k = g)
  case atStart => exact ⟨0, [], rfl, by omega, rfl, Lib.hid (by simp), World.ownsRow_nil _ _ _ _, Below.refl _ _, by omega⟩
  case round =>
    obtain ⟨k, M, rfl, hk, hM, hMw, ho, hb, rfl⟩ := hrel
    have hsz := hb.size
    by_cases hlt : k < S.length
    · obtain ⟨b0, off, rfl, hbl, hc⟩ := sl_at RS.out hlt
      have hcr := (hb.cell (p := ⟨b0, off + k, none⟩) hbl).trans hc
      have hx := HS.out (S.getD k 0) (by rw [List.getD_eq_getElem?_getD, List.getElem?_eq_getElem hlt]; exact List.getElem_mem hlt)
      generalize S.getD k 0 = x at *
      have HOR := or128 x hx
      obtain ⟨hx0, hx1⟩ := hx
      clear hc
      go_wp2_with (at_builtin; refine append_src rfl _ _ 22 rfl w.heap.size i0 Try.underlying22 HI.out HZ0.out HZ1.out HZ2.out _ k _ rfl (ho.alloc _) (some ⟨wr.heap.size, 0, none⟩) 1 1 [x % 128 + 128] rfl rfl (sl_one _ _ _) ?e1 ?e2 ?_)
      case e1 => omega
      case e2 => have := (hb.alloc hsz (.cells #[.int .u8 (x % 128 + 128)] 5)).size; omega
      intro v1 w2 ho2 hgrow
      have hb2 := after_append (Nat.le_refl _) (hb.alloc hsz _).size (ho.alloc _) (hb.alloc hsz _) hgrow
      have HL2 : Hid ((M ++ [x % 128 + 128]).length = k + 1) := by show _ = _; rw [List.length_append, hM.out]; rfl
      have HW2 : Hid (∀ z, z ∈ M ++ [x % 128 + 128] → W8 z) := by
        intro z hz
        rcases List.mem_append.1 hz with h1 | h1
        · exact hMw.out z h1
        · obtain rfl : z = x % 128 + 128 := by simpa using h1
          exact ⟨by omega, by omega⟩
      clear hgrow ho hb HOR
      go_wp2
      go_roundg (S.length - (k + 1))
      case measure => omega
      case rel => exact ⟨k + 1, _, by go_num, hlt, HL2, HW2, by simpa using ho2, hb2, rfl⟩
    · obtain ⟨a1, c1, rfl, m1, hkl, -⟩ := sl_own ho
      subst hkl
      have hMl : M.length ≤ 14 := by omega
      have HB1 := Lib.hid hb
      have R0 := Lib.hid (sl_below RL.out hb)
      obtain ⟨w1, rfl⟩ : ∃ w1 : World, w1 = wr := ⟨_, rfl⟩
      have M1 := Lib.hid (sl_below m1 ((Below.refl w1.heap.size w1).alloc (Nat.le_refl _) (.cells #[] 5)))
      have MB := hMw
      have N1 := Lib.hid m1
      clear ho hb RL RS HS hM m1
      -- the second slice of the list: the bytes and the last one
      go_wp2_with (at_builtin; refine append_src rfl (.tmp 41) (.tmp 42) 22 rfl w1.heap.size i0 Try.underlying22 HI.out HZ0.out HZ1.out HZ2.out _ 0 [] rfl (own_empty w1) a1 M.length c1 M rfl rfl M1.out ?c1 ?c2 ?_)
      case c1 => omega
      case c2 => simp
      intro v2 w2 ho2 hg2
      have hb2 := after_append (w0 := w1) (Nat.le_refl _) (by simp) (own_empty w1) ((Below.refl _ w1).alloc (Nat.le_refl _) _) hg2
      have hsz2 := hb2.size
      clear hg2 M1
      go_wp2_with (at_builtin; refine append_src rfl (.tmp 43) (.tmp 45) 22 rfl w1.heap.size i0 Try.underlying22 HI.out HZ0.out HZ1.out HZ2.out _ M.length _ rfl (ho2.alloc _) (some ⟨w2.heap.size, 0, none⟩) 1 1 [y] rfl rfl (sl_one _ _ _) ?d1 ?d2 ?_)
      case d1 => omega
      case d2 => have := (hb2.alloc hsz2 (.cells #[.int .u8 y] 5)).size; omega
      intro v3 w3 ho3 hg3
      have hb3 := after_append (Nat.le_refl _) (hb2.alloc hsz2 _).size (ho2.alloc _) (hb2.alloc hsz2 _) hg3
      have HO3 : Hid (w3.ownsRow w1.heap.size 5 1 v3 (M ++ [y]).length ((M ++ [y]).map (Value.int .u8))) := by
        show w3.ownsRow _ _ _ _ _ _
        simpa using ho3
      obtain ⟨a3, c3, rfl, m3, -, -⟩ := sl_own HO3.out
      have M3 := Lib.hid m3
      have hsz3 := hb3.size
      clear hg3 ho2 ho3 HO3 hb2 m3 hsz2
      -- the third slice: the bytes, the last one without its highest bit, and 1
      have N3 := Lib.hid (sl_below N1.out hb3)
      have R3 := Lib.hid (sl_below R0.out hb3)
      have HB3 := Lib.hid (HB1.out.trans (hb3.mono hsz))
      have K3 := Lib.hid (sl_below N3.out ((Below.refl w3.heap.size w3).alloc (Nat.le_refl _) (.cells #[] 5)))
      clear hb3 R0 N1 HB1
      go_wp2_with (at_builtin; refine append_src rfl (.tmp 47) (.tmp 48) 22 rfl w3.heap.size i0 Try.underlying22 HI.out HZ0.out HZ1.out HZ2.out _ 0 [] rfl (own_empty w3) a1 M.length c1 M rfl rfl K3.out ?f1 ?f2 ?_)
      case f1 => omega
      case f2 => simp
      intro v4 w4 ho4 hg4
      have hb4 := after_append (w0 := w3) (Nat.le_refl _) (by simp) (own_empty w3) ((Below.refl _ w3).alloc (Nat.le_refl _) _) hg4
      have hsz4 := hb4.size
      have HAN := and127 y ⟨hy0, hy1⟩
      clear hg4 K3
      go_wp2_with (at_builtin; refine append_src rfl (.tmp 49) (.tmp 52) 22 rfl w3.heap.size i0 Try.underlying22 HI.out HZ0.out HZ1.out HZ2.out _ M.length _ rfl (ho4.alloc _) (some ⟨w4.heap.size, 0, none⟩) 2 2 [y % 128, 1] rfl rfl (sl_new w4 [y % 128, 1] 2) ?g1 ?g2 ?_)
      case g1 => omega
      case g2 => have := (hb4.alloc hsz4 (.cells #[.int .u8 (y % 128), .int .u8 1] 5)).size; omega
      intro v5 w5 ho5 hg5
      have hb5 := after_append (Nat.le_refl _) (hb4.alloc hsz4 _).size (ho4.alloc _) (hb4.alloc hsz4 _) hg5
      have HO5 : Hid (w5.ownsRow w3.heap.size 5 1 v5 (M ++ [y % 128, 1]).length ((M ++ [y % 128, 1]).map (Value.int .u8))) := by
        show w5.ownsRow _ _ _ _ _ _
        simpa using ho5
      obtain ⟨a5, c5, rfl, m5, -, -⟩ := sl_own HO5.out
      rw [show (M ++ [y % 128, 1]).length = M.length + 2 by simp]
      have M5 := Lib.hid m5
      have N5 := Lib.hid (sl_below N3.out hb5)
      have R5 := Lib.hid (sl_below R3.out hb5)
      have P5 := Lib.hid (sl_below M3.out hb5)
      have HB5 := Lib.hid (HB3.out.trans (hb5.mono HB3.out.size))
      clear hg5 ho4 ho5 HO5 hb4 hb5 m5 hsz4 HAN N3 R3 M3 HB3
      go_wp2_with fail
      have hAl := (Below.refl w5.heap.size w5).alloc (Nat.le_refl _) (.cells #[.slice a L.length c, .slice a1 M.length c1, .slice a3 (M.length + 1) c3, .slice a5 (M.length + 2) c5] 22)
      have R6 := sl_below R5.out hAl
      have N6 := sl_below N5.out hAl
      have P6 := sl_below P5.out hAl
      have M6 := sl_below M5.out hAl
      have HB6 := Lib.hid (HB5.out.trans (hAl.mono HB5.out.size))
      obtain ⟨w6, hw6⟩ : ∃ w6, w6 = w5.alloc (.cells #[.slice a L.length c, .slice a1 M.length c1, .slice a3 (M.length + 1) c3, .slice a5 (M.length + 2) c5] 22) := ⟨_, rfl⟩
      have HC : ∀ k : Nat, k < 4 → ∃ (aq : Option Addr) (nq cq : Nat) (Q : List Int), w6.cell? ⟨w5.heap.size, k, none⟩ = some (.slice aq nq cq) ∧ Q.length = nq ∧ Q.length ≤ 1000 ∧ Sl w6 aq cq Q ∧ ∀ x, x ∈ Q → W8 x := by
        intro k hk
        rw [← hw6] at R6 N6 P6 M6
        rw [hw6, cell_of_row _ w5.heap.size k _ 22 (0, 0) (heap_alloc_new w5 _), ← hw6]
        match k, hk with
        | 0, _ => exact ⟨a, _, c, L, rfl, rfl, by omega, R6, HL.out⟩
        | 1, _ => exact ⟨a1, _, c1, M, rfl, rfl, by omega, N6, MB.out⟩
        | 2, _ => exact ⟨a3, _, c3, M ++ [y], rfl, by simp, by simp; omega, P6, app_bytes MB.out (by simp [W8]; omega)⟩
        | 3, _ => exact ⟨a5, _, c5, M ++ [y % 128, 1], rfl, by simp, by simp; omega, M6, app_bytes MB.out (by simp [W8]; omega)⟩
      rw [← hw6] at HB6 ⊢
      have HCC := Lib.hid HC
      clear hw6 HC R6 N6 P6 M6 hAl R5 N5 P5 M5 HB5
      go_loopg [56] 4 (fun g s56 wx => w6 = wx ∧ ∃ k : Nat, k ≤ 4 ∧ s56 = .int .i64 k ∧ 4 - k = g)
      case atStart => exact ⟨rfl, 0, by omega, rfl, rfl⟩
      case round =>
        obtain ⟨rfl, k, hk, rfl, rfl⟩ := hrel
        by_cases hlt : k < 4
        · obtain ⟨aq, nq, cq, Q, hc, hq, hqb, sq, hqw⟩ := HCC.out k hlt
          have cR := code_read aq cq Q w6 hqb sq hqw
          have cF := ref_read aq cq Q w6 hqb sq hqw
          rw [hq] at cR cF
          clear sq hqw hqb hq
          generalize rd 0 0 Q = R at *
          obtain ⟨r1, r2, r3⟩ := R
          replace cR : Calls Try.prog 13 #[.slice aq nq cq] w6 fun e w' => e = .returned (.tuple #[.int .u64 r1, .int .i64 r2, .int .i64 r3]) ∧ w6 = w' := cR
          replace cF : Calls Try.prog 14 #[.slice aq nq cq] w6 fun e w' => e = .returned (.tuple #[.int .u64 r1, .int .i64 r2, .int .i64 r3]) ∧ w6 = w' := cF
          go_wp2_with fail
          refine cR.mono ?_
          rintro e w7 ⟨rfl, rfl⟩
          clear cR
          go_wp2_with fail
          refine cF.mono ?_
          rintro e w7 ⟨rfl, rfl⟩
          clear cF
          go_wp2
          go_roundg (4 - (k + 1))
          case measure => omega
          case rel => exact ⟨rfl, k + 1, by omega, by go_num, rfl⟩
        · go_wp2_with fail
          refine (known_true _).mono ?_
          rintro e w7 ⟨rfl, hb7⟩
          go_wp2
          go_ret
          exact ⟨rfl, HB6.out.trans (hb7.mono HB6.out.size)⟩
end Go.Proofs.Ytdkcbffkjdagpaa
