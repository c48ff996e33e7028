/-
  The walk over the statement that what can be read is an encoding, where at most 12 bytes come in.
  Conditions: as typed.
-/
import Derived.Test.YtdkcbffkjdagpaaC6
import Derived.Deep.RegionHeld3
namespace Go.Proofs.Ytdkcbffkjdagpaa
open Go.RowKit

theorem own_at {w : World} {B n c : Nat} {a : Option Addr} {xs : List Value} (h : w.ownsRow B 5 1 (.slice a n c) n xs) (hn : 0 < n) : ∃ g, a = some ⟨g, 0, none⟩ ∧ B ≤ g ∧ g < w.heap.size := by
  rcases h.2 with ⟨_, h0⟩ | ⟨g, cap, cur, e, hb, hg, _⟩
  · omega
  · simp only [Value.slice.injEq] at e
    exact ⟨g, e.1, hb, (Array.getElem?_eq_some_iff.1 hg).1⟩

theorem sl_take {w : World} {a : Option Addr} {c : Nat} {M : List Int} (h : Sl w a c M) (n : Nat) : Sl w a c (M.take n) := by
  rcases h with ⟨rfl, rfl, rfl⟩ | ⟨x, rfl, hx⟩
  · exact .inl ⟨rfl, rfl, by simp⟩
  · refine .inr ⟨x, rfl, fun k hk => ?_⟩
    rw [List.length_take] at hk
    obtain ⟨b, off, rfl, hc⟩ := hx k (by omega)
    refine ⟨b, off, rfl, ?_⟩
    rw [hc, List.getD_eq_getElem?_getD, List.getD_eq_getElem?_getD, List.getElem?_take, if_pos (by omega)]

theorem slice_to (a : Option Addr) (n c k : Nat) (w : World) (h : k ≤ c) : (Instr.slice 22 (.slice a n c) none (some (.int .i64 (k : Int))) none).run Try.prog w = .ok (.slice a k c) w := by
  have hs : (sizeOf (Try.prog.elem 22)).run Try.prog w = .ok 1 w := by kernel_rfl
  have e := run_slice_h (P := Try.prog) w 22 a n c (by kernel_rfl) .i64 (k : Int) (by omega) (by omega)
  rw [e, hs]
  cases a <;> simp [sliced, Result.andThen, Addr.add]

set_option maxHeartbeats 400000 in
theorem unique_core (a : Option Addr) (c : Nat) (L : List Int) (h : Int) (w : World) (hL : L.length ≤ 12) (hr : Sl w a c L) (hw : ∀ x, x ∈ L → W8 x) (hh : 0 ≤ h ∧ h ≤ 65535) :
    Calls Try.prog 6 #[.slice a L.length c, .int .u16 h] w fun e w' => e = .returned (.bool true) ∧ Below w.heap.size w w' := by
  have hb : decide ((12 : Int) < (L.length : Int)) = false := decide_eq_false (by omega)
  have HW := Lib.hid hw
  have HR1 := Lib.hid (sl_below hr ((Below.refl w.heap.size w).alloc (Nat.le_refl _) (.cells #[] 5)))
  obtain ⟨hh0, hh1⟩ := hh
  obtain ⟨i0, hi, hz0, hz1, hz2⟩ := info_parts info5
  have HI := Lib.hid hi
  have HZ0 := Lib.hid hz0
  have HZ1 := Lib.hid hz1
  have HZ2 := Lib.hid hz2
  clear hi hz0 hz1 hz2 hr hw
  go_enter Try.func6, Try.ntmps6
  go_wp2_with (at_builtin; refine append_src rfl _ _ 22 rfl w.heap.size i0 Try.underlying22 HI.out HZ0.out HZ1.out HZ2.out _ 0 [] rfl (own_empty w) a L.length c L rfl rfl HR1.out ?c1 ?c2 ?_)
  case c1 => omega
  case c2 => simp
  intro v' w1 hown hgrow
  have hbel := after_append (w0 := w) (Nat.le_refl _) (by simp) (own_empty w) ((Below.refl _ w).alloc (Nat.le_refl _) _) hgrow
  obtain ⟨a1, c1, rfl, _, _, hcap⟩ := sl_own hown
  clear hgrow HR1
  go_wp2_with fail
  go_loopg [19] L.length (fun g s19 wx => ∃ (k : Nat) (M : List Int), s19 = .int .i64 k ∧ k ≤ L.length ∧ Hid (M.length = L.length) ∧ Hid (∀ x, x ∈ M → W8 x) ∧ wx.ownsRow w.heap.size 5 1 (.slice a1 L.length c1) L.length (M.map (Value.int .u8)) ∧ Below w.heap.size w wx ∧ L.length - k = g)
  case atStart => exact ⟨0, L, rfl, by omega, rfl, HW, by simpa using hown, hbel, by omega⟩
  case round =>
    obtain ⟨k, M, rfl, hk, hM, hMw, ho, hb1, rfl⟩ := hrel
    have hsz := hb1.size
    by_cases hlt : k < L.length
    · obtain ⟨g, rfl, hg, hgl⟩ := own_at ho (by omega)
      have hc : wr.cell? ⟨g, k, none⟩ = some (.int .u8 (M.getD k 0)) := by
        rw [ho.cellAt k (by omega), List.getElem?_map, List.getD_eq_getElem?_getD, List.getElem?_eq_getElem (by rw [hM.out]; exact hlt)]
        rfl
      have hf := ho.frozenAt k
      have hx := hMw.out (M.getD k 0) (by rw [List.getD_eq_getElem?_getD, List.getElem?_eq_getElem (by rw [hM.out]; exact hlt)]; exact List.getElem_mem _)
      have HO := fun y => ho.stored k (.int .u8 y)
      generalize M.getD k 0 = x at *
      have HOR := or128 x hx
      obtain ⟨hx0, hx1⟩ := hx
      have HH := Lib.hid HO
      clear HO
      go_wp2
      · have R := HH.out (x % 128 + 128)
        have R2 := hb1.grown R.2 hsz (fun j hj => by simp at hj; omega)
        have R1 : Hid ((wr.setCell ⟨g, k, none⟩ (.int .u8 (x % 128 + 128))).ownsRow w.heap.size 5 1 (.slice (some ⟨g, 0, none⟩) L.length c1) L.length ((M.set k (x % 128 + 128)).map (Value.int .u8))) := by
          have := R.1
          rw [← List.map_set] at this
          exact this
        have RM : Hid ((M.set k (x % 128 + 128)).length = L.length) := by show _ = _; rw [List.length_set]; exact hM.out
        have RW : Hid (∀ z, z ∈ M.set k (x % 128 + 128) → W8 z) := by
          intro z hz
          rcases List.mem_or_eq_of_mem_set hz with h1 | rfl
          · exact hMw.out z h1
          · exact ⟨by omega, by omega⟩
        clear R
        go_roundg (L.length - (k + 1))
        case measure => omega
        case rel => exact ⟨k + 1, _, by go_num, by omega, RM, RW, R1.out, R2, rfl⟩
      · go_roundg (L.length - (k + 1))
        case measure => omega
        case rel => exact ⟨k + 1, M, by go_num, by omega, hM, hMw, ho, hb1, rfl⟩
    · obtain ⟨a', c', ev, hs, -, hcap'⟩ := sl_own ho
      obtain ⟨rfl, -, rfl⟩ : a1 = a' ∧ L.length = M.length ∧ c1 = c' := by simpa using ev
      have cR := code_read a1 c1 M wr (by rw [hM.out]; omega) hs hMw.out
      rw [hM.out] at cR
      have hinv := rd_Inv M hMw.out
      clear ev hcap' ho
      rcases hinv with ⟨h1, h2, h3⟩ | ⟨m, hm0, hm1, hR, hle, htk⟩
      · generalize rd 0 0 M = R at *
        obtain ⟨rv, rs, re⟩ := R
        simp only at h1 h2 h3
        subst h1 h2
        have h3' : (re == 0) = false := by simpa using h3
        replace cR : Calls Try.prog 13 #[.slice a1 L.length c1] wr fun e w' => e = .returned (.tuple #[.int .u64 0, .int .i64 0, .int .i64 re]) ∧ wr = w' := cR
        clear h3
        go_wp2_with fail
        refine cR.mono ?_
        rintro e w2 ⟨rfl, rfl⟩
        clear cR
        go_wp2_with fail
        refine (known_true _).mono ?_
        rintro e w2 ⟨rfl, hb2⟩
        go_wp2
        go_ret
        exact ⟨rfl, hb1.trans (hb2.mono hsz)⟩
      · rw [hR] at cR
        rw [hM.out] at hle
        have HE := Enc_len m
        have hs2 : Sl wr a1 c1 (Enc m) := by
          rw [htk]
          exact sl_take hs _
        have cA := fun w => code_append none 0 [] m w (by simp) (.inl ⟨rfl, rfl, rfl⟩) ⟨hm0, hm1⟩
        simp only [List.length_nil, List.nil_append] at cA
        generalize Enc m = E at *
        have HT := Lib.hid htk
        replace cR : Calls Try.prog 13 #[.slice a1 L.length c1] wr fun e w' => e = .returned (.tuple #[.int .u64 m, .int .i64 (E.length : Int), .int .i64 0]) ∧ wr = w' := cR
        clear htk hR
        go_wp2_with fail
        refine cR.mono ?_
        rintro e w2 ⟨rfl, rfl⟩
        clear cR
        go_wp2_with fail
        obtain ⟨HE0, HE1⟩ := HE
        have hd1 : decide ((1 : Int) ≤ (E.length : Int)) = true := decide_eq_true (by omega)
        have hd2 : decide ((E.length : Int) ≤ (L.length : Int)) = true := decide_eq_true (by omega)
        have hsl := fun wx => slice_to a1 L.length c1 E.length wx (by omega)
        go_region_held3 (fun _ => True) (trivial) (first
          | (go_at_call 9; refine (cA _).mono ?_; rintro e w2 ⟨v2, rfl, ho2, hb2⟩; obtain ⟨a2, c2, rfl, m2, -, -⟩ := sl_own ho2; have s2 := sl_below (w := wr.drew) hs2 hb2; clear ho2) | (go_at_call 8; refine (same_true _ _ _ _ E _ (by assumption) (by assumption)).mono ?_; rintro e w3 ⟨rfl, rfl⟩) | (go_at_call 7; refine (known_true _).mono ?_; rintro e w4 ⟨rfl, hb4⟩))
        go_wp2
        go_ret
        have h2 : Below w.heap.size w w2 := hb1.drew.trans (hb2.mono hsz)
        exact ⟨rfl, h2.trans (hb4.mono h2.size)⟩
end Go.Proofs.Ytdkcbffkjdagpaa
