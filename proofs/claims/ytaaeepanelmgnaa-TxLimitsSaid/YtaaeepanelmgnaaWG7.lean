/-
  The contract of the reference's reading of one field: what onef says of the bytes.
  Conditions: as typed.
-/
import Derived.Test.YtaaeepanelmgnaaWG6
namespace Go.Proofs.Ytaaeepanelmgnaa
set_option maxRecDepth 100000
open Go.RowKit

theorem rread_err {a : Option Addr} {c : Nat} {L : List Int} {w : World} (hL : L.length ≤ 1000000) (hr : Sl w a c L) (hw : ∀ x, x ∈ L → W8 x) {e0 : Int} (h : rd 0 0 L = (0, 0, e0)) :
    Calls Try.prog 56 #[.slice a L.length c] w fun e w' => e = .returned (.tuple #[.int .u64 0, .int .i64 0, .int .i64 e0]) ∧ w = w' := by
  have := ref_read a c L w hL hr hw
  rw [h] at this
  exact this
theorem rread_ok {a : Option Addr} {c : Nat} {L : List Int} {w : World} (hL : L.length ≤ 1000000) (hr : Sl w a c L) (hw : ∀ x, x ∈ L → W8 x) {t : Int} {k : Nat} (h : rd 0 0 L = (t, (k : Int), 0)) :
    Calls Try.prog 56 #[.slice a L.length c] w fun e w' => e = .returned (.tuple #[.int .u64 t, .int .i64 (k : Int), .int .i64 0]) ∧ w = w' := by
  have := ref_read a c L w hL hr hw
  rw [h] at this
  exact this

theorem Cells4.far {w : World} {g : Nat} {c0 c1 c2 c3 : Value} (h : Cells4 w g c0 c1 c2 c3) {b o : Nat} (hp : b ≠ g) (u : Value) : Cells4 (w.setCell ⟨b, o, none⟩ u) g c0 c1 c2 c3 := by
  obtain ⟨h0, h1, h2, h3, hf⟩ := h
  exact ⟨(World.cell?_setCell_other _ _ _ _ (fun e => hp (congrArg Addr.block e))).trans h0, (World.cell?_setCell_other _ _ _ _ (fun e => hp (congrArg Addr.block e))).trans h1, (World.cell?_setCell_other _ _ _ _ (fun e => hp (congrArg Addr.block e))).trans h2, (World.cell?_setCell_other _ _ _ _ (fun e => hp (congrArg Addr.block e))).trans h3, fun o => (World.frozen?_setCell _ _ _ _).trans (hf o)⟩

set_option maxHeartbeats 2000000 in
set_option maxRecDepth 100000 in
theorem ref_one (a : Option Addr) (c : Nat) (L : List Int) (w : World) (hL : L.length ≤ 1000000) (hr : Sl w a c L) (hw : ∀ x, x ∈ L → W8 x) (hc : L.length ≤ c) :
    Calls Try.prog 40 #[.slice a L.length c] w (OneR w (onef L)) := by
  have hbn := (Below.refl w.heap.size w).alloc (Nat.le_refl _) (.cells #[.int .i64 0, .int .i64 0, .int .u64 0, .slice none 0 0] 54)
  rcases one_cases L hw with ⟨e0, h, he⟩ | ⟨t, h, ht0, ht1, hrd, hh0, hh10, hle, -, -, hcs⟩
  · rw [one_tag h he]
    have cS := rread_err hL (sl_below hr hbn) hw h
    have h1 : (e0 != 0) = true := by simpa using he
    have h2 : (e0 == 0) = false := by simpa using he
    clear h he
    go_enter Try.func40, Try.ntmps40
    go_wp2_with fail
    refine cS.mono ?_
    rintro e w1 ⟨rfl, rfl⟩
    clear cS
    go_wp2
    exact bodyPost_ret (v := .tuple #[.agg #[.int .i64 0, .int .i64 0, .int .u64 0, .slice none 0 0], .int .i64 0, .int .i64 e0]) (by simp [results, Try.results40, go_sem]) rfl (oneR_err hbn)
  have cS := rread_ok hL (sl_below hr hbn) hw hrd
  rcases hcs with hb | ⟨hg, hcs⟩
  · rw [one_bad hrd hb]
    unfold goodT at hb
    have HG := Lib.hid hb
    clear hrd hb
    go_enter Try.func40, Try.ntmps40
    go_wp2_with fail
    refine cS.mono ?_
    rintro e w1 ⟨rfl, rfl⟩
    clear cS
    go_wp2_with fail
    all_goals first
      | (exfalso; have hh := HG.out; clear HG; simp at *; omega)
      | exact bodyPost_ret (v := .tuple #[.agg #[.int .i64 0, .int .i64 0, .int .u64 0, .slice none 0 0], .int .i64 0, .int .i64 4]) (by simp [results, Try.results40, go_sem]) rfl (oneR_err hbn)
  obtain ⟨kd, hk, hkd⟩ : ∃ kd, t % 8 = kd ∧ (kd = 0 ∨ kd = 2) := ⟨_, rfl, hg.2.2⟩
  have HS := Lib.hid (sl_from hr h hc)
  have hsl := fun wx => slice_from .i64 a L.length c h wx hle
  have hbn2 : Below w.heap.size w ((w.alloc (.cells #[.int .i64 0, .int .i64 0, .int .u64 0, .slice none 0 0] 54)).alloc (.cells #[.int .i64 (t / 8), .int .i64 kd, .int .u64 0, .slice none 0 0] 54)) := hbn.alloc hbn.size _
  obtain ⟨g1, g2, -⟩ := id hg
  rcases hcs with ⟨e0, h2, he⟩ | ⟨n, k, hn, h2, hk0, hk10, hle2, -, -⟩
  · rw [one_len hrd hg h2 he]
    have cR : ∀ wx, Sl wx (fromA a c h) (c - h) (L.drop h) → Calls Try.prog 56 #[.slice (fromA a c h) (L.length - h) (c - h)] wx fun e w' => e = .returned (.tuple #[.int .u64 0, .int .i64 0, .int .i64 e0]) ∧ wx = w' := by
      intro wx hs
      have := rread_err (by rw [List.length_drop]; omega) hs (drop_bytes hw h) h2
      rw [List.length_drop] at this
      exact this
    have h1 : (e0 != 0) = true := by simpa using he
    have h2' : (e0 == 0) = false := by simpa using he
    clear h2 he hrd hg
    rcases hkd with rfl | rfl
    all_goals
      go_enter Try.func40, Try.ntmps40
      go_wp2_with fail
      refine cS.mono ?_
      rintro e w1 ⟨rfl, rfl⟩
      clear cS
      go_wp2_with fail
      refine (cR _ (sl_below HS.out hbn2)).mono ?_
      rintro e w2 ⟨rfl, rfl⟩
      clear cR
      go_wp2
      exact bodyPost_ret (v := .tuple #[.agg #[.int .i64 0, .int .i64 0, .int .u64 0, .slice none 0 0], .int .i64 0, .int .i64 e0]) (by simp [results, Try.results40, go_sem]) rfl (oneR_err hbn2)
  have cR : ∀ wx, Sl wx (fromA a c h) (c - h) (L.drop h) → Calls Try.prog 56 #[.slice (fromA a c h) (L.length - h) (c - h)] wx fun e w' => e = .returned (.tuple #[.int .u64 (n : Int), .int .i64 (k : Int), .int .i64 0]) ∧ wx = w' := by
    intro wx hs
    have := rread_ok (by rw [List.length_drop]; omega) hs (drop_bytes hw h) h2
    rw [List.length_drop] at this
    exact this
  have hn0 : 0 ≤ (n : Int) := by omega
  rcases hkd with rfl | rfl
  · rw [one_var hrd hg h2 hk]
    clear h2 hrd hg
    go_enter Try.func40, Try.ntmps40
    go_wp2_with fail
    refine cS.mono ?_
    rintro e w1 ⟨rfl, rfl⟩
    clear cS
    go_wp2_with fail
    refine (cR _ (sl_below HS.out hbn2)).mono ?_
    rintro e w2 ⟨rfl, rfl⟩
    clear cR
    go_wp2
    exact bodyPost_ret (v := .tuple #[.agg #[.int .i64 (t / 8), .int .i64 0, .int .u64 (n : Int), .slice none 0 0], .int .i64 ((h + k : Nat) : Int), .int .i64 0]) (by simp [results, Try.results40, go_sem]) rfl ⟨_, rfl, Own.nil _ _, ((Below.refl _ _).alloc (Nat.le_refl _) _).alloc (by simp) _⟩
  by_cases hs : n ≤ (L.drop (h + k)).length
  · rw [one_bytes hrd hg h2 hk hs]
    rw [List.length_drop] at hs
    have hlB : ((L.drop (h + k)).take n).length = n := by rw [List.length_take, List.length_drop]; omega
    have HS2 := Lib.hid (sl_take (sl_from hr (h + k) hc) n)
    have hsl3 : ∀ wx, (Instr.slice 39 (.slice a L.length c) (some (.int .i64 ((h : Int) + (k : Int)))) (some (.int .i64 ((h : Int) + (k : Int) + (n : Int)))) none).run Try.prog wx = .ok (.slice (fromA a c (h + k)) n (c - (h + k))) wx := fun wx => by
      have := slice_part .i64 .i64 a L.length c (h + k) (h + k + n) wx (by omega) (by omega)
      rw [Nat.add_sub_cancel_left] at this
      exact this
    generalize (L.drop (h + k)).take n = B at *
    subst hlB
    have hr2 : (B.length : Int) ≤ (L.length : Int) - (h : Int) - (k : Int) := by omega
    have hBL : B.length ≤ 1000000 := by omega
    obtain ⟨i0, hi, hz0, hz1, hz2⟩ := info_parts info5
    have HI := Lib.hid hi
    have HZ0 := Lib.hid hz0
    have HZ1 := Lib.hid hz1
    have HZ2 := Lib.hid hz2
    clear hi hz0 hz1 hz2 h2 hrd hg
    go_enter Try.func40, Try.ntmps40
    go_wp2_with fail
    refine cS.mono ?_
    rintro e w1 ⟨rfl, rfl⟩
    clear cS
    go_wp2_with fail
    refine (cR _ (sl_below HS.out hbn2)).mono ?_
    rintro e w2 ⟨rfl, rfl⟩
    clear cR
    obtain ⟨W2, hW2⟩ : ∃ W2, W2 = (w.alloc (.cells #[.int .i64 0, .int .i64 0, .int .u64 0, .slice none 0 0] 54)).alloc (.cells #[.int .i64 (t / 8), .int .i64 2, .int .u64 0, .slice none 0 0] 54) := ⟨_, rfl⟩
    have K0 : Cells4 W2 w.heap.size (.int .i64 0) (.int .i64 0) (.int .u64 0) (.slice none 0 0) := by rw [hW2]; exact (cells4_new w _ _ _ _).below ((Below.refl _ _).alloc (Nat.le_refl _) _)
    have K1 : Cells4 W2 (w.heap.size + 1) (.int .i64 (t / 8)) (.int .i64 2) (.int .u64 0) (.slice none 0 0) := by
      rw [hW2]
      have := cells4_new (w.alloc (.cells #[.int .i64 0, .int .i64 0, .int .u64 0, .slice none 0 0] 54)) (.int .i64 (t / 8)) (.int .i64 2) (.int .u64 0) (.slice none 0 0)
      simpa using this
    have hz : w.heap.size + 2 = W2.heap.size := by rw [hW2]; simp
    rw [← hW2] at hbn2 ⊢
    have HZ := Lib.hid hz
    clear hW2 hz
    have HS3 := Lib.hid (sl_below (sl_below HS2.out hbn2) ((Below.refl W2.heap.size W2).alloc (Nat.le_refl _) (.cells #[] 5)))
    go_wp2_with (at_builtin; refine append_src rfl _ _ 39 rfl W2.heap.size i0 Try.underlying39 HI.out HZ0.out HZ1.out HZ2.out _ 0 [] rfl (own_empty W2) (fromA a c (h + k)) B.length (c - (h + k)) B rfl rfl HS3.out ?c1 ?c2 ?_)
    case c1 => omega
    case c2 => simp
    intro v3 w3 ho3' hgrow
    have hb3 := after_append (w0 := W2) (Nat.le_refl _) (by simp) (own_empty W2) ((Below.refl _ W2).alloc (Nat.le_refl _) _) hgrow
    have ho3 : Own w3 W2.heap.size v3 B := by
      show w3.ownsRow _ _ _ _ _ _
      simpa using ho3'
    have K2 := Lib.hid (K0.below hb3)
    have K3 := Lib.hid (K1.below hb3)
    have hbl3 := bnext hbn2 hb3
    obtain ⟨a3, c3, rfl, -, -⟩ := Own.sl ho3
    clear K0 K1 hgrow ho3' hb3 HS HS2 HS3
    obtain ⟨k0, k1, k2, k3, kf⟩ := K3.out
    obtain ⟨j0, j1, j2, j3, jf⟩ := K2.out
    go_wp2_with fail
    clear k0 k1 k2 k3 kf j0 j1 j2 j3 jf
    have hzz := HZ.out
    have K4 := K2.out.far (b := w.heap.size + 1) (o := 3) (by omega) (.slice a3 B.length c3)
    have ho4 : Own (w3.setCell ⟨w.heap.size + 1, 3, none⟩ (.slice a3 B.length c3)) W2.heap.size (.slice a3 B.length c3) B := ownsRow_setCell_below ho3 (a := ⟨w.heap.size + 1, 3, none⟩) (by show w.heap.size + 1 < _; omega) _
    have hbl4 := hbl3.setCell (p := ⟨w.heap.size + 1, 3, none⟩) (by show w.heap.size ≤ w.heap.size + 1; omega) (.slice a3 B.length c3)
    generalize w3.setCell ⟨w.heap.size + 1, 3, none⟩ (.slice a3 B.length c3) = w4 at *
    obtain ⟨W3, hW3, KE3, hblE3, ho5, -⟩ := set4 K4 hbl4 (Nat.le_refl _) (.int .i64 (t / 8)) (.int .i64 2) (.int .u64 0) (.slice a3 B.length c3)
    rw [hW3]
    have hO := (ho5 _ _ _ ho4 (by omega)).base hbn2.size
    clear hW3 K4 hbl4 K2 K3
    obtain ⟨k0, k1, k2, k3, -⟩ := KE3
    exact bodyPost_ret (v := .tuple #[.agg #[.int .i64 (t / 8), .int .i64 2, .int .u64 0, .slice a3 B.length c3], .int .i64 ((h + k + B.length : Nat) : Int), .int .i64 0]) (by simp [results, Try.results40, go_sem, k0, k1, k2, k3]) rfl ⟨_, rfl, hO, hblE3⟩
  · rw [one_short hrd hg h2 hk (by omega)]
    rw [List.length_drop] at hs
    have hr2 : (L.length : Int) - (h : Int) - (k : Int) < (n : Int) := by omega
    clear h2 hrd hg hs
    go_enter Try.func40, Try.ntmps40
    go_wp2_with fail
    refine cS.mono ?_
    rintro e w1 ⟨rfl, rfl⟩
    clear cS
    go_wp2_with fail
    refine (cR _ (sl_below HS.out hbn2)).mono ?_
    rintro e w2 ⟨rfl, rfl⟩
    clear cR
    go_wp2
    exact bodyPost_ret (v := .tuple #[.agg #[.int .i64 0, .int .i64 0, .int .u64 0, .slice none 0 0], .int .i64 0, .int .i64 5]) (by simp [results, Try.results40, go_sem]) rfl (oneR_err hbn2)
end Go.Proofs.Ytaaeepanelmgnaa
