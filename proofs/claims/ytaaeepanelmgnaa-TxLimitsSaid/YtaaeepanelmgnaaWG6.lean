/-
  The contract of wire.first: what onef says of the bytes.
  Conditions: as typed.
-/
import Derived.Test.YtaaeepanelmgnaaWG5
namespace Go.Proofs.Ytaaeepanelmgnaa
set_option maxRecDepth 100000
open Go.RowKit

/-- A call returned the field, the size and the error R; the field's bytes lie in memory of its own. -/
def OneR (w : World) (R : Fld × Int × Int) (e : Ending) (w' : World) : Prop :=
  ∃ v, e = .returned (.tuple #[.agg #[.int .i64 R.1.num, .int .i64 R.1.kind, .int .u64 R.1.val, v], .int .i64 R.2.1, .int .i64 R.2.2]) ∧ Own w' w.heap.size v R.1.bytes ∧ Below w.heap.size w w'
theorem oneR_err {w w' : World} {e0 : Int} (hb : Below w.heap.size w w') : OneR w (zeroF, 0, e0) (.returned (.tuple #[.agg #[.int .i64 0, .int .i64 0, .int .u64 0, .slice none 0 0], .int .i64 0, .int .i64 e0])) w' := ⟨_, rfl, Own.nil _ _, hb⟩

/-- The four cells of a block, none of them frozen. -/
def Cells4 (w : World) (g : Nat) (c0 c1 c2 c3 : Value) : Prop :=
  w.cell? ⟨g, 0, none⟩ = some c0 ∧ w.cell? ⟨g, 1, none⟩ = some c1 ∧ w.cell? ⟨g, 2, none⟩ = some c2 ∧ w.cell? ⟨g, 3, none⟩ = some c3 ∧ ∀ o, w.frozen? ⟨g, o, none⟩ = false
theorem cells4_new (w : World) (c0 c1 c2 c3 : Value) : Cells4 (w.alloc (.cells #[c0, c1, c2, c3] 54)) w.heap.size c0 c1 c2 c3 := by
  refine ⟨by simp, by simp, by simp, by simp, fun o => World.frozen?_alloc_at _ _ _ _ rfl⟩
theorem Cells4.lt {w : World} {g : Nat} {c0 c1 c2 c3 : Value} (h : Cells4 w g c0 c1 c2 c3) : g < w.heap.size := World.block_lt_of_cell? w (⟨g, 0, none⟩ : Addr) h.1
theorem Cells4.below {w w' : World} {g : Nat} {c0 c1 c2 c3 : Value} (h : Cells4 w g c0 c1 c2 c3) (hb : Below w.heap.size w w') : Cells4 w' g c0 c1 c2 c3 := by
  have hl := h.lt
  obtain ⟨h0, h1, h2, h3, hf⟩ := h
  exact ⟨(hb.cell (p := ⟨g, 0, none⟩) hl).trans h0, (hb.cell (p := ⟨g, 1, none⟩) hl).trans h1, (hb.cell (p := ⟨g, 2, none⟩) hl).trans h2, (hb.cell (p := ⟨g, 3, none⟩) hl).trans h3, fun o => (hb.frozen (p := ⟨g, o, none⟩) hl).trans (hf o)⟩
theorem Cells4.set {w : World} {g : Nat} {c0 c1 c2 c3 : Value} (h : Cells4 w g c0 c1 c2 c3) (d0 d1 d2 d3 : Value) :
    Cells4 ((((w.setCell ⟨g, 0, none⟩ d0).setCell ⟨g, 1, none⟩ d1).setCell ⟨g, 2, none⟩ d2).setCell ⟨g, 3, none⟩ d3) g d0 d1 d2 d3 := by
  obtain ⟨h0, h1, h2, h3, hf⟩ := h
  refine ⟨?_, ?_, ?_, ?_, fun o => ?_⟩
  · rw [World.cell?_setCell_other _ _ _ _ (by simp), World.cell?_setCell_other _ _ _ _ (by simp), World.cell?_setCell_other _ _ _ _ (by simp)]
    exact World.cell?_setCell_same _ _ _ h0
  · rw [World.cell?_setCell_other _ _ _ _ (by simp), World.cell?_setCell_other _ _ _ _ (by simp)]
    exact World.cell?_setCell_same _ _ _ ((World.cell?_setCell_other _ _ _ _ (by simp)).trans h1)
  · rw [World.cell?_setCell_other _ _ _ _ (by simp)]
    exact World.cell?_setCell_same _ _ _ ((World.cell?_setCell_other _ _ _ _ (by simp)).trans ((World.cell?_setCell_other _ _ _ _ (by simp)).trans h2))
  · exact World.cell?_setCell_same _ _ _ ((World.cell?_setCell_other _ _ _ _ (by simp)).trans ((World.cell?_setCell_other _ _ _ _ (by simp)).trans ((World.cell?_setCell_other _ _ _ _ (by simp)).trans h3)))
  · rw [World.frozen?_setCell, World.frozen?_setCell, World.frozen?_setCell, World.frozen?_setCell]
    exact hf o
theorem below4 {w0 w : World} {g : Nat} (h : Below w0.heap.size w0 w) (hg : w0.heap.size ≤ g) (d0 d1 d2 d3 : Value) :
    Below w0.heap.size w0 ((((w.setCell ⟨g, 0, none⟩ d0).setCell ⟨g, 1, none⟩ d1).setCell ⟨g, 2, none⟩ d2).setCell ⟨g, 3, none⟩ d3) :=
  (((h.setCell (p := ⟨g, 0, none⟩) hg _).setCell (p := ⟨g, 1, none⟩) hg _).setCell (p := ⟨g, 2, none⟩) hg _).setCell (p := ⟨g, 3, none⟩) hg _

theorem set4 {w0 w : World} {g : Nat} {c0 c1 c2 c3 : Value} (h : Cells4 w g c0 c1 c2 c3) (hb : Below w0.heap.size w0 w) (hg : w0.heap.size ≤ g) (d0 d1 d2 d3 : Value) :
    ∃ W, (((w.setCell ⟨g, 0, none⟩ d0).setCell ⟨g, 1, none⟩ d1).setCell ⟨g, 2, none⟩ d2).setCell ⟨g, 3, none⟩ d3 = W ∧ Cells4 W g d0 d1 d2 d3 ∧ Below w0.heap.size w0 W ∧
      (∀ B v L, Own w B v L → g < B → Own W B v L) ∧ w.heap.size ≤ W.heap.size :=
  ⟨_, rfl, h.set _ _ _ _, below4 hb hg _ _ _ _, fun B v L ho hl => ownsRow_setCell_below (ownsRow_setCell_below (ownsRow_setCell_below (ownsRow_setCell_below ho (a := ⟨g, 0, none⟩) hl _) (a := ⟨g, 1, none⟩) hl _) (a := ⟨g, 2, none⟩) hl _) (a := ⟨g, 3, none⟩) hl _, by simp⟩
theorem set1_2 {w0 w : World} {g : Nat} {c0 c1 c2 c3 : Value} (h : Cells4 w g c0 c1 c2 c3) (hb : Below w0.heap.size w0 w) (hg : w0.heap.size ≤ g) (d : Value) :
    ∃ W, w.setCell ⟨g, 2, none⟩ d = W ∧ Cells4 W g c0 c1 d c3 ∧ Below w0.heap.size w0 W := by
  refine ⟨_, rfl, ?_, hb.setCell (p := ⟨g, 2, none⟩) hg _⟩
  obtain ⟨h0, h1, h2, h3, hf⟩ := h
  exact ⟨(World.cell?_setCell_other _ _ _ _ (by simp)).trans h0, (World.cell?_setCell_other _ _ _ _ (by simp)).trans h1, World.cell?_setCell_same _ _ _ h2, (World.cell?_setCell_other _ _ _ _ (by simp)).trans h3, fun o => (World.frozen?_setCell _ _ _ _).trans (hf o)⟩
theorem set1_3 {w0 w : World} {g : Nat} {c0 c1 c2 c3 : Value} (h : Cells4 w g c0 c1 c2 c3) (hb : Below w0.heap.size w0 w) (hg : w0.heap.size ≤ g) (d : Value) :
    ∃ W, w.setCell ⟨g, 3, none⟩ d = W ∧ Cells4 W g c0 c1 c2 d ∧ Below w0.heap.size w0 W ∧ (∀ B v L, Own w B v L → g < B → Own W B v L) := by
  refine ⟨_, rfl, ?_, hb.setCell (p := ⟨g, 3, none⟩) hg _, fun B v L ho hl => ownsRow_setCell_below ho (a := ⟨g, 3, none⟩) hl _⟩
  obtain ⟨h0, h1, h2, h3, hf⟩ := h
  exact ⟨(World.cell?_setCell_other _ _ _ _ (by simp)).trans h0, (World.cell?_setCell_other _ _ _ _ (by simp)).trans h1, (World.cell?_setCell_other _ _ _ _ (by simp)).trans h2, World.cell?_setCell_same _ _ _ h3, fun o => (World.frozen?_setCell _ _ _ _).trans (hf o)⟩

set_option maxHeartbeats 2000000 in
theorem code_first (a : Option Addr) (c : Nat) (L : List Int) (w : World) (hL : L.length ≤ 1000000) (hr : Sl w a c L) (hw : ∀ x, x ∈ L → W8 x) (hc : L.length ≤ c) :
    Calls Try.prog 61 #[.slice a L.length c] w (OneR w (onef L)) := by
  have hbn := (Below.refl w.heap.size w).alloc (Nat.le_refl _) (.cells #[.int .i64 0, .int .i64 0, .int .u64 0, .slice none 0 0] 54)
  have hz : w.heap.size < (w.alloc (.cells #[.int .i64 0, .int .i64 0, .int .u64 0, .slice none 0 0] 54)).heap.size := by simp
  rcases one_cases L hw with ⟨e0, h, he⟩ | ⟨t, h, ht0, ht1, hrd, hh0, hh10, hle, -, -, hcs⟩
  · rw [one_tag h he]
    have cS := start_err a c L _ hL (sl_below hr hbn) hw e0 h he
    have h1 : (e0 != 0) = true := by simpa using he
    have h2 : (e0 == 0) = false := by simpa using he
    clear h he
    go_enter Try.func61, Try.ntmps61
    go_wp2_with fail
    refine cS.mono ?_
    rintro e w1 ⟨rfl, hb⟩
    have hbl := bnext hbn hb
    have K := (cells4_new w _ _ _ _).below hb
    have K' := Lib.hid K
    obtain ⟨k0, k1, k2, k3, kf⟩ := K
    clear cS hbn hb hz
    go_wp2
    clear k0 k1 k2 k3 kf
    obtain ⟨W2, hW2, KE, hblE, -, -⟩ := set4 K'.out hbl (Nat.le_refl _) (.int .i64 0) (.int .i64 0) (.int .u64 0) (.slice none 0 0)
    rw [hW2]
    obtain ⟨W3, hW3, KE3, hblE3, -, -⟩ := set4 KE hblE (Nat.le_refl _) (.int .i64 0) (.int .i64 0) (.int .u64 0) (.slice none 0 0)
    rw [hW3]
    clear hW2 hW3 KE hblE
    obtain ⟨k0, k1, k2, k3, kf⟩ := KE3
    exact bodyPost_ret (v := .tuple #[.agg #[.int .i64 0, .int .i64 0, .int .u64 0, .slice none 0 0], .int .i64 0, .int .i64 e0]) (by simp [results, Try.results61, go_sem, k0, k1, k2, k3]) rfl (oneR_err hblE3)
  rcases hcs with hb | ⟨hg, hcs⟩
  · rw [one_bad hrd hb]
    have cS := start_bad a c L _ hL (sl_below hr hbn) hw t h hrd ht0 ht1 hb
    clear hrd hb
    go_enter Try.func61, Try.ntmps61
    go_wp2_with fail
    refine cS.mono ?_
    rintro e w1 ⟨rfl, hb⟩
    have hbl := bnext hbn hb
    have K := (cells4_new w _ _ _ _).below hb
    have K' := Lib.hid K
    obtain ⟨k0, k1, k2, k3, kf⟩ := K
    clear cS hbn hb hz
    go_wp2
    clear k0 k1 k2 k3 kf
    obtain ⟨W2, hW2, KE, hblE, -, -⟩ := set4 K'.out hbl (Nat.le_refl _) (.int .i64 0) (.int .i64 0) (.int .u64 0) (.slice none 0 0)
    rw [hW2]
    obtain ⟨W3, hW3, KE3, hblE3, -, -⟩ := set4 KE hblE (Nat.le_refl _) (.int .i64 0) (.int .i64 0) (.int .u64 0) (.slice none 0 0)
    rw [hW3]
    clear hW2 hW3 KE hblE
    obtain ⟨k0, k1, k2, k3, kf⟩ := KE3
    exact bodyPost_ret (v := .tuple #[.agg #[.int .i64 0, .int .i64 0, .int .u64 0, .slice none 0 0], .int .i64 0, .int .i64 4]) (by simp [results, Try.results61, go_sem, k0, k1, k2, k3]) rfl (oneR_err hblE3)
  obtain ⟨kd, hk, hkd⟩ : ∃ kd, t % 8 = kd ∧ (kd = 0 ∨ kd = 2) := ⟨_, rfl, hg.2.2⟩
  have cS := start_ok a c L _ hL (sl_below hr hbn) hw t kd h hrd hg hk hkd
  have HS := Lib.hid (sl_from hr h hc)
  have hsl := fun wx => slice_from .i64 a L.length c h wx hle
  rcases hcs with ⟨e0, h2, he⟩ | ⟨n, k, hn, h2, hk0, hk10, hle2, -, -⟩
  · rw [one_len hrd hg h2 he]
    have cR : ∀ wx, Sl wx (fromA a c h) (c - h) (L.drop h) → Calls Try.prog 69 #[.slice (fromA a c h) (L.length - h) (c - h)] wx fun e w' => e = .returned (.tuple #[.int .u64 0, .int .i64 0, .int .i64 e0]) ∧ wx = w' := by
      intro wx hs
      have := read_err (by rw [List.length_drop]; omega) hs (drop_bytes hw h) h2
      rw [List.length_drop] at this
      exact this
    have h1 : (e0 != 0) = true := by simpa using he
    have h2' : (e0 == 0) = false := by simpa using he
    clear h2 he hk hkd hrd hg
    go_enter Try.func61, Try.ntmps61
    go_wp2_with fail
    refine cS.mono ?_
    rintro e w1 ⟨rfl, hb⟩
    have hbl := bnext hbn hb
    have K := (cells4_new w _ _ _ _).below hb
    have K' := Lib.hid K
    obtain ⟨k0, k1, k2, k3, kf⟩ := K
    clear cS hbn hb hz
    go_wp2_with fail
    obtain ⟨W, hW, K2', hbl2, -, hzW⟩ := set4 K'.out hbl (Nat.le_refl _) (.int .i64 (t / 8)) (.int .i64 kd) (.int .u64 0) (.slice none 0 0)
    rw [hW]
    clear k0 k1 k2 k3 kf hbl K' hW
    have K2 := Lib.hid K2'
    obtain ⟨k0, k1, k2, k3, kf⟩ := K2'
    refine (cR _ (sl_below HS.out hbl2)).mono ?_
    rintro e w2 ⟨rfl, rfl⟩
    clear cR
    go_wp2
    clear k0 k1 k2 k3 kf
    obtain ⟨W3, hW3, KE3, hblE3, -, -⟩ := set4 K2.out hbl2 (Nat.le_refl _) (.int .i64 0) (.int .i64 0) (.int .u64 0) (.slice none 0 0)
    rw [hW3]
    clear hW3
    obtain ⟨k0, k1, k2, k3, kf⟩ := KE3
    exact bodyPost_ret (v := .tuple #[.agg #[.int .i64 0, .int .i64 0, .int .u64 0, .slice none 0 0], .int .i64 0, .int .i64 e0]) (by simp [results, Try.results61, go_sem, k0, k1, k2, k3]) rfl (oneR_err hblE3)
  have cR : ∀ wx, Sl wx (fromA a c h) (c - h) (L.drop h) → Calls Try.prog 69 #[.slice (fromA a c h) (L.length - h) (c - h)] wx fun e w' => e = .returned (.tuple #[.int .u64 (n : Int), .int .i64 (k : Int), .int .i64 0]) ∧ wx = w' := by
    intro wx hs
    have := read_ok (by rw [List.length_drop]; omega) hs (drop_bytes hw h) h2
    rw [List.length_drop] at this
    exact this
  rcases hkd with rfl | rfl
  · rw [one_var hrd hg h2 hk]
    generalize t / 8 = q at *
    clear h2 hk hrd hg
    go_enter Try.func61, Try.ntmps61
    go_wp2_with fail
    refine cS.mono ?_
    rintro e w1 ⟨rfl, hb⟩
    have hbl := bnext hbn hb
    have K := (cells4_new w _ _ _ _).below hb
    have K' := Lib.hid K
    obtain ⟨k0, k1, k2, k3, kf⟩ := K
    clear cS hbn hb hz
    go_wp2_with fail
    obtain ⟨W, hW, K2', hbl2, -, hzW⟩ := set4 K'.out hbl (Nat.le_refl _) (.int .i64 q) (.int .i64 0) (.int .u64 0) (.slice none 0 0)
    rw [hW]
    clear k0 k1 k2 k3 kf hbl K' hW
    have K2 := Lib.hid K2'
    obtain ⟨k0, k1, k2, k3, kf⟩ := K2'
    refine (cR _ (sl_below HS.out hbl2)).mono ?_
    rintro e w2 ⟨rfl, rfl⟩
    clear cR
    go_wp2
    clear k0 k1 k2 k3 kf
    obtain ⟨W2, hW2, KE, hblE⟩ := set1_2 K2.out hbl2 (Nat.le_refl _) (.int .u64 (n : Int))
    rw [hW2]
    obtain ⟨W3, hW3, KE3, hblE3, -, -⟩ := set4 KE hblE (Nat.le_refl _) (.int .i64 q) (.int .i64 0) (.int .u64 (n : Int)) (.slice none 0 0)
    rw [hW3]
    clear hW2 hW3 KE hblE
    obtain ⟨k0, k1, k2, k3, kf⟩ := KE3
    exact bodyPost_ret (v := .tuple #[.agg #[.int .i64 q, .int .i64 0, .int .u64 (n : Int), .slice none 0 0], .int .i64 ((h + k : Nat) : Int), .int .i64 0]) (by simp [results, Try.results61, go_sem, k0, k1, k2, k3]) rfl ⟨_, rfl, Own.nil _ _, hblE3⟩
  have hsl2 : ∀ wx, (Instr.slice 39 (.slice a L.length c) (some (.int .i64 ((h : Int) + (k : Int)))) none none).run Try.prog wx = .ok (.slice (fromA a c (h + k)) (L.length - (h + k)) (c - (h + k))) wx := fun wx => slice_from .i64 a L.length c (h + k) wx hle2
  by_cases hs : n ≤ (L.drop (h + k)).length
  · rw [one_bytes hrd hg h2 hk hs]
    rw [List.length_drop] at hs
    have HS2 := Lib.hid (sl_take (sl_from hr (h + k) hc) n)
    have hsl3 := fun wx => slice_to .u64 (fromA a c (h + k)) (L.length - (h + k)) (c - (h + k)) n wx (by omega)
    have cC : ∀ wx, Sl wx (fromA a c (h + k)) (c - (h + k)) ((L.drop (h + k)).take n) → Calls Try.prog 70 #[.slice (fromA a c (h + k)) n (c - (h + k))] wx fun e w' => ∃ v, e = .returned v ∧ Own w' wx.heap.size v ((L.drop (h + k)).take n) ∧ Below wx.heap.size wx w' := by
      intro wx hs'
      have := clone_any (fromA a c (h + k)) (c - (h + k)) ((L.drop (h + k)).take n) wx (by rw [List.length_take, List.length_drop]; omega) hs'
      rw [List.length_take, List.length_drop, Nat.min_eq_left hs] at this
      exact this
    have hlB : ((L.drop (h + k)).take n).length = n := by rw [List.length_take, List.length_drop]; omega
    generalize (L.drop (h + k)).take n = B at *
    subst hlB
    have hr1 : L.length - (h + k) ≤ 1000000 := by omega
    have hBL : B.length ≤ 1000000 := by omega
    generalize L.length - (h + k) = r at *
    generalize t / 8 = q at *
    clear h2 hk hrd hg
    go_enter Try.func61, Try.ntmps61
    go_wp2_with fail
    refine cS.mono ?_
    rintro e w1 ⟨rfl, hb⟩
    have hbl := bnext hbn hb
    have K := (cells4_new w _ _ _ _).below hb
    have K' := Lib.hid K
    obtain ⟨k0, k1, k2, k3, kf⟩ := K
    clear cS hbn hb hz
    go_wp2_with fail
    obtain ⟨W, hW, K2', hbl2, -, hzW⟩ := set4 K'.out hbl (Nat.le_refl _) (.int .i64 q) (.int .i64 2) (.int .u64 0) (.slice none 0 0)
    rw [hW]
    clear k0 k1 k2 k3 kf hbl K' hW
    have K2 := Lib.hid K2'
    obtain ⟨k0, k1, k2, k3, kf⟩ := K2'
    refine (cR _ (sl_below HS.out hbl2)).mono ?_
    rintro e w2 ⟨rfl, rfl⟩
    clear cR
    go_wp2_with fail
    refine (cC _ (sl_below HS2.out hbl2)).mono ?_
    rintro e w3 ⟨v3, rfl, ho3, hb3⟩
    have K3 := Lib.hid (K2.out.below hb3)
    have hbl3 := bnext hbl2 hb3
    have hgl := K2.out.lt
    obtain ⟨a3, c3, rfl, -, -⟩ := Own.sl ho3
    clear k0 k1 k2 k3 kf cC hb3 K2
    obtain ⟨k0, k1, k2, k3, kf⟩ := K3.out
    go_wp2
    clear k0 k1 k2 k3 kf
    obtain ⟨W2, hW2, KE, hblE, ho4⟩ := set1_3 K3.out hbl3 (Nat.le_refl _) (.slice a3 B.length c3)
    rw [hW2]
    obtain ⟨W3, hW3, KE3, hblE3, ho5, -⟩ := set4 KE hblE (Nat.le_refl _) (.int .i64 q) (.int .i64 2) (.int .u64 0) (.slice a3 B.length c3)
    rw [hW3]
    have hO := (ho5 _ _ _ (ho4 _ _ _ ho3 hgl) hgl).base hbl2.size
    clear hW2 hW3 KE hblE
    obtain ⟨k0, k1, k2, k3, kf⟩ := KE3
    exact bodyPost_ret (v := .tuple #[.agg #[.int .i64 q, .int .i64 2, .int .u64 0, .slice a3 B.length c3], .int .i64 ((h + k + B.length : Nat) : Int), .int .i64 0]) (by simp [results, Try.results61, go_sem, k0, k1, k2, k3]) rfl ⟨_, rfl, hO, hblE3⟩
  · rw [one_short hrd hg h2 hk (by omega)]
    rw [List.length_drop] at hs
    have hr1 : L.length - (h + k) ≤ 1000000 := by omega
    have hr2 : L.length - (h + k) < n := by omega
    generalize L.length - (h + k) = r at *
    generalize t / 8 = q at *
    clear h2 hk hrd hg hs
    go_enter Try.func61, Try.ntmps61
    go_wp2_with fail
    refine cS.mono ?_
    rintro e w1 ⟨rfl, hb⟩
    have hbl := bnext hbn hb
    have K := (cells4_new w _ _ _ _).below hb
    have K' := Lib.hid K
    obtain ⟨k0, k1, k2, k3, kf⟩ := K
    clear cS hbn hb hz
    go_wp2_with fail
    obtain ⟨W, hW, K2', hbl2, -, hzW⟩ := set4 K'.out hbl (Nat.le_refl _) (.int .i64 q) (.int .i64 2) (.int .u64 0) (.slice none 0 0)
    rw [hW]
    clear k0 k1 k2 k3 kf hbl K' hW
    have K2 := Lib.hid K2'
    obtain ⟨k0, k1, k2, k3, kf⟩ := K2'
    refine (cR _ (sl_below HS.out hbl2)).mono ?_
    rintro e w2 ⟨rfl, rfl⟩
    clear cR
    go_wp2
    clear k0 k1 k2 k3 kf
    obtain ⟨W3, hW3, KE3, hblE3, -, -⟩ := set4 K2.out hbl2 (Nat.le_refl _) (.int .i64 0) (.int .i64 0) (.int .u64 0) (.slice none 0 0)
    rw [hW3]
    clear hW3
    obtain ⟨k0, k1, k2, k3, kf⟩ := KE3
    exact bodyPost_ret (v := .tuple #[.agg #[.int .i64 0, .int .i64 0, .int .u64 0, .slice none 0 0], .int .i64 0, .int .i64 5]) (by simp [results, Try.results61, go_sem, k0, k1, k2, k3]) rfl (oneR_err hblE3)
end Go.Proofs.Ytaaeepanelmgnaa
