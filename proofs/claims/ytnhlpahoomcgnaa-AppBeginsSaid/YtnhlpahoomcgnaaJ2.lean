/-
  Texts WG6 WH1 WH2 WG7 WH3 WG8 WH4 GS NU joined.
-/
import Derived.Test.YtnhlpahoomcgnaaJ1
import Derived.Deep.QuietTactic
import Derived.BigQuiet
import Derived.Test.YtnhlpahoomcgnaaProg
import Derived.WalkKit
import Derived.WalkSpells
import Derived.WalkLawsBesides
import Derived.Laws.BitsAllLaws
import Derived.Deep.LoopGhost
import Derived.Deep.RegionHeld3
import Derived.Deep.Quiet
import Derived.Deep.Cut
import Derived.Deep.DeepCutAuto
import Derived.Deep.WholeRow
import Derived.Deep.MidRow
import Derived.Deep.Slices
import Derived.Great.BuildSlice
import Derived.Lib.Hide
import Derived.KernelRfl
import Derived.OneCell
import Derived.OpenShut
import Derived.Below
import Derived.Maps.AppendAt
set_option maxRecDepth 100000
set_option maxHeartbeats 8000000
set_option linter.unusedSimpArgs false
set_option linter.unusedVariables false
namespace Go.Proofs.Ytnhlpahoomcgnaa
open Go.RowKit
def gZ (w : World) (R : Zp × Int × Int) (e : Ending) (w' : World) : Prop :=
  ∃ v, e = .returned (.tuple #[.agg #[Z8 R.1.num, Z8 R.1.kind, Z7 R.1.val, v], Z8 R.2.1, Z8 R.2.2]) ∧ Own w' w.heap.size v R.1.bytes ∧ Below w.heap.size w w'
theorem SK {w w' : World} {e0 : Int} (hb : Below w.heap.size w w') : gZ w (Xj, 0, e0) (.returned (.tuple #[.agg #[Z8 0, Z8 0, Z7 0, .slice none 0 0], Z8 0, Z8 e0])) w' := ⟨_, rfl, Own.nil _ _, hb⟩
def X8 (w : World) (g : Nat) (c0 c1 c2 c3 : Value) : Prop :=
  w.cell? ⟨g, 0, none⟩ = some c0 ∧ w.cell? ⟨g, 1, none⟩ = some c1 ∧ w.cell? ⟨g, 2, none⟩ = some c2 ∧ w.cell? ⟨g, 3, none⟩ = some c3 ∧ ∀ o, w.frozen? ⟨g, o, none⟩ = false
theorem XG (w : World) (c0 c1 c2 c3 : Value) : X8 (w.alloc (.cells #[c0, c1, c2, c3] 99)) w.heap.size c0 c1 c2 c3 := by
  refine ⟨by simp, by simp, by simp, by simp, fun o => World.frozen?_alloc_at _ _ _ _ rfl⟩
theorem X8.lt {w : World} {g : Nat} {c0 c1 c2 c3 : Value} (h : X8 w g c0 c1 c2 c3) : g < w.heap.size := World.block_lt_of_cell? w (⟨g, 0, none⟩ : Addr) h.1
theorem X8.below {w w' : World} {g : Nat} {c0 c1 c2 c3 : Value} (h : X8 w g c0 c1 c2 c3) (hb : Below w.heap.size w w') : X8 w' g c0 c1 c2 c3 := by
  have hl := h.lt
  obtain ⟨h0, h1, h2, h3, hf⟩ := h
  exact ⟨(hb.cell (p := ⟨g, 0, none⟩) hl).trans h0, (hb.cell (p := ⟨g, 1, none⟩) hl).trans h1, (hb.cell (p := ⟨g, 2, none⟩) hl).trans h2, (hb.cell (p := ⟨g, 3, none⟩) hl).trans h3, fun o => (hb.frozen (p := ⟨g, o, none⟩) hl).trans (hf o)⟩
theorem X8.set {w : World} {g : Nat} {c0 c1 c2 c3 : Value} (h : X8 w g c0 c1 c2 c3) (d0 d1 d2 d3 : Value) :
    X8 ((((w.setCell ⟨g, 0, none⟩ d0).setCell ⟨g, 1, none⟩ d1).setCell ⟨g, 2, none⟩ d2).setCell ⟨g, 3, none⟩ d3) g d0 d1 d2 d3 := by
  obtain ⟨h0, h1, h2, h3, hf⟩ := h
  refine ⟨?_, ?_, ?_, ?_, fun o => ?_⟩
  · rw [World.cell?_setCell_other _ _ _ _ (by simp), World.cell?_setCell_other _ _ _ _ (by simp), World.cell?_setCell_other _ _ _ _ (by simp)]
    exact World.cell?_setCell_same _ _ _ h0
  · rw [World.cell?_setCell_other _ _ _ _ (by simp), World.cell?_setCell_other _ _ _ _ (by simp)]
    exact World.cell?_setCell_same _ _ _ ((World.cell?_setCell_other _ _ _ _ (by simp)).trans h1)
  · rw [World.cell?_setCell_other _ _ _ _ (by simp)]
    exact World.cell?_setCell_same _ _ _ ((World.cell?_setCell_other _ _ _ _ (by simp)).trans ((World.cell?_setCell_other _ _ _ _ (by simp)).trans h2))
  · exact World.cell?_setCell_same _ _ _ ((World.cell?_setCell_other _ _ _ _ (by simp)).trans ((World.cell?_setCell_other _ _ _ _ (by simp)).trans ((World.cell?_setCell_other _ _ _ _ (by simp)).trans h3)))
  · rw [World.frozen?_setCell, World.frozen?_setCell, World.frozen?_setCell, World.frozen?_setCell]
    exact hf o
theorem pq {w0 w : World} {g : Nat} (h : Below w0.heap.size w0 w) (hg : w0.heap.size ≤ g) (d0 d1 d2 d3 : Value) :
    Below w0.heap.size w0 ((((w.setCell ⟨g, 0, none⟩ d0).setCell ⟨g, 1, none⟩ d1).setCell ⟨g, 2, none⟩ d2).setCell ⟨g, 3, none⟩ d3) :=
  (((h.setCell (p := ⟨g, 0, none⟩) hg _).setCell (p := ⟨g, 1, none⟩) hg _).setCell (p := ⟨g, 2, none⟩) hg _).setCell (p := ⟨g, 3, none⟩) hg _
theorem Q9 {w0 w : World} {g : Nat} {c0 c1 c2 c3 : Value} (h : X8 w g c0 c1 c2 c3) (hb : Below w0.heap.size w0 w) (hg : w0.heap.size ≤ g) (d0 d1 d2 d3 : Value) :
    ∃ W, (((w.setCell ⟨g, 0, none⟩ d0).setCell ⟨g, 1, none⟩ d1).setCell ⟨g, 2, none⟩ d2).setCell ⟨g, 3, none⟩ d3 = W ∧ X8 W g d0 d1 d2 d3 ∧ Below w0.heap.size w0 W ∧
      (∀ B v L, Own w B v L → g < B → Own W B v L) ∧ w.heap.size ≤ W.heap.size :=
  ⟨_, rfl, h.set _ _ _ _, pq hb hg _ _ _ _, fun B v L ho hl => ownsRow_setCell_below (ownsRow_setCell_below (ownsRow_setCell_below (ownsRow_setCell_below ho (a := ⟨g, 0, none⟩) hl _) (a := ⟨g, 1, none⟩) hl _) (a := ⟨g, 2, none⟩) hl _) (a := ⟨g, 3, none⟩) hl _, by simp⟩
theorem oZ {w0 w : World} {g : Nat} {c0 c1 c2 c3 : Value} (h : X8 w g c0 c1 c2 c3) (hb : Below w0.heap.size w0 w) (hg : w0.heap.size ≤ g) (d : Value) :
    ∃ W, w.setCell ⟨g, 2, none⟩ d = W ∧ X8 W g c0 c1 d c3 ∧ Below w0.heap.size w0 W := by
  refine ⟨_, rfl, ?_, hb.setCell (p := ⟨g, 2, none⟩) hg _⟩
  obtain ⟨h0, h1, h2, h3, hf⟩ := h
  exact ⟨(World.cell?_setCell_other _ _ _ _ (by simp)).trans h0, (World.cell?_setCell_other _ _ _ _ (by simp)).trans h1, World.cell?_setCell_same _ _ _ h2, (World.cell?_setCell_other _ _ _ _ (by simp)).trans h3, fun o => (World.frozen?_setCell _ _ _ _).trans (hf o)⟩
theorem oW {w0 w : World} {g : Nat} {c0 c1 c2 c3 : Value} (h : X8 w g c0 c1 c2 c3) (hb : Below w0.heap.size w0 w) (hg : w0.heap.size ≤ g) (d : Value) :
    ∃ W, w.setCell ⟨g, 3, none⟩ d = W ∧ X8 W g c0 c1 c2 d ∧ Below w0.heap.size w0 W ∧ (∀ B v L, Own w B v L → g < B → Own W B v L) := by
  refine ⟨_, rfl, ?_, hb.setCell (p := ⟨g, 3, none⟩) hg _, fun B v L ho hl => ownsRow_setCell_below ho (a := ⟨g, 3, none⟩) hl _⟩
  obtain ⟨h0, h1, h2, h3, hf⟩ := h
  exact ⟨(World.cell?_setCell_other _ _ _ _ (by simp)).trans h0, (World.cell?_setCell_other _ _ _ _ (by simp)).trans h1, (World.cell?_setCell_other _ _ _ _ (by simp)).trans h2, World.cell?_setCell_same _ _ _ h3, fun o => (World.frozen?_setCell _ _ _ _).trans (hf o)⟩
theorem Jj (a : Option Addr) (c : Nat) (L : List Int) (w : World) (hL : L.length ≤ 1000000) (hr : Sl w a c L) (hw : ∀ x, x ∈ L → W8 x) (hc : L.length ≤ c) :
    Calls Try.prog 91 #[.slice a L.length c] w (gZ w (W9 L)) := by
  have hbn := (Below.refl w.heap.size w).alloc (Nat.le_refl _) (.cells #[Z8 0, Z8 0, Z7 0, .slice none 0 0] 99)
  have hz : w.heap.size < (w.alloc (.cells #[Z8 0, Z8 0, Z7 0, .slice none 0 0] 99)).heap.size := by simp
  rcases OX L hw with ⟨e0, h, he⟩ | ⟨t, h, ht0, ht1, hrd, hh0, ae5, hle, -, -, hcs⟩
  · rw [G9 h he]
    have cS := FM a c L _ hL (ZH hr hbn) hw e0 h he
    have h1 : (e0 != 0) = true := by simpa using he
    have h2 : (e0 == 0) = false := by simpa using he
    clear h he
    go_enter Try.func91, Try.ntmps91
    go_wp2_with fail
    refine cS.mono ?_
    rintro e w1 ⟨rfl, hb⟩
    have hbl := WO hbn hb
    have K := (XG w _ _ _ _).below hb
    have K' := Z9 K
    obtain ⟨k0, k1, k2, k3, kf⟩ := K
    clear cS hbn hb hz
    go_wp2
    clear k0 k1 k2 k3 kf
    obtain ⟨W2, hW2, KE, Ql, -, -⟩ := Q9 K'.out hbl (Nat.le_refl _) (Z8 0) (Z8 0) (Z7 0) (.slice none 0 0)
    rw [hW2]
    obtain ⟨W3, hW3, BO, UU, -, -⟩ := Q9 KE Ql (Nat.le_refl _) (Z8 0) (Z8 0) (Z7 0) (.slice none 0 0)
    rw [hW3]
    clear hW2 hW3 KE Ql
    obtain ⟨k0, k1, k2, k3, kf⟩ := BO
    exact bodyPost_ret (v := .tuple #[.agg #[Z8 0, Z8 0, Z7 0, .slice none 0 0], Z8 0, Z8 e0]) (by simp [results, Try.results91, go_sem, k0, k1, k2, k3]) rfl (SK UU)
  rcases hcs with hb | ⟨hg, hcs⟩
  · rw [G8 hrd hb]
    have cS := FK a c L _ hL (ZH hr hbn) hw t h hrd ht0 ht1 hb
    clear hrd hb
    go_enter Try.func91, Try.ntmps91
    go_wp2_with fail
    refine cS.mono ?_
    rintro e w1 ⟨rfl, hb⟩
    have hbl := WO hbn hb
    have K := (XG w _ _ _ _).below hb
    have K' := Z9 K
    obtain ⟨k0, k1, k2, k3, kf⟩ := K
    clear cS hbn hb hz
    go_wp2
    clear k0 k1 k2 k3 kf
    obtain ⟨W2, hW2, KE, Ql, -, -⟩ := Q9 K'.out hbl (Nat.le_refl _) (Z8 0) (Z8 0) (Z7 0) (.slice none 0 0)
    rw [hW2]
    obtain ⟨W3, hW3, BO, UU, -, -⟩ := Q9 KE Ql (Nat.le_refl _) (Z8 0) (Z8 0) (Z7 0) (.slice none 0 0)
    rw [hW3]
    clear hW2 hW3 KE Ql
    obtain ⟨k0, k1, k2, k3, kf⟩ := BO
    exact bodyPost_ret (v := .tuple #[.agg #[Z8 0, Z8 0, Z7 0, .slice none 0 0], Z8 0, Z8 4]) (by simp [results, Try.results91, go_sem, k0, k1, k2, k3]) rfl (SK UU)
  obtain ⟨kd, hk, hkd⟩ : ∃ kd, t % 8 = kd ∧ (kd = 0 ∨ kd = 2) := ⟨_, rfl, hg.2.2⟩
  have cS := BN a c L _ hL (ZH hr hbn) hw t kd h hrd hg hk hkd
  have HS := Z9 (Ny hr h hc)
  have hsl := fun wx => TU .i64 a L.length c h wx hle
  rcases hcs with ⟨e0, h2, he⟩ | ⟨n, k, hn, h2, hk0, hk10, hle2, -, -⟩
  · rw [G7 hrd hg h2 he]
    have cR : ∀ wx, Sl wx (Xi a c h) (c - h) (L.drop h) → Calls Try.prog 96 #[.slice (Xi a c h) (L.length - h) (c - h)] wx fun e w' => e = .returned (.tuple #[Z7 0, Z8 0, Z8 e0]) ∧ wx = w' := by
      intro wx hs
      have := KW (by rw [List.length_drop]; omega) hs (XH hw h) h2
      rw [List.length_drop] at this
      exact this
    have h1 : (e0 != 0) = true := by simpa using he
    have h2' : (e0 == 0) = false := by simpa using he
    clear h2 he hk hkd hrd hg
    go_enter Try.func91, Try.ntmps91
    go_wp2_with fail
    refine cS.mono ?_
    rintro e w1 ⟨rfl, hb⟩
    have hbl := WO hbn hb
    have K := (XG w _ _ _ _).below hb
    have K' := Z9 K
    obtain ⟨k0, k1, k2, k3, kf⟩ := K
    clear cS hbn hb hz
    go_wp2_with fail
    obtain ⟨W, hW, BM, RS, -, hzW⟩ := Q9 K'.out hbl (Nat.le_refl _) (Z8 (t / 8)) (Z8 kd) (Z7 0) (.slice none 0 0)
    rw [hW]
    clear k0 k1 k2 k3 kf hbl K' hW
    have K2 := Z9 BM
    obtain ⟨k0, k1, k2, k3, kf⟩ := BM
    refine (cR _ (ZH HS.out RS)).mono ?_
    rintro e w2 ⟨rfl, rfl⟩
    clear cR
    go_wp2
    clear k0 k1 k2 k3 kf
    obtain ⟨W3, hW3, BO, UU, -, -⟩ := Q9 K2.out RS (Nat.le_refl _) (Z8 0) (Z8 0) (Z7 0) (.slice none 0 0)
    rw [hW3]
    clear hW3
    obtain ⟨k0, k1, k2, k3, kf⟩ := BO
    exact bodyPost_ret (v := .tuple #[.agg #[Z8 0, Z8 0, Z7 0, .slice none 0 0], Z8 0, Z8 e0]) (by simp [results, Try.results91, go_sem, k0, k1, k2, k3]) rfl (SK UU)
  have cR : ∀ wx, Sl wx (Xi a c h) (c - h) (L.drop h) → Calls Try.prog 96 #[.slice (Xi a c h) (L.length - h) (c - h)] wx fun e w' => e = .returned (.tuple #[Z7 (n : Int), Z8 (k : Int), Z8 0]) ∧ wx = w' := by
    intro wx hs
    have := Nv (by rw [List.length_drop]; omega) hs (XH hw h) h2
    rw [List.length_drop] at this
    exact this
  rcases hkd with rfl | rfl
  · rw [Nu hrd hg h2 hk]
    generalize t / 8 = q at *
    clear h2 hk hrd hg
    go_enter Try.func91, Try.ntmps91
    go_wp2_with fail
    refine cS.mono ?_
    rintro e w1 ⟨rfl, hb⟩
    have hbl := WO hbn hb
    have K := (XG w _ _ _ _).below hb
    have K' := Z9 K
    obtain ⟨k0, k1, k2, k3, kf⟩ := K
    clear cS hbn hb hz
    go_wp2_with fail
    obtain ⟨W, hW, BM, RS, -, hzW⟩ := Q9 K'.out hbl (Nat.le_refl _) (Z8 q) (Z8 0) (Z7 0) (.slice none 0 0)
    rw [hW]
    clear k0 k1 k2 k3 kf hbl K' hW
    have K2 := Z9 BM
    obtain ⟨k0, k1, k2, k3, kf⟩ := BM
    refine (cR _ (ZH HS.out RS)).mono ?_
    rintro e w2 ⟨rfl, rfl⟩
    clear cR
    go_wp2
    clear k0 k1 k2 k3 kf
    obtain ⟨W2, hW2, KE, Ql⟩ := oZ K2.out RS (Nat.le_refl _) (Z7 (n : Int))
    rw [hW2]
    obtain ⟨W3, hW3, BO, UU, -, -⟩ := Q9 KE Ql (Nat.le_refl _) (Z8 q) (Z8 0) (Z7 (n : Int)) (.slice none 0 0)
    rw [hW3]
    clear hW2 hW3 KE Ql
    obtain ⟨k0, k1, k2, k3, kf⟩ := BO
    exact bodyPost_ret (v := .tuple #[.agg #[Z8 q, Z8 0, Z7 (n : Int), .slice none 0 0], Z8 ((h + k : Nat) : Int), Z8 0]) (by simp [results, Try.results91, go_sem, k0, k1, k2, k3]) rfl ⟨_, rfl, Own.nil _ _, UU⟩
  have hsl2 : ∀ wx, (Instr.slice 50 (.slice a L.length c) (some (Z8 ((h : Int) + (k : Int)))) none none).run Try.prog wx = .ok (.slice (Xi a c (h + k)) (L.length - (h + k)) (c - (h + k))) wx := fun wx => TU .i64 a L.length c (h + k) wx hle2
  by_cases hs : n ≤ (L.drop (h + k)).length
  · rw [RQ hrd hg h2 hk hs]
    rw [List.length_drop] at hs
    have HS2 := Z9 (xw (Ny hr (h + k) hc) n)
    have ae6 := fun wx => BL .u64 (Xi a c (h + k)) (L.length - (h + k)) (c - (h + k)) n wx (by omega)
    have cC : ∀ wx, Sl wx (Xi a c (h + k)) (c - (h + k)) ((L.drop (h + k)).take n) → Calls Try.prog 97 #[.slice (Xi a c (h + k)) n (c - (h + k))] wx fun e w' => ∃ v, e = .returned v ∧ Own w' wx.heap.size v ((L.drop (h + k)).take n) ∧ Below wx.heap.size wx w' := by
      intro wx hs'
      have := clone_any (Xi a c (h + k)) (c - (h + k)) ((L.drop (h + k)).take n) wx (by rw [List.length_take, List.length_drop]; omega) hs'
      rw [List.length_take, List.length_drop, Nat.min_eq_left hs] at this
      exact this
    have hlB : ((L.drop (h + k)).take n).length = n := by rw [List.length_take, List.length_drop]; omega
    generalize (L.drop (h + k)).take n = B at *
    subst hlB
    have hr1 : L.length - (h + k) ≤ 1000000 := by omega
    have hBL : B.length ≤ 1000000 := by omega
    generalize L.length - (h + k) = r at *
    generalize t / 8 = q at *
    clear h2 hk hrd hg
    go_enter Try.func91, Try.ntmps91
    go_wp2_with fail
    refine cS.mono ?_
    rintro e w1 ⟨rfl, hb⟩
    have hbl := WO hbn hb
    have K := (XG w _ _ _ _).below hb
    have K' := Z9 K
    obtain ⟨k0, k1, k2, k3, kf⟩ := K
    clear cS hbn hb hz
    go_wp2_with fail
    obtain ⟨W, hW, BM, RS, -, hzW⟩ := Q9 K'.out hbl (Nat.le_refl _) (Z8 q) (Z8 2) (Z7 0) (.slice none 0 0)
    rw [hW]
    clear k0 k1 k2 k3 kf hbl K' hW
    have K2 := Z9 BM
    obtain ⟨k0, k1, k2, k3, kf⟩ := BM
    refine (cR _ (ZH HS.out RS)).mono ?_
    rintro e w2 ⟨rfl, rfl⟩
    clear cR
    go_wp2_with fail
    refine (cC _ (ZH HS2.out RS)).mono ?_
    rintro e w3 ⟨v3, rfl, ho3, hb3⟩
    have K3 := Z9 (K2.out.below hb3)
    have ab7 := WO RS hb3
    have hgl := K2.out.lt
    obtain ⟨a3, c3, rfl, -, -⟩ := Own.sl ho3
    clear k0 k1 k2 k3 kf cC hb3 K2
    obtain ⟨k0, k1, k2, k3, kf⟩ := K3.out
    go_wp2
    clear k0 k1 k2 k3 kf
    obtain ⟨W2, hW2, KE, Ql, ho4⟩ := oW K3.out ab7 (Nat.le_refl _) (.slice a3 B.length c3)
    rw [hW2]
    obtain ⟨W3, hW3, BO, UU, lX, -⟩ := Q9 KE Ql (Nat.le_refl _) (Z8 q) (Z8 2) (Z7 0) (.slice a3 B.length c3)
    rw [hW3]
    have hO := (lX _ _ _ (ho4 _ _ _ ho3 hgl) hgl).base RS.size
    clear hW2 hW3 KE Ql
    obtain ⟨k0, k1, k2, k3, kf⟩ := BO
    exact bodyPost_ret (v := .tuple #[.agg #[Z8 q, Z8 2, Z7 0, .slice a3 B.length c3], Z8 ((h + k + B.length : Nat) : Int), Z8 0]) (by simp [results, Try.results91, go_sem, k0, k1, k2, k3]) rfl ⟨_, rfl, hO, UU⟩
  · rw [RP hrd hg h2 hk (by omega)]
    rw [List.length_drop] at hs
    have hr1 : L.length - (h + k) ≤ 1000000 := by omega
    have hr2 : L.length - (h + k) < n := by omega
    generalize L.length - (h + k) = r at *
    generalize t / 8 = q at *
    clear h2 hk hrd hg hs
    go_enter Try.func91, Try.ntmps91
    go_wp2_with fail
    refine cS.mono ?_
    rintro e w1 ⟨rfl, hb⟩
    have hbl := WO hbn hb
    have K := (XG w _ _ _ _).below hb
    have K' := Z9 K
    obtain ⟨k0, k1, k2, k3, kf⟩ := K
    clear cS hbn hb hz
    go_wp2_with fail
    obtain ⟨W, hW, BM, RS, -, hzW⟩ := Q9 K'.out hbl (Nat.le_refl _) (Z8 q) (Z8 2) (Z7 0) (.slice none 0 0)
    rw [hW]
    clear k0 k1 k2 k3 kf hbl K' hW
    have K2 := Z9 BM
    obtain ⟨k0, k1, k2, k3, kf⟩ := BM
    refine (cR _ (ZH HS.out RS)).mono ?_
    rintro e w2 ⟨rfl, rfl⟩
    clear cR
    go_wp2
    clear k0 k1 k2 k3 kf
    obtain ⟨W3, hW3, BO, UU, -, -⟩ := Q9 K2.out RS (Nat.le_refl _) (Z8 0) (Z8 0) (Z7 0) (.slice none 0 0)
    rw [hW3]
    clear hW3
    obtain ⟨k0, k1, k2, k3, kf⟩ := BO
    exact bodyPost_ret (v := .tuple #[.agg #[Z8 0, Z8 0, Z7 0, .slice none 0 0], Z8 0, Z8 5]) (by simp [results, Try.results91, go_sem, k0, k1, k2, k3]) rfl (SK UU)
def cellsOf (p : Zp × Value) : List Value := [Z8 p.1.num, Z8 p.1.kind, Z7 p.1.val, p.2]
def row4 (ps : List (Zp × Value)) : List Value := ps.flatMap cellsOf
theorem Xr (ps : List (Zp × Value)) : ∀ (i j : Nat) (p : Zp × Value), ps[i]? = some p → j < 4 → (row4 ps)[i * 4 + j]? = (cellsOf p)[j]? := by
  induction ps with
  | nil => intro i j p h; simp at h
  | cons q ps ih =>
    intro i j p h hj
    have hr : row4 (q :: ps) = cellsOf q ++ row4 ps := rfl
    have hq : (cellsOf q).length = 4 := rfl
    rw [hr]
    cases i with
    | zero =>
      simp only [List.getElem?_cons_zero, Option.some.injEq] at h
      subst h
      rw [List.getElem?_append_left (by omega)]
      simp
    | succ i =>
      rw [List.getElem?_cons_succ] at h
      rw [List.getElem?_append_right (by omega), hq, show (i + 1) * 4 + j - 4 = i * 4 + j by omega]
      exact ih i j p h hj
theorem OZ (ps : List (Zp × Value)) (p : Zp × Value) : row4 (ps ++ [p]) = row4 ps ++ cellsOf p := by
  simp only [row4, List.flatMap_append, List.flatMap_cons, List.flatMap_nil, List.append_nil]
def Wx (w : World) (B : Nat) (v : Value) (ps : List (Zp × Value)) : Prop :=
  w.ownsRow B 99 4 v ps.length (row4 ps) ∧ ∀ p, p ∈ ps → Own w B p.2 p.1.bytes
theorem Wx.nil (w : World) (B : Nat) : Wx w B (.slice none 0 0) [] := ⟨World.ownsRow_nil _ _ _ _, fun p h => by simp at h⟩
theorem Wx.below {w w' : World} {B : Nat} {v : Value} {ps : List (Zp × Value)} (h : Wx w B v ps) (hb : Below w.heap.size w w') : Wx w' B v ps := ⟨own_below h.1 hb, fun p hp => (h.2 p hp).below hb⟩
theorem Wx.form {w : World} {B : Nat} {v : Value} {ps : List (Zp × Value)} (h : Wx w B v ps) : ∃ a c, v = .slice a ps.length c ∧ ps.length ≤ c := by
  rcases h.1.2 with ⟨rfl, h0⟩ | ⟨g, cap, cur, rfl, _, _, hcap, _⟩
  · exact ⟨none, 0, by rw [h0], by omega⟩
  · exact ⟨_, cap, rfl, hcap⟩
theorem Wx.step {B : Nat} {w w2 : World} {v v' : Value} {ps : List (Zp × Value)} {p : Zp × Value} {o : Obj} (h : Wx w B v ps) (hc : Own w B p.2 p.1.bytes)
    (hown : w2.ownsRow B 99 4 v' (ps.length + 1) (row4 ps ++ cellsOf p)) (hgrow : (w.alloc o).grownBy w2 v.ownBlock) : Wx w2 B v' (ps ++ [p]) := by
  have keep : ∀ (c : Value) (ys : List Int), Own w B c ys → Own w2 B c ys := fun c ys hh => (World.ownsRow.alloc hh o).kept hgrow (own_ne hh h.1 (by decide))
  refine ⟨by rw [OZ, List.length_append]; exact hown, fun q hq => ?_⟩
  rcases List.mem_append.1 hq with hq | hq
  · exact keep _ _ (h.2 q hq)
  · obtain rfl : q = p := by simpa using hq
    exact keep _ _ hc
theorem Nw (w : World) (p : Zp × Value) (g : Nat) (hg : g = w.heap.size) : ∀ j u, (cellsOf p)[j]? = some u → (w.alloc (.cells #[Z8 p.1.num, Z8 p.1.kind, Z7 p.1.val, p.2] 99)).cell? ((⟨g, 0, none⟩ : Addr).add j) = some u := by
  subst hg
  intro j u hj
  rw [Go.WideShapes.add_plain, cell_of_row _ w.heap.size (0 + j) _ 99 (0, 0) (heap_alloc_new w _), Nat.zero_add]
  simpa [cellsOf] using hj
theorem cells_one {w : World} {B : Nat} {p : Zp × Value} {L : List Int} (h : Own w B p.2 L) : ∀ u ∈ cellsOf p, u.oneCell' = true := by
  obtain ⟨a, c, he, -, -⟩ := h.sl
  intro u hu
  simp only [cellsOf, List.mem_cons, List.not_mem_nil, or_false, he] at hu
  rcases hu with rfl | rfl | rfl | rfl <;> rfl
def BQ (w : World) (R : List Zp × Int × Int) (e : Ending) (w' : World) : Prop :=
  ∃ v ps, e = .returned (.tuple #[v, Z8 R.2.1, Z8 R.2.2]) ∧ ps.map Prod.fst = R.1 ∧ Wx w' w.heap.size v ps ∧ Below w.heap.size w w'
theorem OY {w w' : World} {XZ : List Zp × Int × Int} {i e0 : Int} {j : Int} (h : XZ = ([], i, e0)) (hj : j = i) (hb : Below w.heap.size w w') : BQ w XZ (.returned (.tuple #[.slice none 0 0, Z8 j, Z8 e0])) w' := by
  subst h hj
  exact ⟨_, [], rfl, rfl, Wx.nil _ _, hb⟩
theorem BP {w w' : World} {XZ : List Zp × Int × Int} {v : Value} {ps : List (Zp × Value)} (h : XZ = (ps.map Prod.fst, 0, 0)) (hr : Wx w' w.heap.size v ps) (hb : Below w.heap.size w w') : BQ w XZ (.returned (.tuple #[v, Z8 0, Z8 0])) w' := by
  subst h
  exact ⟨_, ps, rfl, rfl, hr, hb⟩
theorem Rz (a : Option Addr) (c : Nat) (L : List Int) (w : World) (hL : L.length ≤ 1000000) (hr : Sl w a c L) (hw : ∀ x, x ∈ L → W8 x) (hc : L.length ≤ c) :
    Calls Try.prog 82 #[.slice a L.length c] w (BQ w (YD L)) := by
  obtain ⟨i0, hi, hz0, hz1, hz2⟩ := info_parts info25
  have HI := Z9 hi
  have HZ0 := Z9 hz0
  have HZ1 := Z9 hz1
  have HZ2 := Z9 hz2
  have HD : Hid (YD L = XU (L.length + 1) [] 0 L) := rfl
  have HR := Z9 hr
  have HW := Z9 hw
  generalize YD L = XZ at *
  clear hi hz0 hz1 hz2 hr hw
  go_enter Try.func82, Try.ntmps82
  go_wp2_with fail
  go_loopg [2, 5] L.length (fun g s2 s5 wx => ∃ (i f m : Nat) (ra : Option Addr) (R : List Int) (ps : List (Zp × Value)), s5 = .slice ra R.length m ∧ R.length ≤ m ∧ i + R.length ≤ L.length ∧ L.length ≤ i + R.length ∧ R.length < f ∧ ps.length ≤ 1024 ∧ Hid (Sl w ra m R) ∧ Hid (∀ x, x ∈ R → W8 x) ∧
    Hid (XZ = XU f (ps.map Prod.fst) i R) ∧ Hid (Wx wx w.heap.size s2 ps) ∧ Below w.heap.size w wx ∧ R.length = g)
  case atStart => exact ⟨0, L.length + 1, c, a, L, [], rfl, hc, by omega, by omega, by omega, by simp, HR, HW, HD, Wx.nil _ _, Below.refl _ _, rfl⟩
  case round =>
    obtain ⟨i, f, m, ra, R, ps, rfl, hRm, hi1, hi2, hf, hps, hsl, hRw, hd, hrow, hb, rfl⟩ := hrel
    have hsz := hb.size
    obtain ⟨va, vc, rfl, hvc⟩ := hrow.out.form
    obtain ⟨f', rfl⟩ : ∃ f', f = f' + 1 := ⟨f - 1, by omega⟩
    by_cases h0 : R.length = 0
    · have hfin : XZ = (ps.map Prod.fst, 0, 0) := by rw [hd.out, Qo h0]
      have hlt : ¬ 0 < R.length := by omega
      have Nz := Z9 hfin
      clear hd h0 hfin
      go_wp2
      go_ret3
      exact BP Nz.out hrow.out hb
    · have hpos : 0 < R.length := by omega
      by_cases h1 : ps.length = 1024
      · have hfin : XZ = ([], (i : Int), 3) := by rw [hd.out, Qn h0 (by simp; omega)]
        have hq : ((ps.length : Int) == 1024) = true := by rw [h1]; rfl
        have Nz := Z9 hfin
        clear hd h0 hfin h1
        go_wp2
        go_ret3
        exact OY Nz.out (by omega) hb
      · have hq : ((ps.length : Int) == 1024) = false := by rw [beq_eq_false_iff_ne]; omega
        have cF := fun wx hs => Jj ra m R wx (by omega) hs hRw.out hRm
        rcases He R hRw.out (by omega) with ⟨e0, ho, he⟩ | ⟨x, hx, ho, hle, -⟩
        · have hfin : XZ = ([], (i : Int), e0) := by rw [hd.out, Qm h0 (by simp; omega) ho he]
          rw [ho] at cF
          have h3 : (e0 != 0) = true := by simpa using he
          have h4 : (e0 == 0) = false := by simpa using he
          have Nz := Z9 hfin
          clear hd h0 h1 ho he hfin
          go_wp2_with fail
          refine (cF _ (ZH hsl.out hb)).mono ?_
          rintro e w2 ⟨v2, rfl, ho2, hb2⟩
          have hb3 := WO hb hb2
          obtain ⟨a2, c2, rfl, -, -⟩ := ho2.sl
          clear cF hb2 ho2
          go_wp2
          go_ret3
          exact OY Nz.out (by omega) (hb3.alloc hb3.size _)
        · have hd2 : XZ = XU f' ((ps ++ [(x, Value.slice none 0 0)]).map Prod.fst) (i + (YP x).length) (R.drop (YP x).length) := by
            rw [hd.out, UD h0 (by simp; omega) ho]
            simp
          rw [ho] at cF
          have ae4 : ps.length + 1 ≤ 1024 := by omega
          have hs2 := UW x
          have hlB := hx.2.2.2
          have hsl2 := fun wx => TU .i64 ra R.length m (YP x).length wx hle
          have HS2 := Z9 (Ny hsl.out (YP x).length hRm)
          have HW2 := Z9 (XH hRw.out (YP x).length)
          have hlen : (R.drop (YP x).length).length = R.length - (YP x).length := List.length_drop
          generalize R.drop (YP x).length = R2 at *
          generalize (YP x).length = sz at *
          have HLEN := Z9 hlen
          have HD2 := Z9 hd2
          clear hd h0 h1 ho hd2 hlen
          go_wp2_with fail
          refine (cF _ (ZH hsl.out hb)).mono ?_
          rintro e w2 ⟨v2, rfl, ho2, hb2⟩
          have hb3 := WO hb hb2
          have hrow2 := hrow.out.below hb2
          obtain ⟨a2, c2, rfl, -, -⟩ := ho2.sl
          have ig := Z9 (ho2.base hsz)
          have HR2 := Z9 hrow2
          clear cF hb2 ho2 hrow hrow2
          go_wp2_with (at_builtin; refine wpList_append_own _ rfl _ _ 94 rfl w.heap.size 99 i0 (.agg #[Z8 0, Z8 0, Z7 0, .slice none 0 0]) 4 48 Try.underlying94 HI.out HZ0.out HZ1.out HZ2.out rfl (by decide) (.slice va ps.length vc) ps.length (row4 ps) rfl ((HR2.out.1.alloc _).alloc _) ⟨w2.heap.size + 1, 0, none⟩ 1 1 (cellsOf (x, .slice a2 x.bytes.length c2)) rfl rfl (Nw _ (x, .slice a2 x.bytes.length c2) _ (by simp)) (cells_one (p := (x, .slice a2 x.bytes.length c2)) ig.out) ?c1 ?c2 ?c3 ?_)
          case c1 => unfold maxLen; omega
          case c2 => omega
          case c3 => have := hb3.size; simp; omega
          intro v3 w3 hown3 hgrow3 _
          have HR3 := Z9 (Wx.step (p := (x, Value.slice a2 x.bytes.length c2)) (HR2.out.below ((Below.refl _ _).alloc (Nat.le_refl _) _)) (ig.out.below ((Below.refl _ _).alloc (Nat.le_refl _) _)) hown3 hgrow3)
          have hb4 : Below w.heap.size w w3 := ((hb3.alloc hb3.size _).alloc (by have := hb3.size; simp; omega) _).grown hgrow3 (by have := hb3.size; simp; omega) (fun j hj => (HR2.out.1.lt j hj).1)
          clear hown3 hgrow3 HR2 ig
          have HD3 : Hid (XZ = XU f' ((ps ++ [(x, Value.slice a2 x.bytes.length c2)]).map Prod.fst) (i + sz) R2) := Z9 (HD2.out.trans (by simp))
          have h5 := HLEN.out
          have h6 : R2.length ≤ m - sz := by omega
          have h7 : i + sz + R2.length ≤ L.length := by omega
          have h8 : L.length ≤ i + sz + R2.length := by omega
          have h9 : R2.length < f' := by omega
          have h10 : R2.length < R.length := by omega
          have h11 : (ps ++ [(x, Value.slice a2 x.bytes.length c2)]).length ≤ 1024 := by rw [List.length_append, List.length_singleton]; omega
          clear h5 HD2
          go_wp2_with fail
          go_roundg R2.length
          case measure => exact h10
          case rel => exact ⟨i + sz, f', m - sz, Xi ra m sz, R2, _, by rw [HLEN.out], h6, h7, h8, h9, h11, HS2, HW2, HD3, HR3, hb4, rfl⟩
end Go.Proofs.Ytnhlpahoomcgnaa
namespace Go.Proofs.Ytnhlpahoomcgnaa
open Go.RowKit
end Go.Proofs.Ytnhlpahoomcgnaa
namespace Go.Proofs.Ytnhlpahoomcgnaa
open Go.RowKit
end Go.Proofs.Ytnhlpahoomcgnaa
namespace Go.Proofs.Ytnhlpahoomcgnaa
open Go.RowKit
theorem Q8 {P : Program} {w : World} {ops : Array Oper} {o : Oper} {a : Act} {K : Act → World → Prop} {Q : Exit → Act → World → Prop} {E : Prop} (hgd : o.guard = none) (s x : Operand) (t : TypeId)
    (ho : o.op = .call { callee := .builtin .append, args := #[s, x], argTypes := #[t, t] })
    (base : Nat) (i : TypeInfo) (ht : P.underlying t = some (.slice 5)) (hi : P.info? 5 = some i) (hz : i.zero = some (.int .u8 0)) (hsize : i.size = 1) (hby : i.bytes = 1)
    (v : Value) (n : Nat) (xs : List Value) (hs : a.eval s = v) (hown : w.ownsRow base 5 1 v n xs)
    (ad : Option Addr) (m c : Nat) (L : List Int) (hx : a.eval x = .slice ad m c) (hm : L.length = m) (hr : Sl w ad c L) (hb : n + m ≤ 140737488355328) (hbase : base ≤ w.heap.size)
    (h : ∀ v' w', w'.ownsRow base 5 1 v' (n + m) (xs ++ L.map (Value.int .u8)) → w.grownBy w' v.ownBlock → K (a.put o.dst v') w') :
    if Region.wanted o (yielded ops a.tmps) = true then Oper.wp P o a w K Q else E := by
  have hw : Region.wanted o (yielded ops a.tmps) = true := by simp [Region.wanted, hgd]
  rw [if_pos hw]
  subst hm
  rcases hr with ⟨rfl, rfl, rfl⟩ | ⟨y, rfl, hy⟩
  · have hrun := run_append_owned_none (P := P) (w := w) base t o.type 5 i 1 ht hi v n xs hown
    unfold Oper.wp
    simp [execOp, ho, resolve, invoke, builtin, hs, hx, hrun, Result.andThen]
    exact h v w (by simpa using hown) (World.grownBy.refl w _)
  · refine wp_append_own w s x t ho base 5 i (.int .u8 0) 1 1 ht hi hz hsize hby rfl (by decide) v n xs hs hown y L.length c (L.map (Value.int .u8)) hx (by simp) ?_ (ints_oneCell _ _) (by unfold maxLen; omega) (by omega) hbase (fun v' w' h1 h2 _ => h v' w' h1 h2)
    intro j u hj
    have hj' : j < L.length := by
      rcases Nat.lt_or_ge j L.length with h | h
      · exact h
      · rw [List.getElem?_eq_none (by simpa using h)] at hj; cases hj
    obtain ⟨b, off, rfl, hc⟩ := hy j hj'
    rw [Go.WideShapes.add_plain, hc]
    rw [List.getElem?_map, List.getElem?_eq_getElem hj'] at hj
    rw [List.getD_eq_getElem?_getD, List.getElem?_eq_getElem hj']
    exact hj
theorem wY {w w' : World} {B g o n : Nat} {v u : Value} {xs : List Value} (hgrow : w.grownBy w' v.ownBlock) (ho : w.ownsRow B 5 1 v n xs) (hg : g < B) (hc : w.cell? ⟨g, o, none⟩ = some u) : w'.cell? ⟨g, o, none⟩ = some u := by
  refine hgrow.cell hc (fun e => ?_)
  have := (ho.lt _ e.symm).1
  simp only at this
  omega
theorem FN (a : Option Addr) (c : Nat) (L : List Int) (num kind val : Int) (b : Option Addr) (d : Nat) (B : List Int) (w : World) (hL : L.length ≤ 900000) (hB : B.length ≤ 1000000) (hr : Sl w a c L) (hs : Sl w b d B) (hv : ES num kind val B.length) (hw : W64 val) :
    Calls Try.prog 56 #[.slice a L.length c, .agg #[Z8 num, Z8 kind, Z7 val, .slice b B.length d]] w fun e w' => ∃ v, e = .returned (.tuple #[v, Z8 0]) ∧ Own w' w.heap.size v (L ++ encI num kind val B) ∧ Below w.heap.size w w' := by
  have cV := FH num kind val b B.length d
  rw [OV hv] at cV
  have hn0 := hv.1
  have hn1 := hv.2.1
  have htb : W64 (8 * num + kind) := by unfold W64; unfold ES at hv; omega
  have cA := fun w hr => TS a c L (8 * num + kind) w (by omega) hr htb
  have hEl := XR (8 * num + kind)
  have hfin : L ++ encI num kind val B = ((L ++ Enc (8 * num + kind)) ++ Enc (UR kind val B.length)) ++ B := by simp [encI]
  have hlen : (L ++ Enc (8 * num + kind)).length ≤ 1000000 := by rw [List.length_append]; omega
  have hx0 := xu w num kind val b B.length d
  have hb0 := (Below.refl _ w).alloc (Nat.le_refl _) (.cells #[Z8 num, Z8 kind, Z7 val, .slice b B.length d] 99)
  rcases hv.2.2 with ⟨rfl, hb⟩ | ⟨rfl, rfl⟩
  · obtain rfl : B = [] := List.eq_nil_of_length_eq_zero hb
    have BG : UR 0 val ([] : List Int).length = val := rfl
    rw [BG, List.append_nil] at hfin
    have cB := fun a c w hr => TS a c (L ++ Enc (8 * num + 0)) val w hlen hr hw
    have e8 : 8 * num + 0 = num * 8 := by omega
    rw [e8] at cA hEl hlen hfin
    simp only [e8] at cB
    clear e8 htb
    generalize Enc (num * 8) = E1 at *
    generalize L ++ E1 = M at *
    generalize Enc val = E2 at *
    have Nz := Z9 hfin
    have HR := Z9 hr
    clear hfin hr hs hv BG hb
    go_enter Try.func56, Try.ntmps56
    go_wp2_with fail
    refine (cV _).mono ?_
    rintro e w1 ⟨rfl, hb1⟩
    have hx := hx0.below hb1
    have hb := WO hb0 hb1
    obtain ⟨k0, k1, k2, k3⟩ := hx
    have k1' : w1.cell? ⟨w.heap.size, 1, none⟩ = some (Z8 0) := k1
    have k2' : w1.cell? ⟨w.heap.size, 2, none⟩ = some (Z7 val) := k2
    have hlt : w.heap.size < w1.heap.size := Box.lt ⟨k0, k1, k2, k3⟩
    clear cV hb1 k1 k2 k3 hx0 hb0
    go_wp2_with fail
    refine (cA _ (ZH HR.out hb)).mono ?_
    rintro e w2 ⟨v2, rfl, ho2, hb2⟩
    have hb3 := WO hb hb2
    have k2 := (hb2.cell (p := ⟨w.heap.size, 2, none⟩) hlt).trans k2'
    have k1 := (hb2.cell (p := ⟨w.heap.size, 1, none⟩) hlt).trans k1'
    obtain ⟨a2, c2, rfl, s2, -⟩ := Own.sl ho2
    clear k1' k2' k0 hb hb2 ho2 cA
    go_wp2_with fail
    refine (cB _ _ _ s2).mono ?_
    rintro e w3 ⟨v3, rfl, ho3, hb4⟩
    have hb5 := WO hb3 hb4
    have HO : Hid (Own w3 w.heap.size v3 (L ++ encI num 0 val [])) := by rw [Nz.out]; exact Z9 (Own.base ho3 hb3.size)
    clear cB ho3 hb4 s2
    go_wp2
    go_ret2
    exact ⟨_, rfl, HO.out, hb5⟩
  · have BG : UR 2 0 B.length = (B.length : Int) := rfl
    rw [BG] at hfin
    have hwB : W64 (B.length : Int) := by unfold W64; omega
    have cB := fun a c w hr => TS a c (L ++ Enc (8 * num + 2)) (B.length : Int) w hlen hr hwB
    have hE2 := XR (B.length : Int)
    have e8 : 8 * num + 2 = num * 8 + 2 := by omega
    rw [e8] at cA hEl hlen hfin
    simp only [e8] at cB
    clear e8 htb
    generalize Enc (num * 8 + 2) = E1 at *
    generalize L ++ E1 = M at *
    have Nz := Z9 hfin
    have HR := Z9 hr
    have HS := Z9 hs
    have hM2 : (M ++ Enc (B.length : Int)).length ≤ 2000000 := by rw [List.length_append]; omega
    generalize M ++ Enc (B.length : Int) = M2 at *
    obtain ⟨i0, hi, hz0, hz1, hz2⟩ := info_parts info5
    have HI := Z9 hi
    have HZ0 := Z9 hz0
    have HZ1 := Z9 hz1
    have HZ2 := Z9 hz2
    clear hfin hr hs hv BG hi hz0 hz1 hz2 hE2
    go_enter Try.func56, Try.ntmps56
    go_wp2_with fail
    refine (cV _).mono ?_
    rintro e w1 ⟨rfl, hb1⟩
    have hx := hx0.below hb1
    have hb := WO hb0 hb1
    obtain ⟨k0, k1, k2, k3⟩ := hx
    have k1' : w1.cell? ⟨w.heap.size, 1, none⟩ = some (Z8 2) := k1
    have k3' : w1.cell? ⟨w.heap.size, 3, none⟩ = some (.slice b B.length d) := k3
    have hlt : w.heap.size < w1.heap.size := Box.lt ⟨k0, k1, k2, k3⟩
    clear cV hb1 k1 k2 k3 hx0 hb0
    go_wp2_with fail
    refine (cA _ (ZH HR.out hb)).mono ?_
    rintro e w2 ⟨v2, rfl, ho2, hb2⟩
    have hb3 := WO hb hb2
    have k3 := (hb2.cell (p := ⟨w.heap.size, 3, none⟩) hlt).trans k3'
    have k1 := (hb2.cell (p := ⟨w.heap.size, 1, none⟩) hlt).trans k1'
    have hlt2 : w.heap.size < w2.heap.size := Nat.lt_of_lt_of_le hlt hb2.size
    obtain ⟨a2, c2, rfl, s2, -⟩ := Own.sl ho2
    clear k1' k3' k0 hb hb2 ho2 cA
    go_wp2_with fail
    have hc1 : M2.length + B.length ≤ 140737488355328 := by omega
    have hwr : IntKind.u64.wrap (B.length : Int) = (B.length : Int) := by rw [IntKind.wrap_u64]; omega
    go_region_held3 (fun wx => wx.cell? ⟨w.heap.size, 3, none⟩ = some (.slice b B.length d)) (first | exact k6 | exact k5 | exact k3) (first
      | (go_at_call 68; refine (cB _ _ w2.drew s2).mono ?_; rintro e w5 ⟨v5, rfl, lX, hb5⟩; have k5 := (hb5.cell (p := ⟨w.heap.size, 3, none⟩) hlt2).trans k3; have hb6 := WO hb3.drew hb5)
      | (refine Q8 rfl _ _ 50 rfl w2.heap.size i0 Try.underlying50 HI.out HZ0.out HZ1.out HZ2.out _ _ _ rfl lX b B.length d B rfl rfl (ZH HS.out hb6) hc1 hb5.size ?_; intro v6 w6 ho6 hgrow; have hb7 := XT (w0 := w) hb3.size hb6.size lX hb6 hgrow; have k6 := wY hgrow lX hlt2 k5))
    have HO : Hid (Own w6 w.heap.size v6 (L ++ encI num 2 0 B)) := by
      rw [Nz.out]
      show w6.ownsRow _ _ _ _ _ _
      rw [List.length_append, List.map_append]
      exact own_base ho6 hb3.size
    clear cB ho6 hgrow hb6 s2 lX hb5
    go_wp2
    go_ret2
    exact ⟨_, rfl, HO.out, hb7⟩
def Fs (w : World) (a : Option Addr) (ps : List (Zp × Value)) : Prop :=
  ∀ i p, ps[i]? = some p → ∃ b off ba bc, a = some ⟨b, off, none⟩ ∧ p.2 = .slice ba p.1.bytes.length bc ∧ Sl w ba bc p.1.bytes ∧ Box w b (off + i * 4) p.1.num p.1.kind p.1.val ba p.1.bytes.length bc
theorem Zz {P : Program} {ops : Array Oper} {rest : List Oper} {o : Oper} {a : Act} {w : World} {Q : Exit → Act → World → Prop} (hgd : o.guard = none) (d : Option Tmp) (hd : o.dst = d)
    (v : Value) (w2 : World) (hr : (execOp a.eval o).run P w = .ok (.value v) w2) (k : wpList P ops Q rest (a.put d v) w2) : wpList P ops Q (o :: rest) a w := by
  rw [← hd] at k
  apply wpList_plain hgd
  intro K hK
  rw [Oper.wp, hr, Oper.upon_value]
  exact hK _ _ k
theorem ZF {P : Program} {id : Nat} {Q : Exit → Act → World → Prop} {a : Act} {w : World} {l : List Oper} (C : World → Prop) (hm : P.follows .mixedOrders = true) (hB : Region.lexB .any l.toArray = true) (hC : C { w with drawn := w.drawn + 1 })
    (h : wpQuiet P l.toArray C (fun a' => ∀ w', C w' → Q .normal a' w') l a) : (Code.region id l.toArray true).wp P Q a w :=
  wp_region_quiet (C := C) hm hB hC (by simpa using h)
theorem pu1 (a : Act) (t : Tmp) (v : Value) : a.put (some t) v = { a with tmps := a.tmps.setIfInBounds t v } := rfl
theorem pu2 {α : Type} (l : List α) (i : Nat) (x : α) : l.toArray.setIfInBounds i x = (l.set i x).toArray := List.setIfInBounds_toArray ..
theorem Ug {α : Type} (l : List α) (i : Nat) (x y : α) : (x :: l).set (i + 1) y = x :: l.set i y := rfl
theorem Uf {α : Type} (l : List α) (x y : α) : (x :: l).set 0 y = y :: l := rfl
theorem Y4 {P : Program} {w : World} {ops : Array Oper} {rest : List Oper} {o : Oper} {a : Act} {Q : Exit → Act → World → Prop} (hgd : o.guard = none) (d : Option Tmp) (hd : o.dst = d) (ty : TypeId) (hty : o.type = ty) (s x : Operand) (t : TypeId)
    (ho : o.op = .call { callee := .builtin .append, args := #[s, x], argTypes := #[t, t] }) (v u v' : Value) (w' : World) (hs : a.eval s = v) (hx : a.eval x = u)
    (hr : (Builtin.append_ #[t, t] ty #[v, u]).run P w = .ok v' w') (k : wpList P ops Q rest (a.put d v') w') : wpList P ops Q (o :: rest) a w := by
  subst hd
  subst hty
  refine wpList_plain hgd fun K hK => ?_
  unfold Oper.wp execOp
  simp only [ho, resolve, invoke, builtin, Sem.run_bind, Sem.run_pure, Result.andThen_ok, List.map_toArray, List.map_cons, List.map_nil, hs, hx, hr]
  exact hK _ _ k
section
variable {P : Program} {ops : Array Oper} {rest : List Oper} {o : Oper} {a : Act} {w : World} {Q : Exit → Act → World → Prop}
theorem Zg (hw : Region.wanted o (yielded ops a.tmps) = true) (d : Option Tmp) (hd : o.dst = d) (v : Value) (hr : (execOp a.eval o).run P w = .ok (.value v) w) (k : wpList P ops Q rest (a.put d v) w) : wpList P ops Q (o :: rest) a w := by
  rw [← hd] at k
  apply wpList_step
  intro K hK
  rw [if_pos hw, Oper.wp, hr, Oper.upon_value]
  exact hK _ _ k
theorem UZ (hw : Region.wanted o (yielded ops a.tmps) = true) (d : Option Tmp) (hd : o.dst = d) (v : Value) (w2 : World) (hr : (execOp a.eval o).run P w = .ok (.value v) w2) (k : wpList P ops Q rest (a.put d v) w2) : wpList P ops Q (o :: rest) a w := by
  rw [← hd] at k
  apply wpList_step
  intro K hK
  rw [if_pos hw, Oper.wp, hr, Oper.upon_value]
  exact hK _ _ k
theorem oN (hw : Region.wanted o (yielded ops a.tmps) = false) (d : Option Tmp) (hd : o.dst = d) (k : wpList P ops Q rest (a.put d undef) w) : wpList P ops Q (o :: rest) a w := by
  rw [← hd] at k
  exact wpList_skip hw k
theorem wX (hw : Region.wanted o (yielded ops a.tmps) = true) (d : Option Tmp) (hd : o.dst = d) (f : FuncId) (args : Array Value) (v : Value) (S : World → Prop) (hr : (execOp a.eval o).run P w = .ok (.enter f args) w)
    (hc : Calls P f args w fun e w' => e = .returned v ∧ S w') (k : ∀ w', S w' → wpList P ops Q rest (a.put d v) w') : wpList P ops Q (o :: rest) a w := by
  rw [← hd] at k
  apply wpList_step
  intro K hK
  rw [if_pos hw, Oper.wp, hr]
  refine hc.mono ?_
  rintro e w' ⟨rfl, hS⟩
  exact hK _ _ (k w' hS)
theorem QK (hw : Region.wanted o (yielded ops a.tmps) = true) (d : Option Tmp) (hd : o.dst = d) (ty : TypeId) (x : Operand) (ho : o.op = .load ty x) (ad : Addr) (v : Value)
    (hx : a.eval x = .pointer (some ad)) (hl : (Instr.loadAt ty (.pointer (some ad))).run P w = .ok v w) (k : wpList P ops Q rest (a.put d v) w) : wpList P ops Q (o :: rest) a w := by
  refine Zg hw d hd v ?_ k
  unfold execOp
  simp only [ho, hx, Sem.run_bind, hl]
  rfl
theorem Lj (hw : Region.wanted o (yielded ops a.tmps) = true) (d : Option Tmp) (hd : o.dst = d) (ty : TypeId) (x h : Operand) (ho : o.op = .slice ty x none (some h) none) (vx vh v : Value) (hx : a.eval x = vx) (hh : a.eval h = vh)
    (hs : (Instr.sliceAt ty vx none (some vh) none).run P w = .ok v w) (k : wpList P ops Q rest (a.put d v) w) : wpList P ops Q (o :: rest) a w := by
  refine Zg hw d hd v ?_ k
  unfold execOp
  simp only [ho, hx, hh, Option.map_some, Option.map_none, Sem.run_bind, hs]
  rfl
theorem Zh (hw : Region.wanted o (yielded ops a.tmps) = true) (d : Option Tmp) (hd : o.dst = d) (t : TypeId) (len : Nat) (parts : Array (Nat × Operand)) (ho : o.op = .buildSlice t len parts)
    (vs : Array (Nat × Value)) (hp : (parts.map fun (i, x) => (i, a.eval x)) = vs) (v : Value) (w2 : World) (hr : (Instr.buildSlice t len vs).run P w = .ok v w2) (k : wpList P ops Q rest (a.put d v) w2) : wpList P ops Q (o :: rest) a w := by
  refine UZ hw d hd v w2 ?_ k
  unfold execOp
  simp only [ho, Sem.run_bind, hp, hr, Result.andThen_ok]
  rfl
end
section
variable {P : Program} {C : World → Prop} {ops : Array Oper} {Q : Act → Prop} {a : Act} {o : Oper} {rest : List Oper}
theorem Jf (hw : Region.wanted o (yielded ops a.tmps) = true) (d : Option Tmp) (hd : o.dst = d) (v : Value) (hr : ∀ w, C w → (execOp a.eval o).run P w = .ok (.value v) w) (h : wpQuiet P ops C Q rest (a.put d v)) : wpQuiet P ops C Q (o :: rest) a := by
  rw [← hd] at h
  unfold wpQuiet
  rw [if_pos hw]
  refine ⟨v, fun w hC => ?_, h⟩
  unfold Oper.quietAt
  rw [hr w hC]
  exact ⟨rfl, rfl⟩
theorem oM (hw : Region.wanted o (yielded ops a.tmps) = false) (d : Option Tmp) (hd : o.dst = d) (h : wpQuiet P ops C Q rest (a.put d undef)) : wpQuiet P ops C Q (o :: rest) a := by
  rw [← hd] at h
  unfold wpQuiet
  rw [if_neg (by rw [hw]; decide)]
  exact h
theorem GY (hw : Region.wanted o (yielded ops a.tmps) = true) (d : Option Tmp) (hd : o.dst = d) (f : FuncId) (args : Array Value) (v : Value) (hr : ∀ w, C w → (execOp a.eval o).run P w = .ok (.enter f args) w)
    (hc : ∀ w, C w → Calls P f args w (fun e w'' => e = .returned v ∧ C w'')) (h : wpQuiet P ops C Q rest (a.put d v)) : wpQuiet P ops C Q (o :: rest) a := by
  rw [← hd] at h
  unfold wpQuiet
  rw [if_pos hw]
  refine ⟨v, fun w hC => ?_, h⟩
  unfold Oper.quietAt
  rw [hr w hC]
  exact ⟨rfl, hc w hC⟩
theorem wW (hw : Region.wanted o (yielded ops a.tmps) = true) (d : Option Tmp) (hd : o.dst = d) (ty : TypeId) (x : Operand) (ho : o.op = .load ty x) (ad : Addr) (v : Value)
    (hx : a.eval x = .pointer (some ad)) (hl : ∀ w, C w → (Instr.loadAt ty (.pointer (some ad))).run P w = .ok v w) (h : wpQuiet P ops C Q rest (a.put d v)) : wpQuiet P ops C Q (o :: rest) a := by
  refine Jf hw d hd v (fun w hC => ?_) h
  unfold execOp
  simp only [ho, hx, Sem.run_bind, hl w hC]
  rfl
end
theorem Bz {P : Program} {ops : Array Oper} {rest : List Oper} {o : Oper} {a : Act} {w : World} {Q : Exit → Act → World → Prop} (hw : Region.wanted o (yielded ops a.tmps) = true) (d : Option Tmp) (hd : o.dst = d) (f : FuncId) (args : Array Value) (S : Value → World → Prop) (hr : (execOp a.eval o).run P w = .ok (.enter f args) w)
    (hc : Calls P f args w fun e w' => ∃ v, e = .returned v ∧ S v w') (k : ∀ v w', S v w' → wpList P ops Q rest (a.put d v) w') : wpList P ops Q (o :: rest) a w := by
  rw [← hd] at k
  apply wpList_step
  intro K hK
  rw [if_pos hw, Oper.wp, hr]
  refine hc.mono ?_
  rintro e w' ⟨v, rfl, hS⟩
  exact hK _ _ (k v w' hS)
theorem Rt {P : Program} {ops : Array Oper} {rest : List Oper} {o : Oper} {a : Act} {w : World} {Q : Exit → Act → World → Prop} (hw : Region.wanted o (yielded ops a.tmps) = true) (d : Option Tmp) (hd : o.dst = d) (ty : TypeId) (x l : Operand) (ho : o.op = .slice ty x (some l) none none) (vx vl v : Value) (hx : a.eval x = vx) (hl : a.eval l = vl)
    (hs : (Instr.sliceAt ty vx (some vl) none none).run P w = .ok v w) (k : wpList P ops Q rest (a.put d v) w) : wpList P ops Q (o :: rest) a w := by
  refine Zg hw d hd v ?_ k
  unfold execOp
  simp only [ho, hx, hl, Option.map_some, Option.map_none, Sem.run_bind, hs]
  rfl
section
variable {P : Program} {Q : Exit → Act → World → Prop} {ops : Array Oper}
def Bv (ops : Array Oper) : Bool := (List.range ops.size).all fun i => ((ops[i]?).map fun o => o.after.all fun e => !Region.binds .any e || decide (e.on < i)).getD true
theorem Qe {listed : Array Bool} (hb : Bv ops = true) (hs : listed.size = ops.size) (h : Region.ready .any ops listed = []) : listed = Array.replicate ops.size true := by
  have key : ∀ i, i < ops.size → listed.getD i false = true := by
    intro i
    induction i using Nat.strongRecOn with
    | ind i ih =>
      intro hi
      by_cases hl : listed.getD i false = true
      · exact hl
      · exfalso
        have hlt : i < listed.size := by omega
        have hl2 : listed.getD i true = false := by
          simp only [Array.getD, hlt, dif_pos] at hl ⊢
          simpa using hl
        have hm : i ∈ Region.ready .any ops listed := by
          rw [mem_ready]
          refine ⟨hl2, ops[i], by simp [hi], fun e he hbe => ?_⟩
          have hbi := List.all_eq_true.1 hb i (List.mem_range.2 hi)
          rw [Array.getElem?_eq_getElem hi] at hbi
          have hlt2 : e.on < i := by
            have := (Array.all_eq_true_iff_forall_mem.1 hbi) e he
            rw [hbe] at this
            simpa using this
          exact ih e.on hlt2 (by omega)
        rw [h] at hm
        cases hm
  apply Array.ext
  · rw [hs]; simp
  · intro i h1 h2
    have := key i (by omega)
    simp only [Array.getD, h1, dif_pos] at this
    simpa using this
theorem Y5 {id : Nat} {a : Act} {w : World} (J : Array Bool → Act → World → Prop) (hm : P.follows .mixedOrders = true) (hb : Bv ops = true)
    (h0 : J (Array.replicate ops.size false) a { w with drawn := w.drawn + 1 })
    (hstep : ∀ i listed a w, i < ops.size → i ∈ Region.ready .any ops listed → J listed a w → wpOp P ops Q i (J (listed.setIfInBounds i true)) a w)
    (hend : ∀ a w, J (Array.replicate ops.size true) a w → Q .normal a w) : (Code.region id ops true).wp P Q a w := by
  refine wp_region_any hm ?_
  have key : ∀ (fuel : Nat) (listed : Array Bool) (a : Act) (w : World), listed.size = ops.size → listed.count false ≤ fuel → J listed a w → wpAny P .any ops Q fuel listed a w := by
    intro fuel
    induction fuel with
    | zero =>
      intro listed a w hs hc hJ
      have hall : listed = Array.replicate ops.size true := by
        apply Array.ext
        · rw [hs]; simp
        · intro i h1 h2
          have h3 : false ∉ listed := Array.count_eq_zero.1 (by omega)
          have h4 : listed[i] ≠ false := fun h => h3 (h ▸ Array.getElem_mem h1)
          simpa using h4
      have hr : Region.ready .any ops listed = [] := by
        rw [List.eq_nil_iff_forall_not_mem]
        intro j hj
        obtain ⟨h1, o, ho, -⟩ := mem_ready.1 hj
        have hjs : j < ops.size := (Array.getElem?_eq_some_iff.1 ho).1
        rw [hall] at h1
        simp [hjs] at h1
      exact ⟨hr, hend _ _ (hall ▸ hJ)⟩
    | succ fuel ih =>
      intro listed a w hs hc hJ
      refine ⟨fun h => hend _ _ ?_, fun i hi => ?_⟩
      · rw [← Qe hb hs h]; exact hJ
      · obtain ⟨h1, o, ho, -⟩ := mem_ready.1 hi
        have his : i < ops.size := (Array.getElem?_eq_some_iff.1 ho).1
        refine wpOp_mono (fun a' w' hJ' => ih _ a' w' (by rw [Array.size_setIfInBounds]; exact hs) ?_ hJ') (hstep i listed a w his hi hJ)
        have hil : i < listed.size := by omega
        have hf : listed[i] = false := by
          simp only [Array.getD, hil, dif_pos] at h1
          exact h1
        rw [Array.setIfInBounds_def, dif_pos hil, Array.count_set, hf]
        have : 0 < listed.count false := Array.count_pos_iff.2 (hf ▸ Array.getElem_mem hil)
        simp
        omega
  refine key _ _ _ _ (by simp) ?_ h0
  rw [Array.count_replicate]
  simp
theorem ZW {i : Nat} {listed : Array Bool} (h : i ∈ Region.ready .any ops listed) (k : Nat) (hk : ((ops[i]?).map fun o => o.after.any fun e => Region.binds .any e && e.on == k).getD false = true := by kernel_rfl) : listed.getD k false = true := by
  obtain ⟨-, o, ho, hall⟩ := mem_ready.1 h
  rw [ho] at hk
  simp only [Option.map_some, Option.getD_some] at hk
  obtain ⟨j, hj, hk⟩ := Array.any_eq_true.1 hk
  simp only [Bool.and_eq_true, beq_iff_eq] at hk
  rw [← hk.2]
  exact hall _ (Array.getElem_mem hj) hk.1
theorem ZX {i : Nat} {listed : Array Bool} (h : i ∈ Region.ready .any ops listed) : listed.getD i true = false := (mem_ready.1 h).1
variable {i : Nat} {o : Oper} {a : Act} {w : World} {K : Act → World → Prop}
theorem LM (hi : ops[i]? = some o) (hw : Region.wanted o (yielded ops a.tmps) = true) (h : Oper.wp P o a w K Q) : wpOp P ops Q i K a w := by
  unfold wpOp
  rw [hi]
  simp only
  rw [if_pos hw]
  exact .inl h
theorem ZO (hi : ops[i]? = some o) (hw : Region.wanted o (yielded ops a.tmps) = true) (d : Option Tmp) (hd : o.dst = d) (v : Value) (w2 : World) (hr : (execOp a.eval o).run P w = .ok (.value v) w2) (h : K (a.put d v) w2) : wpOp P ops Q i K a w := by
  rw [← hd] at h
  refine LM hi hw ?_
  rw [Oper.wp, hr, Oper.upon_value]
  exact h
theorem XD (hi : ops[i]? = some o) (hw : Region.wanted o (yielded ops a.tmps) = true) (d : Option Tmp) (hd : o.dst = d) (f : FuncId) (args : Array Value) (hr : (execOp a.eval o).run P w = .ok (.enter f args) w)
    (hc : Calls P f args w fun e w' => ∃ v, e = .returned v ∧ K (a.put d v) w') : wpOp P ops Q i K a w := by
  rw [← hd] at hc
  refine LM hi hw ?_
  rw [Oper.wp, hr]
  refine hc.mono ?_
  rintro e w' ⟨v, rfl, h⟩
  exact h
theorem Y7 (hi : ops[i]? = some o) (hw : Region.wanted o (yielded ops a.tmps) = true) (d : Option Tmp) (hd : o.dst = d) (ty : TypeId) (x : Operand) (ho : o.op = .load ty x) (ad : Addr) (v : Value)
    (hx : a.eval x = .pointer (some ad)) (hl : (Instr.loadAt ty (.pointer (some ad))).run P w = .ok v w) (h : K (a.put d v) w) : wpOp P ops Q i K a w := by
  refine ZO hi hw d hd v w ?_ h
  unfold execOp
  simp only [ho, hx, Sem.run_bind, hl]
  rfl
theorem RF (hi : ops[i]? = some o) (hw : Region.wanted o (yielded ops a.tmps) = true) (d : Option Tmp) (hd : o.dst = d) (ty : TypeId) (x y : Operand) (ho : o.op = .slice ty x none (some y) none) (vx vh v : Value) (hx : a.eval x = vx) (hh : a.eval y = vh)
    (hs : (Instr.sliceAt ty vx none (some vh) none).run P w = .ok v w) (h : K (a.put d v) w) : wpOp P ops Q i K a w := by
  refine ZO hi hw d hd v w ?_ h
  unfold execOp
  simp only [ho, hx, hh, Option.map_some, Option.map_none, Sem.run_bind, hs]
  rfl
theorem XA (hi : ops[i]? = some o) (hw : Region.wanted o (yielded ops a.tmps) = true) (d : Option Tmp) (hd : o.dst = d) (ty : TypeId) (x y : Operand) (ho : o.op = .slice ty x (some y) none none) (vx vh v : Value) (hx : a.eval x = vx) (hh : a.eval y = vh)
    (hs : (Instr.sliceAt ty vx (some vh) none none).run P w = .ok v w) (h : K (a.put d v) w) : wpOp P ops Q i K a w := by
  refine ZO hi hw d hd v w ?_ h
  unfold execOp
  simp only [ho, hx, hh, Option.map_some, Option.map_none, Sem.run_bind, hs]
  rfl
theorem Xw (hi : ops[i]? = some o) (hw : Region.wanted o (yielded ops a.tmps) = true) (d : Option Tmp) (hd : o.dst = d) (t : TypeId) (len : Nat) (parts : Array (Nat × Operand)) (ho : o.op = .buildSlice t len parts)
    (vs : Array (Nat × Value)) (hp : (parts.map fun (i, x) => (i, a.eval x)) = vs) (v : Value) (w2 : World) (hr : (Instr.buildSlice t len vs).run P w = .ok v w2) (h : K (a.put d v) w2) : wpOp P ops Q i K a w := by
  refine ZO hi hw d hd v w2 ?_ h
  unfold execOp
  simp only [ho, Sem.run_bind, hp, hr, Result.andThen_ok]
  rfl
theorem XK (hi : ops[i]? = some o) (hw : Region.wanted o (yielded ops a.tmps) = true) (d : Option Tmp) (hd : o.dst = d) (ty : TypeId) (hty : o.type = ty) (s x : Operand) (t : TypeId)
    (ho : o.op = .call { callee := .builtin .append, args := #[s, x], argTypes := #[t, t] }) (v u v' : Value) (w' : World) (hs : a.eval s = v) (hx : a.eval x = u)
    (hr : (Builtin.append_ #[t, t] ty #[v, u]).run P w = .ok v' w') (h : K (a.put d v') w') : wpOp P ops Q i K a w := by
  subst hd
  subst hty
  refine LM hi hw ?_
  unfold Oper.wp execOp
  simp only [ho, resolve, invoke, builtin, Sem.run_bind, Sem.run_pure, Result.andThen_ok, List.map_toArray, List.map_cons, List.map_nil, hs, hx, hr]
  exact h
end
theorem pu : (∀ (a : Act) (t : Tmp) (v : Value), a.put (some t) v = { a with tmps := a.tmps.setIfInBounds t v }) ∧ (∀ (l : List Value) (i : Nat) (x : Value), l.toArray.setIfInBounds i x = (l.set i x).toArray) ∧ (∀ (x : Value) (l : List Value) (n : Nat) (v : Value), (x :: l).set (n + 1) v = x :: l.set n v) ∧ (∀ (x : Value) (l : List Value) (v : Value), (x :: l).set 0 v = v :: l) :=
  ⟨fun _ _ _ => rfl, fun _ _ _ => List.setIfInBounds_toArray .., fun _ _ _ _ => rfl, fun _ _ _ => rfl⟩
section
variable {P : Program} {ops : Array Oper} {rest : List Oper} {o o1 o2 o3 o4 o5 o6 o7 o8 : Oper} {a : Act} {w : World} {Q : Exit → Act → World → Prop}
def Qd (P : Program) (ops : Array Oper) : List Oper → Act → World → Option (Act × World)
  | [], a, w => some (a, w)
  | o :: l, a, w => bif Region.wanted o (yielded ops a.tmps) then
      match (execOp a.eval o).run P w with
      | .ok (.value v) w' => Qd P ops l (a.put o.dst v) w'
      | _ => none
    else Qd P ops l (a.put o.dst undef) w
theorem WB : ∀ (l : List Oper) (a : Act) (w : World) (a' : Act) (w' : World), Qd P ops l a w = some (a', w') → wpList P ops Q rest a' w' → wpList P ops Q (l ++ rest) a w
  | [], a, w, a', w', h, k => by
    simp only [Qd, Option.some.injEq, Prod.mk.injEq] at h
    obtain ⟨rfl, rfl⟩ := h
    exact k
  | o :: l, a, w, a', w', h, k => by
    unfold Qd at h
    cases hw : Region.wanted o (yielded ops a.tmps) with
    | true =>
      rw [hw, cond_true] at h
      split at h
      · rename_i v w2 hr
        exact UZ hw o.dst rfl v w2 hr (WB l _ _ a' w' h k)
      · exact absurd h (by simp)
    | false =>
      rw [hw, cond_false] at h
      exact oN hw o.dst rfl (WB l _ _ a' w' h k)
theorem ZV {d1 : Option Tmp} (v1 : Value) (k : wpList P ops Q rest (a.put d1 v1) w) (e1 : o1.dst = d1 := by rfl) (h : Qd P ops [o1] a w = some ((a.put d1 v1), w) := by kernel_rfl) : wpList P ops Q (o1 :: rest) a w := by
  subst e1
  exact WB [o1] a w _ _ h k
theorem ZG {d1 d2 : Option Tmp} (v1 v2 : Value) (k : wpList P ops Q rest ((a.put d1 v1).put d2 v2) w) (e1 : o1.dst = d1 := by rfl) (e2 : o2.dst = d2 := by rfl) (h : Qd P ops [o1, o2] a w = some (((a.put d1 v1).put d2 v2), w) := by kernel_rfl) : wpList P ops Q (o1 :: o2 :: rest) a w := by
  subst e1 e2
  exact WB [o1, o2] a w _ _ h k
theorem YT {d1 d2 d3 : Option Tmp} (v1 v2 v3 : Value) (k : wpList P ops Q rest (((a.put d1 v1).put d2 v2).put d3 v3) w) (e1 : o1.dst = d1 := by rfl) (e2 : o2.dst = d2 := by rfl) (e3 : o3.dst = d3 := by rfl) (h : Qd P ops [o1, o2, o3] a w = some ((((a.put d1 v1).put d2 v2).put d3 v3), w) := by kernel_rfl) : wpList P ops Q (o1 :: o2 :: o3 :: rest) a w := by
  subst e1 e2 e3
  exact WB [o1, o2, o3] a w _ _ h k
theorem Xl {d1 d2 d3 d4 : Option Tmp} (v1 v2 v3 v4 : Value) (k : wpList P ops Q rest ((((a.put d1 v1).put d2 v2).put d3 v3).put d4 v4) w) (e1 : o1.dst = d1 := by rfl) (e2 : o2.dst = d2 := by rfl) (e3 : o3.dst = d3 := by rfl) (e4 : o4.dst = d4 := by rfl) (h : Qd P ops [o1, o2, o3, o4] a w = some (((((a.put d1 v1).put d2 v2).put d3 v3).put d4 v4), w) := by kernel_rfl) : wpList P ops Q (o1 :: o2 :: o3 :: o4 :: rest) a w := by
  subst e1 e2 e3 e4
  exact WB [o1, o2, o3, o4] a w _ _ h k
theorem Sz {d1 d2 d3 d4 d5 : Option Tmp} (v1 v2 v3 v4 v5 : Value) (k : wpList P ops Q rest (((((a.put d1 v1).put d2 v2).put d3 v3).put d4 v4).put d5 v5) w) (e1 : o1.dst = d1 := by rfl) (e2 : o2.dst = d2 := by rfl) (e3 : o3.dst = d3 := by rfl) (e4 : o4.dst = d4 := by rfl) (e5 : o5.dst = d5 := by rfl) (h : Qd P ops [o1, o2, o3, o4, o5] a w = some ((((((a.put d1 v1).put d2 v2).put d3 v3).put d4 v4).put d5 v5), w) := by kernel_rfl) : wpList P ops Q (o1 :: o2 :: o3 :: o4 :: o5 :: rest) a w := by
  subst e1 e2 e3 e4 e5
  exact WB [o1, o2, o3, o4, o5] a w _ _ h k
theorem YX {d1 d2 d3 d4 d5 d6 : Option Tmp} (v1 v2 v3 v4 v5 v6 : Value) (k : wpList P ops Q rest ((((((a.put d1 v1).put d2 v2).put d3 v3).put d4 v4).put d5 v5).put d6 v6) w) (e1 : o1.dst = d1 := by rfl) (e2 : o2.dst = d2 := by rfl) (e3 : o3.dst = d3 := by rfl) (e4 : o4.dst = d4 := by rfl) (e5 : o5.dst = d5 := by rfl) (e6 : o6.dst = d6 := by rfl) (h : Qd P ops [o1, o2, o3, o4, o5, o6] a w = some (((((((a.put d1 v1).put d2 v2).put d3 v3).put d4 v4).put d5 v5).put d6 v6), w) := by kernel_rfl) : wpList P ops Q (o1 :: o2 :: o3 :: o4 :: o5 :: o6 :: rest) a w := by
  subst e1 e2 e3 e4 e5 e6
  exact WB [o1, o2, o3, o4, o5, o6] a w _ _ h k
theorem YO {d : Option Tmp} (v : Value) (hr : (execOp a.eval o).run P w = .ok (.value v) w) (k : wpList P ops Q rest (a.put d v) w) (hd : o.dst = d := by rfl) (hw : Region.wanted o (yielded ops a.tmps) = true := by kernel_rfl) : wpList P ops Q (o :: rest) a w := Zg hw d hd v hr k
theorem ZI {d : Option Tmp} {ty : TypeId} {x : Operand} (ho : o.op = .load ty x) (ad : Addr) (v : Value) (hl : (Instr.loadAt ty (.pointer (some ad))).run P w = .ok v w) (k : wpList P ops Q rest (a.put d v) w) (hd : o.dst = d := by rfl) (hw : Region.wanted o (yielded ops a.tmps) = true := by kernel_rfl) (hx : a.eval x = .pointer (some ad) := by kernel_rfl) : wpList P ops Q (o :: rest) a w := QK hw d hd ty x ho ad v hx hl k
theorem Y2 {d : Option Tmp} (v : Value) (S : World → Prop) {f : FuncId} {args : Array Value} (hc : Calls P f args w fun e w' => e = .returned v ∧ S w') (k : ∀ w', S w' → wpList P ops Q rest (a.put d v) w') (hd : o.dst = d := by rfl) (hw : Region.wanted o (yielded ops a.tmps) = true := by kernel_rfl) (hr : (execOp a.eval o).run P w = .ok (.enter f args) w := by kernel_rfl) : wpList P ops Q (o :: rest) a w := wX hw d hd f args v S hr hc k
theorem Yl {d : Option Tmp} (S : Value → World → Prop) {f : FuncId} {args : Array Value} (hc : Calls P f args w fun e w' => ∃ v, e = .returned v ∧ S v w') (k : ∀ v w', S v w' → wpList P ops Q rest (a.put d v) w') (hd : o.dst = d := by rfl) (hw : Region.wanted o (yielded ops a.tmps) = true := by kernel_rfl) (hr : (execOp a.eval o).run P w = .ok (.enter f args) w := by kernel_rfl) : wpList P ops Q (o :: rest) a w := Bz hw d hd f args S hr hc k
theorem YN {d : Option Tmp} {x y : Operand} {X Y : Value} (v : Value) (hr : a.eval x = X → a.eval y = Y → ∀ w, (execOp a.eval o).run P w = .ok (.value v) w) (k : wpList P ops Q rest (a.put d v) w) (hd : o.dst = d := by rfl) (hw : Region.wanted o (yielded ops a.tmps) = true := by kernel_rfl) (hx : a.eval x = X := by kernel_rfl) (hy : a.eval y = Y := by kernel_rfl) : wpList P ops Q (o :: rest) a w := Zg hw d hd v (hr hx hy w) k
theorem ZM {d : Option Tmp} {x y : Operand} {X Y v : Value} (hr : a.eval x = X → a.eval y = Y → ∀ w, (execOp a.eval o).run P w = .ok (.value v) w) (k : wpList P ops Q rest (a.put d v) w) (hd : o.dst = d := by rfl) (hw : Region.wanted o (yielded ops a.tmps) = true := by kernel_rfl) (hx : a.eval x = X := by kernel_rfl) (hy : a.eval y = Y := by kernel_rfl) : wpList P ops Q (o :: rest) a w := Zg hw d hd v (hr hx hy w) k
theorem dT {p : Prop} [Decidable p] (h : p := by omega) : decide p = true := decide_eq_true h
theorem dF {p : Prop} [Decidable p] (h : ¬p := by omega) : decide p = false := decide_eq_false h
theorem wl {id : Nat} {l : List Oper} (h : wpList P l.toArray Q l a w) : (Code.region id l.toArray false).wp P Q a w := wp_region_lit h
theorem wn (h : Q .normal a w) : wpList P ops Q [] a w := wpList_nil h
end
section
variable {P : Program} {C : World → Prop} {ops : Array Oper} {Q : Act → Prop} {a : Act} {o : Oper} {rest : List Oper}
theorem gy {d : Option Tmp} (v : Value) (k : wpQuiet P ops C Q rest (a.put d v)) (hd : o.dst = d := by rfl) (hw : Region.wanted o (yielded ops a.tmps) = true := by kernel_rfl) (hr : ∀ w, (execOp a.eval o).run P w = .ok (.value v) w := by intro w; kernel_rfl) : wpQuiet P ops C Q (o :: rest) a := Jf hw d hd v (fun w _ => hr w) k
theorem SB {d : Option Tmp} (k : wpQuiet P ops C Q rest (a.put d undef)) (hd : o.dst = d := by rfl) (hw : Region.wanted o (yielded ops a.tmps) = false := by kernel_rfl) : wpQuiet P ops C Q (o :: rest) a := oM hw d hd k
theorem X3 {d : Option Tmp} (v : Value) (hr : ∀ w, C w → (execOp a.eval o).run P w = .ok (.value v) w) (k : wpQuiet P ops C Q rest (a.put d v)) (hd : o.dst = d := by rfl) (hw : Region.wanted o (yielded ops a.tmps) = true := by kernel_rfl) : wpQuiet P ops C Q (o :: rest) a := Jf hw d hd v hr k
theorem UN {d : Option Tmp} {ty : TypeId} {x : Operand} (ho : o.op = .load ty x) (ad : Addr) (v : Value) (hl : ∀ w, C w → (Instr.loadAt ty (.pointer (some ad))).run P w = .ok v w) (k : wpQuiet P ops C Q rest (a.put d v)) (hd : o.dst = d := by rfl) (hw : Region.wanted o (yielded ops a.tmps) = true := by kernel_rfl) (hx : a.eval x = .pointer (some ad) := by kernel_rfl) : wpQuiet P ops C Q (o :: rest) a := wW hw d hd ty x ho ad v hx hl k
end
def nums (s : ByteArray) : List Int := s.data.toList.map fun x => (x.toNat : Int)
theorem Zx (s : ByteArray) : (nums s).length = s.size := by
 unfold nums
 rw [List.length_map, Array.length_toList]
 rfl
theorem GZ (s : ByteArray) (i : Nat) (h : i < s.size) : (nums s).getD i 0 = ((s[i]'h).toNat : Int) := by
 have h2 : i < s.data.toList.length := by rw [Array.length_toList]; exact h
 unfold nums
 rw [getD_lt _ i 0 (by simpa using h2), List.getElem_map]
 rfl
theorem FQ (s : ByteArray) : ∀ x, x ∈ nums s → W8 x := by
 intro x hx
 obtain ⟨b, -, rfl⟩ := List.mem_map.1 hx
 have := b.toNat_lt
 exact ⟨by omega, by omega⟩
theorem Lc (L : List Int) (h : ∀ x, x ∈ L → W8 x) : nums (strOfNums L) = L := by
 unfold nums
 rw [strOfNums_data, List.map_map]
 conv => rhs; rw [← List.map_id L]
 apply List.map_congr_left
 intro x hx
 obtain ⟨h0, h1⟩ := h x hx
 simp
 omega
theorem Qu (s : ByteArray) : strOfNums (nums s) = s := by
 apply ByteArray.ext
 apply Array.toList_inj.1
 rw [strOfNums_data, nums, List.map_map]
 conv => rhs; rw [← List.map_id s.data.toList]
 apply List.map_congr_left
 intro x _
 simp
theorem Fv (s : ByteArray) (i : Nat) (h : i < s.size) (w : World) : (Instr.index 9 (.string s) (Z8 (i : Int))).run Try.prog w = .ok (.int .u8 ((nums s).getD i 0)) w := by
 have hc : 0 ≤ (i : Int) ∧ (i : Int) < s.size := by omega
 rw [run_index_string _ _ _ _ _ Try.underlying9, dif_pos hc, GZ s i h]
 rfl
end Go.Proofs.Ytnhlpahoomcgnaa
