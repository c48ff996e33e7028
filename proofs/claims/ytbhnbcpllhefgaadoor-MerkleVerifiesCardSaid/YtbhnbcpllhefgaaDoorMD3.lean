/-
  The walk of the statement that every path is accepted, over what the program's functions are held to.
-/
import Derived.Test.YtbhnbcpllhefgaaDoorMD1
namespace Go.Proofs.YtbhnbcpllhefgaaDoor
open Go.RowKit
set_option linter.unusedSimpArgs false

/-- What the statement knows of its world. -/
def D3C (w : World) (a5 : Option Addr) (g : Nat) (m : List (List Int)) (R : List Int) (V : World) : Prop := Glob V ∧ Ab V g 24 R ∧ RB V a5 m ∧ Below w.heap.size w V
theorem D3C.below {w V V' : World} {a5 : Option Addr} {g : Nat} {m : List (List Int)} {R : List Int} (h : D3C w a5 g m R V) (hb : Below V.heap.size V V') : D3C w a5 g m R V' :=
  ⟨h.1.below h.1.size hb, h.2.1.below h.2.1.lt hb, h.2.2.1.below hb, h.2.2.2.trans (hb.mono h.2.2.2.size)⟩

set_option maxRecDepth 100000 in
set_option maxHeartbeats 4000000 in
theorem verifies_core (hk : Kept) (a0 : Option Addr) (c0 : Nat) (L : List Int) (n : Int) (w : World)
    (hc0 : L.length ≤ c0) (hs0 : Sl w a0 c0 L) (hb0 : ∀ x, x ∈ L → W8 x) (hn : W8 n) (hG : Glob w) :
    Calls Tryd.prog 5 #[.slice a0 L.length c0, .int .u8 n] w fun e w' => e = .returned (.bool true) ∧ Below w.heap.size w w' := by
  have hKN := hk.known
  obtain ⟨cR, -, -, cP, cV⟩ := hk
  obtain ⟨k, hk1, hk2⟩ := mod20 n hn
  by_cases hm : 100 < L.length
  · have hd : decide (100 < (L.length : Int)) = true := decide_eq_true (by omega)
    have KN := hKN w hG
    clear hs0 hb0 hc0
    generalize L.length = m at *
    go_enter Tryd.func5, Tryd.ntmps5
    go_wp2_with (go_at_call 8; refine KN.mono ?_; rintro e w9 ⟨rfl, hb9⟩)
    have HB := Lib.hid hb9
    clear hb9
    go_ret
    exact ⟨rfl, HB.out⟩
  · have hd : decide (100 < (L.length : Int)) = false := decide_eq_false (by omega)
    have CLV := leaves_any L a0 c0 n k w hs0 hc0 hb0 (by omega) hn.1 hk1 hk2
    have HLV := Lib.hid (lvL_len L k)
    have HG := Lib.hid hG
    generalize lvL L k = lv at *
    clear hs0 hb0 hG
    generalize L.length = m at *
    go_enter Tryd.func5, Tryd.ntmps5
    go_upto_region 4 with (go_at_call 9; refine CLV.mono ?_; rintro e w1 ⟨_, rfl, ⟨a5, c5, rfl, hR5, h5⟩, hb5⟩)
    have CR := (cR lv a5 c5 w1 (HG.out.below HG.out.size hb5) (by rw [HLV.out]; omega) (by rw [HLV.out]; exact h5) hR5)
    rw [HLV.out] at CR
    have VP := Lib.hid (fun i hi => ver_path lv i hi)
    have hR32 := (root_byte lv).1
    have HR8 := Lib.hid (root_byte lv).2
    generalize rootL lv = R at *
    have HG1 := Lib.hid (HG.out.below HG.out.size hb5)
    have hsR : (w8s R).size = 32 := by rw [size_w8s, hR32]
    have HR32 := Lib.hid hR32
    clear hR32 CLV HG
    apply wp_region_lit
    refine gw_val (by kernel_rfl) (some 18) rfl (.slice a5 k c5) (by kernel_rfl) ?_
    simp only [Act.put, List.setIfInBounds_toArray, List.set_cons_succ, List.set_cons_zero]
    refine gw_call (by kernel_rfl) (some 19) rfl 10 #[.slice a5 k c5] (.agg (w8s R)) (Below w1.heap.size w1) (by kernel_rfl) CR (fun w2 hb2 => ?_)
    simp only [Act.put, List.setIfInBounds_toArray, List.set_cons_succ, List.set_cons_zero]
    refine run_to rfl (some 6) rfl (.pointer (some ⟨w2.heap.size, 0, none⟩)) (w2.alloc (.cells (w8s (List.replicate 32 0)) 24)) (by kernel_rfl) ?_
    simp only [Act.put, List.setIfInBounds_toArray, List.set_cons_succ, List.set_cons_zero]
    apply wpList_store_new (w := w2) (ty := 24) (x := .tmp 6) (y := .tmp 19) (c := w8s (List.replicate 32 0)) (c' := w8s R)
    case hgd => rfl
    case ho => rfl
    case hx => kernel_rfl
    case hy => kernel_rfl
    case hi => rw [hsR]; kernel_rfl
    case hz => rw [hsR]; rfl
    case h1 => exact one_w8s _
    apply wpList_nil
    have hb3 := (Below.refl _ w2).alloc (Nat.le_refl _) (.cells (w8s R) 24)
    have hC0 : D3C w a5 w2.heap.size lv R (w2.alloc (.cells (w8s R) 24)) := ⟨(HG1.out.below HG1.out.size hb2).below (HG1.out.below HG1.out.size hb2).size hb3, heap_alloc_last _ _, (hR5.below hb2).below hb3, (hb5.trans (hb2.mono hb5.size)).trans (hb3.mono (Nat.le_trans hb5.size hb2.size))⟩
    generalize w2.alloc (.cells (w8s R) 24) = V0 at *
    generalize w2.heap.size = g0 at *
    have HC0 := Lib.hid hC0
    clear hC0 hb2 hb3 hR5 hb5 CR hsR HG1 w1
    go_wp2_with fail
    go_loopg [22] k (fun g s22 wx => ∃ i : Nat, i ≤ k ∧ s22 = .int .i64 i ∧ D3C w a5 g0 lv R wx ∧ k - i = g)
    case atStart => exact ⟨0, by omega, rfl, HC0.out, rfl⟩
    case round =>
      clear HC0
      obtain ⟨i, hi, rfl, hC, hgk⟩ := hrel
      by_cases hlt : i < k
      · have hpr := prL_in lv i (by rw [HLV.out]; exact hlt)
        have CP := cP lv a5 c5 i wr hC.1 (by rw [HLV.out]; omega) (by rw [HLV.out]; exact h5) hC.2.2.1 (by omega) (by omega)
        rw [hpr, HLV.out] at CP
        have hpl := path_len 1000 lv i (by rw [HLV.out]; omega)
        have hpb := path_byte _ lv i (Nat.le_refl _)
        have hv := VP.out i (by rw [HLV.out]; exact hlt)
        rw [HLV.out] at hv
        obtain ⟨b, off, ai, ci, rfl, hb, xc, hSi, hci, hx8, hx3⟩ := hC.2.2.1 i (by rw [HLV.out]; exact hlt)
        have CV := fun V (h : D3C w (some ⟨b, off, none⟩) g0 lv R V) (hS : Sl V ai ci (lv.getD i [])) a c (hK : Rk V a (pathL lv i)) (hcc : (pathL lv i).length ≤ c) => cV R (lv.getD i []) ai ci i k a c (pathL lv i) V h.1 HR32.out HR8.out hS hci hx8 hx3 (by omega) (by omega) (by omega) (by omega) (fun q hq => (hpb q hq).2) (by omega) hcc hK
        rw [hv] at CV
        generalize pathL lv i = P at *
        generalize lv.getD i [] = x at *
        generalize x.length = xl at *
        have HC := Lib.hid hC
        have HSi := Lib.hid hSi
        have HPL := Lib.hid hpl
        clear hC hSi hpr hpb hv hpl hx8 VP hci hx3
        go_upto_region 8 with fail
        apply wp_region_lit
        refine gw_val (by kernel_rfl) (some 28) rfl (.slice (some ⟨b, off, none⟩) k c5) (by kernel_rfl) ?_
        simp only [Act.put, List.setIfInBounds_toArray, List.set_cons_succ, List.set_cons_zero]
        refine gw_val (by kernel_rfl) (some 29) rfl (.int .i64 i) (by kernel_rfl) ?_
        simp only [Act.put, List.setIfInBounds_toArray, List.set_cons_succ, List.set_cons_zero]
        refine gw_callE (by kernel_rfl) (some 30) rfl 16 #[.slice (some ⟨b, off, none⟩) k c5, .int .i64 i] (fun v w' => ∃ a c, v = .tuple #[.slice a P.length c, .bool true] ∧ Rk w' a P ∧ P.length ≤ c ∧ Below wr.heap.size wr w') (by kernel_rfl) (CP.mono fun e w' h => by obtain ⟨a, c, he, h⟩ := h; exact ⟨_, he, a, c, rfl, h⟩) (fun v V1 hq => ?_)
        obtain ⟨a9, c9, rfl, hK9, h9, hb9⟩ := hq
        have hC1 := HC.out.below hb9
        have hS1 := sl_below HSi.out hb9
        clear CP
        simp only [Act.put, List.setIfInBounds_toArray, List.set_cons_succ, List.set_cons_zero]
        refine gw_val (by kernel_rfl) (some 27) rfl (.tuple #[.slice a9 P.length c9, .bool true]) (by kernel_rfl) ?_
        simp only [Act.put, List.setIfInBounds_toArray, List.set_cons_succ, List.set_cons_zero]
        refine gw_val (by kernel_rfl) (some 31) rfl (.slice a9 P.length c9) (by kernel_rfl) ?_
        simp only [Act.put, List.setIfInBounds_toArray, List.set_cons_succ, List.set_cons_zero]
        refine gw_val (by kernel_rfl) (some 32) rfl (.bool true) (by kernel_rfl) ?_
        simp only [Act.put, List.setIfInBounds_toArray, List.set_cons_succ, List.set_cons_zero]
        refine gw_val (by kernel_rfl) (some 9) rfl (.slice a9 P.length c9) (by kernel_rfl) ?_
        simp only [Act.put, List.setIfInBounds_toArray, List.set_cons_succ, List.set_cons_zero]
        refine gw_val (by kernel_rfl) (some 10) rfl (.bool true) (by kernel_rfl) ?_
        simp only [Act.put, List.setIfInBounds_toArray, List.set_cons_succ, List.set_cons_zero]
        apply wpList_nil
        go_upto_region 9 with fail
        apply wp_region_lit
        refine gw_val (by kernel_rfl) (some 33) rfl (.bool true) (by kernel_rfl) ?_
        simp only [Act.put, List.setIfInBounds_toArray, List.set_cons_succ, List.set_cons_zero]
        refine gw_val (by kernel_rfl) (some 34) rfl (.bool false) (by kernel_rfl) ?_
        simp only [Act.put, List.setIfInBounds_toArray, List.set_cons_succ, List.set_cons_zero]
        refine gw_val (by kernel_rfl) (some 35) rfl (.bool false) (by kernel_rfl) ?_
        simp only [Act.put, List.setIfInBounds_toArray, List.set_cons_succ, List.set_cons_zero]
        refine gw_load (by kernel_rfl) (some 36) rfl 24 (.tmp 6) rfl ⟨g0, 0, none⟩ (.agg (w8s R)) (by kernel_rfl) (load_key hC1.2.1 HR32.out) ?_
        simp only [Act.put, List.setIfInBounds_toArray, List.set_cons_succ, List.set_cons_zero]
        refine gw_val (by kernel_rfl) (some 37) rfl (.slice ai xl ci) (by kernel_rfl) ?_
        simp only [Act.put, List.setIfInBounds_toArray, List.set_cons_succ, List.set_cons_zero]
        refine gw_val (by kernel_rfl) (some 38) rfl (.int .i64 i) (by kernel_rfl) ?_
        simp only [Act.put, List.setIfInBounds_toArray, List.set_cons_succ, List.set_cons_zero]
        refine gw_val (by kernel_rfl) (some 39) rfl (.slice (some ⟨b, off, none⟩) k c5) (by kernel_rfl) ?_
        simp only [Act.put, List.setIfInBounds_toArray, List.set_cons_succ, List.set_cons_zero]
        refine gw_val (by kernel_rfl) (some 40) rfl (.int .i64 k) (by kernel_rfl) ?_
        simp only [Act.put, List.setIfInBounds_toArray, List.set_cons_succ, List.set_cons_zero]
        refine gw_val (by kernel_rfl) (some 41) rfl (.slice a9 P.length c9) (by kernel_rfl) ?_
        simp only [Act.put, List.setIfInBounds_toArray, List.set_cons_succ, List.set_cons_zero]
        refine gw_call (by kernel_rfl) (some 42) rfl 19 #[.agg (w8s R), .slice ai xl ci, .int .i64 i, .int .i64 k, .slice a9 P.length c9] (.bool true) (Below V1.heap.size V1) (by kernel_rfl) (CV V1 hC1 hS1 a9 c9 hK9 h9) (fun V2 hb2 => ?_)
        have hC2 := hC1.below hb2
        have HC2 := Lib.hid hC2
        clear hC1 hC2 hb2 hb9 hK9 hS1 CV HC HSi
        simp only [Act.put, List.setIfInBounds_toArray, List.set_cons_succ, List.set_cons_zero]
        refine gw_val (by kernel_rfl) (some 43) rfl (.bool false) (by kernel_rfl) ?_
        simp only [Act.put, List.setIfInBounds_toArray, List.set_cons_succ, List.set_cons_zero]
        refine gw_val (by kernel_rfl) (some 44) rfl (.bool false) (by kernel_rfl) ?_
        simp only [Act.put, List.setIfInBounds_toArray, List.set_cons_succ, List.set_cons_zero]
        apply wpList_nil
        go_wp2_with fail
        go_roundg (k - (i + 1))
        case measure => omega
        case rel => exact ⟨i + 1, by omega, by go_num, HC2.out, rfl⟩
      · obtain rfl : i = k := by omega
        have KN := hKN wr hC.1
        have HB0 := Lib.hid hC.2.2.2
        clear hC VP
        go_wp2_with (go_at_call 8; refine KN.mono ?_; rintro e w9 ⟨rfl, hb9⟩)
        have HB := Lib.hid (HB0.out.trans (hb9.mono HB0.out.size))
        clear hb9
        go_ret
        exact ⟨rfl, HB.out⟩
end Go.Proofs.YtbhnbcpllhefgaaDoor
