/-
 The walk of EvictOrders.
-/
import Derived.Test.YtgkckblcekbafaaWC
namespace Go.Proofs.Ytgkckblcekbafaa
attribute [local irreducible] wpList wpQuiet
open Go.RowKit
set_option maxRecDepth 100000
set_option linter.unusedSimpArgs false
set_option linter.unusedVariables false

/-- What is asked of a list of entries that is put in order. -/
structure Few (X : List (En × Ad)) : Prop where
 l : X.length ≤ 1000
 r : rawL (lE X) ≤ 40000000
 b : ∀ x ∈ X, x.1.raw.length ≤ 60000 ∧ x.1.prs.length ≤ 60000
theorem few_small {X : List (En × Ad)} (h : X.length + szL (lE X) < 200) : Few X := by
 refine ⟨by omega, by have := raw_sz (lE X); omega, fun x hx => ?_⟩
 have h1 : x.1 ∈ lE X := List.mem_map.2 ⟨x, hx, rfl⟩
 have h2 := sz_mem h1
 have h3 : szE x.1 = x.1.raw.length + x.1.snd.size + x.1.prs.length := rfl
 omega
theorem few_made {X : List (En × Ad)} (h : X.length ≤ 10 ∧ (∀ x ∈ X, x.1.snd ∈ nms ∧ x.1.raw.length ≤ 8 ∧ x.1.prs.length ≤ 2) ∧ rawL (lE X) ≤ 80) : Few X :=
 ⟨by have := h.1; omega, by have := h.2.2; omega, fun x hx => by have := h.2.1 x hx; omega⟩
theorem Few.eb {X : List (En × Ad)} (h : Few X) : EBs (ordL (lE X)) := fun i hi => by
 have h1 : (ordL (lE X)).getD i zEn ∈ lE X := (ordL_perm X).mem_iff.1 (by rw [List.getD_eq_getElem?_getD, List.getElem?_eq_getElem hi]; exact List.getElem_mem hi)
 obtain ⟨x, hx, e⟩ := List.mem_map.1 h1
 rw [← e]
 exact h.b x hx
/-- Both orders of entries, and that they are the same. -/
structure Ord2 (X : List (En × Ad)) (a : Option Addr) (c : Nat) : Prop where
 q : ∀ V, Xr V a X → Calls Try.prog 13 #[.slice a X.length c] V fun e w' => ∃ a2 c2 Y, e = .returned (.slice a2 X.length c2) ∧ Xr w' a2 Y ∧ Y.length = X.length ∧ lE Y = ordL (lE X) ∧ Below V.heap.size V w'
 r : ∀ V, Xr V a X → Calls Try.prog 14 #[.slice a X.length c] V fun e w' => ∃ a2 c2 Y, e = .returned (.slice a2 X.length c2) ∧ Xr w' a2 Y ∧ Y.length = X.length ∧ lE Y = ordL (lE X) ∧ Below V.heap.size V w'
 s : ∀ V a2 a3 c2 c3 Y Z, Xr V a2 Y → Xr V a3 Z → Y.length = X.length → Z.length = X.length → lE Y = ordL (lE X) → lE Z = ordL (lE X) → Calls Try.prog 12 #[.slice a2 X.length c2, .slice a3 X.length c3] V fun e w' => e = .returned (.bool true) ∧ Below V.heap.size V w'
theorem ord2 {X : List (En × Ad)} (h : Few X) (a : Option Addr) (c : Nat) : Ord2 X a c := by
 refine ⟨fun V hV => q_order hV (by have := h.l; omega) (fun x hx => by have := h.b x hx; omega), fun V hV => (r_order hV h.l).mono ?_, fun V a2 a3 c2 c3 Y Z h2 h3 e2 e3 e4 e5 => ?_⟩
 ·rintro e w' ⟨v, rfl, a2, c2, rfl, h2, -, -, h3⟩
  exact ⟨a2, c2, ordX X, by rw [ord_len], h2, ord_len X, lE_ord X, h3⟩
 ·have := same_ents (c := c2) (c2 := c3) h2 h3 (e4.trans e5.symm) (by rw [e2]; have := h.l; omega) (by rw [e4]; exact h.eb)
  rwa [e2, e3] at this
set_option maxRecDepth 100000 in
set_option maxHeartbeats 8000000 in
theorem orders_core {w : World} {a al : Option Addr} {c cl : Nat} {L : List Int} {XL : List (En × Ad)} (hk : Cs w a (icells L)) (hl : L.length ≤ 9223372036854775807) (hx : Xr w al XL) (hxl : XL.length ≤ 1000000) (hxs : szL (lE XL) ≤ 100000000000) : Calls Try.prog 3 #[.slice al XL.length cl, .slice a L.length c] w fun e w' => e = .returned (.bool true) ∧ Below w.heap.size w w' := by
 have HKK := Lib.hid hk
 have HXL := Lib.hid (fun V (hV : Below w.heap.size w V) => hx.below hV)
 have HXB := Lib.hid hx.lt
 have HSL : Hid (XL.length ≤ 1000000 ∧ szL (lE XL) ≤ 100000000000) := Lib.hid ⟨hxl, hxs⟩
 clear hk hx hxl hxs
 go_enter Try.func3, Try.ntmps3
 go_upto_region 1 with fail
 have hbd := one_row a L.length c w
 have hXl : Bx (w.alloc (.cells #[.slice a L.length c] 23)) w.heap.size #[.slice a L.length c] 23 := heap_alloc_last w _
 have hbl : Below w.heap.size w (w.alloc (.cells #[.slice a L.length c] 23)) := (Below.refl _ w).alloc (Nat.le_refl _) _
 have CL := long_one w.heap.size a L.length c _ hXl hl
 generalize w.alloc (.cells #[.slice a L.length c] 23) = W1 at *
 have HB0 := Lib.hid hbl
 clear hXl hbl
 by_cases hlong : 160 < L.length
 ·skip
  rw [decide_eq_true (by omega)] at CL
  refine wl <| gz1 (.slice a L.length c) ?_
  simp only [pu]
  refine gw_build (by kernel_rfl) (some 7) rfl 52 1 #[(0, .tmp 6)] rfl #[(0, .slice a L.length c)] (by kernel_rfl) (.slice (some ⟨w.heap.size, 0, none⟩) 1 1) _ hbd ?_
  simp only [pu]
  refine gzc (.bool true) (fun w' => W1 = w') (CL) (fun V9 hV9 => ?_)
  subst hV9
  simp only [pu]
  refine gz5 (.bool true) undef undef undef (.bool true) <| wn ?_
  simp only [pu]
  clear CL hbd
  have CK := known_true W1
  go_upto_region 2 with fail
  refine wl <| gzc (.bool true) (fun w' => Below W1.heap.size W1 w') (CK) (fun V2 hV2 => ?_)
  simp only [pu]
  refine gz1 (.bool true) <| wn ?_
  simp only [pu]
  have HE := Lib.hid (HB0.out.trans (hV2.mono HB0.out.size))
  go_wp2_with fail
  go_ret
  exact ⟨rfl, HE.out⟩
 ·skip
  rw [decide_eq_false (by omega)] at CL
  have hlong : L.length ≤ 160 := by omega
  have CR := k_raw (c := cl) (HXL.out W1 HB0.out) HSL.out.1 HSL.out.2
  by_cases hsm : XL.length + szL (lE XL) < 200
  ·skip
   rw [decide_eq_true (by omega)] at CR
   refine wl <| gz1 (.slice a L.length c) ?_
   simp only [pu]
   refine gw_build (by kernel_rfl) (some 7) rfl 52 1 #[(0, .tmp 6)] rfl #[(0, .slice a L.length c)] (by kernel_rfl) (.slice (some ⟨w.heap.size, 0, none⟩) 1 1) _ hbd ?_
   simp only [pu]
   refine gzc (.bool false) (fun w' => W1 = w') (CL) (fun V9 hV9 => ?_)
   subst hV9
   simp only [pu]
   refine gz2 (.bool false) (.slice al XL.length cl) <| gzc (.bool true) (fun w' => Below W1.heap.size W1 w') (CR) (fun W1b hW1 => ?_)
   simp only [pu]
   refine gz2 (.bool false) (.bool false) <| wn ?_
   simp only [pu]
   have HB1 := Lib.hid (HB0.out.trans (hW1.mono HB0.out.size))
   clear CL CR hbd hW1
   go_upto_region 3 with fail
   refine wl <| gz1 (.slice a L.length c) <| gzc (.pointer (some ⟨W1b.heap.size, 0, none⟩)) (fun w' => w' = W1b.alloc (.cells #[.slice a L.length c, .int .i64 0] 56)) (mk_from a L.length c W1b) (fun V9 hV9 => ?_)
   subst hV9
   obtain ⟨hnm, hbn⟩ := nm_start (c := c) HKK.out HB1.out
   generalize hWq : W1b.alloc (.cells #[.slice a L.length c, .int .i64 0] 56) = W2 at *
   obtain ⟨g0, hg0⟩ : ∃ q, W1b.heap.size = q := ⟨_, rfl⟩
   rw [hg0] at hnm ⊢
   have HG0 : Hid (w.heap.size ≤ g0 ∧ Below w.heap.size w W2) := Lib.hid ⟨by rw [← hg0]; exact HB1.out.size, hbn⟩
   have hes := mk_entries hnm (by omega) (by omega)
   clear hnm hbn hg0 hWq
   simp only [pu]
   refine gze (fun v w' => ∃ a2 c2 X N', v = .slice a2 X.length c2 ∧ EnS W2 w' g0 c a L N' (.slice a2 X.length c2) X ∧ X.length ≤ 10 ∧ N' ≤ 400) (hes.mono fun e9 w' z => by obtain ⟨a2, c2, X, N', h1, h2, h3, h4⟩ := z; exact ⟨_, h1, a2, c2, X, N', rfl, h2, h3, by omega⟩) (fun vv W3 hq => ?_)
   obtain ⟨a9, c9, X, N1, rfl, hS, hX10, hN1⟩ := hq
   have HXR := Lib.hid (fun V (hV : Below W3.heap.size W3 V) => hS.xr.below hV)
   have HEN : Hid (X.length ≤ 10 ∧ (∀ x ∈ X, x.1.snd ∈ nms ∧ x.1.raw.length ≤ 8 ∧ x.1.prs.length ≤ 2) ∧ rawL (lE X) ≤ 80) := Lib.hid ⟨hX10, hS.sz, raw_few hS.sz hX10⟩
   have HES := Lib.hid hS
   have HNN : Hid (N1 ≤ 400) := Lib.hid hN1
   have HB3 : Hid (Below w.heap.size w W3) := Lib.hid (HG0.out.2.trans (hS.but.1.mono HG0.out.1))
   clear hes hS hX10 hN1
   simp only [pu]
   refine gz1 (.slice a9 X.length c9) <| wn ?_
   simp only [pu]
   clear hlong
   have HO1 := Lib.hid (ord2 (few_small hsm) al cl)
   have HO2 := Lib.hid (ord2 (few_made HEN.out) a9 c9)
   clear hsm HES HEN HNN
   have HBC0 : Hid (Below w.heap.size w W3 ∧ Below W3.heap.size W3 W3) := Lib.hid ⟨HB3.out, Below.refl _ _⟩
   go_upto_region 4 with fail
   refine wl <| gz1 (.slice al XL.length cl) <|
    gze (fun vx w' => ∃ a2 c2 Y, vx = .slice a2 XL.length c2 ∧ Xr w' a2 Y ∧ Y.length = XL.length ∧ lE Y = ordL (lE XL) ∧ Below W3.heap.size W3 w') ((HO1.out.q W3 (HXL.out W3 HBC0.out.1)).mono fun e9 w' z => by obtain ⟨a2, c2, Y, h1, h2⟩ := z; exact ⟨_, h1, a2, c2, Y, rfl, h2⟩) (fun vv U1 hq => ?_)
   obtain ⟨ao1, co1, Y1, rfl, hy1, hl1, he1, hb1⟩ := hq
   have HBC1 : Hid (Below w.heap.size w U1 ∧ Below W3.heap.size W3 U1) := Lib.hid ⟨HBC0.out.1.trans (hb1.mono HBC0.out.1.size), HBC0.out.2.trans (hb1.mono HBC0.out.2.size)⟩
   clear hb1
   simp only [pu]
   refine gz1 (.slice al XL.length cl) <|
    gze (fun vx w' => ∃ a2 c2 Y, vx = .slice a2 XL.length c2 ∧ Xr w' a2 Y ∧ Y.length = XL.length ∧ lE Y = ordL (lE XL) ∧ Below U1.heap.size U1 w') ((HO1.out.r U1 (HXL.out U1 HBC1.out.1)).mono fun e9 w' z => by obtain ⟨a2, c2, Y, h1, h2⟩ := z; exact ⟨_, h1, a2, c2, Y, rfl, h2⟩) (fun vv U2 hq => ?_)
   obtain ⟨ao2, co2, Y2, rfl, hy2, hl2, he2, hb2⟩ := hq
   have HBC2 : Hid (Below w.heap.size w U2 ∧ Below W3.heap.size W3 U2) := Lib.hid ⟨HBC1.out.1.trans (hb2.mono HBC1.out.1.size), HBC1.out.2.trans (hb2.mono HBC1.out.2.size)⟩
   have hsa := HO1.out.s U2 ao1 ao2 co1 co2 Y1 Y2 (hy1.below hb2) hy2 hl1 hl2 he1 he2
   clear hb2 hy1 hy2 hl1 hl2 he1 he2
   simp only [pu]
   refine gzc (.bool true) (fun w' => Below U2.heap.size U2 w') (hsa) (fun U3 hb9 => ?_)
   have HBC3 : Hid (Below w.heap.size w U3 ∧ Below W3.heap.size W3 U3) := Lib.hid ⟨HBC2.out.1.trans (hb9.mono HBC2.out.1.size), HBC2.out.2.trans (hb9.mono HBC2.out.2.size)⟩
   clear hb9 hsa
   simp only [pu]
   refine gz2 (.bool true) (.slice a9 X.length c9) <|
    gze (fun vx w' => ∃ a2 c2 Y, vx = .slice a2 X.length c2 ∧ Xr w' a2 Y ∧ Y.length = X.length ∧ lE Y = ordL (lE X) ∧ Below U3.heap.size U3 w') ((HO2.out.q U3 (HXR.out U3 HBC3.out.2)).mono fun e9 w' z => by obtain ⟨a2, c2, Y, h1, h2⟩ := z; exact ⟨_, h1, a2, c2, Y, rfl, h2⟩) (fun vv U4 hq => ?_)
   obtain ⟨ao4, co4, Y4, rfl, hy4, hl4, he4, hb4⟩ := hq
   have HBC4 : Hid (Below w.heap.size w U4 ∧ Below W3.heap.size W3 U4) := Lib.hid ⟨HBC3.out.1.trans (hb4.mono HBC3.out.1.size), HBC3.out.2.trans (hb4.mono HBC3.out.2.size)⟩
   clear hb4
   simp only [pu]
   refine gz1 (.slice a9 X.length c9) <|
    gze (fun vx w' => ∃ a2 c2 Y, vx = .slice a2 X.length c2 ∧ Xr w' a2 Y ∧ Y.length = X.length ∧ lE Y = ordL (lE X) ∧ Below U4.heap.size U4 w') ((HO2.out.r U4 (HXR.out U4 HBC4.out.2)).mono fun e9 w' z => by obtain ⟨a2, c2, Y, h1, h2⟩ := z; exact ⟨_, h1, a2, c2, Y, rfl, h2⟩) (fun vv U5 hq => ?_)
   obtain ⟨ao5, co5, Y5, rfl, hy5, hl5, he5, hb5⟩ := hq
   have HBC5 : Hid (Below w.heap.size w U5 ∧ Below W3.heap.size W3 U5) := Lib.hid ⟨HBC4.out.1.trans (hb5.mono HBC4.out.1.size), HBC4.out.2.trans (hb5.mono HBC4.out.2.size)⟩
   have hsa := HO2.out.s U5 ao4 ao5 co4 co5 Y4 Y5 (hy4.below hb5) hy5 hl4 hl5 he4 he5
   clear hb5 hy4 hy5 hl4 hl5 he4 he5
   simp only [pu]
   refine gzc (.bool true) (fun w' => Below U5.heap.size U5 w') (hsa) (fun U6 hb9 => ?_)
   have HBC6 : Hid (Below w.heap.size w U6 ∧ Below W3.heap.size W3 U6) := Lib.hid ⟨HBC5.out.1.trans (hb9.mono HBC5.out.1.size), HBC5.out.2.trans (hb9.mono HBC5.out.2.size)⟩
   clear hb9 hsa
   have hkn := known_true U6
   simp only [pu]
   refine gz2 (.bool true) (.bool true) <| gzc (.bool true) (fun w' => Below U6.heap.size U6 w') (hkn) (fun U7 hb9 => ?_)
   have HE := Lib.hid (HBC6.out.1.trans (hb9.mono HBC6.out.1.size))
   clear hb9 hkn
   simp only [pu]
   refine gz2 (.bool true) (.bool true) <| wn ?_
   simp only [pu]
   go_wp2_with fail
   go_ret
   exact ⟨rfl, HE.out⟩
  ·skip
   rw [decide_eq_false (by omega)] at CR
   refine wl <| gz1 (.slice a L.length c) ?_
   simp only [pu]
   refine gw_build (by kernel_rfl) (some 7) rfl 52 1 #[(0, .tmp 6)] rfl #[(0, .slice a L.length c)] (by kernel_rfl) (.slice (some ⟨w.heap.size, 0, none⟩) 1 1) _ hbd ?_
   simp only [pu]
   refine gzc (.bool false) (fun w' => W1 = w') (CL) (fun V9 hV9 => ?_)
   subst hV9
   simp only [pu]
   refine gz2 (.bool false) (.slice al XL.length cl) <| gzc (.bool false) (fun w' => Below W1.heap.size W1 w') (CR) (fun W1b hW1 => ?_)
   simp only [pu]
   refine gz2 (.bool true) (.bool true) <| wn ?_
   simp only [pu]
   have HB1 := Lib.hid (HB0.out.trans (hW1.mono HB0.out.size))
   clear CL CR hbd hW1
   have CK := known_true W1b
   go_upto_region 2 with fail
   refine wl <| gzc (.bool true) (fun w' => Below W1b.heap.size W1b w') (CK) (fun V2 hV2 => ?_)
   simp only [pu]
   refine gz1 (.bool true) <| wn ?_
   simp only [pu]
   have HE := Lib.hid (HB1.out.trans (hV2.mono HB1.out.size))
   go_wp2_with fail
   go_ret
   exact ⟨rfl, HE.out⟩
end Go.Proofs.Ytgkckblcekbafaa
