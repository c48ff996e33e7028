/-
 The walk of EvictOrders up to the reach of a reading; entries as an argument within it.
-/
import Derived.Test.YtgkckblcekbafaaP1
import Derived.Test.YtgkckblcekbafaaBG
import Derived.Test.YtgkckblcekbafaaWC
namespace Go.Proofs.Ytgkckblcekbafaa.Bg
attribute [local irreducible] wpList wpQuiet
open Go.RowKit
set_option maxRecDepth 100000
set_option linter.unusedSimpArgs false
set_option linter.unusedVariables false

/-- What is asked of a list of entries that is put in order. -/
structure Few (X : List (En × Ad)) : Prop where
 l : X.length ≤ 977343669105
 b : ∀ x ∈ X, x.1.raw.length ≤ 140737488355328 ∧ x.1.prs.length * 8 ≤ 140737488355328
theorem few_made {X : List (En × Ad)} (h : X.length ≤ 10 ∧ (∀ x ∈ X, x.1.snd ∈ nms ∧ x.1.raw.length ≤ 8 ∧ x.1.prs.length ≤ 2) ∧ rawL (lE X) ≤ 80) : Few X :=
 ⟨by have := h.1; omega, fun x hx => by have := h.2.1 x hx; omega⟩
theorem Few.eb {X : List (En × Ad)} (h : Few X) : EBs (ordL (lE X)) := fun i hi => by
 have h1 : (ordL (lE X)).getD i zEn ∈ lE X := (ordL_perm X).mem_iff.1 (by rw [List.getD_eq_getElem?_getD, List.getElem?_eq_getElem hi]; exact List.getElem_mem hi)
 obtain ⟨x, hx, e⟩ := List.mem_map.1 h1
 rw [← e]
 have := h.b x hx
 exact ⟨by omega, by omega⟩
structure Ord2 (X : List (En × Ad)) (a : Option Addr) (c : Nat) : Prop where
 q : ∀ V, Xr V a X → Calls Try.prog 13 #[.slice a X.length c] V fun e w' => ∃ a2 c2 Y, e = .returned (.slice a2 X.length c2) ∧ Xr w' a2 Y ∧ Y.length = X.length ∧ lE Y = ordL (lE X) ∧ Below V.heap.size V w'
 r : ∀ V, Xr V a X → Calls Try.prog 14 #[.slice a X.length c] V fun e w' => ∃ a2 c2 Y, e = .returned (.slice a2 X.length c2) ∧ Xr w' a2 Y ∧ Y.length = X.length ∧ lE Y = ordL (lE X) ∧ Below V.heap.size V w'
 s : ∀ V a2 a3 c2 c3 Y Z, Xr V a2 Y → Xr V a3 Z → Y.length = X.length → Z.length = X.length → lE Y = ordL (lE X) → lE Z = ordL (lE X) → Calls Try.prog 12 #[.slice a2 X.length c2, .slice a3 X.length c3] V fun e w' => e = .returned (.bool true) ∧ Below V.heap.size V w'
theorem ord2 {X : List (En × Ad)} (h : Few X) (a : Option Addr) (c : Nat) : Ord2 X a c := by
 refine ⟨fun V hV => q_order hV (by have := h.l; omega) h.b, fun V hV => (r_order hV h.l).mono ?_, fun V a2 a3 c2 c3 Y Z h2 h3 e2 e3 e4 e5 => ?_⟩
 ·rintro e w' ⟨v, rfl, a2, c2, rfl, h2, -, -, h3⟩
  exact ⟨a2, c2, ordX X, by rw [ord_len], h2, ord_len X, lE_ord X, h3⟩
 ·have := same_ents (c := c2) (c2 := c3) h2 h3 (e4.trans e5.symm) (by rw [e2]; have := h.l; omega) (by rw [e4]; exact h.eb)
  rwa [e2, e3] at this
set_option maxRecDepth 100000 in
set_option maxHeartbeats 8000000 in
theorem orders_core {w : World} {a al : Option Addr} {c cl : Nat} {L : List Int} {XL : List (En × Ad)} (hk : Cs w a (icells L)) (hl : L.length ≤ 9223372036854775807) (hx : Xr w al XL) (hF : Few XL) : Calls Try.prog 3 #[.slice al XL.length cl, .slice a L.length c] w fun e w' => e = .returned (.bool true) ∧ Below w.heap.size w w' := by
 have HKK := Lib.hid hk
 have HXL := Lib.hid (fun V (hV : Below w.heap.size w V) => hx.below hV)
 have HXB := Lib.hid hx.lt
 have HFW := Lib.hid hF
 clear hk hx hF
 go_enter Try.func3, Try.ntmps3
 go_upto_region 1 with fail
 have hbd := one_row a L.length c w
 have hXl : Bx (w.alloc (.cells #[.slice a L.length c] 23)) w.heap.size #[.slice a L.length c] 23 := heap_alloc_last w _
 have hbl : Below w.heap.size w (w.alloc (.cells #[.slice a L.length c] 23)) := (Below.refl _ w).alloc (Nat.le_refl _) _
 have CL := long_one w.heap.size a L.length c _ hXl hl
 generalize w.alloc (.cells #[.slice a L.length c] 23) = W1 at *
 have HB0 := Lib.hid hbl
 clear hXl hbl
 by_cases hlong : 160 < L.length
 ·skip
  rw [decide_eq_true (by omega)] at CL
  refine wl <| gz1 (.slice a L.length c) ?_
  simp only [pu]
  refine gw_build (by kernel_rfl) (some 7) rfl 52 1 #[(0, .tmp 6)] rfl #[(0, .slice a L.length c)] (by kernel_rfl) (.slice (some ⟨w.heap.size, 0, none⟩) 1 1) _ hbd ?_
  simp only [pu]
  refine gzc (.bool true) (fun w' => W1 = w') (CL) (fun V9 hV9 => ?_)
  subst hV9
  simp only [pu]
  refine gz5 (.bool true) undef undef undef (.bool true) <| wn ?_
  simp only [pu]
  clear CL hbd
  have CK := known_true W1
  go_upto_region 2 with fail
  refine wl <| gzc (.bool true) (fun w' => Below W1.heap.size W1 w') (CK) (fun V2 hV2 => ?_)
  simp only [pu]
  refine gz1 (.bool true) <| wn ?_
  simp only [pu]
  have HE := Lib.hid (HB0.out.trans (hV2.mono HB0.out.size))
  go_wp2_with fail
  go_ret
  exact ⟨rfl, HE.out⟩
 ·skip
  rw [decide_eq_false (by omega)] at CL
  have hlong : L.length ≤ 160 := by omega
  have CR := k_raw (c := cl) (HXL.out W1 HB0.out) HFW.out.l
  by_cases hsm : szV XL.length (lE XL) < 200
  ·skip
   rw [decide_eq_true hsm] at CR
   refine wl <| gz1 (.slice a L.length c) ?_
   simp only [pu]
   refine gw_build (by kernel_rfl) (some 7) rfl 52 1 #[(0, .tmp 6)] rfl #[(0, .slice a L.length c)] (by kernel_rfl) (.slice (some ⟨w.heap.size, 0, none⟩) 1 1) _ hbd ?_
   simp only [pu]
   refine gzc (.bool false) (fun w' => W1 = w') (CL) (fun V9 hV9 => ?_)
   subst hV9
   simp only [pu]
   refine gz2 (.bool false) (.slice al XL.length cl) <| gzc (.bool true) (fun w' => Below W1.heap.size W1 w') (CR) (fun W1b hW1 => ?_)
   simp only [pu]
   refine gz2 (.bool false) (.bool false) <| wn ?_
   simp only [pu]
   have HB1 := Lib.hid (HB0.out.trans (hW1.mono HB0.out.size))
   clear CL CR hbd hW1
   go_upto_region 3 with fail
   refine wl <| gz1 (.slice a L.length c) <| gzc (.pointer (some ⟨W1b.heap.size, 0, none⟩)) (fun w' => w' = W1b.alloc (.cells #[.slice a L.length c, .int .i64 0] 56)) (mk_from a L.length c W1b) (fun V9 hV9 => ?_)
   subst hV9
   obtain ⟨hnm, hbn⟩ := nm_start (c := c) HKK.out HB1.out
   generalize hWq : W1b.alloc (.cells #[.slice a L.length c, .int .i64 0] 56) = W2 at *
   obtain ⟨g0, hg0⟩ : ∃ q, W1b.heap.size = q := ⟨_, rfl⟩
   rw [hg0] at hnm ⊢
   have HG0 : Hid (w.heap.size ≤ g0 ∧ Below w.heap.size w W2) := Lib.hid ⟨by rw [← hg0]; exact HB1.out.size, hbn⟩
   have hes := mk_entries hnm (by omega) (by omega)
   clear hnm hbn hg0 hWq
   simp only [pu]
   refine gze (fun v w' => ∃ a2 c2 X N', v = .slice a2 X.length c2 ∧ EnS W2 w' g0 c a L N' (.slice a2 X.length c2) X ∧ X.length ≤ 10 ∧ N' ≤ 400) (hes.mono fun e9 w' z => by obtain ⟨a2, c2, X, N', h1, h2, h3, h4⟩ := z; exact ⟨_, h1, a2, c2, X, N', rfl, h2, h3, by omega⟩) (fun vv W3 hq => ?_)
   obtain ⟨a9, c9, X, N1, rfl, hS, hX10, hN1⟩ := hq
   have HXR := Lib.hid (fun V (hV : Below W3.heap.size W3 V) => hS.xr.below hV)
   have HEN : Hid (X.length ≤ 10 ∧ (∀ x ∈ X, x.1.snd ∈ nms ∧ x.1.raw.length ≤ 8 ∧ x.1.prs.length ≤ 2) ∧ rawL (lE X) ≤ 80) := Lib.hid ⟨hX10, hS.sz, raw_few hS.sz hX10⟩
   have HES := Lib.hid hS
   have HNN : Hid (N1 ≤ 400) := Lib.hid hN1
   have HB3 : Hid (Below w.heap.size w W3) := Lib.hid (HG0.out.2.trans (hS.but.1.mono HG0.out.1))
   clear hes hS hX10 hN1
   simp only [pu]
   refine gz1 (.slice a9 X.length c9) <| wn ?_
   simp only [pu]
   clear hlong
   have HO1 := Lib.hid (ord2 (HFW.out) al cl)
   have HO2 := Lib.hid (ord2 (few_made HEN.out) a9 c9)
   clear hsm HES HEN HNN
   have HBC0 : Hid (Below w.heap.size w W3 ∧ Below W3.heap.size W3 W3) := Lib.hid ⟨HB3.out, Below.refl _ _⟩
   go_upto_region 4 with fail
   refine wl <| gz1 (.slice al XL.length cl) <|
    gze (fun vx w' => ∃ a2 c2 Y, vx = .slice a2 XL.length c2 ∧ Xr w' a2 Y ∧ Y.length = XL.length ∧ lE Y = ordL (lE XL) ∧ Below W3.heap.size W3 w') ((HO1.out.q W3 (HXL.out W3 HBC0.out.1)).mono fun e9 w' z => by obtain ⟨a2, c2, Y, h1, h2⟩ := z; exact ⟨_, h1, a2, c2, Y, rfl, h2⟩) (fun vv U1 hq => ?_)
   obtain ⟨ao1, co1, Y1, rfl, hy1, hl1, he1, hb1⟩ := hq
   have HBC1 : Hid (Below w.heap.size w U1 ∧ Below W3.heap.size W3 U1) := Lib.hid ⟨HBC0.out.1.trans (hb1.mono HBC0.out.1.size), HBC0.out.2.trans (hb1.mono HBC0.out.2.size)⟩
   clear hb1
   simp only [pu]
   refine gz1 (.slice al XL.length cl) <|
    gze (fun vx w' => ∃ a2 c2 Y, vx = .slice a2 XL.length c2 ∧ Xr w' a2 Y ∧ Y.length = XL.length ∧ lE Y = ordL (lE XL) ∧ Below U1.heap.size U1 w') ((HO1.out.r U1 (HXL.out U1 HBC1.out.1)).mono fun e9 w' z => by obtain ⟨a2, c2, Y, h1, h2⟩ := z; exact ⟨_, h1, a2, c2, Y, rfl, h2⟩) (fun vv U2 hq => ?_)
   obtain ⟨ao2, co2, Y2, rfl, hy2, hl2, he2, hb2⟩ := hq
   have HBC2 : Hid (Below w.heap.size w U2 ∧ Below W3.heap.size W3 U2) := Lib.hid ⟨HBC1.out.1.trans (hb2.mono HBC1.out.1.size), HBC1.out.2.trans (hb2.mono HBC1.out.2.size)⟩
   have hsa := HO1.out.s U2 ao1 ao2 co1 co2 Y1 Y2 (hy1.below hb2) hy2 hl1 hl2 he1 he2
   clear hb2 hy1 hy2 hl1 hl2 he1 he2
   simp only [pu]
   refine gzc (.bool true) (fun w' => Below U2.heap.size U2 w') (hsa) (fun U3 hb9 => ?_)
   have HBC3 : Hid (Below w.heap.size w U3 ∧ Below W3.heap.size W3 U3) := Lib.hid ⟨HBC2.out.1.trans (hb9.mono HBC2.out.1.size), HBC2.out.2.trans (hb9.mono HBC2.out.2.size)⟩
   clear hb9 hsa
   simp only [pu]
   refine gz2 (.bool true) (.slice a9 X.length c9) <|
    gze (fun vx w' => ∃ a2 c2 Y, vx = .slice a2 X.length c2 ∧ Xr w' a2 Y ∧ Y.length = X.length ∧ lE Y = ordL (lE X) ∧ Below U3.heap.size U3 w') ((HO2.out.q U3 (HXR.out U3 HBC3.out.2)).mono fun e9 w' z => by obtain ⟨a2, c2, Y, h1, h2⟩ := z; exact ⟨_, h1, a2, c2, Y, rfl, h2⟩) (fun vv U4 hq => ?_)
   obtain ⟨ao4, co4, Y4, rfl, hy4, hl4, he4, hb4⟩ := hq
   have HBC4 : Hid (Below w.heap.size w U4 ∧ Below W3.heap.size W3 U4) := Lib.hid ⟨HBC3.out.1.trans (hb4.mono HBC3.out.1.size), HBC3.out.2.trans (hb4.mono HBC3.out.2.size)⟩
   clear hb4
   simp only [pu]
   refine gz1 (.slice a9 X.length c9) <|
    gze (fun vx w' => ∃ a2 c2 Y, vx = .slice a2 X.length c2 ∧ Xr w' a2 Y ∧ Y.length = X.length ∧ lE Y = ordL (lE X) ∧ Below U4.heap.size U4 w') ((HO2.out.r U4 (HXR.out U4 HBC4.out.2)).mono fun e9 w' z => by obtain ⟨a2, c2, Y, h1, h2⟩ := z; exact ⟨_, h1, a2, c2, Y, rfl, h2⟩) (fun vv U5 hq => ?_)
   obtain ⟨ao5, co5, Y5, rfl, hy5, hl5, he5, hb5⟩ := hq
   have HBC5 : Hid (Below w.heap.size w U5 ∧ Below W3.heap.size W3 U5) := Lib.hid ⟨HBC4.out.1.trans (hb5.mono HBC4.out.1.size), HBC4.out.2.trans (hb5.mono HBC4.out.2.size)⟩
   have hsa := HO2.out.s U5 ao4 ao5 co4 co5 Y4 Y5 (hy4.below hb5) hy5 hl4 hl5 he4 he5
   clear hb5 hy4 hy5 hl4 hl5 he4 he5
   simp only [pu]
   refine gzc (.bool true) (fun w' => Below U5.heap.size U5 w') (hsa) (fun U6 hb9 => ?_)
   have HBC6 : Hid (Below w.heap.size w U6 ∧ Below W3.heap.size W3 U6) := Lib.hid ⟨HBC5.out.1.trans (hb9.mono HBC5.out.1.size), HBC5.out.2.trans (hb9.mono HBC5.out.2.size)⟩
   clear hb9 hsa
   have hkn := known_true U6
   simp only [pu]
   refine gz2 (.bool true) (.bool true) <| gzc (.bool true) (fun w' => Below U6.heap.size U6 w') (hkn) (fun U7 hb9 => ?_)
   have HE := Lib.hid (HBC6.out.1.trans (hb9.mono HBC6.out.1.size))
   clear hb9 hkn
   simp only [pu]
   refine gz2 (.bool true) (.bool true) <| wn ?_
   simp only [pu]
   go_wp2_with fail
   go_ret
   exact ⟨rfl, HE.out⟩
  ·skip
   rw [decide_eq_false hsm] at CR
   refine wl <| gz1 (.slice a L.length c) ?_
   simp only [pu]
   refine gw_build (by kernel_rfl) (some 7) rfl 52 1 #[(0, .tmp 6)] rfl #[(0, .slice a L.length c)] (by kernel_rfl) (.slice (some ⟨w.heap.size, 0, none⟩) 1 1) _ hbd ?_
   simp only [pu]
   refine gzc (.bool false) (fun w' => W1 = w') (CL) (fun V9 hV9 => ?_)
   subst hV9
   simp only [pu]
   refine gz2 (.bool false) (.slice al XL.length cl) <| gzc (.bool false) (fun w' => Below W1.heap.size W1 w') (CR) (fun W1b hW1 => ?_)
   simp only [pu]
   refine gz2 (.bool true) (.bool true) <| wn ?_
   simp only [pu]
   have HB1 := Lib.hid (HB0.out.trans (hW1.mono HB0.out.size))
   clear CL CR hbd hW1
   have CK := known_true W1b
   go_upto_region 2 with fail
   refine wl <| gzc (.bool true) (fun w' => Below W1b.heap.size W1b w') (CK) (fun V2 hV2 => ?_)
   simp only [pu]
   refine gz1 (.bool true) <| wn ?_
   simp only [pu]
   have HE := Lib.hid (HB1.out.trans (hV2.mono HB1.out.size))
   go_wp2_with fail
   go_ret
   exact ⟨rfl, HE.out⟩
end Go.Proofs.Ytgkckblcekbafaa.Bg
namespace Go.Proofs.Ytgkckblcekbafaa
open Go.ChangeShapes Go.WideShapes Go.ChangeAt Go.RowKit Go.Deep Go.Joins
set_option linter.unusedVariables false
theorem weights_all {H : Type} {P : Program} {e : TypeId} {d : DataW H} : ∀ {ds : List (DataW H)}, d ∈ ds → ∀ n, n ∈ d.weights P e → n ∈ DataW.weightsAll P e ds
  | x :: r, h, n, hn => by
    simp only [DataW.weightsAll, List.mem_append]
    rcases List.mem_cons.1 h with rfl | h
    · exact .inl hn
    · exact .inr (weights_all h n hn)
set_option maxRecDepth 100000 in
theorem ints_in {H : Type} {enc : TypeId × Value → H} {W : World} {fuel : Nat} {cs : List Value} {y : DataW H × List MemPlace} (h : DataW.trod enc Try.prog W 0 (fun _ => true) true fuel 23 cs = some y) (hz : ∀ n, n ∈ y.1.weights Try.prog 23 → n ≤ reachBytes) :
    ∃ a cap L, cs = [.slice a (List.length L) cap] ∧ L.length ≤ cap ∧ L.length ≤ 9223372036854775807 ∧ Cs W a (icells L) ∧ L.length * 8 ≤ 140737488355328 := by
 rcases open_ints Try.underlying23 Try.underlying3 (by kernel_rfl) h with ⟨rfl, rfl⟩ | ⟨x, l, c, zs, rfl, _, hl, hm, hzl, rfl, hcell, hwz⟩
 · exact ⟨none, 0, [], rfl, by simp, by simp, Cs.nil _ _, by simp⟩
 · have hz' : zs.length = c := by simpa using hzl
   have hlen : (zs.take l).length = l := by rw [List.length_take]; omega
   have hby : Try.prog.bytesOf 3 = 8 := by kernel_rfl
   have hw := hz (((lits (H := H) .i64 (zs.take l)).length + (lits (H := H) .i64 (zs.drop l)).length) * 8) (by simp [DataW.weights, Try.underlying23, hby])
   have e1 : (lits (H := H) .i64 (zs.take l)).length = l := by unfold lits; rw [List.length_map]; exact hlen
   have hr : reachBytes = 140737488351232 := rfl
   rw [hr, e1] at hw
   refine ⟨some x, c, zs.take l, by rw [hlen], by rw [hlen]; omega, by rw [hlen]; unfold maxLen at hm; omega, fun j v hj => ?_, by rw [hlen]; omega⟩
   have hjl : j < (zs.take l).length := by
    have := (List.getElem?_eq_some_iff.1 hj).1
    simpa [icells] using this
   have hjz : j < zs.length := by omega
   obtain ⟨b, off, rfl, hc⟩ := ints_at hcell (by omega)
   rw [icells_at _ _ hjl] at hj
   simp only [Option.some.injEq] at hj
   have hcj := hc j hjz
   refine ⟨b, off, rfl, World.block_lt_of_cell? W _ hcj, ?_⟩
   rw [hcj, ← hj]
   simp [List.getD, show j < l by omega]
set_option maxRecDepth 100000 in
theorem bytes_in {H : Type} {enc : TypeId × Value → H} {W : World} {fuel : Nat} {cs : List Value} {y : DataW H × List MemPlace} (h : DataW.trod enc Try.prog W 0 (fun _ => true) true fuel 48 cs = some y) (hz : ∀ n, n ∈ y.1.weights Try.prog 48 → n ≤ reachBytes) :
    ∃ a cap L, cs = [.slice a (List.length L) cap] ∧ L.length ≤ cap ∧ Sl W a cap L ∧ L.length ≤ 140737488355328 := by
 rcases open_ints Try.underlying48 Try.underlying5 (by kernel_rfl) h with ⟨rfl, rfl⟩ | ⟨x, l, c, zs, rfl, _, hl, hm, hzl, rfl, hcell, hwz⟩
 · exact ⟨none, 0, [], rfl, by simp, .inl ⟨rfl, rfl, rfl⟩, by simp⟩
 · have hz' : zs.length = c := by simpa using hzl
   have hlen : (zs.take l).length = l := by rw [List.length_take]; omega
   have hby : Try.prog.bytesOf 5 = 1 := by kernel_rfl
   have hw := hz (((lits (H := H) .u8 (zs.take l)).length + (lits (H := H) .u8 (zs.drop l)).length) * 1) (by simp [DataW.weights, Try.underlying48, hby])
   have e1 : (lits (H := H) .u8 (zs.take l)).length = l := by unfold lits; rw [List.length_map]; exact hlen
   have hr : reachBytes = 140737488351232 := rfl
   rw [hr, e1] at hw
   refine ⟨some x, c, zs.take l, by rw [hlen], by rw [hlen]; omega, .inr ⟨x, rfl, fun k hk => ?_⟩, by rw [hlen]; omega⟩
   obtain ⟨b, off, rfl, hc⟩ := ints_at hcell (by omega)
   refine ⟨b, off, rfl, ?_⟩
   rw [hc k (by omega), List.getD_eq_getElem?_getD, List.getD_eq_getElem?_getD, List.getElem?_take, if_pos (by omega)]
section
variable {H : Type} {enc : TypeId × Value → H}
set_option maxRecDepth 100000 in
theorem en_in {W : World} {fuel : Nat} {cs : List Value} {y : DataW H × List MemPlace} (h : DataW.trod enc Try.prog W 0 (fun _ => true) true fuel 50 cs = some y) (hz : ∀ n, n ∈ y.1.weights Try.prog 50 → n ≤ reachBytes) : ∃ x : En × Ad, cs = enp x ∧ EnI W x.1 x.2 ∧ x.1.raw.length ≤ 140737488355328 ∧ x.1.prs.length * 8 ≤ 140737488355328 := by
  obtain ⟨y0, y1, y2, y3, y4, y5, y6, y7, y8, y9, n, hy, hl, t0, t1, t2, t3, t4, t5, t6, t7, t8, t9⟩ := trod_struct10 Try.underlying50 h
  have hc : Try.prog.cellsOf 50 = 41 := by kernel_rfl
  rw [hc] at hl
  obtain ⟨u, R, rfl, hu, hR⟩ : ∃ u R, cs = u ++ R ∧ u.length = 32 ∧ R.length = 9 := ⟨cs.take 32, cs.drop 32, (List.take_append_drop 32 cs).symm, by rw [List.length_take]; omega, by rw [List.length_drop]; omega⟩
  match R, hR with
  | [c0, c1, c2, c3, c4, c5, c6, c7, c8], _ =>
    obtain ⟨K, e0, hK⟩ := key_arg t0
    obtain ⟨a1, p1, L1, e1, l1, r1, b1⟩ := bytes_in t1 (fun n hn => hz n (by rw [hy]; simp only [DataW.weights, Try.underlying50, DataW.weightsEach, List.map_cons, List.map_nil, List.mem_append]; exact .inr (.inl hn)))
    obtain ⟨s2, e2, d2, -⟩ := DataW.trod_string Try.underlying9 t2
    obtain ⟨n3, e3, -, -⟩ := DataW.trod_int (k := .u64) Try.underlying33 t3
    obtain ⟨n4, e4, -, -⟩ := DataW.trod_int (k := .u64) Try.underlying33 t4
    obtain ⟨n5, e5, -, -⟩ := DataW.trod_int (k := .u64) Try.underlying33 t5
    obtain ⟨n6, e6, -, -⟩ := DataW.trod_int (k := .i64) Try.underlying3 t6
    obtain ⟨n7, e7, -, -⟩ := DataW.trod_int (k := .i64) Try.underlying3 t7
    obtain ⟨n8, e8, -, -⟩ := DataW.trod_int (k := .i64) Try.underlying3 t8
    obtain ⟨a9, p9, L9, e9, l9, -, r9, b9⟩ := ints_in t9 (fun n hn => hz n (by rw [hy]; simp only [DataW.weights, Try.underlying50, DataW.weightsEach, List.map_cons, List.map_nil, List.mem_append]; exact .inr (.inr (.inr (.inr (.inr (.inr (.inr (.inr (.inr (.inl hn)))))))))))
    have k0 : Try.prog.cellsOf 47 = 32 := by kernel_rfl
    have k1 : Try.prog.cellsOf 48 = 1 := by kernel_rfl
    have k2 : Try.prog.cellsOf 9 = 1 := by kernel_rfl
    have k3 : Try.prog.cellsOf 33 = 1 := by kernel_rfl
    have k4 : Try.prog.cellsOf 3 = 1 := by kernel_rfl
    have k5 : Try.prog.cellsOf 23 = 1 := by kernel_rfl
    have g0 : u = K.map (Value.int .u8) := by
      have q : ((u ++ [c0, c1, c2, c3, c4, c5, c6, c7, c8]).drop 0).take 32 = K.map (Value.int .u8) := by simpa only [k0] using e0
      rw [List.drop_zero, List.take_append_of_le_length (by omega), List.take_of_length_le (by omega)] at q
      exact q
    have g1 : c0 = .slice a1 L1.length p1 := by
      have q : ((u ++ [c0, c1, c2, c3, c4, c5, c6, c7, c8]).drop (32 + 0)).take 1 = [.slice a1 L1.length p1] := by simpa only [k1] using e1
      rw [drop_pl _ hu] at q
      simpa using q
    have g2 : c1 = .string s2 := by
      have q : ((u ++ [c0, c1, c2, c3, c4, c5, c6, c7, c8]).drop (32 + 1)).take 1 = [.string s2] := by simpa only [k2] using e2
      rw [drop_pl _ hu] at q
      simpa using q
    have g3 : c2 = .int .u64 n3 := by
      have q : ((u ++ [c0, c1, c2, c3, c4, c5, c6, c7, c8]).drop (32 + 2)).take 1 = [.int .u64 n3] := by simpa only [k3] using e3
      rw [drop_pl _ hu] at q
      simpa using q
    have g4 : c3 = .int .u64 n4 := by
      have q : ((u ++ [c0, c1, c2, c3, c4, c5, c6, c7, c8]).drop (32 + 3)).take 1 = [.int .u64 n4] := by simpa only [k3] using e4
      rw [drop_pl _ hu] at q
      simpa using q
    have g5 : c4 = .int .u64 n5 := by
      have q : ((u ++ [c0, c1, c2, c3, c4, c5, c6, c7, c8]).drop (32 + 4)).take 1 = [.int .u64 n5] := by simpa only [k3] using e5
      rw [drop_pl _ hu] at q
      simpa using q
    have g6 : c5 = .int .i64 n6 := by
      have q : ((u ++ [c0, c1, c2, c3, c4, c5, c6, c7, c8]).drop (32 + 5)).take 1 = [.int .i64 n6] := by simpa only [k4] using e6
      rw [drop_pl _ hu] at q
      simpa using q
    have g7 : c6 = .int .i64 n7 := by
      have q : ((u ++ [c0, c1, c2, c3, c4, c5, c6, c7, c8]).drop (32 + 6)).take 1 = [.int .i64 n7] := by simpa only [k4] using e7
      rw [drop_pl _ hu] at q
      simpa using q
    have g8 : c7 = .int .i64 n8 := by
      have q : ((u ++ [c0, c1, c2, c3, c4, c5, c6, c7, c8]).drop (32 + 7)).take 1 = [.int .i64 n8] := by simpa only [k4] using e8
      rw [drop_pl _ hu] at q
      simpa using q
    have g9 : c8 = .slice a9 L9.length p9 := by
      have q : ((u ++ [c0, c1, c2, c3, c4, c5, c6, c7, c8]).drop (32 + 8)).take 1 = [.slice a9 L9.length p9] := by simpa only [k5] using e9
      rw [drop_pl _ hu] at q
      simpa using q
    refine ⟨(⟨fun i => K.getD i 0, L1, s2, n3, n4, n5, n6, n7, n8, L9⟩, ⟨a1, p1, a9, p9⟩), ?_, ⟨r1, r9, l1, l9⟩, ?_⟩
    · subst g1 g2 g3 g4 g5 g6 g7 g8 g9
      rw [g0, kcl_of hK]
      rfl
    · exact ⟨b1, b9⟩
set_option maxRecDepth 100000 in
theorem ens_in {W : World} {fuel : Nat} {cs : List Value} {y : DataW H × List MemPlace} (h : DataW.trod enc Try.prog W 0 (fun _ => true) true fuel 22 cs = some y) (hz : ∀ n, n ∈ y.1.weights Try.prog 22 → n ≤ reachBytes) :
    ∃ a cap X, cs = [.slice a (List.length X) cap] ∧ Xr W a X ∧ Bg.Few X := by
  rcases open_slice Try.underlying22 h with ⟨rfl, rfl⟩ | ⟨a, len, cap, m, n, D, Pl, rfl, _, hl, hm, hmm, rfl, hi⟩
  · exact ⟨none, 0, [], rfl, Xr.nil _ _, ⟨by simp, fun x hx => by cases hx⟩⟩
  · have hm' : m = cap := by simpa using hmm
    have hc : Try.prog.cellsOf 50 = 41 := by kernel_rfl
    have h144 : Try.prog.bytesOf 50 = 144 := by kernel_rfl
    have hr : reachBytes = 140737488351232 := rfl
    have hlen : len ≤ 977343669105 := by
      have h1 := hz ((len + (m - len)) * 144) (by simp [DataW.weights, Try.underlying22, h144])
      rw [hr] at h1
      omega
    obtain ⟨M, hpl, hps⟩ := list_of (Q := fun i (x : En × Ad) => (∀ j v, (enp x)[j]? = some v → W.cell? (a.add (i * 41 + j)) = some v) ∧ EnI W x.1 x.2 ∧ x.1.raw.length ≤ 140737488355328 ∧ x.1.prs.length * 8 ≤ 140737488355328) len (by
      intro i hlt
      obtain ⟨cs', h1, h2⟩ := hi i (by omega)
      have hmem : D i ∈ (List.range len).map D := List.mem_map.2 ⟨i, List.mem_range.2 hlt, rfl⟩
      obtain ⟨x, rfl, hw⟩ := en_in h2 (fun n hn => hz _ (by
        simp only [DataW.weights, Try.underlying22]
        exact List.mem_cons_of_mem _ (List.mem_append_left _ (weights_all hmem _ hn))))
      rw [hc] at h1
      obtain ⟨_, _, hat⟩ := World.cells?_some h1
      refine ⟨x, fun j v hj => ?_, hw⟩
      have hj5 : j < 41 := by
        have := (List.getElem?_eq_some_iff.1 hj).1
        rwa [enp_len] at this
      have := hat j hj5
      rw [add_add] at this
      rw [this, hj])
    have hspot : 0 < M.length → a.spot = none := fun h0 => by
      have h1 := (hps 0 (M[0]) (by simp [h0])).1 0 (.int .u8 ((M[0]).1.k 0)) rfl
      have h2 : W.cell? a = some (.int .u8 ((M[0]).1.k 0)) := by simpa [Addr.add] using h1
      exact World.cell?_spot h2
    have hgd : ∀ i, i < M.length → M[i]? = some (M.getD i zEA) := fun i h0 => by rw [List.getD_eq_getElem?_getD, List.getElem?_eq_getElem h0]; rfl
    refine ⟨some a, cap, M, by rw [hpl], ⟨fun j v hj => ?_, fun i h0 => (hps i _ (hgd i h0)).2.1⟩, ?_⟩
    · obtain ⟨hk, h2⟩ := ens_inv hj
      obtain ⟨b, off, spot⟩ := a
      obtain rfl : spot = none := hspot (by omega)
      have h3 := (hps (j / 41) _ (hgd _ hk)).1 (j % 41) v h2
      rw [Go.WideShapes.add_plain, show j / 41 * 41 + j % 41 = j by omega] at h3
      exact ⟨b, off, rfl, World.block_lt_of_cell? W _ h3, h3⟩
    · refine ⟨by rw [hpl]; exact hlen, fun x hx => ?_⟩
      obtain ⟨i, hlt, e⟩ := List.getElem_of_mem hx
      exact (hps i x (by rw [List.getElem?_eq_getElem hlt, e])).2.2
end
end Go.Proofs.Ytgkckblcekbafaa
