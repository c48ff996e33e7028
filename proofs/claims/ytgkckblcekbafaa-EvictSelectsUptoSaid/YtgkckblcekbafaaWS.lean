/-
 The walk of EvictSelects.
-/
import Derived.Test.YtgkckblcekbafaaWO
namespace Go.Proofs.Ytgkckblcekbafaa
attribute [local irreducible] wpList wpQuiet
open Go.RowKit
set_option maxRecDepth 100000
set_option linter.unusedSimpArgs false
set_option linter.unusedVariables false

/-- What is kept: the numbers, the given entries and the made ones. -/
structure SE (w V : World) (g c : Nat) (a : Option Addr) (L : List Int) (N : Nat) (al a9 : Option Addr) (XL X : List (En × Ad)) : Prop where
 nm : Nm V g a c L N
 l : Xr V al XL
 m : Xr V a9 X
 lb : ∀ k, XrB al XL k → k < g
 mb : ∀ k, XrB a9 X k → g < k
 bel : Below w.heap.size w V
 wg : w.heap.size ≤ g
section
variable {w V V' : World} {g c N N' : Nat} {a al a9 : Option Addr} {L : List Int} {XL X : List (En × Ad)}
theorem SE.below (h : SE w V g c a L N al a9 XL X) (hb : Below V.heap.size V V') : SE w V' g c a L N al a9 XL X :=
 ⟨h.nm.below hb, h.l.below hb, h.m.below hb, h.lb, h.mb, h.bel.trans (hb.mono h.bel.size), h.wg⟩
theorem SE.next (h : SE w V g c a L N al a9 XL X) (hn : Nm V' g a c L N') (hb : But g V V') : SE w V' g c a L N' al a9 XL X :=
 ⟨hn, h.l.same fun k hk => hb.2 k (h.l.lt k hk) (by have := h.lb k hk; omega), h.m.same fun k hk => hb.2 k (h.m.lt k hk) (by have := h.mb k hk; omega), h.lb, h.mb, h.bel.trans (hb.1.mono h.wg), h.wg⟩
theorem SE.nx (h : SE w V g c a L N al a9 XL X) (hl : L.length ≤ 100000) (hN : N ≤ 100000) (n : Int) (hn : 0 < n) (hn2 : n ≤ 1000000) : ∃ q : Nat, (q : Int) < n ∧ Calls Try.prog 15 #[.pointer (some ⟨g, 0, none⟩), .int .i64 n] V fun e w' => e = .returned (.int .i64 q) ∧ SE w w' g c a L (N + 1) al a9 XL X ∧ But g V w' := by
 obtain ⟨q, hq, hc⟩ := nxq L N hl hN n hn hn2
 refine ⟨q, hq, (hc V g c a h.nm).mono ?_⟩
 rintro e w' ⟨h1, h2, h3⟩
 exact ⟨h1, h.next h2 h3, h3⟩
theorem SE.start {W2 : World} {c9 : Nat} (h : EnS W2 V g c a L N (.slice a9 X.length c9) X) (hb : Below w.heap.size w V) (hl : Xr w al XL) (hg : w.heap.size ≤ g) : SE w V g c a L N al a9 XL X :=
 ⟨h.nm, hl.below hb, h.xr, fun k hk => Nat.lt_of_lt_of_le (hl.lt k hk) hg, fun k hk => by
  have hgl := h.gl
  rcases hk with hk | ⟨i, hi, hk⟩
  ·have := own_rb h.row hk
   omega
  ·have := (h.own (X.getD i zEA) (by rw [List.getD_eq_getElem?_getD, List.getElem?_eq_getElem hi]; exact List.getElem_mem hi)).ge k hk
   omega, hb, hg⟩
end
theorem infoES : (Try.prog.info? 22).map (fun i => (i.zero, i.size, i.bytes)) = some (some (.slice none 0 0), 1, 24) := by kernel_rfl
theorem infoU6 : (Try.prog.info? 33).map (fun i => (i.zero, i.size, i.bytes)) = some (some (.int .u64 0), 1, 8) := by kernel_rfl
theorem infoA3 : (Try.prog.info? 37).map (fun i => (i.zero, i.size, i.bytes)) = some (some (.agg #[.int .i64 0, .int .i64 0, .int .i64 0]), 3, 24) := by kernel_rfl
theorem build_2s (a b : Option Addr) (n m c d : Nat) (V : World) : (Instr.buildSlice 34 2 #[(0, .slice a n c), (1, .slice b m d)]).run Try.prog V = .ok (.slice (some ⟨V.heap.size, 0, none⟩) 2 2) (V.alloc (.cells #[.slice a n c, .slice b m d] 22)) := by
 obtain ⟨i0, hi, hz0, hz1, hz2⟩ := info_parts infoES
 refine run_buildSlice V 34 22 2 _ #[.slice a n c, .slice b m d] i0 _ Try.underlying34 hi hz0 (by rw [hz1]; omega) (by rw [hz1]; omega) ?_
 rw [hz1]
 kernel_rfl
theorem build_2u (x y : Int) (V : World) : (Instr.buildSlice 36 2 #[(0, .int .u64 x), (1, .int .u64 y)]).run Try.prog V = .ok (.slice (some ⟨V.heap.size, 0, none⟩) 2 2) (V.alloc (.cells #[.int .u64 x, .int .u64 y] 33)) := by
 obtain ⟨i0, hi, hz0, hz1, hz2⟩ := info_parts infoU6
 refine run_buildSlice V 36 33 2 _ #[.int .u64 x, .int .u64 y] i0 _ Try.underlying36 hi hz0 (by rw [hz1]; omega) (by rw [hz1]; omega) ?_
 rw [hz1]
 kernel_rfl
def c12 (x : List Int) : List Value := x.map (Value.int .i64)
theorem build_4a (t0 t1 t2 t3 t4 t5 t6 t7 t8 t9 ta tb : Int) (V : World) : (Instr.buildSlice 38 4 #[(0, .agg #[.int .i64 t0, .int .i64 t1, .int .i64 t2]), (1, .agg #[.int .i64 t3, .int .i64 t4, .int .i64 t5]), (2, .agg #[.int .i64 t6, .int .i64 t7, .int .i64 t8]), (3, .agg #[.int .i64 t9, .int .i64 ta, .int .i64 tb])]).run Try.prog V = .ok (.slice (some ⟨V.heap.size, 0, none⟩) 4 4) (V.alloc (.cells (c12 [t0, t1, t2, t3, t4, t5, t6, t7, t8, t9, ta, tb]).toArray 37)) := by
 obtain ⟨i0, hi, hz0, hz1, hz2⟩ := info_parts infoA3
 refine run_buildSlice V 38 37 4 _ (c12 [t0, t1, t2, t3, t4, t5, t6, t7, t8, t9, ta, tb]).toArray i0 _ Try.underlying38 hi hz0 (by rw [hz1]; omega) (by rw [hz1]; omega) ?_
 rw [hz1]
 kernel_rfl
section
variable {ρ : Operand → Value} {o : Oper} {x y : Operand}
theorem idx_ees (b n c k : Nat) (hk : k < n) (V : World) (ho : o.op = .indexAddr 34 x y) (hx : ρ x = .slice (some ⟨b, 0, none⟩) n c) (hy : ρ y = .int .i64 k) : (execOp ρ o).run Try.prog V = .ok (.value (.pointer (some ⟨b, k, none⟩))) V := by
 have hs : (sizeOf (Try.prog.elem 34)).run Try.prog V = .ok 1 V := by kernel_rfl
 have hlm : (k : Int) < (n : Int) := by omega
 unfold execOp
 simp only [ho, hx, hy]
 go_simp
theorem idx_u6 (b n c k : Nat) (hk : k < n) (V : World) (ho : o.op = .indexAddr 36 x y) (hx : ρ x = .slice (some ⟨b, 0, none⟩) n c) (hy : ρ y = .int .i64 k) : (execOp ρ o).run Try.prog V = .ok (.value (.pointer (some ⟨b, k, none⟩))) V := by
 have hs : (sizeOf (Try.prog.elem 36)).run Try.prog V = .ok 1 V := by kernel_rfl
 have hlm : (k : Int) < (n : Int) := by omega
 unfold execOp
 simp only [ho, hx, hy]
 go_simp
theorem idx_a3 (b n c k : Nat) (hk : k < n) (V : World) (ho : o.op = .indexAddr 38 x y) (hx : ρ x = .slice (some ⟨b, 0, none⟩) n c) (hy : ρ y = .int .i64 k) : (execOp ρ o).run Try.prog V = .ok (.value (.pointer (some ⟨b, k * 3, none⟩))) V := by
 have hs : (sizeOf (Try.prog.elem 38)).run Try.prog V = .ok 3 V := by kernel_rfl
 have hlm : (k : Int) < (n : Int) := by omega
 unfold execOp
 simp only [ho, hx, hy]
 go_simp
end
theorem rg_sub {V : World} {b o : Nat} {cs sub : List Value} (h : V.rangeAt b 0 cs) (hs : ∀ j v, sub[j]? = some v → cs[o + j]? = some v) : V.rangeAt b o sub := fun j v hv => by
 have := h (o + j) v (hs j v hv)
 rwa [Nat.zero_add] at this
/-- Three of the numbers. -/
theorem three_at {V : World} {b : Nat} {x : List Int} (hx : x.length = 12) (h : Bx V b (c12 x).toArray 37) (q : Nat) (hq : q < 4) : V.rangeAt b (q * 3) [.int .i64 (x.getD (q * 3) 0), .int .i64 (x.getD (q * 3 + 1) 0), .int .i64 (x.getD (q * 3 + 2) 0)] := by
 refine rg_sub (bx_range h) fun j v hv => ?_
 have e : ∀ k, k < 12 → (c12 x)[k]? = some (.int .i64 (x.getD k 0)) := fun k hk => by
  unfold c12
  rw [List.getElem?_map, List.getElem?_eq_getElem (by omega), List.getD_eq_getElem?_getD, List.getElem?_eq_getElem (by omega)]
  rfl
 match j, hv with
 | 0, hv => rw [e _ (by omega)]; exact hv
 | 1, hv => rw [e _ (by omega)]; exact hv
 | 2, hv => rw [e _ (by omega)]; exact hv
 | j + 3, hv => simp at hv
set_option maxRecDepth 100000 in
set_option maxHeartbeats 8000000 in
theorem selects_core {w : World} {a al : Option Addr} {c cl : Nat} {L : List Int} {XL : List (En × Ad)} (hk : Cs w a (icells L)) (hl : L.length ≤ 9223372036854775807) (hx : Xr w al XL) (hxl : XL.length ≤ 1000000) (hxs : szL (lE XL) ≤ 100000000000) (pq q3 q4 q5 : Int) (hq5 : q5 < 9223372036854775808) : Calls Try.prog 4 #[.slice al XL.length cl, .slice a L.length c, .int .u64 pq, .int .i64 q3, .int .i64 q4, .int .i64 q5] w fun e w' => e = .returned (.bool true) ∧ Below w.heap.size w w' := by
 have HKK := Lib.hid hk
 have HXL := Lib.hid (fun V (hV : Below w.heap.size w V) => hx.below hV)
 have HXB := Lib.hid hx.lt
 have HSL : Hid (XL.length ≤ 1000000 ∧ szL (lE XL) ≤ 100000000000) := Lib.hid ⟨hxl, hxs⟩
 clear hk hx hxl hxs
 have HXW := Lib.hid (HXL.out w (Below.refl _ _))
 have HQ5 := Lib.hid hq5
 clear hq5
 go_enter Try.func4, Try.ntmps4
 go_upto_region 1 with fail
 have hbd := one_row a L.length c w
 have hXl : Bx (w.alloc (.cells #[.slice a L.length c] 23)) w.heap.size #[.slice a L.length c] 23 := heap_alloc_last w _
 have hbl : Below w.heap.size w (w.alloc (.cells #[.slice a L.length c] 23)) := (Below.refl _ w).alloc (Nat.le_refl _) _
 have CL := long_one w.heap.size a L.length c _ hXl hl
 generalize w.alloc (.cells #[.slice a L.length c] 23) = W1 at *
 have HB0 := Lib.hid hbl
 clear hXl hbl
 by_cases hlong : 160 < L.length
 ·skip
  rw [decide_eq_true (by omega)] at CL
  refine wl <| gz1 (.slice a L.length c) ?_
  simp only [pu]
  refine gw_build (by kernel_rfl) (some 26) rfl 52 1 #[(0, .tmp 25)] rfl #[(0, .slice a L.length c)] (by kernel_rfl) (.slice (some ⟨w.heap.size, 0, none⟩) 1 1) _ hbd ?_
  simp only [pu]
  refine gzc (.bool true) (fun w' => W1 = w') (CL) (fun V9 hV9 => ?_)
  subst hV9
  simp only [pu]
  refine gz5 (.bool true) undef undef undef (.bool true) <| wn ?_
  simp only [pu]
  clear CL hbd
  have CK := known_true W1
  go_upto_region 2 with fail
  refine wl <| gzc (.bool true) (fun w' => Below W1.heap.size W1 w') (CK) (fun V2 hV2 => ?_)
  simp only [pu]
  refine gz1 (.bool true) <| wn ?_
  simp only [pu]
  have HE := Lib.hid (HB0.out.trans (hV2.mono HB0.out.size))
  go_wp2_with fail
  go_ret
  exact ⟨rfl, HE.out⟩
 ·skip
  rw [decide_eq_false (by omega)] at CL
  have hlong : L.length ≤ 160 := by omega
  have CR := k_raw (c := cl) (HXL.out W1 HB0.out) HSL.out.1 HSL.out.2
  by_cases hsm : XL.length + szL (lE XL) < 200
  ·skip
   rw [decide_eq_true (by omega)] at CR
   refine wl <| gz1 (.slice a L.length c) ?_
   simp only [pu]
   refine gw_build (by kernel_rfl) (some 26) rfl 52 1 #[(0, .tmp 25)] rfl #[(0, .slice a L.length c)] (by kernel_rfl) (.slice (some ⟨w.heap.size, 0, none⟩) 1 1) _ hbd ?_
   simp only [pu]
   refine gzc (.bool false) (fun w' => W1 = w') (CL) (fun V9 hV9 => ?_)
   subst hV9
   simp only [pu]
   refine gz2 (.bool false) (.slice al XL.length cl) <| gzc (.bool true) (fun w' => Below W1.heap.size W1 w') (CR) (fun W1b hW1 => ?_)
   simp only [pu]
   refine gz2 (.bool false) (.bool false) <| wn ?_
   simp only [pu]
   have HB1 := Lib.hid (HB0.out.trans (hW1.mono HB0.out.size))
   clear CL CR hbd hW1
   have HLN := Lib.hid hlong
   go_upto_region 3 with fail
   refine wl <| gz1 (.slice a L.length c) <| gzc (.pointer (some ⟨W1b.heap.size, 0, none⟩)) (fun w' => w' = W1b.alloc (.cells #[.slice a L.length c, .int .i64 0] 56)) (mk_from a L.length c W1b) (fun V9 hV9 => ?_)
   subst hV9
   obtain ⟨hnm, hbn⟩ := nm_start (c := c) HKK.out HB1.out
   generalize hWq : W1b.alloc (.cells #[.slice a L.length c, .int .i64 0] 56) = W2 at *
   obtain ⟨g0, hg0⟩ : ∃ q, W1b.heap.size = q := ⟨_, rfl⟩
   rw [hg0] at hnm ⊢
   have HG0 : Hid (w.heap.size ≤ g0 ∧ Below w.heap.size w W2) := Lib.hid ⟨by rw [← hg0]; exact HB1.out.size, hbn⟩
   have hes := mk_entries hnm (by omega) (by omega)
   clear hnm hbn hg0 hWq
   simp only [pu]
   refine gz1 (.pointer (some ⟨g0, 0, none⟩)) <| wn ?_
   simp only [pu]
   go_upto_region 4 with fail
   refine wl <| gz1 (.pointer (some ⟨g0, 0, none⟩)) <|
    gze (fun v w' => ∃ a2 c2 X N', v = .slice a2 X.length c2 ∧ EnS W2 w' g0 c a L N' (.slice a2 X.length c2) X ∧ X.length ≤ 10 ∧ N' ≤ 400) (hes.mono fun e9 w' z => by obtain ⟨a2, c2, X, N', h1, h2, h3, h4⟩ := z; exact ⟨_, h1, a2, c2, X, N', rfl, h2, h3, by omega⟩) (fun vv W3 hq => ?_)
   obtain ⟨a9, c9, X, N1, rfl, hS, hX10, hN1⟩ := hq
   have HXR := Lib.hid (fun V (hV : Below W3.heap.size W3 V) => hS.xr.below hV)
   have HEN : Hid (X.length ≤ 10 ∧ (∀ x ∈ X, x.1.snd ∈ nms ∧ x.1.raw.length ≤ 8 ∧ x.1.prs.length ≤ 2) ∧ rawL (lE X) ≤ 80) := Lib.hid ⟨hX10, hS.sz, raw_few hS.sz hX10⟩
   have HES := Lib.hid hS
   have HNN : Hid (N1 ≤ 400) := Lib.hid hN1
   have HB3 : Hid (Below w.heap.size w W3) := Lib.hid (HG0.out.2.trans (hS.but.1.mono HG0.out.1))
   clear hes hS hX10 hN1
   simp only [pu]
   refine gz1 (.slice a9 X.length c9) <| wn ?_
   simp only [pu]
   clear hlong
   have hse := SE.start HES.out HB3.out HXW.out HG0.out.1
   have hfl := few_small hsm
   have hfm := few_made HEN.out
   have hbd := build_2s al a9 XL.length X.length cl c9 W3
   have hX40 : Bx (W3.alloc (.cells #[.slice al XL.length cl, .slice a9 X.length c9] 22)) W3.heap.size #[.slice al XL.length cl, .slice a9 X.length c9] 22 := heap_alloc_last W3 _
   have hb40 : Below W3.heap.size W3 (W3.alloc (.cells #[.slice al XL.length cl, .slice a9 X.length c9] 22)) := (Below.refl _ W3).alloc (Nat.le_refl _) _
   have hse4 := hse.below hb40
   have hg40 : g0 < W3.heap.size := hse.nm.lt
   generalize W3.alloc (.cells #[.slice al XL.length cl, .slice a9 X.length c9] 22) = W4 at *
   obtain ⟨b40, hb4⟩ : ∃ q, W3.heap.size = q := ⟨_, rfl⟩
   rw [hb4] at hbd hX40 hg40
   have HG4 : Hid (g0 < b40) := Lib.hid hg40
   have HX2 : Hid (∀ i, i < 2 → ∃ ax cx XX, (#[Value.slice al XL.length cl, .slice a9 X.length c9])[i]? = some (.slice ax (List.length XX) cx) ∧ Few XX ∧ ∀ V N, SE w V g0 c a L N al a9 XL X → Xr V ax XX) := Lib.hid fun i hi => by
    match i, hi with
    | 0, _ => exact ⟨al, cl, XL, rfl, hfl, fun V N h => h.l⟩
    | 1, _ => exact ⟨a9, c9, X, rfl, hfm, fun V N h => h.m⟩
   have HST : Hid (SE w W4 g0 c a L N1 al a9 XL X ∧ Bx W4 b40 #[.slice al XL.length cl, .slice a9 X.length c9] 22) := Lib.hid ⟨hse4, hX40⟩
   clear hse hfl hfm hb40 hse4 hX40 hg40 hb4 hsm HES HEN HXR HXL
   go_upto_region 5 with fail
   refine wl <| gz2 (.slice al XL.length cl) (.slice a9 X.length c9) ?_
   simp only [pu]
   refine gw_build (by kernel_rfl) (some 40) rfl 34 2 #[(0, .tmp 38), (1, .tmp 39)] rfl #[(0, .slice al XL.length cl), (1, .slice a9 X.length c9)] (by kernel_rfl) (.slice (some ⟨b40, 0, none⟩) 2 2) _ hbd ?_
   simp only [pu]
   refine gz2 (.int .i64 2) (.int .i64 0) <| wn ?_
   simp only [pu]
   clear hbd
   go_wp2_with fail
   go_loopg [42] 2 (fun gg s42 wx => ∃ (i N : Nat), s42 = .int .i64 i ∧ i ≤ 2 ∧ gg + i = 2 ∧ Hid (N ≤ 400 + 15 * i) ∧ Hid (SE w wx g0 c a L N al a9 XL X ∧ Bx wx b40 #[.slice al XL.length cl, .slice a9 X.length c9] 22))
   case atStart => exact ⟨0, N1, rfl, by omega, by omega, Lib.hid (by have := HNN.out; omega), HST⟩
   case round =>
    obtain ⟨i, N, rfl, hi2, hg, HNI, HR⟩ := hrel
    clear HST
    have HGI : Hid (gk + i = 2) := Lib.hid hg
    clear hg
    obtain ⟨wR, rfl⟩ : ∃ wR, wR = wr := ⟨_, rfl⟩
    by_cases hlt : i < 2
    ·skip
     have HLI : Hid (i < 2 ∧ N ≤ 430) := Lib.hid ⟨hlt, by have := HNI.out; omega⟩
     have HNB : Hid (N ≤ 430) := Lib.hid HLI.out.2
     obtain ⟨ax, cx, XX, hcell, hfew, hxx⟩ := HX2.out i hlt
     have HFX := Lib.hid hfew
     have HXX := Lib.hid hxx
     clear hfew hxx
     go_upto_region 6 with fail
     refine wl <| gzb (lss_n rfl (i) (2) dT) <| wn ?_
     simp only [pu]
     go_upto_region 7 with fail
     refine wl <| gzv (.pointer (some ⟨b40, i, none⟩)) (idx_ees b40 2 2 i hlt _ rfl (by kernel_rfl) (by kernel_rfl)) <| gzl rfl ⟨b40, i, none⟩ (.slice ax XX.length cx) (Bx.load HR.out.2 hcell (by kernel_rfl)) <| gz1 (.slice ax XX.length cx) <| wn ?_
     simp only [pu]
     clear hcell
     have hse0 := HR.out.1
     go_upto_region 8 with fail
     refine wl <| gz2 (.int .u64 pq) (.pointer (some ⟨g0, 0, none⟩)) ?_
     simp only [pu]
     obtain ⟨p2, hqp2, hcp2⟩ := hse0.nx (by have := HLN.out; omega) (by have := HNB.out; omega) 7 (by omega) (by omega)
     refine gzc (.int .i64 p2) (fun w' => SE w w' g0 c a L (N + 1) al a9 XL X ∧ But g0 wR w') (hcp2) (fun U1 hU => ?_)
     obtain ⟨seU1, btU1⟩ := hU
     clear hcp2
     simp only [pu]
     refine gzv (.int .u64 p2) (conv_iu rfl p2 (by omega) (by omega) (by kernel_rfl) _) ?_
     simp only [pu]
     refine gw_build (by kernel_rfl) (some 50) rfl 36 2 #[(0, .tmp 46), (1, .tmp 49)] rfl #[(0, .int .u64 pq), (1, .int .u64 p2)] (by kernel_rfl) (.slice (some ⟨U1.heap.size, 0, none⟩) 2 2) _ (build_2u pq p2 U1) ?_
     have hX50 : Bx (U1.alloc (.cells #[.int .u64 pq, .int .u64 p2] 33)) U1.heap.size #[.int .u64 pq, .int .u64 p2] 33 := heap_alloc_last U1 _
     have hb50 : Below U1.heap.size U1 (U1.alloc (.cells #[.int .u64 pq, .int .u64 p2] 33)) := (Below.refl _ U1).alloc (Nat.le_refl _) _
     have hX40 := HR.out.2.but btU1 (by have := HG4.out; omega)
     have hX41 := hX40.below hX40.lt hb50
     have hse2 := seU1.below hb50
     have hg50 := seU1.nm.lt
     generalize U1.alloc (.cells #[.int .u64 pq, .int .u64 p2] 33) = U2 at *
     obtain ⟨b50, hb5⟩ : ∃ q, U1.heap.size = q := ⟨_, rfl⟩
     rw [hb5] at hX50 hg50 ⊢
     have HG5 : Hid (g0 < b50) := Lib.hid hg50
     have HS2 : Hid (SE w U2 g0 c a L (N + 1) al a9 XL X ∧ Bx U2 b40 #[.slice al XL.length cl, .slice a9 X.length c9] 22 ∧ Bx U2 b50 #[.int .u64 pq, .int .u64 p2] 33) := Lib.hid ⟨hse2, hX41, hX50⟩
     clear hX50 hb50 hX40 hX41 hse2 hg50 hb5 seU1 btU1
     simp only [pu]
     refine gz2 (.int .i64 2) (.int .i64 0) <| wn ?_
     simp only [pu]
     have HP2 : Hid (∀ j, j < 2 → ∃ pp : Int, (#[Value.int .u64 pq, .int .u64 p2])[j]? = some (.int .u64 pp)) := Lib.hid fun j hj => by
      match j, hj with
      | 0, _ => exact ⟨pq, rfl⟩
      | 1, _ => exact ⟨p2, rfl⟩
     clear hse0 hqp2
     go_wp2_with fail
     go_loopg [52] 2 (fun gg s52 wx => ∃ (j M : Nat), s52 = .int .i64 j ∧ j ≤ 2 ∧ gg + j = 2 ∧ Hid (M ≤ N + 1 + 7 * j) ∧ Hid (SE w wx g0 c a L M al a9 XL X ∧ Bx wx b40 #[.slice al XL.length cl, .slice a9 X.length c9] 22 ∧ Bx wx b50 #[.int .u64 pq, .int .u64 p2] 33))
     case atStart => exact ⟨0, N + 1, rfl, by omega, by omega, Lib.hid (by omega), HS2⟩
     case round =>
      obtain ⟨j, M, rfl, hj2, hg, HMJ, HR2⟩ := hrel
      clear HS2 HNB
      have HGJ : Hid (gk + j = 2) := Lib.hid hg
      clear hg
      obtain ⟨wS, rfl⟩ : ∃ wS, wS = wr := ⟨_, rfl⟩
      by_cases hlt2 : j < 2
      ·skip
       have HNB : Hid (M ≤ 500) := Lib.hid (by have := HMJ.out; have := HLI.out; omega)
       have HLJ := Lib.hid hlt2
       obtain ⟨pp, hcell⟩ := HP2.out j hlt2
       go_upto_region 9 with fail
       refine wl <| gzb (lss_n rfl (j) (2) dT) <| wn ?_
       simp only [pu]
       go_upto_region 10 with fail
       refine wl <| gzv (.pointer (some ⟨b50, j, none⟩)) (idx_u6 b50 2 2 j hlt2 _ rfl (by kernel_rfl) (by kernel_rfl)) <| gzl rfl ⟨b50, j, none⟩ (.int .u64 pp) (Bx.load HR2.out.2.2 hcell (by kernel_rfl)) <| gz1 (.int .u64 pp) <| wn ?_
       simp only [pu]
       clear hcell
       have hse0 := HR2.out.1
       go_upto_region 11 with fail
       refine wl <| gz5 (.int .i64 q3) (.int .i64 q4) (.int .i64 q5) (.agg #[.int .i64 q3, .int .i64 q4, .int .i64 q5]) (.pointer (some ⟨g0, 0, none⟩)) ?_
       simp only [pu]
       obtain ⟨v1, hqv1, hcv1⟩ := hse0.nx (by have := HLN.out; omega) (by have := HNB.out; omega) 9 (by omega) (by omega)
       refine gzc (.int .i64 v1) (fun w' => SE w w' g0 c a L (M + 1) al a9 XL X ∧ But g0 wS w') (hcv1) (fun U3 hU => ?_)
       obtain ⟨seU3, btU3⟩ := hU
       clear hcv1
       simp only [pu]
       refine gz1 (.pointer (some ⟨g0, 0, none⟩)) ?_
       simp only [pu]
       obtain ⟨v2, hqv2, hcv2⟩ := seU3.nx (by have := HLN.out; omega) (by have := HNB.out; omega) 13 (by omega) (by omega)
       refine gzc (.int .i64 v2) (fun w' => SE w w' g0 c a L ((M + 1) + 1) al a9 XL X ∧ But g0 U3 w') (hcv2) (fun U4 hU => ?_)
       obtain ⟨seU4, btU4⟩ := hU
       clear hcv2
       simp only [pu]
       refine gz1 (.pointer (some ⟨g0, 0, none⟩)) ?_
       simp only [pu]
       obtain ⟨v3, hqv3, hcv3⟩ := seU4.nx (by have := HLN.out; omega) (by have := HNB.out; omega) 60 (by omega) (by omega)
       refine gzc (.int .i64 v3) (fun w' => SE w w' g0 c a L ((M + 1 + 1) + 1) al a9 XL X ∧ But g0 U4 w') (hcv3) (fun U5 hU => ?_)
       obtain ⟨seU5, btU5⟩ := hU
       clear hcv3
       simp only [pu]
       refine gz2 (.agg #[.int .i64 v1, .int .i64 v2, .int .i64 v3]) (.pointer (some ⟨g0, 0, none⟩)) ?_
       simp only [pu]
       obtain ⟨v4, hqv4, hcv4⟩ := seU5.nx (by have := HLN.out; omega) (by have := HNB.out; omega) 9 (by omega) (by omega)
       refine gzc (.int .i64 v4) (fun w' => SE w w' g0 c a L ((M + 1 + 1 + 1) + 1) al a9 XL X ∧ But g0 U5 w') (hcv4) (fun U6 hU => ?_)
       obtain ⟨seU6, btU6⟩ := hU
       clear hcv4
       simp only [pu]
       refine gz1 (.pointer (some ⟨g0, 0, none⟩)) ?_
       simp only [pu]
       obtain ⟨v5, hqv5, hcv5⟩ := seU6.nx (by have := HLN.out; omega) (by have := HNB.out; omega) 60 (by omega) (by omega)
       refine gzc (.int .i64 v5) (fun w' => SE w w' g0 c a L ((M + 1 + 1 + 1 + 1) + 1) al a9 XL X ∧ But g0 U6 w') (hcv5) (fun U7 hU => ?_)
       obtain ⟨seU7, btU7⟩ := hU
       clear hcv5
       simp only [pu]
       refine gz2 (.agg #[.int .i64 v4, .int .i64 100, .int .i64 v5]) (.pointer (some ⟨g0, 0, none⟩)) ?_
       simp only [pu]
       obtain ⟨v6, hqv6, hcv6⟩ := seU7.nx (by have := HLN.out; omega) (by have := HNB.out; omega) 9 (by omega) (by omega)
       refine gzc (.int .i64 v6) (fun w' => SE w w' g0 c a L ((M + 1 + 1 + 1 + 1 + 1) + 1) al a9 XL X ∧ But g0 U7 w') (hcv6) (fun U8 hU => ?_)
       obtain ⟨seU8, btU8⟩ := hU
       clear hcv6
       simp only [pu]
       refine gz1 (.pointer (some ⟨g0, 0, none⟩)) ?_
       simp only [pu]
       obtain ⟨v7, hqv7, hcv7⟩ := seU8.nx (by have := HLN.out; omega) (by have := HNB.out; omega) 13 (by omega) (by omega)
       refine gzc (.int .i64 v7) (fun w' => SE w w' g0 c a L ((M + 1 + 1 + 1 + 1 + 1 + 1) + 1) al a9 XL X ∧ But g0 U8 w') (hcv7) (fun U9 hU => ?_)
       obtain ⟨seU9, btU9⟩ := hU
       clear hcv7
       simp only [pu]
       refine gz1 (.agg #[.int .i64 v6, .int .i64 v7, .int .i64 1000]) ?_
       simp only [pu]
       refine gw_build (by kernel_rfl) (some 77) rfl 38 4 #[(0, .tmp 59), (1, .tmp 66), (2, .tmp 71), (3, .tmp 76)] rfl #[(0, .agg #[.int .i64 q3, .int .i64 q4, .int .i64 q5]), (1, .agg #[.int .i64 v1, .int .i64 v2, .int .i64 v3]), (2, .agg #[.int .i64 v4, .int .i64 100, .int .i64 v5]), (3, .agg #[.int .i64 v6, .int .i64 v7, .int .i64 1000])] (by kernel_rfl) (.slice (some ⟨U9.heap.size, 0, none⟩) 4 4) _ (build_4a q3 q4 q5 v1 v2 v3 v4 100 v5 v6 v7 1000 U9) ?_
       have hbt9 := (((((btU3.trans btU4).trans btU5).trans btU6).trans btU7).trans btU8).trans btU9
       have hX77 : Bx (U9.alloc (.cells (c12 [q3, q4, q5, ((v1 : Nat) : Int), ((v2 : Nat) : Int), ((v3 : Nat) : Int), ((v4 : Nat) : Int), 100, ((v5 : Nat) : Int), ((v6 : Nat) : Int), ((v7 : Nat) : Int), 1000]).toArray 37)) U9.heap.size (c12 [q3, q4, q5, ((v1 : Nat) : Int), ((v2 : Nat) : Int), ((v3 : Nat) : Int), ((v4 : Nat) : Int), 100, ((v5 : Nat) : Int), ((v6 : Nat) : Int), ((v7 : Nat) : Int), 1000]).toArray 37 := heap_alloc_last U9 _
       have hb77 : Below U9.heap.size U9 (U9.alloc (.cells (c12 [q3, q4, q5, ((v1 : Nat) : Int), ((v2 : Nat) : Int), ((v3 : Nat) : Int), ((v4 : Nat) : Int), 100, ((v5 : Nat) : Int), ((v6 : Nat) : Int), ((v7 : Nat) : Int), 1000]).toArray 37)) := (Below.refl _ U9).alloc (Nat.le_refl _) _
       have hX40 := HR2.out.2.1.but hbt9 (by have := HG4.out; omega)
       have hX50 := HR2.out.2.2.but hbt9 (by have := HG5.out; omega)
       have hX41 := hX40.below hX40.lt hb77
       have hX51 := hX50.below hX50.lt hb77
       have hse9 := seU9.below hb77
       generalize U9.alloc (.cells (c12 [q3, q4, q5, ((v1 : Nat) : Int), ((v2 : Nat) : Int), ((v3 : Nat) : Int), ((v4 : Nat) : Int), 100, ((v5 : Nat) : Int), ((v6 : Nat) : Int), ((v7 : Nat) : Int), 1000]).toArray 37) = U10 at *
       obtain ⟨b77, hb7⟩ : ∃ q, U9.heap.size = q := ⟨_, rfl⟩
       rw [hb7] at hX77 ⊢
       have HS9 : Hid (SE w U10 g0 c a L (M + 1 + 1 + 1 + 1 + 1 + 1 + 1) al a9 XL X ∧ Bx U10 b40 #[.slice al XL.length cl, .slice a9 X.length c9] 22 ∧ Bx U10 b50 #[.int .u64 pq, .int .u64 p2] 33) := Lib.hid ⟨hse9, hX41, hX51⟩
       have HTT : Hid (∀ V, Below U10.heap.size U10 V → ∀ q, q < 4 → ∃ t0 t1 t2 : Int, V.rangeAt b77 (q * 3) [.int .i64 t0, .int .i64 t1, .int .i64 t2] ∧ t2 < 9223372036854775808) := Lib.hid fun V hV q hq => by
        refine ⟨_, _, _, three_at rfl (hX77.below hX77.lt hV) q hq, ?_⟩
        have := HQ5.out
        match q, hq with
        | 0, _ => exact this
        | 1, _ => show (v3 : Int) < _; omega
        | 2, _ => show (v5 : Int) < _; omega
        | 3, _ => show (1000 : Int) < _; omega
       clear hX77 hb77 hX40 hX50 hX41 hX51 hse9 hb7 hbt9 seU3 seU4 seU5 seU6 seU7 seU8 seU9 btU3 btU4 btU5 btU6 btU7 btU8 btU9 hqv1 hqv2 hqv3 hqv4 hqv5 hqv6 hqv7 hse0
       simp only [pu]
       refine gz2 (.int .i64 4) (.int .i64 0) <| wn ?_
       simp only [pu]
       go_wp2_with fail
       go_loopg [79] 4 (fun gg s79 wx => ∃ (q : Nat), s79 = .int .i64 q ∧ q ≤ 4 ∧ gg + q = 4 ∧ Hid (Below U10.heap.size U10 wx))
       case atStart => exact ⟨0, rfl, by omega, by omega, Lib.hid (Below.refl _ _)⟩
       case round =>
        obtain ⟨q, rfl, hq4, hg, HR3⟩ := hrel
        have HGQ : Hid (gk + q = 4) := Lib.hid hg
        clear hg
        by_cases hlt3 : q < 4
        ·skip
         obtain ⟨t0, t1, t2, hrt, ht2⟩ := HTT.out wr HR3.out q hlt3
         obtain ⟨V2, hst2, hb2, hX20⟩ := new_bx (c := #[.int .i64 0, .int .i64 0, .int .i64 0]) (c' := #[.int .i64 t0, .int .i64 t1, .int .i64 t2]) (ty := 37) wr rfl (by kernel_rfl) (by kernel_rfl)
         have HV2 : Hid (Below U10.heap.size U10 V2) := Lib.hid (HR3.out.trans (hb2.mono HR3.out.size))
         have hxr := HXX.out V2 _ (HS9.out.1.below HV2.out)
         have C1 := q_select (c := cx) hxr (by have := HFX.out.l; omega) HFX.out.r pp t0 t1 t2 ht2
         have HXV := Lib.hid (fun V (hV : Below V2.heap.size V2 V) => hxr.below hV)
         have HT2 := Lib.hid ht2
         have HX20 := Lib.hid (fun V (hV : Below V2.heap.size V2 V) => hX20.below hX20.lt hV)
         obtain ⟨K, hK⟩ : ∃ K, vicK (ordL (lE XX)) pp (max t0 0) t1 t2 = K := ⟨_, rfl⟩
         obtain ⟨okb, hok⟩ : ∃ k, vicB (ordL (lE XX)) pp (max t0 0) t1 t2 = k := ⟨_, rfl⟩
         have HKO : Hid (vicK (ordL (lE XX)) pp (max t0 0) t1 t2 = K ∧ vicB (ordL (lE XX)) pp (max t0 0) t1 t2 = okb ∧ K.length ≤ 100000) := Lib.hid ⟨hK, hok, by
          rw [← hK]
          unfold vicK
          split
          ·rw [List.length_map, List.length_take]
           have := ordL_len XX
           have := HFX.out.l
           omega
          ·simp⟩
         rw [hK, hok] at C1
         obtain ⟨g20, hg20⟩ : ∃ k, wr.heap.size = k := ⟨_, rfl⟩
         rw [hg20] at HX20
         clear hb2 hX20 hxr ht2 hK hok
         go_upto_region 12 with fail
         refine wl <| gzb (lss_n rfl (q) (4) dT) <| wn ?_
         simp only [pu]
         go_upto_region 13 with fail
         refine wl <| gzv (.pointer (some ⟨b77, q * 3, none⟩)) (idx_a3 b77 4 4 q hlt3 _ rfl (by kernel_rfl) (by kernel_rfl)) <|
          gzl rfl ⟨b77, q * 3, none⟩ (.agg #[.int .i64 t0, .int .i64 t1, .int .i64 t2]) (run_loadAt_mid wr b77 (q * 3) 37 [.int .i64 t0, .int .i64 t1, .int .i64 t2] _ hrt Try.underlying37 rfl (by kernel_rfl)) ?_
         simp only [pu]
         refine run_to rfl (some 20) rfl (.pointer (some ⟨wr.heap.size, 0, none⟩)) (wr.alloc (.cells #[.int .i64 0, .int .i64 0, .int .i64 0] 37)) (by kernel_rfl) ?_
         simp only [pu]
         refine gzs rfl (hst2) <| wn ?_
         rw [hg20]
         clear hst2 hrt hg20
         go_upto_region 14 with fail
         refine wl <| gz3 (.slice ax XX.length cx) (.int .u64 pp) (.pointer (some ⟨g20, 0, none⟩)) <| gzl rfl ⟨g20, 0, none⟩ (.int .i64 t0) (rg_cell (bx_range (cs := [.int .i64 t0, .int .i64 t1, .int .i64 t2]) (HX20.out V2 (Below.refl _ _))) (j := 0) rfl (by kernel_rfl)) <|
          gz1 (.pointer (some ⟨g20, 1, none⟩)) <| gzl rfl ⟨g20, 1, none⟩ (.int .i64 t1) (rg_cell (bx_range (cs := [.int .i64 t0, .int .i64 t1, .int .i64 t2]) (HX20.out V2 (Below.refl _ _))) (j := 1) rfl (by kernel_rfl)) <| gz1 (.pointer (some ⟨g20, 2, none⟩)) <|
          gzl rfl ⟨g20, 2, none⟩ (.int .i64 t2) (rg_cell (bx_range (cs := [.int .i64 t0, .int .i64 t1, .int .i64 t2]) (HX20.out V2 (Below.refl _ _))) (j := 2) rfl (by kernel_rfl)) <|
          gze (fun vx w' => ∃ av cv, vx = .tuple #[.slice av K.length cv, .bool okb] ∧ Cs w' av (kys K) ∧ Below V2.heap.size V2 w') (C1.mono fun e9 w' z => by obtain ⟨v, h1, a, c, rfl, h2, h3⟩ := z; exact ⟨_, h1, a, c, rfl, h2, h3⟩) (fun vv V3 hq => ?_)
         obtain ⟨av1, cv1, rfl, hk1, hb1⟩ := hq
         simp only [pu]
         refine gz5 (.tuple #[.slice av1 K.length cv1, .bool okb]) (.slice av1 K.length cv1) (.bool okb) (.slice av1 K.length cv1) (.bool okb) <| wn ?_
         simp only [pu]
         have HB3' := Lib.hid hb1
         have C2 := r_select (c := cx) (HXV.out V3 hb1) HFX.out.l HFX.out.r pp t0 t1 t2 HT2.out
         rw [HKO.out.1, HKO.out.2.1] at C2
         clear C1 hb1
         go_upto_region 15 with fail
         refine wl <| gz3 (.slice ax XX.length cx) (.int .u64 pp) (.pointer (some ⟨g20, 0, none⟩)) <| gzl rfl ⟨g20, 0, none⟩ (.int .i64 t0) (rg_cell (bx_range (cs := [.int .i64 t0, .int .i64 t1, .int .i64 t2]) (HX20.out V3 HB3'.out)) (j := 0) rfl (by kernel_rfl)) <|
          gz1 (.pointer (some ⟨g20, 1, none⟩)) <| gzl rfl ⟨g20, 1, none⟩ (.int .i64 t1) (rg_cell (bx_range (cs := [.int .i64 t0, .int .i64 t1, .int .i64 t2]) (HX20.out V3 HB3'.out)) (j := 1) rfl (by kernel_rfl)) <| gz1 (.pointer (some ⟨g20, 2, none⟩)) <|
          gzl rfl ⟨g20, 2, none⟩ (.int .i64 t2) (rg_cell (bx_range (cs := [.int .i64 t0, .int .i64 t1, .int .i64 t2]) (HX20.out V3 HB3'.out)) (j := 2) rfl (by kernel_rfl)) <|
          gze (fun vx w' => ∃ av cv, vx = .tuple #[.slice av K.length cv, .bool okb] ∧ Cs w' av (kys K) ∧ Below V3.heap.size V3 w') (C2.mono fun e9 w' z => by obtain ⟨v, h1, a, c, rfl, h2, h3⟩ := z; exact ⟨_, h1, a, c, rfl, h2, h3⟩) (fun vv V4 hq => ?_)
         obtain ⟨av2, cv2, rfl, hk2, hb2⟩ := hq
         simp only [pu]
         refine gz5 (.tuple #[.slice av2 K.length cv2, .bool okb]) (.slice av2 K.length cv2) (.bool okb) (.slice av2 K.length cv2) (.bool okb) <| wn ?_
         simp only [pu]
         have C3 := same_keys (c := cv1) (c2 := cv2) (hk1.below hb2) hk2 HKO.out.2.2
         have HB4 : Hid (Below U10.heap.size U10 V4) := Lib.hid ((HV2.out.trans (HB3'.out.mono HV2.out.size)).trans (hb2.mono (by have := HB3'.out.size; have := HV2.out.size; omega)))
         clear C2 hk1 hk2 hb2 HX20 HXV
         go_upto_region 16 with fail
         refine wl <| gz2 (.bool okb) (.bool okb) <| gzw (.bool false) (neq_b rfl okb okb (by cases okb <;> rfl)) <| gz3 (.bool false) (.slice av1 K.length cv1) (.slice av2 K.length cv2) <|
          gzc (.bool true) (fun w' => Below V4.heap.size V4 w') (C3) (fun V5 hV5 => ?_)
         simp only [pu]
         refine gz2 (.bool false) (.bool false) <| wn ?_
         simp only [pu]
         have HR4 : Hid (Below U10.heap.size U10 V5) := Lib.hid (HB4.out.trans (hV5.mono HB4.out.size))
         clear C3 hV5
         go_upto_region 18 with fail
         refine wl <| gzv (.int .i64 (q + 1 : Nat)) (add_one rfl q (by omega) (by kernel_rfl) _) <| gz1 (.int .i64 (q + 1 : Nat)) <| wn ?_
         simp only [pu]
         go_wp2_with fail
         go_roundg (4 - (q + 1))
         case measure => have := HGQ.out; omega
         case rel => exact ⟨q + 1, rfl, by omega, by omega, HR4⟩
        ·skip
         obtain rfl : q = 4 := by omega
         go_upto_region 12 with fail
         refine wl <| gzb (lss_n rfl (((4 : Nat) : Int)) (4) dF) <| wn ?_
         simp only [pu]
         have HRN : Hid (SE w wr g0 c a L (M + 1 + 1 + 1 + 1 + 1 + 1 + 1) al a9 XL X ∧ Bx wr b40 #[.slice al XL.length cl, .slice a9 X.length c9] 22 ∧ Bx wr b50 #[.int .u64 pq, .int .u64 p2] 33) := Lib.hid ⟨HS9.out.1.below HR3.out, HS9.out.2.1.below HS9.out.2.1.lt HR3.out, HS9.out.2.2.below HS9.out.2.2.lt HR3.out⟩
         go_upto_region 19 with fail
         refine wl <| gzv (.int .i64 (j + 1 : Nat)) (add_one rfl j (by omega) (by kernel_rfl) _) <| gz1 (.int .i64 (j + 1 : Nat)) <| wn ?_
         simp only [pu]
         go_wp2_with fail
         go_roundg (2 - (j + 1))
         case measure => have := HGJ.out; have := HLJ.out; omega
         case rel => exact ⟨j + 1, _, rfl, by omega, by omega, Lib.hid (by have := HMJ.out; omega), HRN⟩
      ·skip
       obtain rfl : j = 2 := by omega
       go_upto_region 9 with fail
       refine wl <| gzb (lss_n rfl (((2 : Nat) : Int)) (2) dF) <| wn ?_
       simp only [pu]
       go_upto_region 20 with fail
       refine wl <| gzv (.int .i64 (i + 1 : Nat)) (add_one rfl i (by omega) (by kernel_rfl) _) <| gz1 (.int .i64 (i + 1 : Nat)) <| wn ?_
       simp only [pu]
       go_wp2_with fail
       go_roundg (2 - (i + 1))
       case measure => have := HGI.out; have := HLI.out; omega
       case rel => exact ⟨i + 1, M, rfl, by omega, by omega, Lib.hid (by have := HMJ.out; have := HNI.out; omega), Lib.hid ⟨HR2.out.1, HR2.out.2.1⟩⟩
    ·skip
     obtain rfl : i = 2 := by omega
     have hkn := known_true wR
     go_upto_region 6 with fail
     refine wl <| gzb (lss_n rfl (((2 : Nat) : Int)) (2) dF) <| wn ?_
     simp only [pu]
     go_upto_region 21 with fail
     refine wl <| gzc (.bool true) (fun w' => Below wR.heap.size wR w') (hkn) (fun W9 hW9 => ?_)
     simp only [pu]
     refine gz1 (.bool true) <| wn ?_
     simp only [pu]
     have HE := Lib.hid (HR.out.1.bel.trans (hW9.mono HR.out.1.bel.size))
     clear hkn hW9
     go_wp2_with fail
     go_ret
     exact ⟨rfl, HE.out⟩
  ·skip
   rw [decide_eq_false (by omega)] at CR
   refine wl <| gz1 (.slice a L.length c) ?_
   simp only [pu]
   refine gw_build (by kernel_rfl) (some 26) rfl 52 1 #[(0, .tmp 25)] rfl #[(0, .slice a L.length c)] (by kernel_rfl) (.slice (some ⟨w.heap.size, 0, none⟩) 1 1) _ hbd ?_
   simp only [pu]
   refine gzc (.bool false) (fun w' => W1 = w') (CL) (fun V9 hV9 => ?_)
   subst hV9
   simp only [pu]
   refine gz2 (.bool false) (.slice al XL.length cl) <| gzc (.bool false) (fun w' => Below W1.heap.size W1 w') (CR) (fun W1b hW1 => ?_)
   simp only [pu]
   refine gz2 (.bool true) (.bool true) <| wn ?_
   simp only [pu]
   have HB1 := Lib.hid (HB0.out.trans (hW1.mono HB0.out.size))
   clear CL CR hbd hW1
   have CK := known_true W1b
   go_upto_region 2 with fail
   refine wl <| gzc (.bool true) (fun w' => Below W1b.heap.size W1b w') (CK) (fun V2 hV2 => ?_)
   simp only [pu]
   refine gz1 (.bool true) <| wn ?_
   simp only [pu]
   have HE := Lib.hid (HB1.out.trans (hV2.mono HB1.out.size))
   go_wp2_with fail
   go_ret
   exact ⟨rfl, HE.out⟩
end Go.Proofs.Ytgkckblcekbafaa
