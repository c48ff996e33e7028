/-
  The walk of the statement on what is accepted, over what the program's functions are held to.
-/
import Derived.Test.YtbhnbcpllhefgaaDoorMX
import Derived.Test.YtbhnbcpllhefgaaDoorIV
namespace Go.Proofs.YtbhnbcpllhefgaaDoor
open Go.RowKit
set_option linter.unusedSimpArgs false

theorem lvL_one (L : List Int) (k j : Nat) : ((lvL L k).getD j []).length ≤ 999 := by
  by_cases h : j < k
  · simp only [List.getD, lvL, List.getElem?_map, List.getElem?_range h, Option.map_some, Option.getD_some]
    split <;> simp
  · rw [List.getD_eq_getElem?_getD, List.getElem?_eq_none (by rw [lvL_len]; omega)]
    simp
/-- What is given to Verify. -/
structure D4E (w : World) (gx g : Nat) (X : List Int) (ap : Option Addr) (cp : Nat) (P : List (List Int)) (al : Option Addr) (cl : Nat) (B : List Int) (a b : Int) (R : List Int) (V : World) : Prop where
  glob : Glob V
  x : Ab V gx 24 X
  p : Rk V ap P
  pc : P.length ≤ cp
  pn : P.length ≤ 500
  p8 : ∀ k ∈ P, ∀ x, x ∈ k → W8 x
  l : Sl V al cl B
  lc : B.length ≤ cl
  l8 : ∀ x, x ∈ B → W8 x
  ln : B.length ≤ 1000
  a1 : -9223372036854775808 ≤ a
  a2 : a ≤ 9223372036854775807
  b1 : -9223372036854775808 ≤ b
  b2 : b ≤ 1000000
  r : Ab V g 24 R
  r32 : R.length = 32
  r8 : ∀ x, x ∈ R → W8 x
  bel : Below w.heap.size w V
theorem D4E.below {w V V' : World} {gx g : Nat} {X : List Int} {ap : Option Addr} {cp : Nat} {P : List (List Int)} {al : Option Addr} {cl : Nat} {B : List Int} {a b : Int} {R : List Int} (h : D4E w gx g X ap cp P al cl B a b R V) (hb : Below V.heap.size V V') : D4E w gx g X ap cp P al cl B a b R V' :=
  { h with glob := h.glob.below h.glob.size hb, x := h.x.below h.x.lt hb, p := h.p.below hb, l := sl_below h.l hb, r := h.r.below h.r.lt hb, bel := h.bel.trans (hb.mono h.bel.size) }

/-- What a key appended to a copied path keeps, whichever of its operations are done. -/
structure MF (wc : World) (P : List (List Int)) (X : List Int) (pn : Nat) (b0 b1 b2 b4 b5 b6 : Bool) (x0 x2 x4 x5 : Value) (V : World) : Prop where
  base : Below wc.heap.size wc V
  nil : b0 = true → b2 = false → ∃ g0, x0 = .slice (some ⟨g0, 0, none⟩) 0 0 ∧ OwnK V wc.heap.size (.slice (some ⟨g0, 0, none⟩) 0 0) [] ∧ g0 < V.heap.size ∧ ∀ g, b4 = true → x4 = .slice (some ⟨g, 0, none⟩) 1 1 → g ≠ g0
  cop : b2 = true → b5 = false → ∃ a c, x2 = .slice a pn c ∧ OwnK V wc.heap.size (.slice a pn c) P
  key : b4 = true → b5 = false → ∃ g, x4 = .slice (some ⟨g, 0, none⟩) 1 1 ∧ Ab V g 24 X
  all : b5 = true → ∃ a c, x5 = .slice a (pn + 1) c ∧ OwnK V wc.heap.size (.slice a (pn + 1) c) (P ++ [X])
  asg : b6 = true → b1 = true ∧ b5 = true
  seq : b5 = true → b2 = true
theorem MF.start (wc : World) (P : List (List Int)) (X : List Int) (pn : Nat) (x0 x2 x4 x5 : Value) : MF wc P X pn false false false false false false x0 x2 x4 x5 { wc with drawn := wc.drawn + 1 } :=
  ⟨(Below.refl _ wc).drew, fun h => (by cases h), fun h => (by cases h), fun h => (by cases h), fun h => (by cases h), fun h => (by cases h), fun h => (by cases h)⟩
section
variable {wc V V2 : World} {P : List (List Int)} {X : List Int} {pn : Nat} {b0 b1 b2 b4 b5 b6 : Bool} {x0 x2 x4 x5 : Value}
theorem MF.made (h : MF wc P X pn false b1 b2 b4 b5 b6 x0 x2 x4 x5 V) : MF wc P X pn true b1 b2 b4 b5 b6 (.slice (some ⟨V.heap.size, 0, none⟩) 0 0) x2 x4 x5 (V.alloc (.cells #[] 24)) :=
  have hb : Below V.heap.size V (V.alloc (.cells #[] 24)) := (Below.refl _ V).alloc (Nat.le_refl _) _
  { base := h.base.trans (hb.mono h.base.size)
    nil := fun _ h2 => ⟨V.heap.size, rfl, (own_nil_keys V).base h.base.size, by simp, fun g h4 e => by
      cases b5 with
      | false =>
        obtain ⟨g', e', hA⟩ := h.key h4 rfl
        rw [e'] at e
        simp only [Value.slice.injEq, Option.some.injEq, Addr.mk.injEq, and_true] at e
        have := hA.lt
        omega
      | true =>
        have := h.seq rfl
        rw [h2] at this
        cases this⟩
    cop := fun h1 h2 => let ⟨a, c, e, o⟩ := h.cop h1 h2; ⟨a, c, e, o.below hb⟩
    key := fun h1 h2 => let ⟨g, e, o⟩ := h.key h1 h2; ⟨g, e, o.below o.lt hb⟩
    all := fun h1 => let ⟨a, c, e, o⟩ := h.all h1; ⟨a, c, e, o.below hb⟩
    asg := h.asg
    seq := h.seq }
theorem MF.moved (h : MF wc P X pn b0 b1 b2 b4 b5 b6 x0 x2 x4 x5 V) : MF wc P X pn b0 true b2 b4 b5 b6 x0 x2 x4 x5 V :=
  { h with asg := fun h6 => ⟨rfl, (h.asg h6).2⟩ }
theorem MF.built (h : MF wc P X pn b0 b1 b2 false b5 b6 x0 x2 x4 x5 V) : MF wc P X pn b0 b1 b2 true b5 b6 x0 x2 (.slice (some ⟨V.heap.size, 0, none⟩) 1 1) x5 (V.alloc (.cells (w8s X) 24)) :=
  have hb : Below V.heap.size V (V.alloc (.cells (w8s X) 24)) := (Below.refl _ V).alloc (Nat.le_refl _) _
  { base := h.base.trans (hb.mono h.base.size)
    nil := fun h1 h2 => let ⟨g0, e, o, hl, _⟩ := h.nil h1 h2; ⟨g0, e, o.below hb, Nat.lt_of_lt_of_le hl hb.size, fun g _ e2 => by
      simp only [Value.slice.injEq, Option.some.injEq, Addr.mk.injEq, and_true] at e2
      omega⟩
    cop := fun h1 h2 => let ⟨a, c, e, o⟩ := h.cop h1 h2; ⟨a, c, e, o.below hb⟩
    key := fun _ _ => ⟨V.heap.size, rfl, heap_alloc_last V _⟩
    all := fun h1 => let ⟨a, c, e, o⟩ := h.all h1; ⟨a, c, e, o.below hb⟩
    asg := h.asg
    seq := h.seq }
theorem MF.copied {g0 : Nat} {a : Option Addr} {c : Nat} (h : MF wc P X pn true b1 false b4 b5 b6 (.slice (some ⟨g0, 0, none⟩) 0 0) x2 x4 x5 V) (hn : ∀ g, b4 = true → x4 = .slice (some ⟨g, 0, none⟩) 1 1 → g ≠ g0)
    (hO : OwnK V2 wc.heap.size (.slice a pn c) P) (hb : Below wc.heap.size V V2) (hg : V.grownBy V2 (some g0)) : MF wc P X pn true b1 true b4 b5 b6 (.slice (some ⟨g0, 0, none⟩) 0 0) (.slice a pn c) x4 x5 V2 :=
  { base := h.base.trans hb
    nil := fun _ h2 => by cases h2
    cop := fun _ _ => ⟨a, c, rfl, hO⟩
    key := fun h1 h2 => let ⟨g, e, o⟩ := h.key h1 h2; ⟨g, e, o.grown hg (by
      have := hn g h1 e
      simpa using this)⟩
    all := fun h1 => by have := h.seq h1; cases this
    asg := h.asg
    seq := fun _ => rfl }
theorem MF.done {a : Option Addr} {c : Nat} (h : MF wc P X pn b0 b1 true b4 false b6 x0 x2 x4 x5 V) (hO : OwnK V2 wc.heap.size (.slice a (pn + 1) c) (P ++ [X])) (hb : Below wc.heap.size V V2) : MF wc P X pn b0 b1 true b4 true b6 x0 x2 x4 (.slice a (pn + 1) c) V2 :=
  { base := h.base.trans hb
    nil := fun _ h2 => by cases h2
    cop := fun _ h2 => by cases h2
    key := fun _ h2 => by cases h2
    all := fun _ => ⟨a, c, rfl, hO⟩
    asg := fun h6 => absurd (h.asg h6).2 (by decide)
    seq := fun _ => rfl }
theorem MF.set (h : MF wc P X pn b0 true b2 b4 true b6 x0 x2 x4 x5 V) : MF wc P X pn b0 true b2 b4 true true x0 x2 x4 x5 V := { h with asg := fun _ => ⟨rfl, rfl⟩ }
end

set_option maxRecDepth 100000 in
set_option maxHeartbeats 4000000 in
theorem refuses_core (hk : Kept) (a0 : Option Addr) (c0 : Nat) (L : List Int) (n at2 how : Int) (X : List Int) (i5 k6 : Int) (w : World)
    (hc0 : L.length ≤ c0) (hs0 : Sl w a0 c0 L) (hb0 : ∀ x, x ∈ L → W8 x) (hn : W8 n) (h2 : W8 at2) (h3 : W8 how) (hX : X.length = 32) (hX8 : ∀ x, x ∈ X → W8 x)
    (hi5 : -9223372036854775808 ≤ i5 ∧ i5 ≤ 9223372036854775807) (hi6 : -9223372036854775808 ≤ k6 ∧ k6 ≤ 9223372036854775807) (hG : Glob w) :
    Calls Tryd.prog 6 #[.slice a0 L.length c0, .int .u8 n, .int .u8 at2, .int .u8 how, .agg (w8s X), .int .i64 i5, .int .i64 k6] w fun e w' => e = .returned (.bool true) ∧ Below w.heap.size w w' := by
  have hKN := hk.known
  obtain ⟨cR, -, -, -, cV⟩ := hk
  obtain ⟨k, hk1, hk2⟩ := mod20 n hn
  have B1 := (Below.refl _ w).alloc (Nat.le_refl _) (.cells (w8s X) 24)
  have A1 : Ab (w.alloc (.cells (w8s X) 24)) w.heap.size 24 X := heap_alloc_last _ _
  have hG1 : Glob (w.alloc (.cells (w8s X) 24)) := hG.below hG.size B1
  have hS1 := sl_below hs0 B1
  by_cases hm : 100 < L.length
  · have hd : decide (100 < (L.length : Int)) = true := decide_eq_true (by omega)
    have KN := hKN _ hG1
    have HB1 := Lib.hid B1
    clear hs0 hb0 hc0 hS1 A1 B1
    generalize L.length = m at *
    go_enter Tryd.func6, Tryd.ntmps6
    go_upto_region 1 with fail
    generalize w.alloc (.cells (w8s X) 24) = V0 at *
    go_wp2_with (go_at_call 8; refine KN.mono ?_; rintro e w9 ⟨rfl, hb9⟩)
    have HB := Lib.hid (HB1.out.trans (hb9.mono HB1.out.size))
    clear hb9
    go_ret
    exact ⟨rfl, HB.out⟩
  · have hd : decide (100 < (L.length : Int)) = false := decide_eq_false (by omega)
    have CLV := leaves_any L a0 c0 n k (w.alloc (.cells (w8s X) 24)) hS1 hc0 hb0 (by omega) hn.1 hk1 hk2
    have HLV := Lib.hid (lvL_len L k)
    have HG := Lib.hid hG1
    have HA := Lib.hid A1
    have HB1 := Lib.hid B1
    have hlv1 : ∀ j, ((lvL L k).getD j []).length ≤ 999 := lvL_one L k
    generalize lvL L k = lv at *
    clear hs0 hb0 hG hG1 hS1 A1 B1
    generalize L.length = m at *
    go_enter Tryd.func6, Tryd.ntmps6
    go_upto_region 1 with fail
    generalize w.alloc (.cells (w8s X) 24) = V0 at *
    go_upto_region 4 with (go_at_call 9; refine CLV.mono ?_; rintro e w1 ⟨_, rfl, ⟨a5, c5, rfl, hR5, h5⟩, hb5⟩)
    clear CLV
    by_cases hk0 : k = 0
    · subst hk0
      have hG1 := HG.out.below HG.out.size hb5
      have CRZ := cR lv a5 c5 w1 hG1 (by rw [HLV.out]; omega) (by rw [HLV.out]; exact h5) hR5
      rw [HLV.out] at CRZ
      have hr := root_byte lv
      have hB1 := HB1.out.trans (hb5.mono HB1.out.size)
      have CVZ := fun V (h : Glob V) => cV (rootL lv) [] none 0 0 0 none 0 [] V h hr.1 hr.2 (.inl ⟨rfl, rfl, rfl⟩) (by simp) (by simp) (by simp) (by omega) (by omega) (by omega) (by omega) (by simp) (by simp) (by simp) (fun i hi => by simp at hi)
      rw [verL_out _ _ _ _ _ (.inr (by omega))] at CVZ
      generalize rootL lv = R at *
      clear HG HA HB1 hb5 hR5 hr
      go_upto_region 5 with fail
      apply wp_region_lit
      refine gw_val (by kernel_rfl) (some 33) rfl (.slice a5 0 c5) (by kernel_rfl) ?_
      simp only [Act.put, List.setIfInBounds_toArray, List.set_cons_succ, List.set_cons_zero]
      refine gw_call (by kernel_rfl) (some 34) rfl 10 #[.slice a5 0 c5] (.agg (w8s R)) (Below w1.heap.size w1) (by kernel_rfl) CRZ (fun w2 hb2 => ?_)
      have hG2 := hG1.below hG1.size hb2
      have hB2 := hB1.trans (hb2.mono hB1.size)
      simp only [Act.put, List.setIfInBounds_toArray, List.set_cons_succ, List.set_cons_zero]
      refine gw_call (by kernel_rfl) (some 35) rfl 19 #[.agg (w8s R), .slice none 0 0, .int .i64 0, .int .i64 0, .slice none 0 0] (.bool false) (Below w2.heap.size w2) (by kernel_rfl) (CVZ w2 hG2) (fun w3 hb3 => ?_)
      have hG3 := hG2.below hG2.size hb3
      have hB3 := hB2.trans (hb3.mono hB2.size)
      simp only [Act.put, List.setIfInBounds_toArray, List.set_cons_succ, List.set_cons_zero]
      refine gw_val (by kernel_rfl) (some 36) rfl (.bool true) (by kernel_rfl) ?_
      simp only [Act.put, List.setIfInBounds_toArray, List.set_cons_succ, List.set_cons_zero]
      refine gw_val (by kernel_rfl) (some 37) rfl (.bool true) (by kernel_rfl) ?_
      simp only [Act.put, List.setIfInBounds_toArray, List.set_cons_succ, List.set_cons_zero]
      refine gw_call (by kernel_rfl) (some 38) rfl 8 #[] (.bool true) (Below w3.heap.size w3) (by kernel_rfl) (hKN w3 hG3) (fun w4 hb4 => ?_)
      have HB4 := Lib.hid (hB3.trans (hb4.mono hB3.size))
      simp only [Act.put, List.setIfInBounds_toArray, List.set_cons_succ, List.set_cons_zero]
      refine gw_val (by kernel_rfl) (some 39) rfl (.bool true) (by kernel_rfl) ?_
      simp only [Act.put, List.setIfInBounds_toArray, List.set_cons_succ, List.set_cons_zero]
      refine gw_val (by kernel_rfl) (some 14) rfl (.bool true) (by kernel_rfl) ?_
      simp only [Act.put, List.setIfInBounds_toArray, List.set_cons_succ, List.set_cons_zero]
      apply wpList_nil
      clear hB1 hB2 hB3 hG1 hG2 hG3 hb2 hb3 hb4 CRZ CVZ
      go_wp2_with fail
      go_ret
      exact ⟨rfl, HB4.out⟩
    · have hkz : ((k : Int) == 0) = false := beq_false_of_ne (by omega)
      obtain ⟨j, hj⟩ : ∃ j : Nat, at2.tmod (k : Int) = (j : Int) := ⟨(at2.tmod (k : Int)).toNat, (Int.toNat_of_nonneg (Int.tmod_nonneg _ h2.1)).symm⟩
      have hjk : j < k := by have := Int.tmod_lt_of_pos at2 (b := (k : Int)) (by omega); omega
      have hw2 : IntKind.i64.wrap at2 = at2 := by rw [IntKind.wrap_i64]; have := h2.1; have := h2.2; omega
      have hwj : IntKind.i64.wrap (j : Int) = (j : Int) := by rw [IntKind.wrap_i64]; omega
      have hnz : ¬ ((k : Int) = 0) := by omega
      have CP := refproof_pro lv a5 c5 j w1 (by rw [HLV.out]; omega) (by rw [HLV.out]; exact h5) hR5
      rw [prL_in lv j (by rw [HLV.out]; exact hjk)] at CP
      rw [HLV.out] at CP
      unfold PrO at CP
      go_upto_region 7 with fail
      apply wp_region_lit
      refine gw_val (by kernel_rfl) (some 46) rfl (.slice a5 k c5) (by kernel_rfl) ?_
      simp only [Act.put, List.setIfInBounds_toArray, List.set_cons_succ, List.set_cons_zero]
      refine gw_val (by kernel_rfl) (some 47) rfl (.int .i64 j) (by kernel_rfl) ?_
      simp only [Act.put, List.setIfInBounds_toArray, List.set_cons_succ, List.set_cons_zero]
      have hpl := path_len 19 lv j (by rw [HLV.out]; omega)
      have hpb := path_byte _ lv j (Nat.le_refl _)
      have hjl : j < lv.length := by rw [HLV.out]; exact hjk
      obtain ⟨b, off, ai, ci, rfl, hbb, xc, hSi, hci, hx8, hx3⟩ := hR5 j hjl
      have CR := fun V (h : RB V (some ⟨b, off, none⟩) lv) => refroot_any lv (some ⟨b, off, none⟩) c5 V (by rw [HLV.out]; omega) (by rw [HLV.out]; exact h5) h
      rw [HLV.out] at CR
      have hr := root_byte lv
      have hxl : (lv.getD j []).length ≤ 999 := hlv1 j
      generalize pathL lv j = P at *
      generalize lv.getD j [] = x at *
      generalize rootL lv = R at *
      have HP8 := Lib.hid (fun q hq => (hpb q hq).2)
      clear hpb hx3 hjl
      refine gw_callE (by kernel_rfl) (some 48) rfl 17 #[.slice (some ⟨b, off, none⟩) k c5, .int .i64 j] (fun v w' => ∃ a c, v = .tuple #[.slice a P.length c, .bool true] ∧ Rk w' a P ∧ P.length ≤ c ∧ Below w1.heap.size w1 w') (by kernel_rfl) (CP.mono fun e w' h => by obtain ⟨a, c, he, h⟩ := h; exact ⟨_, he, a, c, rfl, h⟩) (fun v V7 hq => ?_)
      obtain ⟨ap, cp, rfl, hK7, hcp, hb7⟩ := hq
      clear CP
      simp only [Act.put, List.setIfInBounds_toArray, List.set_cons_succ, List.set_cons_zero]
      refine gw_val (by kernel_rfl) (some 45) rfl (.tuple #[.slice ap P.length cp, .bool true]) (by kernel_rfl) ?_
      simp only [Act.put, List.setIfInBounds_toArray, List.set_cons_succ, List.set_cons_zero]
      refine gw_val (by kernel_rfl) (some 49) rfl (.slice ap P.length cp) (by kernel_rfl) ?_
      simp only [Act.put, List.setIfInBounds_toArray, List.set_cons_succ, List.set_cons_zero]
      refine gw_val (by kernel_rfl) (some 50) rfl (.bool true) (by kernel_rfl) ?_
      simp only [Act.put, List.setIfInBounds_toArray, List.set_cons_succ, List.set_cons_zero]
      refine gw_val (by kernel_rfl) (some 17) rfl (.slice ap P.length cp) (by kernel_rfl) ?_
      simp only [Act.put, List.setIfInBounds_toArray, List.set_cons_succ, List.set_cons_zero]
      refine gw_val (by kernel_rfl) (some 18) rfl (.bool true) (by kernel_rfl) ?_
      simp only [Act.put, List.setIfInBounds_toArray, List.set_cons_succ, List.set_cons_zero]
      apply wpList_nil
      have hG7 := (HG.out.below HG.out.size hb5).below (HG.out.below HG.out.size hb5).size hb7
      have hA7 := (HA.out.below HA.out.lt hb5).below (HA.out.below HA.out.lt hb5).lt hb7
      have hR7 := hR5.below hb7
      have hS7 := sl_below hSi hb7
      have hB7 := (HB1.out.trans (hb5.mono HB1.out.size)).trans (hb7.mono (Nat.le_trans HB1.out.size hb5.size))
      have xc7 : V7.cell? ⟨b, off + j, none⟩ = some (.slice ai x.length ci) := (hb7.cell (p := ⟨b, off + j, none⟩) hbb).trans xc
      have hbb7 := Nat.lt_of_lt_of_le hbb hb7.size
      clear hb7 hb5 hR5 hSi xc hbb HG HA HB1
      generalize hxl2 : x.length = xl at *
      have HXL := Lib.hid hxl2
      clear hxl2
      go_upto_region 8 with fail
      go_cut [19, 20, 21, 22] (fun s19 s20 s21 s22 wx => ∃ g : Nat, s19 = .pointer (some ⟨g, 0, none⟩) ∧ s20 = .slice ai xl ci ∧ s21 = .int .i64 j ∧ s22 = .int .i64 k ∧ (V7.heap.size ≤ g ∧ Below V7.heap.size V7 wx) ∧ D4E w w.heap.size g X ap cp P ai ci x j k R wx)
      case first =>
        have hu24 : Tryd.prog.underlying 24 = some (.array 32 5) := by kernel_rfl
        have hi24R : (Tryd.prog.info? 24).map (·.size) = some (R.map (Value.int .u8)).length := by rw [List.length_map, hr.1]; kernel_rfl
        have hone := one_cells R
        have hS0 : Below V7.heap.size V7 V7.drew ∧ V7.drew.cell? ⟨b, off + j, none⟩ = some (.slice ai xl ci) := ⟨(Below.refl _ V7).drew, xc7⟩
        have KA : ∀ (V1 : World) (o : Obj), (Below V7.heap.size V7 V1 ∧ V1.cell? ⟨b, off + j, none⟩ = some (.slice ai xl ci)) → (Below V7.heap.size V7 (V1.alloc o) ∧ (V1.alloc o).cell? ⟨b, off + j, none⟩ = some (.slice ai xl ci)) := fun V1 o h => ⟨h.1.alloc h.1.size o, ((h.1.alloc h.1.size o).cell (p := ⟨b, off + j, none⟩) hbb7).trans xc7⟩
        have KS : ∀ (V1 : World) (g : Nat) (vs : List Value), V7.heap.size ≤ g → (Below V7.heap.size V7 V1 ∧ V1.cell? ⟨b, off + j, none⟩ = some (.slice ai xl ci)) → (Below V7.heap.size V7 (V1.setCells g 0 vs) ∧ (V1.setCells g 0 vs).cell? ⟨b, off + j, none⟩ = some (.slice ai xl ci)) := fun V1 g vs hg h => ⟨h.1.trans ((But.setCells vs 0 V1).below hg), ((h.1.trans ((But.setCells vs 0 V1).below hg)).cell (p := ⟨b, off + j, none⟩) hbb7).trans xc7⟩
        have FA : ∀ w2 : World, (w2.alloc (.cells #[.int .u8 0, .int .u8 0, .int .u8 0, .int .u8 0, .int .u8 0, .int .u8 0, .int .u8 0, .int .u8 0, .int .u8 0, .int .u8 0, .int .u8 0, .int .u8 0, .int .u8 0, .int .u8 0, .int .u8 0, .int .u8 0, .int .u8 0, .int .u8 0, .int .u8 0, .int .u8 0, .int .u8 0, .int .u8 0, .int .u8 0, .int .u8 0, .int .u8 0, .int .u8 0, .int .u8 0, .int .u8 0, .int .u8 0, .int .u8 0, .int .u8 0, .int .u8 0] 24)).there w2.heap.size 0 (R.map (Value.int .u8)).length := fun w2 => by
          have h0 : Ab (w2.alloc (.cells (w8s (List.replicate 32 0)) 24)) w2.heap.size 24 (List.replicate 32 0) := heap_alloc_last w2 _
          exact h0.there _ (by rw [List.length_map, hr.1]; simp)
        have FB : ∀ w2 : World, Below ((V7.alloc (.cells #[.int .u8 0, .int .u8 0, .int .u8 0, .int .u8 0, .int .u8 0, .int .u8 0, .int .u8 0, .int .u8 0, .int .u8 0, .int .u8 0, .int .u8 0, .int .u8 0, .int .u8 0, .int .u8 0, .int .u8 0, .int .u8 0, .int .u8 0, .int .u8 0, .int .u8 0, .int .u8 0, .int .u8 0, .int .u8 0, .int .u8 0, .int .u8 0, .int .u8 0, .int .u8 0, .int .u8 0, .int .u8 0, .int .u8 0, .int .u8 0, .int .u8 0, .int .u8 0] 24)).drew).heap.size ((V7.alloc (.cells #[.int .u8 0, .int .u8 0, .int .u8 0, .int .u8 0, .int .u8 0, .int .u8 0, .int .u8 0, .int .u8 0, .int .u8 0, .int .u8 0, .int .u8 0, .int .u8 0, .int .u8 0, .int .u8 0, .int .u8 0, .int .u8 0, .int .u8 0, .int .u8 0, .int .u8 0, .int .u8 0, .int .u8 0, .int .u8 0, .int .u8 0, .int .u8 0, .int .u8 0, .int .u8 0, .int .u8 0, .int .u8 0, .int .u8 0, .int .u8 0, .int .u8 0, .int .u8 0] 24)).drew) w2 → Ab w2 V7.heap.size 24 (List.replicate 32 0) := fun w2 hb => by
          have h0 : Ab (V7.alloc (.cells (w8s (List.replicate 32 0)) 24)).drew V7.heap.size 24 (List.replicate 32 0) := heap_alloc_last V7 (.cells (w8s (List.replicate 32 0)) 24)
          exact h0.below (by show V7.heap.size < (V7.alloc _).heap.size; simp) hb
        have FL : (R.map (Value.int .u8)).length ≤ (List.replicate 32 (0 : Int)).length := by rw [List.length_map, hr.1]; simp
        have CR2 : ∀ V1 : World, (Below V7.heap.size V7 V1 ∧ V1.cell? ⟨b, off + j, none⟩ = some (.slice ai xl ci)) → Calls Tryd.prog 11 #[.slice (some ⟨b, off, none⟩) k c5] V1 fun e w' => e = .returned (.agg (w8s R)) ∧ Below V1.heap.size V1 w' ∧ (Below V7.heap.size V7 w' ∧ w'.cell? ⟨b, off + j, none⟩ = some (.slice ai xl ci)) := fun V1 h => (CR V1 (hR7.below h.1)).mono fun e w' ⟨he, hb⟩ => ⟨he, hb, h.1.trans (hb.mono h.1.size), ((h.1.trans (hb.mono h.1.size)).cell (p := ⟨b, off + j, none⟩) hbb7).trans xc7⟩
        have HG7 := Lib.hid hG7
        have HA7 := Lib.hid hA7
        have HK7 := Lib.hid hK7
        have HS7 := Lib.hid hS7
        have HB7 := Lib.hid hB7
        clear hG7 hA7 hK7 hS7 hB7 hR7 CR cR cV hKN
        go_region_held3 (fun V1 => Below V7.heap.size V7 V1 ∧ V1.cell? ⟨b, off + j, none⟩ = some (.slice ai xl ci))
          (first | exact hS0 | assumption | exact KA _ _ (by assumption) | exact KS _ _ _ (Nat.le_refl _) (by assumption) | exact KS _ _ _ (by assumption) (by assumption)) (first
          | (go_at_call 11; refine (CR2 _ (by assumption)).mono ?_; rintro e w2 ⟨rfl, hbw, hS2⟩; have hth := FA w2; have hg2 := hS2.1.size; have xc2 := hS2.2; (try (have hF2 := FB w2 hbw; have hth2 := hF2.there _ FL))))
        · have hXA : Ab ((w2.alloc (.cells #[.int .u8 0, .int .u8 0, .int .u8 0, .int .u8 0, .int .u8 0, .int .u8 0, .int .u8 0, .int .u8 0, .int .u8 0, .int .u8 0, .int .u8 0, .int .u8 0, .int .u8 0, .int .u8 0, .int .u8 0, .int .u8 0, .int .u8 0, .int .u8 0, .int .u8 0, .int .u8 0, .int .u8 0, .int .u8 0, .int .u8 0, .int .u8 0, .int .u8 0, .int .u8 0, .int .u8 0, .int .u8 0, .int .u8 0, .int .u8 0, .int .u8 0, .int .u8 0] 24)).setCells w2.heap.size 0 (R.map (Value.int .u8))) w2.heap.size 24 R := by
            have h0 : Ab (w2.alloc (.cells (w8s (List.replicate 32 0)) 24)) w2.heap.size 24 (List.replicate 32 0) := heap_alloc_last w2 _
            exact h0.all R (by rw [hr.1]; rfl)
          have hS9 := KS _ w2.heap.size (R.map (Value.int .u8)) hg2 (KA w2 (.cells #[.int .u8 0, .int .u8 0, .int .u8 0, .int .u8 0, .int .u8 0, .int .u8 0, .int .u8 0, .int .u8 0, .int .u8 0, .int .u8 0, .int .u8 0, .int .u8 0, .int .u8 0, .int .u8 0, .int .u8 0, .int .u8 0, .int .u8 0, .int .u8 0, .int .u8 0, .int .u8 0, .int .u8 0, .int .u8 0, .int .u8 0, .int .u8 0, .int .u8 0, .int .u8 0, .int .u8 0, .int .u8 0, .int .u8 0, .int .u8 0, .int .u8 0, .int .u8 0] 24) hS2)
          generalize (w2.alloc (.cells #[.int .u8 0, .int .u8 0, .int .u8 0, .int .u8 0, .int .u8 0, .int .u8 0, .int .u8 0, .int .u8 0, .int .u8 0, .int .u8 0, .int .u8 0, .int .u8 0, .int .u8 0, .int .u8 0, .int .u8 0, .int .u8 0, .int .u8 0, .int .u8 0, .int .u8 0, .int .u8 0, .int .u8 0, .int .u8 0, .int .u8 0, .int .u8 0, .int .u8 0, .int .u8 0, .int .u8 0, .int .u8 0, .int .u8 0, .int .u8 0, .int .u8 0, .int .u8 0] 24)).setCells w2.heap.size 0 (R.map (Value.int .u8)) = V9 at *
          clear KA KS FA FB CR2 hS0 hS2 hbw hth xc2
          go_wp2_with fail
          go_meet
          exact ⟨_, rfl, rfl, rfl, rfl, ⟨hg2, hS9.1⟩, { glob := HG7.out.below HG7.out.size hS9.1, x := HA7.out.below HA7.out.lt hS9.1, p := HK7.out.below hS9.1, pc := hcp, pn := by omega, p8 := HP8.out, l := sl_below HS7.out hS9.1, lc := by rw [HXL.out]; exact hci, l8 := hx8, ln := by rw [HXL.out]; omega, a1 := by omega, a2 := by omega, b1 := by omega, b2 := by omega, r := hXA, r32 := hr.1, r8 := hr.2, bel := HB7.out.trans (hS9.1.mono HB7.out.size) }⟩
        · have hXA : Ab (w2.setCells V7.heap.size 0 (R.map (Value.int .u8))) V7.heap.size 24 R := hF2.all R (by rw [hr.1]; rfl)
          have hS9 := KS _ V7.heap.size (R.map (Value.int .u8)) (Nat.le_refl _) hS2
          generalize w2.setCells V7.heap.size 0 (R.map (Value.int .u8)) = V9 at *
          clear KA KS FA FB CR2 hS0 hS2 hbw hth hg2 xc2 hF2 hth2
          go_wp2_with fail
          go_meet
          exact ⟨_, rfl, rfl, rfl, rfl, ⟨Nat.le_refl _, hS9.1⟩, { glob := HG7.out.below HG7.out.size hS9.1, x := HA7.out.below HA7.out.lt hS9.1, p := HK7.out.below hS9.1, pc := hcp, pn := by omega, p8 := HP8.out, l := sl_below HS7.out hS9.1, lc := by rw [HXL.out]; exact hci, l8 := hx8, ln := by rw [HXL.out]; omega, a1 := by omega, a2 := by omega, b1 := by omega, b2 := by omega, r := hXA, r32 := hr.1, r8 := hr.2, bel := HB7.out.trans (hS9.1.mono HB7.out.size) }⟩
      case rest =>
        obtain ⟨g, rfl, rfl, rfl, rfl, hS, hE⟩ := hcut
        have HE := Lib.hid hE
        have HS := Lib.hid hS
        have HG7 := Lib.hid hG7
        have HA7 := Lib.hid hA7
        have HK7 := Lib.hid hK7
        have HS7 := Lib.hid hS7
        have HB7 := Lib.hid hB7
        have HXL0 : Hid (x.length ≤ 999) := Lib.hid (by rw [HXL.out]; exact hxl)
        have HPL := Lib.hid hpl
        clear hE hS hr hxl hx8 hci xc7 hbb7 hG7 hA7 hR7 hS7 hB7 hK7 CR HP8 hcp hpl
        generalize hpl9 : P.length = pn at *
        have HPN := Lib.hid hpl9
        clear hpl9
        have hu3 : 0 ≤ how := h3.1
        have h8 : 0 ≤ how.tmod 8 ∧ how.tmod 8 < 8 := ⟨Int.tmod_nonneg _ hu3, Int.tmod_lt_of_pos _ (by omega)⟩
        rcases (show how.tmod 8 = 0 ∨ how.tmod 8 = 1 ∨ how.tmod 8 = 2 ∨ how.tmod 8 = 3 ∨ how.tmod 8 = 4 ∨ how.tmod 8 = 5 ∨ how.tmod 8 = 6 ∨ how.tmod 8 = 7 by omega) with q8 | q8 | q8 | q8 | q8 | q8 | q8 | q8
        · have hpn := HE.out.pn
          have hpc := HE.out.pc
          rw [HPN.out] at hpn hpc
          have HEP := Lib.hid HE.out.p
          have HEX := Lib.hid HE.out.x
          clear h8
          go_upto_region 14 with fail
          have h0 := MF.start wc P X pn u79 u81 u83 u84
          refine wp_region_inv (fun listed a V => ∃ b0 b1 b2 b3 b4 b5 b6 : Bool, ∃ x79 x81 x83 x84 : Value, listed = #[b0, b1, b2, b3, b4, b5, b6] ∧ a = { tmps := #[.slice a0 m c0, .int .u8 n, .int .u8 at2, .int .u8 how, .agg (w8s X), .int .i64 i5, .int .i64 k6, undef, undef, undef, undef, .pointer (some ⟨w.heap.size, 0, none⟩), undef, undef, .bool false, .slice (some ⟨b, off, none⟩) k c5, .int .i64 j, (cond b6 (x84) (.slice ap pn cp)), .bool true, .pointer (some ⟨g, 0, none⟩), .slice ai xl ci, .int .i64 j, .int .i64 k, u23, u24, u25, u26, u27, u28, u29, u30, u31, u32, u33, u34, u35, u36, u37, u38, u39, u40, u41, u42, u43, u44, u45, u46, u47, u48, u49, u50, u51, u52, u53, u54, u55, u56, u57, u58, u59, .int .u8 how, .int .u8 0, u62, u63, u64, u65, u66, u67, u68, u69, u70, u71, u72, u73, u74, u75, u76, .bool true, .bool true, x79, (cond b1 (.slice ap pn cp) (u80)), x81, (cond b3 (.agg (w8s X)) (u82)), x83, x84, undef, u86, u87, u88, u89, u90, u91, undef, u93, u94, undef, u96, u97, u98, u99, u100, u101, undef, u103, u104, u105, u106, u107, undef, u109, u110, u111, u112, u113, u114, u115, undef, u117, u118, u119, u120, u121, u122, u123, u124, u125, u126, u127, u128, u129, u130, u131, u132, u133, u134, u135, u136], defers := [] } ∧ MF wc P X pn b0 b1 b2 b4 b5 b6 x79 x81 x83 x84 V) (by kernel_rfl) (by kernel_rfl) ?_ ?_ ?_
          · exact ⟨false, false, false, false, false, false, false, u79, u81, u83, u84, rfl, rfl, h0⟩
          · intro i listed a V hi hr hJ
            obtain ⟨b0, b1, b2, b3, b4, b5, b6, x79, x81, x83, x84, rfl, rfl, hF⟩ := hJ
            have hi2 : i < 7 := hi
            have hi3 : i = 0 ∨ i = 1 ∨ i = 2 ∨ i = 3 ∨ i = 4 ∨ i = 5 ∨ i = 6 := by omega
            rcases hi3 with rfl | rfl | rfl | rfl | rfl | rfl | rfl
            · obtain rfl : b0 = false := ready_self hr
              refine st_build rfl (by kernel_rfl) (some 79) rfl 35 0 #[] rfl #[] (by kernel_rfl) (.slice (some ⟨V.heap.size, 0, none⟩) 0 0) _ (build_nil_keys V) ?_
              exact ⟨true, b1, b2, b3, b4, b5, b6, _, x81, x83, x84, rfl, rfl, hF.made⟩
            · obtain rfl : b1 = false := ready_self hr
              obtain rfl : b6 = false := by cases b6; rfl; exact absurd (hF.asg rfl).1 (by decide)
              refine st_val rfl (by kernel_rfl) (some 80) rfl (.slice ap pn cp) V (by kernel_rfl) ?_
              exact ⟨b0, true, b2, b3, b4, b5, false, x79, x81, x83, x84, rfl, rfl, hF.moved⟩
            · obtain rfl : b2 = false := ready_self hr
              obtain rfl : b0 = true := ready_dep hr 0 (by kernel_rfl)
              obtain rfl : b1 = true := ready_dep hr 1 (by kernel_rfl)
              obtain ⟨g0, rfl, hO, hg0, hne⟩ := hF.nil rfl rfl
              obtain ⟨a2, c2, V2, hap, hO2, hb2, hgr⟩ := append_keys_any hO P ap pn cp (HEP.out.below hF.base) HPN.out hF.base.size (by simp) (by omega)
              simp only [List.length_nil, Nat.zero_add, List.nil_append] at hap hO2
              refine st_append rfl (by kernel_rfl) (some 81) rfl 35 rfl (.tmp 79) (.tmp 80) 35 rfl (.slice (some ⟨g0, 0, none⟩) 0 0) (.slice ap pn cp) (.slice a2 pn c2) V2 (by kernel_rfl) (by kernel_rfl) hap ?_
              exact ⟨true, true, true, b3, b4, b5, b6, _, _, x83, x84, rfl, rfl, hF.copied hne hO2 hb2 hgr⟩
            · obtain rfl : b3 = false := ready_self hr
              refine st_load rfl (by kernel_rfl) (some 82) rfl 24 (.tmp 11) rfl ⟨w.heap.size, 0, none⟩ (.agg (w8s X)) (by kernel_rfl) (load_key (HEX.out.below HEX.out.lt hF.base) hX) ?_
              exact ⟨b0, b1, b2, true, b4, b5, b6, x79, x81, x83, x84, rfl, rfl, hF⟩
            · obtain rfl : b4 = false := ready_self hr
              obtain rfl : b3 = true := ready_dep hr 3 (by kernel_rfl)
              refine st_build rfl (by kernel_rfl) (some 83) rfl 35 1 #[(0, .tmp 82)] rfl #[(0, .agg (w8s X))] (by kernel_rfl) (.slice (some ⟨V.heap.size, 0, none⟩) 1 1) _ (build_one X hX V) ?_
              exact ⟨b0, b1, b2, true, true, b5, b6, x79, x81, _, x84, rfl, rfl, hF.built⟩
            · obtain rfl : b5 = false := ready_self hr
              obtain rfl : b2 = true := ready_dep hr 2 (by kernel_rfl)
              obtain rfl : b4 = true := ready_dep hr 4 (by kernel_rfl)
              obtain rfl : b6 = false := by cases b6; rfl; exact absurd (hF.asg rfl).2 (by decide)
              obtain ⟨a2, c2, rfl, hO⟩ := hF.cop rfl rfl
              obtain ⟨g, rfl, hA⟩ := hF.key rfl rfl
              rw [← HPN.out] at hO
              obtain ⟨a3, c3, V2, hap, hO2, hb2, -⟩ := append_keys_any hO [X] (some ⟨g, 0, none⟩) 1 1 (rk_one hA hX) rfl hF.base.size (by rw [HPN.out]; omega) (by omega)
              rw [HPN.out] at hap hO2
              refine st_append rfl (by kernel_rfl) (some 84) rfl 35 rfl (.tmp 81) (.tmp 83) 35 rfl (.slice a2 pn c2) (.slice (some ⟨g, 0, none⟩) 1 1) (.slice a3 (pn + 1) c3) V2 (by kernel_rfl) (by kernel_rfl) hap ?_
              exact ⟨b0, b1, true, b3, true, true, false, _, _, _, _, rfl, rfl, hF.done hO2 hb2⟩
            · obtain rfl : b6 = false := ready_self hr
              obtain rfl : b0 = true := ready_dep hr 0 (by kernel_rfl)
              obtain rfl : b1 = true := ready_dep hr 1 (by kernel_rfl)
              obtain rfl : b2 = true := ready_dep hr 2 (by kernel_rfl)
              obtain rfl : b3 = true := ready_dep hr 3 (by kernel_rfl)
              obtain rfl : b4 = true := ready_dep hr 4 (by kernel_rfl)
              obtain rfl : b5 = true := ready_dep hr 5 (by kernel_rfl)
              refine st_val rfl (by kernel_rfl) (some 17) rfl x84 V (by kernel_rfl) ?_
              exact ⟨true, true, true, true, true, true, true, x79, x81, x83, x84, rfl, rfl, hF.set⟩
          · intro a V hJ
            obtain ⟨b0, b1, b2, b3, b4, b5, b6, x79, x81, x83, x84, he, rfl, hF⟩ := hJ
            have he : (#[true, true, true, true, true, true, true] : Array Bool) = #[b0, b1, b2, b3, b4, b5, b6] := he
            simp only [Array.mk.injEq, List.cons.injEq, and_true] at he
            obtain ⟨rfl, rfl, rfl, rfl, rfl, rfl, rfl⟩ := he
            simp only [cond_true]
            obtain ⟨a3, c3, rfl, hO⟩ := hF.all rfl
            have hO' := hO
            rw [show pn + 1 = (P ++ [X]).length by rw [List.length_append, HPN.out]; rfl] at hO'
            obtain ⟨a4, c4, e4, hR4, hc4⟩ := hO'.rk
            simp only [Value.slice.injEq, true_and] at e4
            obtain ⟨rfl, rfl⟩ := e4
            have hq8 : ∀ q ∈ P ++ [X], ∀ y, y ∈ q → W8 y := fun q hq => by
              rcases List.mem_append.1 hq with h | h
              · exact HE.out.p8 q h
              · rw [List.mem_singleton.1 h]
                exact hX8
            have hpl9 : (P ++ [X]).length = pn + 1 := by rw [List.length_append, HPN.out]; rfl
            have HE9 : Hid (D4E w w.heap.size g X a3 c3 (P ++ [X]) ai ci x j k R V) := Lib.hid { HE.out.below hF.base with p := hR4, pc := hc4, pn := by rw [hpl9]; have := HPL.out; omega, p8 := hq8 }
            generalize P ++ [X] = P2 at *
            have HPM := Lib.hid hpl9
            clear HE HEP HEX hF hO hO' hR4 hc4 hq8 hpl9 he h0
            go_upto_region 27 with fail
            have X1 := fun V (h : D4E w w.heap.size g X a3 c3 P2 ai ci x j k R V) => (cV R x ai ci j k a3 c3 P2 V h.glob h.r32 h.r8 h.l h.lc h.l8 (by have := h.ln; omega) h.a1 h.a2 h.b1 h.b2 h.p8 (by have := h.pn; omega) h.pc h.p).mono fun e w' (q : _ ∧ _) => (⟨q.1, h.below q.2⟩ : _ ∧ D4E w w.heap.size g X a3 c3 P2 ai ci x j k R w')
            have X2 := fun V (h : D4E w w.heap.size g X a3 c3 P2 ai ci x j k R V) => (refver_any R x ai ci j k a3 c3 P2 V h.r32 h.l h.l8 (by have := h.ln; omega) h.b2 h.p8 h.pc h.p).mono fun e w' (q : _ ∧ _) => (⟨q.1, h.below q.2⟩ : _ ∧ D4E w w.heap.size g X a3 c3 P2 ai ci x j k R w')
            have X3 := fun V (h : D4E w w.heap.size g X a3 c3 P2 ai ci x j k R V) => (hKN V h.glob).mono fun e w' (q : _ ∧ _) => (⟨q.1, h.below q.2⟩ : _ ∧ D4E w w.heap.size g X a3 c3 P2 ai ci x j k R w')
            rw [HPM.out] at X1 X2
            generalize verL R x j k P2 = v9 at *
            rw [HXL.out] at X1 X2
            refine wp_region_class (C := D4E w w.heap.size g X a3 c3 P2 ai ci x j k R) (by kernel_rfl) (by kernel_rfl) (HE9.out.below (Below.refl _ _).drew) ?_
            refine gq_load (by kernel_rfl) (some 121) rfl 24 (.tmp 19) rfl ⟨g, 0, none⟩ (.agg (w8s R)) (by kernel_rfl) (fun w' hC => load_key hC.r hC.r32) ?_
            simp only [Act.put, List.setIfInBounds_toArray, List.set_cons_succ, List.set_cons_zero]
            refine gq_val (by kernel_rfl) (some 122) rfl (.slice ai xl ci) (fun w' _ => by kernel_rfl) ?_
            simp only [Act.put, List.setIfInBounds_toArray, List.set_cons_succ, List.set_cons_zero]
            refine gq_val (by kernel_rfl) (some 123) rfl (.int .i64 j) (fun w' _ => by kernel_rfl) ?_
            simp only [Act.put, List.setIfInBounds_toArray, List.set_cons_succ, List.set_cons_zero]
            refine gq_val (by kernel_rfl) (some 124) rfl (.int .i64 k) (fun w' _ => by kernel_rfl) ?_
            simp only [Act.put, List.setIfInBounds_toArray, List.set_cons_succ, List.set_cons_zero]
            refine gq_val (by kernel_rfl) (some 125) rfl (.slice a3 (pn + 1) c3) (fun w' _ => by kernel_rfl) ?_
            simp only [Act.put, List.setIfInBounds_toArray, List.set_cons_succ, List.set_cons_zero]
            refine gq_call (by kernel_rfl) (some 126) rfl 19 #[.agg (w8s R), .slice ai xl ci, .int .i64 j, .int .i64 k, .slice a3 (pn + 1) c3] (.bool v9) (fun w' _ => by kernel_rfl) (fun w' hC => X1 w' hC) ?_
            simp only [Act.put, List.setIfInBounds_toArray, List.set_cons_succ, List.set_cons_zero]
            refine gq_load (by kernel_rfl) (some 127) rfl 24 (.tmp 19) rfl ⟨g, 0, none⟩ (.agg (w8s R)) (by kernel_rfl) (fun w' hC => load_key hC.r hC.r32) ?_
            simp only [Act.put, List.setIfInBounds_toArray, List.set_cons_succ, List.set_cons_zero]
            refine gq_val (by kernel_rfl) (some 128) rfl (.slice ai xl ci) (fun w' _ => by kernel_rfl) ?_
            simp only [Act.put, List.setIfInBounds_toArray, List.set_cons_succ, List.set_cons_zero]
            refine gq_val (by kernel_rfl) (some 129) rfl (.int .i64 j) (fun w' _ => by kernel_rfl) ?_
            simp only [Act.put, List.setIfInBounds_toArray, List.set_cons_succ, List.set_cons_zero]
            refine gq_val (by kernel_rfl) (some 130) rfl (.int .i64 k) (fun w' _ => by kernel_rfl) ?_
            simp only [Act.put, List.setIfInBounds_toArray, List.set_cons_succ, List.set_cons_zero]
            refine gq_val (by kernel_rfl) (some 131) rfl (.slice a3 (pn + 1) c3) (fun w' _ => by kernel_rfl) ?_
            simp only [Act.put, List.setIfInBounds_toArray, List.set_cons_succ, List.set_cons_zero]
            refine gq_call (by kernel_rfl) (some 132) rfl 20 #[.agg (w8s R), .slice ai xl ci, .int .i64 j, .int .i64 k, .slice a3 (pn + 1) c3] (.bool v9) (fun w' _ => by kernel_rfl) (fun w' hC => X2 w' hC) ?_
            simp only [Act.put, List.setIfInBounds_toArray, List.set_cons_succ, List.set_cons_zero]
            refine gq_val (by kernel_rfl) (some 133) rfl (.bool true) (fun w' _ => by cases v9 <;> kernel_rfl) ?_
            simp only [Act.put, List.setIfInBounds_toArray, List.set_cons_succ, List.set_cons_zero]
            refine gq_val (by kernel_rfl) (some 134) rfl (.bool true) (fun w' _ => by kernel_rfl) ?_
            simp only [Act.put, List.setIfInBounds_toArray, List.set_cons_succ, List.set_cons_zero]
            refine gq_call (by kernel_rfl) (some 135) rfl 8 #[] (.bool true) (fun w' _ => by kernel_rfl) (fun w' hC => X3 w' hC) ?_
            simp only [Act.put, List.setIfInBounds_toArray, List.set_cons_succ, List.set_cons_zero]
            refine gq_val (by kernel_rfl) (some 136) rfl (.bool true) (fun w' _ => by kernel_rfl) ?_
            simp only [Act.put, List.setIfInBounds_toArray, List.set_cons_succ, List.set_cons_zero]
            refine gq_val (by kernel_rfl) (some 14) rfl (.bool true) (fun w' _ => by kernel_rfl) ?_
            simp only [Act.put, List.setIfInBounds_toArray, List.set_cons_succ, List.set_cons_zero]
            refine wpQuiet_nil ?_
            intro w9 hC9
            have HB := Lib.hid hC9.bel
            clear hC9 HE9 X1 X2 X3
            go_wp2_with fail
            go_ret
            exact ⟨rfl, HB.out⟩
        · obtain ⟨n2, hn2⟩ : ∃ n2 : Nat, n2 = pn / 2 := ⟨_, rfl⟩
          have hp2 : (pn : Int).tdiv 2 = (n2 : Int) := by rw [hn2, Int.tdiv_eq_ediv_of_nonneg (by omega)]; omega
          have hpc := HE.out.pc
          have hpn := HE.out.pn
          rw [HPN.out] at hpc hpn
          have hwn : IntKind.i64.wrap (n2 : Int) = (n2 : Int) := by rw [IntKind.wrap_i64]; omega
          have hsl := keys_to ap pn cp n2 wc (by omega)
          have HT : Hid ((P.take n2).length = n2) := Lib.hid (by rw [List.length_take, HPN.out]; omega)
          have HE9 : Hid (D4E w w.heap.size g X ap cp (P.take n2) ai ci x j k R wc) := Lib.hid { HE.out with p := HE.out.p.take n2, pc := by rw [HT.out]; omega, pn := by rw [HT.out]; omega, p8 := fun q hq => HE.out.p8 q (List.mem_of_mem_take hq) }
          generalize P.take n2 = P2 at *
          have hn2b : n2 ≤ cp := by omega
          clear HE h8 hn2
          go_upto_region 27 with fail
          have X1 := fun V (h : D4E w w.heap.size g X ap cp P2 ai ci x j k R V) => (cV R x ai ci j k ap cp P2 V h.glob h.r32 h.r8 h.l h.lc h.l8 (by have := h.ln; omega) h.a1 h.a2 h.b1 h.b2 h.p8 (by have := h.pn; omega) h.pc h.p).mono fun e w' (q : _ ∧ _) => (⟨q.1, h.below q.2⟩ : _ ∧ D4E w w.heap.size g X ap cp P2 ai ci x j k R w')
          have X2 := fun V (h : D4E w w.heap.size g X ap cp P2 ai ci x j k R V) => (refver_any R x ai ci j k ap cp P2 V h.r32 h.l h.l8 (by have := h.ln; omega) h.b2 h.p8 h.pc h.p).mono fun e w' (q : _ ∧ _) => (⟨q.1, h.below q.2⟩ : _ ∧ D4E w w.heap.size g X ap cp P2 ai ci x j k R w')
          have X3 := fun V (h : D4E w w.heap.size g X ap cp P2 ai ci x j k R V) => (hKN V h.glob).mono fun e w' (q : _ ∧ _) => (⟨q.1, h.below q.2⟩ : _ ∧ D4E w w.heap.size g X ap cp P2 ai ci x j k R w')
          rw [HT.out] at X1 X2
          generalize verL R x j k P2 = v9 at *
          rw [HXL.out] at X1 X2
          refine wp_region_class (C := D4E w w.heap.size g X ap cp P2 ai ci x j k R) (by kernel_rfl) (by kernel_rfl) (HE9.out.below (Below.refl _ _).drew) ?_
          refine gq_load (by kernel_rfl) (some 121) rfl 24 (.tmp 19) rfl ⟨g, 0, none⟩ (.agg (w8s R)) (by kernel_rfl) (fun w' hC => load_key hC.r hC.r32) ?_
          simp only [Act.put, List.setIfInBounds_toArray, List.set_cons_succ, List.set_cons_zero]
          refine gq_val (by kernel_rfl) (some 122) rfl (.slice ai xl ci) (fun w' _ => by kernel_rfl) ?_
          simp only [Act.put, List.setIfInBounds_toArray, List.set_cons_succ, List.set_cons_zero]
          refine gq_val (by kernel_rfl) (some 123) rfl (.int .i64 j) (fun w' _ => by kernel_rfl) ?_
          simp only [Act.put, List.setIfInBounds_toArray, List.set_cons_succ, List.set_cons_zero]
          refine gq_val (by kernel_rfl) (some 124) rfl (.int .i64 k) (fun w' _ => by kernel_rfl) ?_
          simp only [Act.put, List.setIfInBounds_toArray, List.set_cons_succ, List.set_cons_zero]
          refine gq_val (by kernel_rfl) (some 125) rfl (.slice ap n2 cp) (fun w' _ => by kernel_rfl) ?_
          simp only [Act.put, List.setIfInBounds_toArray, List.set_cons_succ, List.set_cons_zero]
          refine gq_call (by kernel_rfl) (some 126) rfl 19 #[.agg (w8s R), .slice ai xl ci, .int .i64 j, .int .i64 k, .slice ap n2 cp] (.bool v9) (fun w' _ => by kernel_rfl) (fun w' hC => X1 w' hC) ?_
          simp only [Act.put, List.setIfInBounds_toArray, List.set_cons_succ, List.set_cons_zero]
          refine gq_load (by kernel_rfl) (some 127) rfl 24 (.tmp 19) rfl ⟨g, 0, none⟩ (.agg (w8s R)) (by kernel_rfl) (fun w' hC => load_key hC.r hC.r32) ?_
          simp only [Act.put, List.setIfInBounds_toArray, List.set_cons_succ, List.set_cons_zero]
          refine gq_val (by kernel_rfl) (some 128) rfl (.slice ai xl ci) (fun w' _ => by kernel_rfl) ?_
          simp only [Act.put, List.setIfInBounds_toArray, List.set_cons_succ, List.set_cons_zero]
          refine gq_val (by kernel_rfl) (some 129) rfl (.int .i64 j) (fun w' _ => by kernel_rfl) ?_
          simp only [Act.put, List.setIfInBounds_toArray, List.set_cons_succ, List.set_cons_zero]
          refine gq_val (by kernel_rfl) (some 130) rfl (.int .i64 k) (fun w' _ => by kernel_rfl) ?_
          simp only [Act.put, List.setIfInBounds_toArray, List.set_cons_succ, List.set_cons_zero]
          refine gq_val (by kernel_rfl) (some 131) rfl (.slice ap n2 cp) (fun w' _ => by kernel_rfl) ?_
          simp only [Act.put, List.setIfInBounds_toArray, List.set_cons_succ, List.set_cons_zero]
          refine gq_call (by kernel_rfl) (some 132) rfl 20 #[.agg (w8s R), .slice ai xl ci, .int .i64 j, .int .i64 k, .slice ap n2 cp] (.bool v9) (fun w' _ => by kernel_rfl) (fun w' hC => X2 w' hC) ?_
          simp only [Act.put, List.setIfInBounds_toArray, List.set_cons_succ, List.set_cons_zero]
          refine gq_val (by kernel_rfl) (some 133) rfl (.bool true) (fun w' _ => by cases v9 <;> kernel_rfl) ?_
          simp only [Act.put, List.setIfInBounds_toArray, List.set_cons_succ, List.set_cons_zero]
          refine gq_val (by kernel_rfl) (some 134) rfl (.bool true) (fun w' _ => by kernel_rfl) ?_
          simp only [Act.put, List.setIfInBounds_toArray, List.set_cons_succ, List.set_cons_zero]
          refine gq_call (by kernel_rfl) (some 135) rfl 8 #[] (.bool true) (fun w' _ => by kernel_rfl) (fun w' hC => X3 w' hC) ?_
          simp only [Act.put, List.setIfInBounds_toArray, List.set_cons_succ, List.set_cons_zero]
          refine gq_val (by kernel_rfl) (some 136) rfl (.bool true) (fun w' _ => by kernel_rfl) ?_
          simp only [Act.put, List.setIfInBounds_toArray, List.set_cons_succ, List.set_cons_zero]
          refine gq_val (by kernel_rfl) (some 14) rfl (.bool true) (fun w' _ => by kernel_rfl) ?_
          simp only [Act.put, List.setIfInBounds_toArray, List.set_cons_succ, List.set_cons_zero]
          refine wpQuiet_nil ?_
          intro w9 hC9
          have HB := Lib.hid hC9.bel
          clear hC9 HE9 X1 X2 X3
          go_wp2_with fail
          go_ret
          exact ⟨rfl, HB.out⟩
        · have hsX : (w8s X).size = 32 := by rw [size_w8s, hX]
          have HSR : Hid ((w8s R).size = 32) := Lib.hid (by rw [size_w8s]; exact HE.out.r32)
          go_upto_region 18 with fail
          apply wp_region_lit
          refine gw_load (by kernel_rfl) (some 94) rfl 24 (.tmp 11) rfl ⟨w.heap.size, 0, none⟩ (.agg (w8s X)) (by kernel_rfl) (load_key HE.out.x hX) ?_
          simp only [Act.put, List.setIfInBounds_toArray, List.set_cons_succ, List.set_cons_zero]
          apply wpList_store_at (ty := 24) (x := .tmp 19) (y := .tmp 94) (g := g) (c := w8s R) (c' := w8s X)
          case hgd => rfl
          case ho => rfl
          case hx => kernel_rfl
          case hy => kernel_rfl
          case hg => exact HE.out.r
          case hi => rw [hsX]; kernel_rfl
          case hz => rw [hsX]; exact HSR.out
          case h1 => exact one_w8s _
          apply wpList_nil
          simp only [Act.put]
          have hb9 := HS.out.2.trans (belowRow (Below.refl _ wc) HS.out.1 (w8s X))
          have HE9 : Hid (D4E w w.heap.size g X ap cp P ai ci x j k X (wc.setRow g (w8s X))) := Lib.hid { HE.out with glob := HG7.out.below HG7.out.size hb9, x := HA7.out.below HA7.out.lt hb9, p := HK7.out.below hb9, l := sl_below HS7.out hb9, r := setRow_heap _ _ _ _ _ _ HE.out.r, r32 := hX, r8 := hX8, bel := HB7.out.trans (hb9.mono HB7.out.size) }
          generalize wc.setRow g (w8s X) = W9 at *
          clear HE h8 hb9 hsX HSR
          go_upto_region 27 with fail
          have X1 := fun V (h : D4E w w.heap.size g X ap cp P ai ci x j k X V) => (cV X x ai ci j k ap cp P V h.glob h.r32 h.r8 h.l h.lc h.l8 (by have := h.ln; omega) h.a1 h.a2 h.b1 h.b2 h.p8 (by have := h.pn; omega) h.pc h.p).mono fun e w' (q : _ ∧ _) => (⟨q.1, h.below q.2⟩ : _ ∧ D4E w w.heap.size g X ap cp P ai ci x j k X w')
          have X2 := fun V (h : D4E w w.heap.size g X ap cp P ai ci x j k X V) => (refver_any X x ai ci j k ap cp P V h.r32 h.l h.l8 (by have := h.ln; omega) h.b2 h.p8 h.pc h.p).mono fun e w' (q : _ ∧ _) => (⟨q.1, h.below q.2⟩ : _ ∧ D4E w w.heap.size g X ap cp P ai ci x j k X w')
          have X3 := fun V (h : D4E w w.heap.size g X ap cp P ai ci x j k X V) => (hKN V h.glob).mono fun e w' (q : _ ∧ _) => (⟨q.1, h.below q.2⟩ : _ ∧ D4E w w.heap.size g X ap cp P ai ci x j k X w')
          generalize verL X x j k P = v9 at *
          rw [HXL.out] at X1 X2
          rw [HPN.out] at X1 X2
          refine wp_region_class (C := D4E w w.heap.size g X ap cp P ai ci x j k X) (by kernel_rfl) (by kernel_rfl) (HE9.out.below (Below.refl _ _).drew) ?_
          refine gq_load (by kernel_rfl) (some 121) rfl 24 (.tmp 19) rfl ⟨g, 0, none⟩ (.agg (w8s X)) (by kernel_rfl) (fun w' hC => load_key hC.r hC.r32) ?_
          simp only [Act.put, List.setIfInBounds_toArray, List.set_cons_succ, List.set_cons_zero]
          refine gq_val (by kernel_rfl) (some 122) rfl (.slice ai xl ci) (fun w' _ => by kernel_rfl) ?_
          simp only [Act.put, List.setIfInBounds_toArray, List.set_cons_succ, List.set_cons_zero]
          refine gq_val (by kernel_rfl) (some 123) rfl (.int .i64 j) (fun w' _ => by kernel_rfl) ?_
          simp only [Act.put, List.setIfInBounds_toArray, List.set_cons_succ, List.set_cons_zero]
          refine gq_val (by kernel_rfl) (some 124) rfl (.int .i64 k) (fun w' _ => by kernel_rfl) ?_
          simp only [Act.put, List.setIfInBounds_toArray, List.set_cons_succ, List.set_cons_zero]
          refine gq_val (by kernel_rfl) (some 125) rfl (.slice ap pn cp) (fun w' _ => by kernel_rfl) ?_
          simp only [Act.put, List.setIfInBounds_toArray, List.set_cons_succ, List.set_cons_zero]
          refine gq_call (by kernel_rfl) (some 126) rfl 19 #[.agg (w8s X), .slice ai xl ci, .int .i64 j, .int .i64 k, .slice ap pn cp] (.bool v9) (fun w' _ => by kernel_rfl) (fun w' hC => X1 w' hC) ?_
          simp only [Act.put, List.setIfInBounds_toArray, List.set_cons_succ, List.set_cons_zero]
          refine gq_load (by kernel_rfl) (some 127) rfl 24 (.tmp 19) rfl ⟨g, 0, none⟩ (.agg (w8s X)) (by kernel_rfl) (fun w' hC => load_key hC.r hC.r32) ?_
          simp only [Act.put, List.setIfInBounds_toArray, List.set_cons_succ, List.set_cons_zero]
          refine gq_val (by kernel_rfl) (some 128) rfl (.slice ai xl ci) (fun w' _ => by kernel_rfl) ?_
          simp only [Act.put, List.setIfInBounds_toArray, List.set_cons_succ, List.set_cons_zero]
          refine gq_val (by kernel_rfl) (some 129) rfl (.int .i64 j) (fun w' _ => by kernel_rfl) ?_
          simp only [Act.put, List.setIfInBounds_toArray, List.set_cons_succ, List.set_cons_zero]
          refine gq_val (by kernel_rfl) (some 130) rfl (.int .i64 k) (fun w' _ => by kernel_rfl) ?_
          simp only [Act.put, List.setIfInBounds_toArray, List.set_cons_succ, List.set_cons_zero]
          refine gq_val (by kernel_rfl) (some 131) rfl (.slice ap pn cp) (fun w' _ => by kernel_rfl) ?_
          simp only [Act.put, List.setIfInBounds_toArray, List.set_cons_succ, List.set_cons_zero]
          refine gq_call (by kernel_rfl) (some 132) rfl 20 #[.agg (w8s X), .slice ai xl ci, .int .i64 j, .int .i64 k, .slice ap pn cp] (.bool v9) (fun w' _ => by kernel_rfl) (fun w' hC => X2 w' hC) ?_
          simp only [Act.put, List.setIfInBounds_toArray, List.set_cons_succ, List.set_cons_zero]
          refine gq_val (by kernel_rfl) (some 133) rfl (.bool true) (fun w' _ => by cases v9 <;> kernel_rfl) ?_
          simp only [Act.put, List.setIfInBounds_toArray, List.set_cons_succ, List.set_cons_zero]
          refine gq_val (by kernel_rfl) (some 134) rfl (.bool true) (fun w' _ => by kernel_rfl) ?_
          simp only [Act.put, List.setIfInBounds_toArray, List.set_cons_succ, List.set_cons_zero]
          refine gq_call (by kernel_rfl) (some 135) rfl 8 #[] (.bool true) (fun w' _ => by kernel_rfl) (fun w' hC => X3 w' hC) ?_
          simp only [Act.put, List.setIfInBounds_toArray, List.set_cons_succ, List.set_cons_zero]
          refine gq_val (by kernel_rfl) (some 136) rfl (.bool true) (fun w' _ => by kernel_rfl) ?_
          simp only [Act.put, List.setIfInBounds_toArray, List.set_cons_succ, List.set_cons_zero]
          refine gq_val (by kernel_rfl) (some 14) rfl (.bool true) (fun w' _ => by kernel_rfl) ?_
          simp only [Act.put, List.setIfInBounds_toArray, List.set_cons_succ, List.set_cons_zero]
          refine wpQuiet_nil ?_
          intro w9 hC9
          have HB := Lib.hid hC9.bel
          clear hC9 HE9 X1 X2 X3
          go_wp2_with fail
          go_ret
          exact ⟨rfl, HB.out⟩
        · obtain ⟨i0, hi, hz0, hz1, hz2⟩ := info_parts info5
          have HI := Lib.hid hi
          have HZ0 := Lib.hid hz0
          have HZ1 := Lib.hid hz1
          have HZ2 := Lib.hid hz2
          clear hi hz0 hz1 hz2
          have hxl9 : x.length ≤ 999 := HXL0.out
          have hx89 := HE.out.l8
          rw [HXL.out] at hxl9
          have HX89 := Lib.hid hx89
          have HR1 := Lib.hid (sl_below HE.out.l ((Below.refl _ wc).alloc (Nat.le_refl _) (.cells #[] 5)))
          clear hx89
          go_upto_region 20 with fail
          go_upto_region 27 with (first
            | (at_builtin; refine append_src rfl (.tmp 97) (.tmp 98) 25 rfl wc.heap.size i0 Tryd.underlying25 HI.out HZ0.out HZ1.out HZ2.out _ 0 [] rfl (own_empty wc) ai xl ci x rfl HXL.out HR1.out (by omega) (by simp) ?_; intro v1 w1 ho1 hg1; have hb1 := after_append (w0 := wc) (Nat.le_refl _) (by simp) (own_empty wc) ((Below.refl _ wc).alloc (Nat.le_refl _) _) hg1; clear hg1)
            | (at_builtin; refine append_src rfl (.tmp 99) (.tmp 100) 25 rfl wc.heap.size i0 Tryd.underlying25 HI.out HZ0.out HZ1.out HZ2.out _ (0 + xl) _ rfl (ho1.alloc _) (some ⟨w1.heap.size, 0, none⟩) 1 1 [1] rfl rfl (sl_one _ _ _) (by omega) (by have := hb1.size; simp; omega) ?_; intro v2 w2 ho2 hg2; have hb2 := after_append (Nat.le_refl _) (hb1.alloc hb1.size _).size (ho1.alloc _) (hb1.alloc hb1.size _) hg2; clear hg2))
          have ho3 : w2.ownsRow wc.heap.size 5 1 v2 (0 + xl + 1) ((x ++ [1]).map (Value.int .u8)) := by simpa using ho2
          obtain ⟨a9, c9, rfl, hs9, -, hl9⟩ := sl_own ho3
          have hx82 : ∀ y, y ∈ x ++ [1] → W8 y := fun y hy => by
            rcases List.mem_append.1 hy with h | h
            · exact HX89.out y h
            · rw [List.mem_singleton.1 h]
              unfold W8
              omega
          have hln2 : (x ++ [1]).length ≤ 1000 := by rw [List.length_append, List.length_singleton, HXL.out]; omega
          have HE9 : Hid (D4E w w.heap.size g X ap cp P a9 c9 (x ++ [1]) j k R w2) := Lib.hid { HE.out.below hb2 with l := hs9, lc := hl9, l8 := hx82, ln := hln2 }
          generalize x ++ [1] = x2 at *
          clear HE h8 ho2 ho3 hs9 hl9 hx82 hln2 ho1 hb1 hb2 HR1
          generalize hx29 : x2.length = xl2 at *
          have HX2 := Lib.hid hx29
          clear hx29
          have X1 := fun V (h : D4E w w.heap.size g X ap cp P a9 c9 x2 j k R V) => (cV R x2 a9 c9 j k ap cp P V h.glob h.r32 h.r8 h.l h.lc h.l8 (by have := h.ln; omega) h.a1 h.a2 h.b1 h.b2 h.p8 (by have := h.pn; omega) h.pc h.p).mono fun e w' (q : _ ∧ _) => (⟨q.1, h.below q.2⟩ : _ ∧ D4E w w.heap.size g X ap cp P a9 c9 x2 j k R w')
          have X2 := fun V (h : D4E w w.heap.size g X ap cp P a9 c9 x2 j k R V) => (refver_any R x2 a9 c9 j k ap cp P V h.r32 h.l h.l8 (by have := h.ln; omega) h.b2 h.p8 h.pc h.p).mono fun e w' (q : _ ∧ _) => (⟨q.1, h.below q.2⟩ : _ ∧ D4E w w.heap.size g X ap cp P a9 c9 x2 j k R w')
          have X3 := fun V (h : D4E w w.heap.size g X ap cp P a9 c9 x2 j k R V) => (hKN V h.glob).mono fun e w' (q : _ ∧ _) => (⟨q.1, h.below q.2⟩ : _ ∧ D4E w w.heap.size g X ap cp P a9 c9 x2 j k R w')
          rw [HX2.out] at X1 X2
          generalize verL R x2 j k P = v9 at *
          rw [HPN.out] at X1 X2
          refine wp_region_class (C := D4E w w.heap.size g X ap cp P a9 c9 x2 j k R) (by kernel_rfl) (by kernel_rfl) (HE9.out.below (Below.refl _ _).drew) ?_
          refine gq_load (by kernel_rfl) (some 121) rfl 24 (.tmp 19) rfl ⟨g, 0, none⟩ (.agg (w8s R)) (by kernel_rfl) (fun w' hC => load_key hC.r hC.r32) ?_
          simp only [Act.put, List.setIfInBounds_toArray, List.set_cons_succ, List.set_cons_zero]
          refine gq_val (by kernel_rfl) (some 122) rfl (.slice a9 xl2 c9) (fun w' _ => by kernel_rfl) ?_
          simp only [Act.put, List.setIfInBounds_toArray, List.set_cons_succ, List.set_cons_zero]
          refine gq_val (by kernel_rfl) (some 123) rfl (.int .i64 j) (fun w' _ => by kernel_rfl) ?_
          simp only [Act.put, List.setIfInBounds_toArray, List.set_cons_succ, List.set_cons_zero]
          refine gq_val (by kernel_rfl) (some 124) rfl (.int .i64 k) (fun w' _ => by kernel_rfl) ?_
          simp only [Act.put, List.setIfInBounds_toArray, List.set_cons_succ, List.set_cons_zero]
          refine gq_val (by kernel_rfl) (some 125) rfl (.slice ap pn cp) (fun w' _ => by kernel_rfl) ?_
          simp only [Act.put, List.setIfInBounds_toArray, List.set_cons_succ, List.set_cons_zero]
          refine gq_call (by kernel_rfl) (some 126) rfl 19 #[.agg (w8s R), .slice a9 xl2 c9, .int .i64 j, .int .i64 k, .slice ap pn cp] (.bool v9) (fun w' _ => by kernel_rfl) (fun w' hC => X1 w' hC) ?_
          simp only [Act.put, List.setIfInBounds_toArray, List.set_cons_succ, List.set_cons_zero]
          refine gq_load (by kernel_rfl) (some 127) rfl 24 (.tmp 19) rfl ⟨g, 0, none⟩ (.agg (w8s R)) (by kernel_rfl) (fun w' hC => load_key hC.r hC.r32) ?_
          simp only [Act.put, List.setIfInBounds_toArray, List.set_cons_succ, List.set_cons_zero]
          refine gq_val (by kernel_rfl) (some 128) rfl (.slice a9 xl2 c9) (fun w' _ => by kernel_rfl) ?_
          simp only [Act.put, List.setIfInBounds_toArray, List.set_cons_succ, List.set_cons_zero]
          refine gq_val (by kernel_rfl) (some 129) rfl (.int .i64 j) (fun w' _ => by kernel_rfl) ?_
          simp only [Act.put, List.setIfInBounds_toArray, List.set_cons_succ, List.set_cons_zero]
          refine gq_val (by kernel_rfl) (some 130) rfl (.int .i64 k) (fun w' _ => by kernel_rfl) ?_
          simp only [Act.put, List.setIfInBounds_toArray, List.set_cons_succ, List.set_cons_zero]
          refine gq_val (by kernel_rfl) (some 131) rfl (.slice ap pn cp) (fun w' _ => by kernel_rfl) ?_
          simp only [Act.put, List.setIfInBounds_toArray, List.set_cons_succ, List.set_cons_zero]
          refine gq_call (by kernel_rfl) (some 132) rfl 20 #[.agg (w8s R), .slice a9 xl2 c9, .int .i64 j, .int .i64 k, .slice ap pn cp] (.bool v9) (fun w' _ => by kernel_rfl) (fun w' hC => X2 w' hC) ?_
          simp only [Act.put, List.setIfInBounds_toArray, List.set_cons_succ, List.set_cons_zero]
          refine gq_val (by kernel_rfl) (some 133) rfl (.bool true) (fun w' _ => by cases v9 <;> kernel_rfl) ?_
          simp only [Act.put, List.setIfInBounds_toArray, List.set_cons_succ, List.set_cons_zero]
          refine gq_val (by kernel_rfl) (some 134) rfl (.bool true) (fun w' _ => by kernel_rfl) ?_
          simp only [Act.put, List.setIfInBounds_toArray, List.set_cons_succ, List.set_cons_zero]
          refine gq_call (by kernel_rfl) (some 135) rfl 8 #[] (.bool true) (fun w' _ => by kernel_rfl) (fun w' hC => X3 w' hC) ?_
          simp only [Act.put, List.setIfInBounds_toArray, List.set_cons_succ, List.set_cons_zero]
          refine gq_val (by kernel_rfl) (some 136) rfl (.bool true) (fun w' _ => by kernel_rfl) ?_
          simp only [Act.put, List.setIfInBounds_toArray, List.set_cons_succ, List.set_cons_zero]
          refine gq_val (by kernel_rfl) (some 14) rfl (.bool true) (fun w' _ => by kernel_rfl) ?_
          simp only [Act.put, List.setIfInBounds_toArray, List.set_cons_succ, List.set_cons_zero]
          refine wpQuiet_nil ?_
          intro w9 hC9
          have HB := Lib.hid hC9.bel
          clear hC9 HE9 X1 X2 X3
          go_wp2_with fail
          go_ret
          exact ⟨rfl, HB.out⟩
        · obtain ⟨a9, ha9⟩ : ∃ a : Int, ((j : Int) + 1).tmod (k : Int) = a := ⟨_, rfl⟩
          have ha0 : 0 ≤ a9 := by rw [← ha9]; exact Int.tmod_nonneg _ (by omega)
          have ha1 : a9 < 1000 := by rw [← ha9]; have := Int.tmod_lt_of_pos ((j : Int) + 1) (b := (k : Int)) (by omega); omega
          have hwa : IntKind.i64.wrap a9 = a9 := by rw [IntKind.wrap_i64]; omega
          have HE9 : Hid (D4E w w.heap.size g X ap cp P ai ci x a9 k R wc) := Lib.hid { HE.out with a1 := by omega, a2 := by omega }
          clear HE h8
          go_upto_region 27 with fail
          have X1 := fun V (h : D4E w w.heap.size g X ap cp P ai ci x a9 k R V) => (cV R x ai ci a9 k ap cp P V h.glob h.r32 h.r8 h.l h.lc h.l8 (by have := h.ln; omega) h.a1 h.a2 h.b1 h.b2 h.p8 (by have := h.pn; omega) h.pc h.p).mono fun e w' (q : _ ∧ _) => (⟨q.1, h.below q.2⟩ : _ ∧ D4E w w.heap.size g X ap cp P ai ci x a9 k R w')
          have X2 := fun V (h : D4E w w.heap.size g X ap cp P ai ci x a9 k R V) => (refver_any R x ai ci a9 k ap cp P V h.r32 h.l h.l8 (by have := h.ln; omega) h.b2 h.p8 h.pc h.p).mono fun e w' (q : _ ∧ _) => (⟨q.1, h.below q.2⟩ : _ ∧ D4E w w.heap.size g X ap cp P ai ci x a9 k R w')
          have X3 := fun V (h : D4E w w.heap.size g X ap cp P ai ci x a9 k R V) => (hKN V h.glob).mono fun e w' (q : _ ∧ _) => (⟨q.1, h.below q.2⟩ : _ ∧ D4E w w.heap.size g X ap cp P ai ci x a9 k R w')
          generalize verL R x a9 k P = v9 at *
          rw [HXL.out] at X1 X2
          rw [HPN.out] at X1 X2
          refine wp_region_class (C := D4E w w.heap.size g X ap cp P ai ci x a9 k R) (by kernel_rfl) (by kernel_rfl) (HE9.out.below (Below.refl _ _).drew) ?_
          refine gq_load (by kernel_rfl) (some 121) rfl 24 (.tmp 19) rfl ⟨g, 0, none⟩ (.agg (w8s R)) (by kernel_rfl) (fun w' hC => load_key hC.r hC.r32) ?_
          simp only [Act.put, List.setIfInBounds_toArray, List.set_cons_succ, List.set_cons_zero]
          refine gq_val (by kernel_rfl) (some 122) rfl (.slice ai xl ci) (fun w' _ => by kernel_rfl) ?_
          simp only [Act.put, List.setIfInBounds_toArray, List.set_cons_succ, List.set_cons_zero]
          refine gq_val (by kernel_rfl) (some 123) rfl (.int .i64 a9) (fun w' _ => by kernel_rfl) ?_
          simp only [Act.put, List.setIfInBounds_toArray, List.set_cons_succ, List.set_cons_zero]
          refine gq_val (by kernel_rfl) (some 124) rfl (.int .i64 k) (fun w' _ => by kernel_rfl) ?_
          simp only [Act.put, List.setIfInBounds_toArray, List.set_cons_succ, List.set_cons_zero]
          refine gq_val (by kernel_rfl) (some 125) rfl (.slice ap pn cp) (fun w' _ => by kernel_rfl) ?_
          simp only [Act.put, List.setIfInBounds_toArray, List.set_cons_succ, List.set_cons_zero]
          refine gq_call (by kernel_rfl) (some 126) rfl 19 #[.agg (w8s R), .slice ai xl ci, .int .i64 a9, .int .i64 k, .slice ap pn cp] (.bool v9) (fun w' _ => by kernel_rfl) (fun w' hC => X1 w' hC) ?_
          simp only [Act.put, List.setIfInBounds_toArray, List.set_cons_succ, List.set_cons_zero]
          refine gq_load (by kernel_rfl) (some 127) rfl 24 (.tmp 19) rfl ⟨g, 0, none⟩ (.agg (w8s R)) (by kernel_rfl) (fun w' hC => load_key hC.r hC.r32) ?_
          simp only [Act.put, List.setIfInBounds_toArray, List.set_cons_succ, List.set_cons_zero]
          refine gq_val (by kernel_rfl) (some 128) rfl (.slice ai xl ci) (fun w' _ => by kernel_rfl) ?_
          simp only [Act.put, List.setIfInBounds_toArray, List.set_cons_succ, List.set_cons_zero]
          refine gq_val (by kernel_rfl) (some 129) rfl (.int .i64 a9) (fun w' _ => by kernel_rfl) ?_
          simp only [Act.put, List.setIfInBounds_toArray, List.set_cons_succ, List.set_cons_zero]
          refine gq_val (by kernel_rfl) (some 130) rfl (.int .i64 k) (fun w' _ => by kernel_rfl) ?_
          simp only [Act.put, List.setIfInBounds_toArray, List.set_cons_succ, List.set_cons_zero]
          refine gq_val (by kernel_rfl) (some 131) rfl (.slice ap pn cp) (fun w' _ => by kernel_rfl) ?_
          simp only [Act.put, List.setIfInBounds_toArray, List.set_cons_succ, List.set_cons_zero]
          refine gq_call (by kernel_rfl) (some 132) rfl 20 #[.agg (w8s R), .slice ai xl ci, .int .i64 a9, .int .i64 k, .slice ap pn cp] (.bool v9) (fun w' _ => by kernel_rfl) (fun w' hC => X2 w' hC) ?_
          simp only [Act.put, List.setIfInBounds_toArray, List.set_cons_succ, List.set_cons_zero]
          refine gq_val (by kernel_rfl) (some 133) rfl (.bool true) (fun w' _ => by cases v9 <;> kernel_rfl) ?_
          simp only [Act.put, List.setIfInBounds_toArray, List.set_cons_succ, List.set_cons_zero]
          refine gq_val (by kernel_rfl) (some 134) rfl (.bool true) (fun w' _ => by kernel_rfl) ?_
          simp only [Act.put, List.setIfInBounds_toArray, List.set_cons_succ, List.set_cons_zero]
          refine gq_call (by kernel_rfl) (some 135) rfl 8 #[] (.bool true) (fun w' _ => by kernel_rfl) (fun w' hC => X3 w' hC) ?_
          simp only [Act.put, List.setIfInBounds_toArray, List.set_cons_succ, List.set_cons_zero]
          refine gq_val (by kernel_rfl) (some 136) rfl (.bool true) (fun w' _ => by kernel_rfl) ?_
          simp only [Act.put, List.setIfInBounds_toArray, List.set_cons_succ, List.set_cons_zero]
          refine gq_val (by kernel_rfl) (some 14) rfl (.bool true) (fun w' _ => by kernel_rfl) ?_
          simp only [Act.put, List.setIfInBounds_toArray, List.set_cons_succ, List.set_cons_zero]
          refine wpQuiet_nil ?_
          intro w9 hC9
          have HB := Lib.hid hC9.bel
          clear hC9 HE9 X1 X2 X3
          go_wp2_with fail
          go_ret
          exact ⟨rfl, HB.out⟩
        · obtain ⟨h9, hh9⟩ : ∃ a : Int, how.tdiv 8 = a := ⟨_, rfl⟩
          have ha0 : 0 ≤ h9 := by rw [← hh9, Int.tdiv_eq_ediv_of_nonneg hu3]; omega
          have ha1 : h9 < 1000 := by rw [← hh9, Int.tdiv_eq_ediv_of_nonneg hu3]; have := h3.2; omega
          have hwa : IntKind.u8.wrap h9 = h9 := by rw [← hh9, Int.tdiv_eq_ediv_of_nonneg hu3, IntKind.wrap_u8]; have := h3.2; omega
          have hwb : IntKind.i64.wrap h9 = h9 := by rw [IntKind.wrap_i64]; omega
          have HE9 : Hid (D4E w w.heap.size g X ap cp P ai ci x j ((k : Int) + (1 + h9)) R wc) := Lib.hid { HE.out with b1 := by omega, b2 := by omega }
          clear HE h8
          go_upto_region 27 with fail
          have X1 := fun V (h : D4E w w.heap.size g X ap cp P ai ci x j ((k : Int) + (1 + h9)) R V) => (cV R x ai ci j ((k : Int) + (1 + h9)) ap cp P V h.glob h.r32 h.r8 h.l h.lc h.l8 (by have := h.ln; omega) h.a1 h.a2 h.b1 h.b2 h.p8 (by have := h.pn; omega) h.pc h.p).mono fun e w' (q : _ ∧ _) => (⟨q.1, h.below q.2⟩ : _ ∧ D4E w w.heap.size g X ap cp P ai ci x j ((k : Int) + (1 + h9)) R w')
          have X2 := fun V (h : D4E w w.heap.size g X ap cp P ai ci x j ((k : Int) + (1 + h9)) R V) => (refver_any R x ai ci j ((k : Int) + (1 + h9)) ap cp P V h.r32 h.l h.l8 (by have := h.ln; omega) h.b2 h.p8 h.pc h.p).mono fun e w' (q : _ ∧ _) => (⟨q.1, h.below q.2⟩ : _ ∧ D4E w w.heap.size g X ap cp P ai ci x j ((k : Int) + (1 + h9)) R w')
          have X3 := fun V (h : D4E w w.heap.size g X ap cp P ai ci x j ((k : Int) + (1 + h9)) R V) => (hKN V h.glob).mono fun e w' (q : _ ∧ _) => (⟨q.1, h.below q.2⟩ : _ ∧ D4E w w.heap.size g X ap cp P ai ci x j ((k : Int) + (1 + h9)) R w')
          generalize verL R x j ((k : Int) + (1 + h9)) P = v9 at *
          rw [HXL.out] at X1 X2
          rw [HPN.out] at X1 X2
          refine wp_region_class (C := D4E w w.heap.size g X ap cp P ai ci x j ((k : Int) + (1 + h9)) R) (by kernel_rfl) (by kernel_rfl) (HE9.out.below (Below.refl _ _).drew) ?_
          refine gq_load (by kernel_rfl) (some 121) rfl 24 (.tmp 19) rfl ⟨g, 0, none⟩ (.agg (w8s R)) (by kernel_rfl) (fun w' hC => load_key hC.r hC.r32) ?_
          simp only [Act.put, List.setIfInBounds_toArray, List.set_cons_succ, List.set_cons_zero]
          refine gq_val (by kernel_rfl) (some 122) rfl (.slice ai xl ci) (fun w' _ => by kernel_rfl) ?_
          simp only [Act.put, List.setIfInBounds_toArray, List.set_cons_succ, List.set_cons_zero]
          refine gq_val (by kernel_rfl) (some 123) rfl (.int .i64 j) (fun w' _ => by kernel_rfl) ?_
          simp only [Act.put, List.setIfInBounds_toArray, List.set_cons_succ, List.set_cons_zero]
          refine gq_val (by kernel_rfl) (some 124) rfl (.int .i64 ((k : Int) + (1 + h9))) (fun w' _ => by kernel_rfl) ?_
          simp only [Act.put, List.setIfInBounds_toArray, List.set_cons_succ, List.set_cons_zero]
          refine gq_val (by kernel_rfl) (some 125) rfl (.slice ap pn cp) (fun w' _ => by kernel_rfl) ?_
          simp only [Act.put, List.setIfInBounds_toArray, List.set_cons_succ, List.set_cons_zero]
          refine gq_call (by kernel_rfl) (some 126) rfl 19 #[.agg (w8s R), .slice ai xl ci, .int .i64 j, .int .i64 ((k : Int) + (1 + h9)), .slice ap pn cp] (.bool v9) (fun w' _ => by kernel_rfl) (fun w' hC => X1 w' hC) ?_
          simp only [Act.put, List.setIfInBounds_toArray, List.set_cons_succ, List.set_cons_zero]
          refine gq_load (by kernel_rfl) (some 127) rfl 24 (.tmp 19) rfl ⟨g, 0, none⟩ (.agg (w8s R)) (by kernel_rfl) (fun w' hC => load_key hC.r hC.r32) ?_
          simp only [Act.put, List.setIfInBounds_toArray, List.set_cons_succ, List.set_cons_zero]
          refine gq_val (by kernel_rfl) (some 128) rfl (.slice ai xl ci) (fun w' _ => by kernel_rfl) ?_
          simp only [Act.put, List.setIfInBounds_toArray, List.set_cons_succ, List.set_cons_zero]
          refine gq_val (by kernel_rfl) (some 129) rfl (.int .i64 j) (fun w' _ => by kernel_rfl) ?_
          simp only [Act.put, List.setIfInBounds_toArray, List.set_cons_succ, List.set_cons_zero]
          refine gq_val (by kernel_rfl) (some 130) rfl (.int .i64 ((k : Int) + (1 + h9))) (fun w' _ => by kernel_rfl) ?_
          simp only [Act.put, List.setIfInBounds_toArray, List.set_cons_succ, List.set_cons_zero]
          refine gq_val (by kernel_rfl) (some 131) rfl (.slice ap pn cp) (fun w' _ => by kernel_rfl) ?_
          simp only [Act.put, List.setIfInBounds_toArray, List.set_cons_succ, List.set_cons_zero]
          refine gq_call (by kernel_rfl) (some 132) rfl 20 #[.agg (w8s R), .slice ai xl ci, .int .i64 j, .int .i64 ((k : Int) + (1 + h9)), .slice ap pn cp] (.bool v9) (fun w' _ => by kernel_rfl) (fun w' hC => X2 w' hC) ?_
          simp only [Act.put, List.setIfInBounds_toArray, List.set_cons_succ, List.set_cons_zero]
          refine gq_val (by kernel_rfl) (some 133) rfl (.bool true) (fun w' _ => by cases v9 <;> kernel_rfl) ?_
          simp only [Act.put, List.setIfInBounds_toArray, List.set_cons_succ, List.set_cons_zero]
          refine gq_val (by kernel_rfl) (some 134) rfl (.bool true) (fun w' _ => by kernel_rfl) ?_
          simp only [Act.put, List.setIfInBounds_toArray, List.set_cons_succ, List.set_cons_zero]
          refine gq_call (by kernel_rfl) (some 135) rfl 8 #[] (.bool true) (fun w' _ => by kernel_rfl) (fun w' hC => X3 w' hC) ?_
          simp only [Act.put, List.setIfInBounds_toArray, List.set_cons_succ, List.set_cons_zero]
          refine gq_val (by kernel_rfl) (some 136) rfl (.bool true) (fun w' _ => by kernel_rfl) ?_
          simp only [Act.put, List.setIfInBounds_toArray, List.set_cons_succ, List.set_cons_zero]
          refine gq_val (by kernel_rfl) (some 14) rfl (.bool true) (fun w' _ => by kernel_rfl) ?_
          simp only [Act.put, List.setIfInBounds_toArray, List.set_cons_succ, List.set_cons_zero]
          refine wpQuiet_nil ?_
          intro w9 hC9
          have HB := Lib.hid hC9.bel
          clear hC9 HE9 X1 X2 X3
          go_wp2_with fail
          go_ret
          exact ⟨rfl, HB.out⟩
        · obtain ⟨b9, hb9⟩ : ∃ a : Int, k6.tmod 1000 = a := ⟨_, rfl⟩
          have hb1 : -1000 < b9 ∧ b9 < 1000 := by
            rw [← hb9]
            rcases Int.le_total 0 k6 with h | h
            · have h1 := Int.tmod_nonneg 1000 h
              have h2 := Int.tmod_lt_of_pos k6 (b := 1000) (by omega)
              omega
            · have h1 := Int.tmod_nonneg 1000 (show 0 ≤ -k6 by omega)
              have h2 := Int.tmod_lt_of_pos (-k6) (b := 1000) (by omega)
              rw [Int.neg_tmod] at h1 h2
              omega
          have hwa : IntKind.i64.wrap b9 = b9 := by rw [IntKind.wrap_i64]; omega
          have HE9 : Hid (D4E w w.heap.size g X ap cp P ai ci x i5 b9 R wc) := Lib.hid { HE.out with a1 := hi5.1, a2 := hi5.2, b1 := by omega, b2 := by omega }
          clear HE h8
          go_upto_region 27 with fail
          have X1 := fun V (h : D4E w w.heap.size g X ap cp P ai ci x i5 b9 R V) => (cV R x ai ci i5 b9 ap cp P V h.glob h.r32 h.r8 h.l h.lc h.l8 (by have := h.ln; omega) h.a1 h.a2 h.b1 h.b2 h.p8 (by have := h.pn; omega) h.pc h.p).mono fun e w' (q : _ ∧ _) => (⟨q.1, h.below q.2⟩ : _ ∧ D4E w w.heap.size g X ap cp P ai ci x i5 b9 R w')
          have X2 := fun V (h : D4E w w.heap.size g X ap cp P ai ci x i5 b9 R V) => (refver_any R x ai ci i5 b9 ap cp P V h.r32 h.l h.l8 (by have := h.ln; omega) h.b2 h.p8 h.pc h.p).mono fun e w' (q : _ ∧ _) => (⟨q.1, h.below q.2⟩ : _ ∧ D4E w w.heap.size g X ap cp P ai ci x i5 b9 R w')
          have X3 := fun V (h : D4E w w.heap.size g X ap cp P ai ci x i5 b9 R V) => (hKN V h.glob).mono fun e w' (q : _ ∧ _) => (⟨q.1, h.below q.2⟩ : _ ∧ D4E w w.heap.size g X ap cp P ai ci x i5 b9 R w')
          generalize verL R x i5 b9 P = v9 at *
          rw [HXL.out] at X1 X2
          rw [HPN.out] at X1 X2
          refine wp_region_class (C := D4E w w.heap.size g X ap cp P ai ci x i5 b9 R) (by kernel_rfl) (by kernel_rfl) (HE9.out.below (Below.refl _ _).drew) ?_
          refine gq_load (by kernel_rfl) (some 121) rfl 24 (.tmp 19) rfl ⟨g, 0, none⟩ (.agg (w8s R)) (by kernel_rfl) (fun w' hC => load_key hC.r hC.r32) ?_
          simp only [Act.put, List.setIfInBounds_toArray, List.set_cons_succ, List.set_cons_zero]
          refine gq_val (by kernel_rfl) (some 122) rfl (.slice ai xl ci) (fun w' _ => by kernel_rfl) ?_
          simp only [Act.put, List.setIfInBounds_toArray, List.set_cons_succ, List.set_cons_zero]
          refine gq_val (by kernel_rfl) (some 123) rfl (.int .i64 i5) (fun w' _ => by kernel_rfl) ?_
          simp only [Act.put, List.setIfInBounds_toArray, List.set_cons_succ, List.set_cons_zero]
          refine gq_val (by kernel_rfl) (some 124) rfl (.int .i64 b9) (fun w' _ => by kernel_rfl) ?_
          simp only [Act.put, List.setIfInBounds_toArray, List.set_cons_succ, List.set_cons_zero]
          refine gq_val (by kernel_rfl) (some 125) rfl (.slice ap pn cp) (fun w' _ => by kernel_rfl) ?_
          simp only [Act.put, List.setIfInBounds_toArray, List.set_cons_succ, List.set_cons_zero]
          refine gq_call (by kernel_rfl) (some 126) rfl 19 #[.agg (w8s R), .slice ai xl ci, .int .i64 i5, .int .i64 b9, .slice ap pn cp] (.bool v9) (fun w' _ => by kernel_rfl) (fun w' hC => X1 w' hC) ?_
          simp only [Act.put, List.setIfInBounds_toArray, List.set_cons_succ, List.set_cons_zero]
          refine gq_load (by kernel_rfl) (some 127) rfl 24 (.tmp 19) rfl ⟨g, 0, none⟩ (.agg (w8s R)) (by kernel_rfl) (fun w' hC => load_key hC.r hC.r32) ?_
          simp only [Act.put, List.setIfInBounds_toArray, List.set_cons_succ, List.set_cons_zero]
          refine gq_val (by kernel_rfl) (some 128) rfl (.slice ai xl ci) (fun w' _ => by kernel_rfl) ?_
          simp only [Act.put, List.setIfInBounds_toArray, List.set_cons_succ, List.set_cons_zero]
          refine gq_val (by kernel_rfl) (some 129) rfl (.int .i64 i5) (fun w' _ => by kernel_rfl) ?_
          simp only [Act.put, List.setIfInBounds_toArray, List.set_cons_succ, List.set_cons_zero]
          refine gq_val (by kernel_rfl) (some 130) rfl (.int .i64 b9) (fun w' _ => by kernel_rfl) ?_
          simp only [Act.put, List.setIfInBounds_toArray, List.set_cons_succ, List.set_cons_zero]
          refine gq_val (by kernel_rfl) (some 131) rfl (.slice ap pn cp) (fun w' _ => by kernel_rfl) ?_
          simp only [Act.put, List.setIfInBounds_toArray, List.set_cons_succ, List.set_cons_zero]
          refine gq_call (by kernel_rfl) (some 132) rfl 20 #[.agg (w8s R), .slice ai xl ci, .int .i64 i5, .int .i64 b9, .slice ap pn cp] (.bool v9) (fun w' _ => by kernel_rfl) (fun w' hC => X2 w' hC) ?_
          simp only [Act.put, List.setIfInBounds_toArray, List.set_cons_succ, List.set_cons_zero]
          refine gq_val (by kernel_rfl) (some 133) rfl (.bool true) (fun w' _ => by cases v9 <;> kernel_rfl) ?_
          simp only [Act.put, List.setIfInBounds_toArray, List.set_cons_succ, List.set_cons_zero]
          refine gq_val (by kernel_rfl) (some 134) rfl (.bool true) (fun w' _ => by kernel_rfl) ?_
          simp only [Act.put, List.setIfInBounds_toArray, List.set_cons_succ, List.set_cons_zero]
          refine gq_call (by kernel_rfl) (some 135) rfl 8 #[] (.bool true) (fun w' _ => by kernel_rfl) (fun w' hC => X3 w' hC) ?_
          simp only [Act.put, List.setIfInBounds_toArray, List.set_cons_succ, List.set_cons_zero]
          refine gq_val (by kernel_rfl) (some 136) rfl (.bool true) (fun w' _ => by kernel_rfl) ?_
          simp only [Act.put, List.setIfInBounds_toArray, List.set_cons_succ, List.set_cons_zero]
          refine gq_val (by kernel_rfl) (some 14) rfl (.bool true) (fun w' _ => by kernel_rfl) ?_
          simp only [Act.put, List.setIfInBounds_toArray, List.set_cons_succ, List.set_cons_zero]
          refine wpQuiet_nil ?_
          intro w9 hC9
          have HB := Lib.hid hC9.bel
          clear hC9 HE9 X1 X2 X3
          go_wp2_with fail
          go_ret
          exact ⟨rfl, HB.out⟩
        · by_cases hp0 : pn = 0
          · subst hp0
            have hz : decide ((0 : Int) < ((0 : Nat) : Int)) = false := by decide
            clear h8
            go_upto_region 27 with fail
            have X1 := fun V (h : D4E w w.heap.size g X ap cp P ai ci x j k R V) => (cV R x ai ci j k ap cp P V h.glob h.r32 h.r8 h.l h.lc h.l8 (by have := h.ln; omega) h.a1 h.a2 h.b1 h.b2 h.p8 (by have := h.pn; omega) h.pc h.p).mono fun e w' (q : _ ∧ _) => (⟨q.1, h.below q.2⟩ : _ ∧ D4E w w.heap.size g X ap cp P ai ci x j k R w')
            have X2 := fun V (h : D4E w w.heap.size g X ap cp P ai ci x j k R V) => (refver_any R x ai ci j k ap cp P V h.r32 h.l h.l8 (by have := h.ln; omega) h.b2 h.p8 h.pc h.p).mono fun e w' (q : _ ∧ _) => (⟨q.1, h.below q.2⟩ : _ ∧ D4E w w.heap.size g X ap cp P ai ci x j k R w')
            have X3 := fun V (h : D4E w w.heap.size g X ap cp P ai ci x j k R V) => (hKN V h.glob).mono fun e w' (q : _ ∧ _) => (⟨q.1, h.below q.2⟩ : _ ∧ D4E w w.heap.size g X ap cp P ai ci x j k R w')
            rw [HPN.out] at X1 X2
            generalize verL R x j k P = v9 at *
            rw [HXL.out] at X1 X2
            refine wp_region_class (C := D4E w w.heap.size g X ap cp P ai ci x j k R) (by kernel_rfl) (by kernel_rfl) (HE.out.below (Below.refl _ _).drew) ?_
            refine gq_load (by kernel_rfl) (some 121) rfl 24 (.tmp 19) rfl ⟨g, 0, none⟩ (.agg (w8s R)) (by kernel_rfl) (fun w' hC => load_key hC.r hC.r32) ?_
            simp only [Act.put, List.setIfInBounds_toArray, List.set_cons_succ, List.set_cons_zero]
            refine gq_val (by kernel_rfl) (some 122) rfl (.slice ai xl ci) (fun w' _ => by kernel_rfl) ?_
            simp only [Act.put, List.setIfInBounds_toArray, List.set_cons_succ, List.set_cons_zero]
            refine gq_val (by kernel_rfl) (some 123) rfl (.int .i64 j) (fun w' _ => by kernel_rfl) ?_
            simp only [Act.put, List.setIfInBounds_toArray, List.set_cons_succ, List.set_cons_zero]
            refine gq_val (by kernel_rfl) (some 124) rfl (.int .i64 k) (fun w' _ => by kernel_rfl) ?_
            simp only [Act.put, List.setIfInBounds_toArray, List.set_cons_succ, List.set_cons_zero]
            refine gq_val (by kernel_rfl) (some 125) rfl (.slice ap 0 cp) (fun w' _ => by kernel_rfl) ?_
            simp only [Act.put, List.setIfInBounds_toArray, List.set_cons_succ, List.set_cons_zero]
            refine gq_call (by kernel_rfl) (some 126) rfl 19 #[.agg (w8s R), .slice ai xl ci, .int .i64 j, .int .i64 k, .slice ap 0 cp] (.bool v9) (fun w' _ => by kernel_rfl) (fun w' hC => X1 w' hC) ?_
            simp only [Act.put, List.setIfInBounds_toArray, List.set_cons_succ, List.set_cons_zero]
            refine gq_load (by kernel_rfl) (some 127) rfl 24 (.tmp 19) rfl ⟨g, 0, none⟩ (.agg (w8s R)) (by kernel_rfl) (fun w' hC => load_key hC.r hC.r32) ?_
            simp only [Act.put, List.setIfInBounds_toArray, List.set_cons_succ, List.set_cons_zero]
            refine gq_val (by kernel_rfl) (some 128) rfl (.slice ai xl ci) (fun w' _ => by kernel_rfl) ?_
            simp only [Act.put, List.setIfInBounds_toArray, List.set_cons_succ, List.set_cons_zero]
            refine gq_val (by kernel_rfl) (some 129) rfl (.int .i64 j) (fun w' _ => by kernel_rfl) ?_
            simp only [Act.put, List.setIfInBounds_toArray, List.set_cons_succ, List.set_cons_zero]
            refine gq_val (by kernel_rfl) (some 130) rfl (.int .i64 k) (fun w' _ => by kernel_rfl) ?_
            simp only [Act.put, List.setIfInBounds_toArray, List.set_cons_succ, List.set_cons_zero]
            refine gq_val (by kernel_rfl) (some 131) rfl (.slice ap 0 cp) (fun w' _ => by kernel_rfl) ?_
            simp only [Act.put, List.setIfInBounds_toArray, List.set_cons_succ, List.set_cons_zero]
            refine gq_call (by kernel_rfl) (some 132) rfl 20 #[.agg (w8s R), .slice ai xl ci, .int .i64 j, .int .i64 k, .slice ap 0 cp] (.bool v9) (fun w' _ => by kernel_rfl) (fun w' hC => X2 w' hC) ?_
            simp only [Act.put, List.setIfInBounds_toArray, List.set_cons_succ, List.set_cons_zero]
            refine gq_val (by kernel_rfl) (some 133) rfl (.bool true) (fun w' _ => by cases v9 <;> kernel_rfl) ?_
            simp only [Act.put, List.setIfInBounds_toArray, List.set_cons_succ, List.set_cons_zero]
            refine gq_val (by kernel_rfl) (some 134) rfl (.bool true) (fun w' _ => by kernel_rfl) ?_
            simp only [Act.put, List.setIfInBounds_toArray, List.set_cons_succ, List.set_cons_zero]
            refine gq_call (by kernel_rfl) (some 135) rfl 8 #[] (.bool true) (fun w' _ => by kernel_rfl) (fun w' hC => X3 w' hC) ?_
            simp only [Act.put, List.setIfInBounds_toArray, List.set_cons_succ, List.set_cons_zero]
            refine gq_val (by kernel_rfl) (some 136) rfl (.bool true) (fun w' _ => by kernel_rfl) ?_
            simp only [Act.put, List.setIfInBounds_toArray, List.set_cons_succ, List.set_cons_zero]
            refine gq_val (by kernel_rfl) (some 14) rfl (.bool true) (fun w' _ => by kernel_rfl) ?_
            simp only [Act.put, List.setIfInBounds_toArray, List.set_cons_succ, List.set_cons_zero]
            refine wpQuiet_nil ?_
            intro w9 hC9
            have HB := Lib.hid hC9.bel
            clear hC9 HE X1 X2 X3
            go_wp2_with fail
            go_ret
            exact ⟨rfl, HB.out⟩
          · have hz : decide ((0 : Int) < (pn : Int)) = true := decide_eq_true (by omega)
            have hpn := HE.out.pn
            rw [HPN.out] at hpn
            obtain ⟨bp, op, rfl, -⟩ := HE.out.p 0 (by rw [HPN.out]; omega)
            have hb1 := (Below.refl _ wc).alloc (Nat.le_refl _) (.cells #[] 24)
            obtain ⟨v2, w2, hap, hO2, hb2⟩ := append_keys (own_nil_keys wc) P bp op pn cp (HE.out.p.below hb1) HPN.out (by simp) (by simp) (by omega)
            have hb3 := hb1.trans (hb2.mono (Nat.le_refl _))
            obtain ⟨g2, cp2, rfl, hg2, hg2l, hcp2⟩ := hO2.form (by rw [List.nil_append, HPN.out]; omega)
            rw [List.nil_append] at hO2 hcp2 hap
            obtain ⟨i9, hi9⟩ : ∃ i : Nat, (how.tdiv 8).tmod (pn : Int) = (i : Int) := ⟨((how.tdiv 8).tmod (pn : Int)).toNat, (Int.toNat_of_nonneg (Int.tmod_nonneg _ (by rw [Int.tdiv_eq_ediv_of_nonneg hu3]; omega))).symm⟩
            have hi9l : i9 < pn := by have := Int.tmod_lt_of_pos (how.tdiv 8) (b := (pn : Int)) (by omega); omega
            have ht2 := hO2.there i9 (by rw [HPN.out]; exact hi9l) rfl
            have hRk2 : Rk w2 (some ⟨g2, 0, none⟩) P := by
              obtain ⟨a7, c7, e7, hR7, -⟩ := hO2.rk
              simp only [Value.slice.injEq] at e7
              obtain ⟨rfl, -, -⟩ := e7
              exact hR7
            rw [HPN.out] at hO2 hcp2 hap
            go_upto_region 11 with fail
            apply wp_region_lit
            refine gw_build (by kernel_rfl) (some 65) rfl 35 0 #[] rfl #[] (by kernel_rfl) _ _ (build_nil_keys wc) ?_
            simp only [Act.put, List.setIfInBounds_toArray, List.set_cons_succ, List.set_cons_zero]
            refine gw_val (by kernel_rfl) (some 66) rfl (.slice (some ⟨bp, op, none⟩) pn cp) (by kernel_rfl) ?_
            simp only [Act.put, List.setIfInBounds_toArray, List.set_cons_succ, List.set_cons_zero]
            refine append_step rfl (some 67) rfl 35 rfl (.tmp 65) (.tmp 66) 35 rfl (.slice (some ⟨wc.heap.size, 0, none⟩) 0 0) (.slice (some ⟨bp, op, none⟩) pn cp) (.slice (some ⟨g2, 0, none⟩) pn cp2) w2 (by kernel_rfl) (by kernel_rfl) hap ?_
            simp only [Act.put, List.setIfInBounds_toArray, List.set_cons_succ, List.set_cons_zero]
            refine gw_val (by kernel_rfl) (some 17) rfl (.slice (some ⟨g2, 0, none⟩) pn cp2) (by kernel_rfl) ?_
            simp only [Act.put, List.setIfInBounds_toArray, List.set_cons_succ, List.set_cons_zero]
            apply wpList_nil
            have hwa : IntKind.u8.wrap (how.tdiv 8) = how.tdiv 8 := by rw [Int.tdiv_eq_ediv_of_nonneg hu3, IntKind.wrap_u8]; have := h3.2; omega
            have hwb : IntKind.i64.wrap (how.tdiv 8) = how.tdiv 8 := by rw [Int.tdiv_eq_ediv_of_nonneg hu3, IntKind.wrap_i64]; have := h3.2; omega
            have hwi : IntKind.i64.wrap (i9 : Int) = (i9 : Int) := by rw [IntKind.wrap_i64]; omega
            have hpz : (pn : Int) ≠ 0 := by omega
            have HE2 := Lib.hid (HE.out.below hb3)
            have hgw : g < wc.heap.size := HE.out.r.lt
            have hXw : w.heap.size < wc.heap.size := HE.out.x.lt
            have hP8 := Lib.hid HE.out.p8
            have HRK := Lib.hid hRk2
            have HT2 := Lib.hid ht2
            have HB3 := Lib.hid hb3
            have hsX : (w8s X).size = 32 := by rw [size_w8s, hX]
            clear hap hO2 hb1 hb2 hb3 hRk2 ht2 h8
            go_upto_region 12 with fail
            refine wp_region_class_tail (C := fun w' => ∃ nn, w' = w2.drewN nn) 9 (by kernel_rfl) (by kernel_rfl) ⟨1, rfl⟩ ?_
            refine gq_val (by kernel_rfl) (some 68) rfl (.slice (some ⟨g2, 0, none⟩) pn cp2) (fun w' _ => by kernel_rfl) ?_
            simp only [Act.put, List.setIfInBounds_toArray, List.set_cons_succ, List.set_cons_zero]
            refine gq_val (by kernel_rfl) (some 69) rfl (.int .u8 how) (fun w' _ => by kernel_rfl) ?_
            simp only [Act.put, List.setIfInBounds_toArray, List.set_cons_succ, List.set_cons_zero]
            refine gq_val (by kernel_rfl) (some 70) rfl (.int .u8 (IntKind.u8.wrap (how.tdiv 8))) (fun w' _ => by kernel_rfl) ?_
            simp only [Act.put, List.setIfInBounds_toArray, List.set_cons_succ, List.set_cons_zero]
            rw [hwa]
            refine gq_val (by kernel_rfl) (some 71) rfl (.int .i64 (IntKind.i64.wrap (how.tdiv 8))) (fun w' _ => by kernel_rfl) ?_
            simp only [Act.put, List.setIfInBounds_toArray, List.set_cons_succ, List.set_cons_zero]
            rw [hwb]
            refine gq_val (by kernel_rfl) (some 72) rfl (.slice (some ⟨g2, 0, none⟩) pn cp2) (fun w' _ => by kernel_rfl) ?_
            simp only [Act.put, List.setIfInBounds_toArray, List.set_cons_succ, List.set_cons_zero]
            refine gq_val (by kernel_rfl) (some 73) rfl (.int .i64 pn) (fun w' _ => by kernel_rfl) ?_
            simp only [Act.put, List.setIfInBounds_toArray, List.set_cons_succ, List.set_cons_zero]
            refine gq_val (by kernel_rfl) (some 74) rfl (.int .i64 ((how.tdiv 8).tmod (pn : Int))) (fun w' _ => rem_i64 rfl (how.tdiv 8) pn hpz (by kernel_rfl) (by kernel_rfl) w') ?_
            rw [hi9]
            simp only [Act.put, List.setIfInBounds_toArray, List.set_cons_succ, List.set_cons_zero]
            refine gq_load (by kernel_rfl) (some 75) rfl 24 (.tmp 11) rfl ⟨w.heap.size, 0, none⟩ (.agg (w8s X)) (by kernel_rfl) (fun w' hC => by obtain ⟨nn, rfl⟩ := hC; exact load_key (HE2.out.x.below HE2.out.x.lt (Below.drewN' (Below.refl _ w2) nn)) hX) ?_
            simp only [Act.put, List.setIfInBounds_toArray, List.set_cons_succ, List.set_cons_zero]
            refine gq_at (by kernel_rfl) (some 76) rfl 35 (.tmp 68) (.tmp 74) rfl (.slice (some ⟨g2, 0, none⟩) pn cp2) (.int .i64 i9) (.pointer (some ⟨g2, 0 + i9 * 32, none⟩)) (by kernel_rfl) (by kernel_rfl) (fun w' _ => at_key g2 0 pn cp2 i9 hi9l w') ?_
            simp only [Act.put, List.setIfInBounds_toArray, List.set_cons_succ, List.set_cons_zero]
            refine wpQuiet_nil ?_
            rintro _ ⟨nn, rfl⟩
            rw [Nat.zero_add]
            apply wpList_store_mid (ty := 24) (x := .tmp 76) (y := .tmp 75) (b := g2) (o := i9 * 32) (cells := w8s X)
            case hgd => rfl
            case ho => rfl
            case hx => kernel_rfl
            case hy => kernel_rfl
            case ht => rw [hsX]; exact HT2.out
            case hi => rw [hsX]; kernel_rfl
            case h1 => exact one_w8s _
            apply wpList_nil
            simp only [Act.put]
            have hbd := Below.drewN' (Below.refl wc.heap.size w2) nn
            have hRs := (HRK.out.below (Below.drewN' (Below.refl w2.heap.size w2) nn)).set i9 X hX HT2.out
            have hb9 := (HB3.out.trans hbd).trans ((But.setCells (g := g2) (w8s X).toList (i9 * 32) (w2.drewN nn)).1.mono hg2)
            have e8 : (w8s X).toList = X.map (Value.int .u8) := by simp
            rw [e8] at hb9
            generalize (w2.drewN nn).setCells g2 (i9 * 32) (X.map (Value.int .u8)) = W9 at *
            have hq8 : ∀ q ∈ P.set i9 X, ∀ y, y ∈ q → W8 y := fun q hq => by
              rcases List.mem_or_eq_of_mem_set hq with h | rfl
              · exact hP8.out q h
              · exact hX8
            have hpl9 : (P.set i9 X).length = pn := by rw [List.length_set]; exact HPN.out
            have HE9 : Hid (D4E w w.heap.size g X (some ⟨g2, 0, none⟩) cp2 (P.set i9 X) ai ci x j k R W9) := Lib.hid { HE.out.below hb9 with p := hRs, pc := by rw [hpl9]; exact hcp2, pn := by rw [hpl9]; exact hpn, p8 := hq8 }
            generalize P.set i9 X = P2 at *
            have HPM := Lib.hid hpl9
            clear HE HE2 hb9 hRs hq8 hpl9 hbd HRK HT2 HB3 hP8 e8 hsX
            go_upto_region 27 with fail
            have X1 := fun V (h : D4E w w.heap.size g X (some ⟨g2, 0, none⟩) cp2 P2 ai ci x j k R V) => (cV R x ai ci j k (some ⟨g2, 0, none⟩) cp2 P2 V h.glob h.r32 h.r8 h.l h.lc h.l8 (by have := h.ln; omega) h.a1 h.a2 h.b1 h.b2 h.p8 (by have := h.pn; omega) h.pc h.p).mono fun e w' (q : _ ∧ _) => (⟨q.1, h.below q.2⟩ : _ ∧ D4E w w.heap.size g X (some ⟨g2, 0, none⟩) cp2 P2 ai ci x j k R w')
            have X2 := fun V (h : D4E w w.heap.size g X (some ⟨g2, 0, none⟩) cp2 P2 ai ci x j k R V) => (refver_any R x ai ci j k (some ⟨g2, 0, none⟩) cp2 P2 V h.r32 h.l h.l8 (by have := h.ln; omega) h.b2 h.p8 h.pc h.p).mono fun e w' (q : _ ∧ _) => (⟨q.1, h.below q.2⟩ : _ ∧ D4E w w.heap.size g X (some ⟨g2, 0, none⟩) cp2 P2 ai ci x j k R w')
            have X3 := fun V (h : D4E w w.heap.size g X (some ⟨g2, 0, none⟩) cp2 P2 ai ci x j k R V) => (hKN V h.glob).mono fun e w' (q : _ ∧ _) => (⟨q.1, h.below q.2⟩ : _ ∧ D4E w w.heap.size g X (some ⟨g2, 0, none⟩) cp2 P2 ai ci x j k R w')
            generalize verL R x j k P2 = v9 at *
            rw [HXL.out] at X1 X2
            rw [HPM.out] at X1 X2
            refine wp_region_class (C := D4E w w.heap.size g X (some ⟨g2, 0, none⟩) cp2 P2 ai ci x j k R) (by kernel_rfl) (by kernel_rfl) (HE9.out.below (Below.refl _ _).drew) ?_
            refine gq_load (by kernel_rfl) (some 121) rfl 24 (.tmp 19) rfl ⟨g, 0, none⟩ (.agg (w8s R)) (by kernel_rfl) (fun w' hC => load_key hC.r hC.r32) ?_
            simp only [Act.put, List.setIfInBounds_toArray, List.set_cons_succ, List.set_cons_zero]
            refine gq_val (by kernel_rfl) (some 122) rfl (.slice ai xl ci) (fun w' _ => by kernel_rfl) ?_
            simp only [Act.put, List.setIfInBounds_toArray, List.set_cons_succ, List.set_cons_zero]
            refine gq_val (by kernel_rfl) (some 123) rfl (.int .i64 j) (fun w' _ => by kernel_rfl) ?_
            simp only [Act.put, List.setIfInBounds_toArray, List.set_cons_succ, List.set_cons_zero]
            refine gq_val (by kernel_rfl) (some 124) rfl (.int .i64 k) (fun w' _ => by kernel_rfl) ?_
            simp only [Act.put, List.setIfInBounds_toArray, List.set_cons_succ, List.set_cons_zero]
            refine gq_val (by kernel_rfl) (some 125) rfl (.slice (some ⟨g2, 0, none⟩) pn cp2) (fun w' _ => by kernel_rfl) ?_
            simp only [Act.put, List.setIfInBounds_toArray, List.set_cons_succ, List.set_cons_zero]
            refine gq_call (by kernel_rfl) (some 126) rfl 19 #[.agg (w8s R), .slice ai xl ci, .int .i64 j, .int .i64 k, .slice (some ⟨g2, 0, none⟩) pn cp2] (.bool v9) (fun w' _ => by kernel_rfl) (fun w' hC => X1 w' hC) ?_
            simp only [Act.put, List.setIfInBounds_toArray, List.set_cons_succ, List.set_cons_zero]
            refine gq_load (by kernel_rfl) (some 127) rfl 24 (.tmp 19) rfl ⟨g, 0, none⟩ (.agg (w8s R)) (by kernel_rfl) (fun w' hC => load_key hC.r hC.r32) ?_
            simp only [Act.put, List.setIfInBounds_toArray, List.set_cons_succ, List.set_cons_zero]
            refine gq_val (by kernel_rfl) (some 128) rfl (.slice ai xl ci) (fun w' _ => by kernel_rfl) ?_
            simp only [Act.put, List.setIfInBounds_toArray, List.set_cons_succ, List.set_cons_zero]
            refine gq_val (by kernel_rfl) (some 129) rfl (.int .i64 j) (fun w' _ => by kernel_rfl) ?_
            simp only [Act.put, List.setIfInBounds_toArray, List.set_cons_succ, List.set_cons_zero]
            refine gq_val (by kernel_rfl) (some 130) rfl (.int .i64 k) (fun w' _ => by kernel_rfl) ?_
            simp only [Act.put, List.setIfInBounds_toArray, List.set_cons_succ, List.set_cons_zero]
            refine gq_val (by kernel_rfl) (some 131) rfl (.slice (some ⟨g2, 0, none⟩) pn cp2) (fun w' _ => by kernel_rfl) ?_
            simp only [Act.put, List.setIfInBounds_toArray, List.set_cons_succ, List.set_cons_zero]
            refine gq_call (by kernel_rfl) (some 132) rfl 20 #[.agg (w8s R), .slice ai xl ci, .int .i64 j, .int .i64 k, .slice (some ⟨g2, 0, none⟩) pn cp2] (.bool v9) (fun w' _ => by kernel_rfl) (fun w' hC => X2 w' hC) ?_
            simp only [Act.put, List.setIfInBounds_toArray, List.set_cons_succ, List.set_cons_zero]
            refine gq_val (by kernel_rfl) (some 133) rfl (.bool true) (fun w' _ => by cases v9 <;> kernel_rfl) ?_
            simp only [Act.put, List.setIfInBounds_toArray, List.set_cons_succ, List.set_cons_zero]
            refine gq_val (by kernel_rfl) (some 134) rfl (.bool true) (fun w' _ => by kernel_rfl) ?_
            simp only [Act.put, List.setIfInBounds_toArray, List.set_cons_succ, List.set_cons_zero]
            refine gq_call (by kernel_rfl) (some 135) rfl 8 #[] (.bool true) (fun w' _ => by kernel_rfl) (fun w' hC => X3 w' hC) ?_
            simp only [Act.put, List.setIfInBounds_toArray, List.set_cons_succ, List.set_cons_zero]
            refine gq_val (by kernel_rfl) (some 136) rfl (.bool true) (fun w' _ => by kernel_rfl) ?_
            simp only [Act.put, List.setIfInBounds_toArray, List.set_cons_succ, List.set_cons_zero]
            refine gq_val (by kernel_rfl) (some 14) rfl (.bool true) (fun w' _ => by kernel_rfl) ?_
            simp only [Act.put, List.setIfInBounds_toArray, List.set_cons_succ, List.set_cons_zero]
            refine wpQuiet_nil ?_
            intro w9 hC9
            have HB := Lib.hid hC9.bel
            clear hC9 HE9 X1 X2 X3
            go_wp2_with fail
            go_ret
            exact ⟨rfl, HB.out⟩
end Go.Proofs.YtbhnbcpllhefgaaDoor
