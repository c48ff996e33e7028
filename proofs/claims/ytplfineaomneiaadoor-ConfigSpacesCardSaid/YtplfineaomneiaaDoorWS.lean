/-
  The walk of ConfigSpaces.
-/
import Derived.Test.YtplfineaomneiaaDoorWQ
namespace Go.Proofs.YtplfineaomneiaaDoor
attribute [local irreducible] wpList wpQuiet
open Go.RowKit
set_option maxRecDepth 100000
set_option linter.unusedSimpArgs false
set_option linter.unusedVariables false

def cmtB : List ByteArray := [⟨#[]⟩, ⟨#[35, 32, 120]⟩, ⟨#[32, 35, 195, 169, 35]⟩]
theorem cmt_is : ∀ k, k < 3 → nums (cmtB.getD k (⟨#[]⟩ : ByteArray)) = (cmtT k).flatten ∧ (cmtB.getD k (⟨#[]⟩ : ByteArray)).size ≤ 6 := by decide +kernel
theorem build_cmt (V : World) : (Instr.buildSlice 39 3 #[(0, .string ⟨#[]⟩), (1, .string ⟨#[35, 32, 120]⟩), (2, .string ⟨#[32, 35, 195, 169, 35]⟩)]).run Tryd.prog V = .ok (.slice (some ⟨V.heap.size, 0, none⟩) 3 3) (V.alloc (.cells (strs cmtB).toArray 9)) := by
  obtain ⟨i0, hi, hz0, hz1, hz2⟩ := info_parts infoSt
  refine run_buildSlice V 39 9 3 _ (strs cmtB).toArray i0 _ Tryd.underlying39 hi hz0 (by rw [hz1]; omega) (by rw [hz1]; omega) ?_
  rw [hz1]
  kernel_rfl
/-- What the region of a line keeps. -/
structure KQ (W : World) (r : Nat) (b14 b17 : Bool) (x71 x74 : Value) (V : World) : Prop where
  bel : Below W.heap.size W V
  c14 : b14 = true → ∃ g, x71 = .slice (some ⟨g, 0, none⟩) 3 3 ∧ Bx V g (strs cmtB).toArray 9
  c17 : b17 = true → ∃ g, x74 = .pointer (some ⟨g, 0 + r, none⟩) ∧ Bx V g (strs cmtB).toArray 9
section
variable {W V V2 : World} {r : Nat} {b14 b17 : Bool} {x71 x74 : Value}
theorem KQ.start (W : World) (r : Nat) (x71 x74 : Value) : KQ W r false false x71 x74 W.drew := ⟨(Below.refl _ W).drew, fun h => by (cases h), fun h => by (cases h)⟩
theorem KQ.call (h : KQ W r b14 b17 x71 x74 V) (hb : Below V.heap.size V V2) : KQ W r b14 b17 x71 x74 V2 := ⟨h.bel.trans (hb.mono h.bel.size), fun q => by
  obtain ⟨g, h1, h2⟩ := h.c14 q
  exact ⟨g, h1, h2.below h2.lt hb⟩, fun q => by
  obtain ⟨g, h1, h2⟩ := h.c17 q
  exact ⟨g, h1, h2.below h2.lt hb⟩⟩
theorem KQ.s14 (h : KQ W r b14 b17 x71 x74 V) : KQ W r true b17 (.slice (some ⟨V.heap.size, 0, none⟩) 3 3) x74 (V.alloc (.cells (strs cmtB).toArray 9)) := ⟨h.bel.alloc h.bel.size _, fun _ => ⟨_, rfl, heap_alloc_last V _⟩, fun q => by
  obtain ⟨g, h1, h2⟩ := h.c17 q
  exact ⟨g, h1, h2.below h2.lt ((Below.refl _ V).alloc (Nat.le_refl _) _)⟩⟩
theorem KQ.s17 {g : Nat} (h : KQ W r true b17 (.slice (some ⟨g, 0, none⟩) 3 3) x74 V) (hx : Bx V g (strs cmtB).toArray 9) : KQ W r true true (.slice (some ⟨g, 0, none⟩) 3 3) (.pointer (some ⟨g, 0 + r, none⟩)) V := ⟨h.bel, h.c14, fun _ => ⟨g, rfl, hx⟩⟩
end
/-- What the region of the lines left keeps. -/
structure KT (W : World) (A M : List ByteArray) (b0 b4 b9 : Bool) (x88 x92 x97 : Value) (V : World) : Prop where
  bel : Below W.heap.size W V
  o4 : b4 = true → b0 = true
  o9 : b9 = true → b4 = true
  r0 : b0 = true → b4 = false → RowS V W.heap.size x88 []
  r4 : b4 = true → b9 = false → RowS V W.heap.size x92 A
  r9 : b9 = true → RowS V W.heap.size x97 (A ++ M)
section
variable {W V V2 : World} {A M : List ByteArray} {b0 b4 b9 : Bool} {x88 x92 x97 : Value}
theorem KT.start (W : World) (A M : List ByteArray) (x88 x92 x97 : Value) : KT W A M false false false x88 x92 x97 W.drew := ⟨(Below.refl _ W).drew, fun h => by (cases h), fun h => by (cases h), fun h => by (cases h), fun h => by (cases h), fun h => by (cases h)⟩
theorem KT.n0 (h : KT W A M false b4 b9 x88 x92 x97 V) : b4 = false ∧ b9 = false := by
  cases b4 with
  | true => exact absurd (h.o4 rfl) (by decide)
  | false =>
    cases b9 with
    | true => exact absurd (h.o9 rfl) (by decide)
    | false => exact ⟨rfl, rfl⟩
theorem KT.n4 (h : KT W A M b0 false b9 x88 x92 x97 V) : b9 = false := by cases b9; rfl; exact absurd (h.o9 rfl) (by decide)
theorem KT.s0 (h : KT W A M false false false x88 x92 x97 V) : KT W A M true false false (.slice (some ⟨V.heap.size, 0, none⟩) 0 0) x92 x97 (V.alloc (.cells #[] 9)) := ⟨h.bel.alloc h.bel.size _, fun q => by (cases q), fun q => by (cases q), fun _ _ => row_new V _ h.bel.size, fun q => by (cases q), fun q => by (cases q)⟩
theorem KT.s4 {v : Value} (h : KT W A M true false false x88 x92 x97 V) (hr : RowS V2 W.heap.size v A) (hb : Below W.heap.size V V2) : KT W A M true true false x88 v x97 V2 := ⟨h.bel.trans hb, fun _ => rfl, fun q => by (cases q), fun _ q => by (cases q), fun _ _ => hr, fun q => by (cases q)⟩
theorem KT.s9 {v : Value} (h : KT W A M b0 true false x88 x92 x97 V) (hr : RowS V2 W.heap.size v (A ++ M)) (hb : Below W.heap.size V V2) : KT W A M b0 true true x88 x92 v V2 := ⟨h.bel.trans hb, h.o4, fun _ => rfl, fun _ q => by (cases q), fun _ q => by (cases q), fun _ => hr⟩
end
theorem SpI.line_len {C T : List Int} {m : Nat} {rem : List (Option Nat)} (h : SpI C m T rem) (hv : valL C = 0) (h9 : 0 ≤ C.getD 9 0 ∧ C.getD 9 0 ≤ 18446744073709551615) {j : Nat} {x : Option Nat} (hj : rem[j]? = some x) : (lineO C x).length ≤ 33 := by
  obtain ⟨ls, q, h1, h2, h3, h4, h5⟩ := h
  cases x with
  | none => exact Nat.zero_le _
  | some i =>
    have hm : i ∈ q.map (·.1) ++ rem.filterMap id := List.mem_append_right _ (List.mem_filterMap.2 ⟨some i, List.mem_of_getElem? hj, rfl⟩)
    exact (line_facts hv h9 (List.mem_range.1 (h4.mem_iff.1 hm))).1
set_option maxRecDepth 100000 in
set_option maxHeartbeats 8000000 in
theorem spaces_core {w : World} (HQ : Prg w)  {a : Option Addr} {c : Nat} {L : List Int} (h : Cs w a (icells L)) {ao : Option Addr} {co : Nat} {Lo : List Int} (ho : Cs w ao (icells Lo)) {ap : Option Addr} {cp : Nat} {Lp : List Int} (hp : Cs w ap (u8s Lp)) (h8 : ∀ x ∈ Lp, 0 ≤ x ∧ x ≤ 255) (hl : L.length + Lo.length ≤ 9223372036854775807) : Calls Tryd.prog 6 #[.slice a L.length c, .slice ao Lo.length co, .slice ap Lp.length cp] w fun e w' => e = .returned (.bool true) ∧ Below w.heap.size w w' := by
  have hb0 : Below w.heap.size w (w.alloc (.cells #[.slice ap Lp.length cp] 38)) := (Below.refl _ w).alloc (Nat.le_refl _) _
  have hX0 : Bx (w.alloc (.cells #[.slice ap Lp.length cp] 38)) w.heap.size #[.slice ap Lp.length cp] 38 := heap_alloc_last w _
  obtain ⟨W, hW⟩ : ∃ W, w.alloc (.cells #[.slice ap Lp.length cp] 38) = W := ⟨_, rfl⟩
  rw [hW] at hb0 hX0
  have HBW := Lib.hid hb0
  have HR := Lib.hid fun V (hb : Below w.heap.size w V) => h.below hb
  have HRO := Lib.hid fun V (hb : Below w.heap.size w V) => ho.below hb
  have HRP := Lib.hid fun V (hb : Below w.heap.size w V) => hp.below hb
  have H8 := Lib.hid h8
  have hbd := two_row a L.length c ao Lo.length co W
  have hXl : Bx (W.alloc (.cells #[.slice a L.length c, .slice ao Lo.length co] 25)) W.heap.size #[.slice a L.length c, .slice ao Lo.length co] 25 := heap_alloc_last W _
  have hbl : Below W.heap.size W (W.alloc (.cells #[.slice a L.length c, .slice ao Lo.length co] 25)) := (Below.refl _ W).alloc (Nat.le_refl _) _
  have CL := long_two W.heap.size a L.length c ao Lo.length co _ hXl hl
  generalize W.alloc (.cells #[.slice a L.length c, .slice ao Lo.length co] 25) = W1 at *
  have HB1 := Lib.hid (HBW.out.trans (hbl.mono HBW.out.size))
  have HX5 := Lib.hid (hX0.below hX0.lt hbl)
  clear hb0 h ho hp h8 hXl hbl hl hX0
  go_enter Tryd.func6, Tryd.ntmps6
  go_upto_region 1 with fail
  obtain ⟨g5, hg5⟩ : ∃ g5, w.heap.size = g5 := ⟨_, rfl⟩
  rw [hg5] at HX5
  simp only [hg5]
  clear hW hg5
  by_cases h1 : 160 < L.length + Lo.length
  · skip
    rw [decide_eq_true h1] at CL
    refine wl <| gz2 (.slice a L.length c) (.slice ao Lo.length co) ?_
    simp only [pu]
    refine gw_build (by kernel_rfl) (some 20) rfl 54 2 #[(0, .tmp 18), (1, .tmp 19)] rfl #[(0, .slice a L.length c), (1, .slice ao Lo.length co)] (by kernel_rfl) (.slice (some ⟨W.heap.size, 0, none⟩) 2 2) _ hbd ?_
    simp only [pu]
    refine gzc (.bool true) (fun w' => W1 = w') (CL) (fun V9 hV9 => ?_)
    subst hV9
    simp only [pu]
    refine gz5 (.bool true) undef undef undef (.bool true) <| wn ?_
    simp only [pu]
    clear CL hbd
    go_upto_region 2 with fail
    refine wl <| gzc (.bool true) (fun w' => Below W1.heap.size W1 w') (known_true HQ W1 (HB1.out)) (fun V2 hV2 => ?_)
    simp only [pu]
    refine gz1 (.bool true) <| wn ?_
    simp only [pu]
    have HE := HB1.out.trans (hV2.mono HB1.out.size)
    go_wp2_with fail
    go_ret
    exact ⟨rfl, HE⟩
  · skip
    rw [decide_eq_false h1] at CL
    by_cases h2 : 60 < Lp.length
    · skip
      refine wl <| gz2 (.slice a L.length c) (.slice ao Lo.length co) ?_
      simp only [pu]
      refine gw_build (by kernel_rfl) (some 20) rfl 54 2 #[(0, .tmp 18), (1, .tmp 19)] rfl #[(0, .slice a L.length c), (1, .slice ao Lo.length co)] (by kernel_rfl) (.slice (some ⟨W.heap.size, 0, none⟩) 2 2) _ hbd ?_
      simp only [pu]
      refine gzc (.bool false) (fun w' => W1 = w') (CL) (fun V9 hV9 => ?_)
      subst hV9
      simp only [pu]
      refine gz1 (.bool false) <| gzl rfl ⟨g5, 0, none⟩ (.slice ap Lp.length cp) (HX5.out.load (i := 0) rfl (by kernel_rfl)) <| gz1 (.int .i64 Lp.length) <| gzb (gtr_n rfl Lp.length 60 dT) <| gz1 (.bool true) <| wn ?_
      simp only [pu]
      clear CL hbd
      go_upto_region 2 with fail
      refine wl <| gzc (.bool true) (fun w' => Below W1.heap.size W1 w') (known_true HQ W1 (HB1.out)) (fun V2 hV2 => ?_)
      simp only [pu]
      refine gz1 (.bool true) <| wn ?_
      simp only [pu]
      have HE := HB1.out.trans (hV2.mono HB1.out.size)
      go_wp2_with fail
      go_ret
      exact ⟨rfl, HE⟩
    · skip
      refine wl <| gz2 (.slice a L.length c) (.slice ao Lo.length co) ?_
      simp only [pu]
      refine gw_build (by kernel_rfl) (some 20) rfl 54 2 #[(0, .tmp 18), (1, .tmp 19)] rfl #[(0, .slice a L.length c), (1, .slice ao Lo.length co)] (by kernel_rfl) (.slice (some ⟨W.heap.size, 0, none⟩) 2 2) _ hbd ?_
      simp only [pu]
      refine gzc (.bool false) (fun w' => W1 = w') (CL) (fun V9 hV9 => ?_)
      subst hV9
      simp only [pu]
      refine gz1 (.bool false) <| gzl rfl ⟨g5, 0, none⟩ (.slice ap Lp.length cp) (HX5.out.load (i := 0) rfl (by kernel_rfl)) <| gz1 (.int .i64 Lp.length) <| gzb (gtr_n rfl Lp.length 60 dF) <| gz1 (.bool false) <| wn ?_
      simp only [pu]
      clear CL hbd
      have CM := mk_fromN (c := c) (HR.out W1 HB1.out)
      have HL : Hid (L.length ≤ 100000) := Lib.hid (by omega)
      go_upto_region 3 with fail
      refine wl <| gz1 (.slice a L.length c) <| gze (FrO W1 a c L) (CM) (fun vv V1 hq => ?_)
      obtain ⟨gn, rfl, hnm, hgn, hb1⟩ := hq
      have CM2 := mk_configN hnm HL.out
      simp only [pu]
      refine gze (MdO V1 gn a c L) (CM2) (fun vv V2 hq => ?_)
      obtain ⟨cf, N2, rfl, hmd, -, -, hbt2⟩ := hq
      have hb2 : Below W1.heap.size W1 V2 := hb1.trans (hbt2.1.mono hgn)
      obtain ⟨V3, hst3, hb3, hX7⟩ := new_bx (c := #[.int .i64 0, .int .i64 0, .int .i64 0, .int .i64 0, .int .i64 0, .int .i64 0, .bool false, .int .i64 0, .int .i64 0, .int .u64 0, .int .i64 0, .int .i64 0]) (c' := cfA cf) (ty := 24) V2 rfl (by kernel_rfl) (by kernel_rfl)
      simp only [pu]
      refine run_to rfl (some 7) rfl (.pointer (some ⟨V2.heap.size, 0, none⟩)) (V2.alloc (.cells #[.int .i64 0, .int .i64 0, .int .i64 0, .int .i64 0, .int .i64 0, .int .i64 0, .bool false, .int .i64 0, .int .i64 0, .int .u64 0, .int .i64 0, .int .i64 0] 24)) (by kernel_rfl) ?_
      simp only [pu]
      refine gzs rfl (hst3) <| wn ?_
      have hb23 := hb2.trans (hb3.mono hb2.size)
      have HB3 := Lib.hid (HB1.out.trans (hb23.mono HB1.out.size))
      have HX53 := Lib.hid (HX5.out.below HX5.out.lt hb23)
      obtain ⟨g7, hg7⟩ : ∃ g, V2.heap.size = g := ⟨_, rfl⟩
      rw [hg7] at hX7
      simp only [hg7]
      have h9 : 0 ≤ cf.getD 9 0 ∧ cf.getD 9 0 ≤ 18446744073709551615 := ⟨hmd.1.2.2.1, by have := hmd.1.2.2.2.1; omega⟩
      have HVL := Lib.hid hmd.2
      have H9 := Lib.hid h9
      have HCL := Lib.hid hmd.1.1
      have HC1011 : Hid (cf.getD 10 0 < cf.getD 11 0) := Lib.hid (valL_ok hmd.2).2
      have CF1 := r_format hmd.1 V3
      rw [show fmtV cf = .tuple #[.string (strOfNums (fmtL cf)), .int .i64 0] by unfold fmtV; rw [if_pos hmd.2]] at CF1
      have hfs : (strOfNums (fmtL cf)).size ≤ 408 := by rw [strOfNums_size]; exact fmt_len hmd.2 h9
      have hfn : splitL [] (nums (strOfNums (fmtL cf))) = allO.map (lineO cf) := by rw [nums_str _ (fmt_w8 hmd.2 h9), split_all hmd.2 h9]
      have hld7 := load_C hX7
      have HEQ := Lib.hid fun (ρ : Operand → Value) (o : Oper) (x y : Operand) (ho : o.op = .binOp .eql 24 x y 24) (hx : ρ x = .agg (cfA cf)) (hy : ρ y = .agg (cfA cf)) (w : World) => eql_C ho cf hx hy w
      have LD := Lib.hid (lda cf)
      have NB := Lib.hid fun V => new_bx (c := #[.int .i64 0, .int .i64 0, .int .i64 0, .int .i64 0, .int .i64 0, .int .i64 0, .bool false, .int .i64 0, .int .i64 0, .int .u64 0, .int .i64 0, .int .i64 0]) (c' := cfA cf) (ty := 24) V rfl (by kernel_rfl) (by kernel_rfl)
      have HPV : Hid (∀ T : List Int, parX T = (cf, 0, 0) → ∀ s, nums s = T → parV (nums s) = .tuple #[.agg (cfA cf), .int .i64 0, .int .i64 0]) := Lib.hid fun T h s hs => by rw [hs]; exact (parV_of h).symm
      generalize strOfNums (fmtL cf) = F at *
      generalize cfA cf = CC at *
      clear hst3 hb2 hb3 hb23 hg7 hnm hgn hb1 hmd hbt2 CM CM2 h9 HL HB1 HX5
      go_upto_region 4 with fail
      refine wl <| gzl rfl ⟨g7, 0, none⟩ (.agg CC) (hld7) <| gzc (.tuple #[.string F, .int .i64 0]) (fun w' => Below V3.heap.size V3 w') (CF1) (fun V4 hb4 => ?_)
      simp only [pu]
      refine gz5 (.tuple #[.string F, .int .i64 0]) (.string F) (.int .i64 0) (.string F) (.int .i64 0) <| wn ?_
      simp only [pu]
      have HB4 := Lib.hid (HB3.out.trans (hb4.mono HB3.out.size))
      have HX54 := Lib.hid (HX53.out.below HX53.out.lt hb4)
      have hX74 := hX7.below hX7.lt hb4
      have CLI := r_lines2 F (by omega) V4
      rw [hfn] at CLI
      clear hb4 CF1 hld7 hX7 hfn HB3 HX53
      go_upto_region 5 with fail
      refine wl <| gz1 (.string F) <| gze (fun v w' => ∃ S, RowS w' V4.heap.size v S ∧ S.map nums = allO.map (lineO cf) ∧ Below V4.heap.size V4 w') (CLI) (fun v37 V5 hq => ?_)
      obtain ⟨S0, hrow, hmp, hb5⟩ := hq
      obtain ⟨a9, c9, hv9, hcs9, hcl9⟩ := hrow.cs
      obtain rfl := hv9
      simp only [pu]
      refine gz1 (.slice a9 S0.length c9) <| wn ?_
      simp only [pu]
      have HB5 := Lib.hid (HB4.out.trans (hb5.mono HB4.out.size))
      have HX55 := Lib.hid (HX54.out.below HX54.out.lt hb5)
      have HX75 := Lib.hid (hX74.below hX74.lt hb5)
      have HPAD := Lib.hid fun V (hb : Below V5.heap.size V5 V) (i : Nat) (hi : i ≤ 1000) => r_pad (HX55.out.below HX55.out.lt hb) (HRP.out V (HB5.out.trans (hb.mono HB5.out.size))) H8.out (by omega) i hi
      have HROW0 : Hid (∃ a c, Value.slice a9 S0.length c9 = .slice a S0.length c ∧ Cs V5 a (strs S0) ∧ S0.length ≤ c) := Lib.hid ⟨a9, c9, rfl, hcs9, hcl9⟩
      have HMP0 := Lib.hid hmp
      clear hb5 hrow hmp hcs9 hcl9 CLI hX74 HB4 HX54
      go_upto_region 6 with fail
      refine wl <| gz2 (.func (.func 23) #[] #[.pointer (some ⟨g5, 0, none⟩)]) (.func (.func 23) #[] #[.pointer (some ⟨g5, 0, none⟩)]) <| wn ?_
      simp only [pu]
      go_upto_region 7 with fail
      refine wl <| gz1 (.string ⟨#[]⟩) <| wn ?_
      simp only [pu]
      go_upto_region 8 with fail
      refine wl <| gz1 (.int .i64 0) <| wn ?_
      simp only [pu]
      go_wp2_with fail
      go_loopg [10, 12, 13] 13 (fun gg s10 s12 s13 wx => ∃ (i : Nat) (u : ByteArray) (v : Value) (S : List ByteArray) (rem : List (Option Nat)), s13 = .int .i64 i ∧ s12 = .string u ∧ s10 = v ∧ gg = rem.length ∧ i + rem.length = 13 ∧ u.size ≤ 1000 * i ∧ Hid (∃ a c, v = .slice a S.length c ∧ Cs wx a (strs S) ∧ S.length ≤ c) ∧ Hid (S.map nums = rem.map (lineO cf)) ∧ Hid (SpI cf (2 * i) (nums u) rem) ∧ Hid (Below V5.heap.size V5 wx))
      case atStart => exact ⟨0, _, _, S0, allO, rfl, rfl, rfl, rfl, rfl, Nat.zero_le _, HROW0, HMP0, Lib.hid (SpI.start cf), Lib.hid (Below.refl _ _)⟩
      case round =>
        obtain ⟨i, u, v, S, rem, hs13, hs12, hs10, hg, hir, hu, HRW, HMP, HSP, HBR⟩ := hrel
        obtain rfl := hs13
        obtain rfl := hs12
        obtain rfl := hs10.symm
        subst hg
        obtain ⟨ar, cr, hvr, hcs, hcr⟩ := HRW.out
        obtain rfl := hvr
        have HSR : Hid (S.length = rem.length) := Lib.hid (by have := congrArg List.length HMP.out; rwa [List.length_map, List.length_map] at this)
        clear HRW HROW0 HMP0
        by_cases hlt : 0 < S.length
        · skip
          go_upto_region 9 with fail
          refine wl <| gz2 (.slice ar S.length cr) (.int .i64 S.length) <| gzb (gtr_n rfl S.length 0 dT) <| wn ?_
          simp only [pu]
          go_upto_region 11 with fail
          refine wl <| gz1 (.int .i64 0) <| wn ?_
          simp only [pu]
          by_cases hlo : 0 < Lo.length
          · skip
            have hmo : i % Lo.length < Lo.length := Nat.mod_lt _ hlo
            obtain ⟨bo, oo, hbo, -, hco⟩ := int_at (HRO.out wr (HB5.out.trans (HBR.out.mono HB5.out.size))) hmo
            obtain rfl := hbo
            have CPL := mk_place (Lo.getD (i % Lo.length) 0) S.length wr (by omega) (by have := HSR.out; omega)
            have hplr := pl_range (Lo.getD (i % Lo.length) 0) S.length (by omega)
            obtain ⟨jj, hjj⟩ : ∃ jj : Nat, pl (Lo.getD (i % Lo.length) 0) S.length = (jj : Int) := ⟨(pl (Lo.getD (i % Lo.length) 0) S.length).toNat, by omega⟩
            rw [hjj] at CPL hplr
            have hjl : jj < S.length := by omega
            generalize Lo.getD (i % Lo.length) 0 = xo at *
            clear hjj hplr
            go_upto_region 12 with fail
            refine wl <| gz2 (.slice (some ⟨bo, oo, none⟩) Lo.length co) (.int .i64 Lo.length) <| gzb (gtr_n rfl Lo.length 0 dT) <| wn ?_
            simp only [pu]
            go_upto_region 13 with fail
            refine wl <| gz4 (.slice (some ⟨bo, oo, none⟩) Lo.length co) (.int .i64 i) (.slice (some ⟨bo, oo, none⟩) Lo.length co) (.int .i64 Lo.length) <| gzw (.int .i64 (i % Lo.length : Nat)) (rem_nn rfl i Lo.length (by omega)) <|
              gzv (.pointer (some ⟨bo, oo + i % Lo.length, none⟩)) (idx_int bo oo Lo.length co (i % Lo.length) hmo _ _ _ rfl (by kernel_rfl) (by kernel_rfl)) <| gzl rfl ⟨bo, oo + i % Lo.length, none⟩ (.int .i64 xo) (load_cell hco (by kernel_rfl)) <| gz2 (.slice ar S.length cr) (.int .i64 S.length) <|
              gzc (.int .i64 jj) (fun w' => wr = w') (CPL) (fun V9 hV9 => ?_)
            subst hV9
            simp only [pu]
            refine gz1 (.int .i64 jj) <| wn ?_
            simp only [pu]
            clear CPL hco
            have hr0 := HSR.out
            obtain ⟨x, hx⟩ : ∃ x, rem[jj]? = some x := ⟨_, List.getElem?_eq_getElem (by omega)⟩
            have hln : nums (S.getD jj (⟨#[]⟩ : ByteArray)) = lineO cf x := by
              have h1 := getD_nums S hjl
              rw [HMP.out] at h1
              rw [← h1, List.getD_eq_getElem?_getD, List.getElem?_map, hx]
              rfl
            have hlz : (S.getD jj (⟨#[]⟩ : ByteArray)).size ≤ 33 := by rw [← nums_len, hln]; exact HSP.out.line_len HVL.out H9.out hx
            obtain ⟨ps, hps, hpsp, hpz⟩ := padS_is Lp i
            obtain ⟨ps2, hps2, hps2p, hpz2⟩ := padS_is Lp (i + 1)
            have hi12 : i < 13 := by omega
            have P60 := Lib.hid fun V (hb : Below V5.heap.size V5 V) => HPAD.out V hb i (by omega)
            have P69 := Lib.hid fun V (hb : Below V5.heap.size V5 V) => HPAD.out V hb (i + 1) (by omega)
            have hk3 : i % 3 < 3 := Nat.mod_lt _ (by omega)
            obtain ⟨hc1, hc2⟩ := cmt_is (i % 3) hk3
            have HL75 : Hid (∀ g V, Bx V g (strs cmtB).toArray 9 → (Instr.loadAt 9 (.pointer (some ⟨g, 0 + i % 3, none⟩))).run Tryd.prog V = .ok (.string (cmtB.getD (i % 3) (⟨#[]⟩ : ByteArray))) V) := Lib.hid fun g V hX => load_str hX (k := i % 3) hk3
            obtain ⟨bq, o9, har, -, hcl⟩ := strs_get hcs (k := jj) hjl
            obtain rfl := har
            have hpl4 : ps.flatten.length ≤ 4 := by rw [← hps, nums_len]; exact hpz
            have hpl42 : ps2.flatten.length ≤ 4 := by rw [← hps2, nums_len]; exact hpz2
            have hsp := HSP.out.put HVL.out H9.out hx hpsp hpl4 hps2p hpl42 hk3
            have HBL : Hid (∀ (m : Nat) (T : List Int) (R : List (Option Nat)), SpI cf m T R → SpI cf (m + 1) (T ++ (ps.flatten ++ [10])) R) := Lib.hid fun m T R h => h.blank hpsp hpl4
            generalize S.getD jj (⟨#[]⟩ : ByteArray) = ln at *
            generalize padS Lp i = y60 at *
            generalize padS Lp (i + 1) = y69 at *
            generalize cmtB.getD (i % 3) (⟨#[]⟩ : ByteArray) = s75 at *
            obtain ⟨b65, hb65⟩ : ∃ z, y60 ++ ln = z := ⟨_, rfl⟩
            have hsb65 : b65.size = y60.size + ln.size := by rw [← hb65, ByteArray.size_append]
            have hlb65 : y60.size + ln.size ≤ 9223372036854775807 := by omega
            obtain ⟨b70, hb70⟩ : ∃ z, b65 ++ y69 = z := ⟨_, rfl⟩
            have hsb70 : b70.size = b65.size + y69.size := by rw [← hb70, ByteArray.size_append]
            have hlb70 : b65.size + y69.size ≤ 9223372036854775807 := by omega
            obtain ⟨b76, hb76⟩ : ∃ z, b70 ++ s75 = z := ⟨_, rfl⟩
            have hsb76 : b76.size = b70.size + s75.size := by rw [← hb76, ByteArray.size_append]
            have hlb76 : b70.size + s75.size ≤ 9223372036854775807 := by omega
            obtain ⟨b77, hb77⟩ : ∃ z, b76 ++ (⟨#[10]⟩ : ByteArray) = z := ⟨_, rfl⟩
            have hsb77 : b77.size = b76.size + 1 := by rw [← hb77, ByteArray.size_append]; rfl
            have hlb77 : b76.size + (⟨#[10]⟩ : ByteArray).size ≤ 9223372036854775807 := by show b76.size + 1 ≤ _; omega
            obtain ⟨b78, hb78⟩ : ∃ z, u ++ b77 = z := ⟨_, rfl⟩
            have hsb78 : b78.size = u.size + b77.size := by rw [← hb78, ByteArray.size_append]
            have hlb78 : u.size + b77.size ≤ 9223372036854775807 := by omega
            have hnb : nums b78 = nums u ++ ((ps.flatten ++ lineO cf x ++ (ps2 ++ cmtT (i % 3)).flatten) ++ [10]) := by
              rw [← hb78, nums_app, ← hb77, nums_app, ← hb76, nums_app, ← hb70, nums_app, ← hb65, nums_app, hps, hln, hps2, hc1, List.flatten_append, show nums (⟨#[10]⟩ : ByteArray) = [10] from rfl]
              simp only [List.append_assoc]
            rw [← hnb] at hsp
            have HSP2 := Lib.hid hsp
            have HPS := Lib.hid hps
            have hbs78 : b78.size ≤ u.size + 50 := by omega
            have h0 : KQ wr (i % 3) false false u71 u74 wr.drew ∧ (false = true → false = true) ∧ (false = true → false = true) := ⟨KQ.start wr (i % 3) u71 u74, id, id⟩
            clear hsp hnb hps2 hps2p hpz2 hpl42 hln hc1 hlz
            go_upto_region 14 with fail
            refine wp_region_inv (fun listed act9 V => ∃ b0 b1 b2 b3 b4 b5 b6 b7 b8 b9 b10 b11 b12 b13 b14 b15 b16 b17 b18 b19 b20 b21 b22 : Bool, ∃ x71 x74 : Value, listed = #[b0, b1, b2, b3, b4, b5, b6, b7, b8, b9, b10, b11, b12, b13, b14, b15, b16, b17, b18, b19, b20, b21, b22] ∧ act9 = { tmps := #[.slice a L.length c, .slice (some ⟨bo, oo, none⟩) Lo.length co, .slice ap Lp.length cp, undef, undef, .pointer (some ⟨g5, 0, none⟩), .bool false, .pointer (some ⟨g7, 0, none⟩), .string F, .int .i64 0, .slice (some ⟨bq, o9, none⟩) S.length cr, .func (.func 23) #[] #[.pointer (some ⟨g5, 0, none⟩)], (cond b22 (.string b78) (.string u)), .int .i64 i, .int .i64 jj, undef, undef, undef, .slice a L.length c, .slice (some ⟨bo, oo, none⟩) Lo.length co, .slice (some ⟨W.heap.size, 0, none⟩) 2 2, .bool false, .bool false, .slice ap Lp.length cp, .int .i64 Lp.length, .bool false, .bool false, undef, .slice a L.length c, .pointer (some ⟨gn, 0, none⟩), .agg CC, .tuple #[.string F, .int .i64 0], .agg CC, .tuple #[.string F, .int .i64 0], .string F, .int .i64 0, .string F, .slice a9 S0.length c9, .func (.func 23) #[] #[.pointer (some ⟨g5, 0, none⟩)], .slice (some ⟨bq, o9, none⟩) S.length cr, .int .i64 S.length, .bool true, u42, u43, .slice (some ⟨bo, oo, none⟩) Lo.length co, .int .i64 Lo.length, .bool true, .slice (some ⟨bo, oo, none⟩) Lo.length co, .int .i64 i, .slice (some ⟨bo, oo, none⟩) Lo.length co, .int .i64 Lo.length, .int .i64 (i % Lo.length : Nat), .pointer (some ⟨bo, oo + i % Lo.length, none⟩), .int .i64 xo, .slice (some ⟨bq, o9, none⟩) S.length cr, .int .i64 S.length, .int .i64 jj, (cond b0 (.string u) (u57)), (cond b1 (.func (.func 23) #[] #[.pointer (some ⟨g5, 0, none⟩)]) (u58)), (cond b2 (.int .i64 i) (u59)), (cond b3 (.string y60) (u60)), (cond b4 (.slice (some ⟨bq, o9, none⟩) S.length cr) (u61)), (cond b5 (.int .i64 jj) (u62)), (cond b6 (.pointer (some ⟨bq, o9 + jj, none⟩)) (u63)), (cond b7 (.string ln) (u64)), (cond b8 (.string b65) (u65)), (cond b9 (.func (.func 23) #[] #[.pointer (some ⟨g5, 0, none⟩)]) (u66)), (cond b10 (.int .i64 i) (u67)), (cond b11 (.int .i64 (i + 1 : Nat)) (u68)), (cond b12 (.string y69) (u69)), (cond b13 (.string b70) (u70)), x71, (cond b15 (.int .i64 i) (u72)), (cond b16 (.int .i64 (i % 3 : Nat)) (u73)), x74, (cond b18 (.string s75) (u75)), (cond b19 (.string b76) (u76)), (cond b20 (.string b77) (u77)), (cond b21 (.string b78) (u78)), u79, u80, u81, u82, u83, u84, u85, u86, u87, u88, u89, u90, u91, u92, u93, u94, u95, u96, u97, undef, undef, undef, undef, undef, undef, undef, undef, undef, undef, undef, undef, undef, undef, undef, undef, undef, undef, undef, undef], defers := [] } ∧ KQ wr (i % 3) b14 b17 x71 x74 V ∧ (b21 = true → b0 = true) ∧ (b22 = true → b21 = true)) (by kernel_rfl) (by kernel_rfl) ?_ ?_ ?_
            · exact ⟨false, false, false, false, false, false, false, false, false, false, false, false, false, false, false, false, false, false, false, false, false, false, false, u71, u74, rfl, rfl, h0⟩
            · intro i9 listed act9 V hi9 hr hJ
              obtain ⟨b0, b1, b2, b3, b4, b5, b6, b7, b8, b9, b10, b11, b12, b13, b14, b15, b16, b17, b18, b19, b20, b21, b22, x71, x74, rfl, rfl, hF⟩ := hJ
              have hi2 : i9 < 23 := hi9
              have hi3 : i9 = 0 ∨ i9 = 1 ∨ i9 = 2 ∨ i9 = 3 ∨ i9 = 4 ∨ i9 = 5 ∨ i9 = 6 ∨ i9 = 7 ∨ i9 = 8 ∨ i9 = 9 ∨ i9 = 10 ∨ i9 = 11 ∨ i9 = 12 ∨ i9 = 13 ∨ i9 = 14 ∨ i9 = 15 ∨ i9 = 16 ∨ i9 = 17 ∨ i9 = 18 ∨ i9 = 19 ∨ i9 = 20 ∨ i9 = 21 ∨ i9 = 22 := by omega
              rcases hi3 with rfl | rfl | rfl | rfl | rfl | rfl | rfl | rfl | rfl | rfl | rfl | rfl | rfl | rfl | rfl | rfl | rfl | rfl | rfl | rfl | rfl | rfl | rfl
              · obtain rfl : b0 = false := ready_self hr
                obtain rfl : b21 = false := (by cases b21; rfl; exact absurd (hF.2.1 rfl) (by decide))
                obtain rfl : b22 = false := (by cases b22; rfl; exact absurd (hF.2.2 rfl) (by decide))
                refine st_val rfl (by kernel_rfl) (some 57) rfl (.string u) V (by kernel_rfl) ?_
                exact ⟨true, b1, b2, b3, b4, b5, b6, b7, b8, b9, b10, b11, b12, b13, b14, b15, b16, b17, b18, b19, b20, false, false, _, _, rfl, rfl, hF.1, fun q => (by cases q), fun q => (by cases q)⟩
              · obtain rfl : b1 = false := ready_self hr
                refine st_val rfl (by kernel_rfl) (some 58) rfl (.func (.func 23) #[] #[.pointer (some ⟨g5, 0, none⟩)]) V (by kernel_rfl) ?_
                exact ⟨b0, true, b2, b3, b4, b5, b6, b7, b8, b9, b10, b11, b12, b13, b14, b15, b16, b17, b18, b19, b20, b21, b22, x71, x74, rfl, rfl, hF⟩
              · obtain rfl : b2 = false := ready_self hr
                refine st_val rfl (by kernel_rfl) (some 59) rfl (.int .i64 i) V (by kernel_rfl) ?_
                exact ⟨b0, b1, true, b3, b4, b5, b6, b7, b8, b9, b10, b11, b12, b13, b14, b15, b16, b17, b18, b19, b20, b21, b22, x71, x74, rfl, rfl, hF⟩
              · obtain rfl : b3 = false := ready_self hr
                obtain rfl : b1 = true := ready_dep hr 1 (by kernel_rfl)
                obtain rfl : b2 = true := ready_dep hr 2 (by kernel_rfl)
                refine st_call rfl (by kernel_rfl) (some 60) rfl 23 #[.int .i64 i, .pointer (some ⟨g5, 0, none⟩)] (by kernel_rfl) ((P60.out V (HBR.out.trans (hF.1.bel.mono HBR.out.size))).mono fun e9 V9 hq9 => ?_)
                obtain ⟨rfl, hb9⟩ := hq9
                refine ⟨_, rfl, ?_⟩
                exact ⟨b0, true, true, true, b4, b5, b6, b7, b8, b9, b10, b11, b12, b13, b14, b15, b16, b17, b18, b19, b20, b21, b22, _, _, rfl, rfl, hF.1.call hb9, hF.2⟩
              · obtain rfl : b4 = false := ready_self hr
                refine st_val rfl (by kernel_rfl) (some 61) rfl (.slice (some ⟨bq, o9, none⟩) S.length cr) V (by kernel_rfl) ?_
                exact ⟨b0, b1, b2, b3, true, b5, b6, b7, b8, b9, b10, b11, b12, b13, b14, b15, b16, b17, b18, b19, b20, b21, b22, x71, x74, rfl, rfl, hF⟩
              · obtain rfl : b5 = false := ready_self hr
                refine st_val rfl (by kernel_rfl) (some 62) rfl (.int .i64 jj) V (by kernel_rfl) ?_
                exact ⟨b0, b1, b2, b3, b4, true, b6, b7, b8, b9, b10, b11, b12, b13, b14, b15, b16, b17, b18, b19, b20, b21, b22, x71, x74, rfl, rfl, hF⟩
              · obtain rfl : b6 = false := ready_self hr
                obtain rfl : b4 = true := ready_dep hr 4 (by kernel_rfl)
                obtain rfl : b5 = true := ready_dep hr 5 (by kernel_rfl)
                refine st_val rfl (by kernel_rfl) (some 63) rfl (.pointer (some ⟨bq, o9 + jj, none⟩)) V (idx_str bq o9 S.length cr jj hjl _ _ _ rfl (by kernel_rfl) (by kernel_rfl)) ?_
                exact ⟨b0, b1, b2, b3, true, true, true, b7, b8, b9, b10, b11, b12, b13, b14, b15, b16, b17, b18, b19, b20, b21, b22, x71, x74, rfl, rfl, hF⟩
              · obtain rfl : b7 = false := ready_self hr
                obtain rfl : b6 = true := ready_dep hr 6 (by kernel_rfl)
                refine st_load rfl (by kernel_rfl) (some 64) rfl 9 (.tmp 63) rfl ⟨bq, o9 + jj, none⟩ (.string ln) (by kernel_rfl) (load_cell ((hF.1.bel.cell (p := ⟨bq, o9 + jj, none⟩) (World.block_lt_of_cell? wr _ hcl)).trans hcl) (by kernel_rfl)) ?_
                exact ⟨b0, b1, b2, b3, b4, b5, true, true, b8, b9, b10, b11, b12, b13, b14, b15, b16, b17, b18, b19, b20, b21, b22, _, _, rfl, rfl, hF⟩
              · obtain rfl : b8 = false := ready_self hr
                obtain rfl : b3 = true := ready_dep hr 3 (by kernel_rfl)
                obtain rfl : b7 = true := ready_dep hr 7 (by kernel_rfl)
                refine st_val rfl (by kernel_rfl) (some 65) rfl (.string b65) V (add_s rfl _ _ _ hb65 hlb65 (by kernel_rfl) (by kernel_rfl) _) ?_
                exact ⟨b0, b1, b2, true, b4, b5, b6, true, true, b9, b10, b11, b12, b13, b14, b15, b16, b17, b18, b19, b20, b21, b22, x71, x74, rfl, rfl, hF⟩
              · obtain rfl : b9 = false := ready_self hr
                refine st_val rfl (by kernel_rfl) (some 66) rfl (.func (.func 23) #[] #[.pointer (some ⟨g5, 0, none⟩)]) V (by kernel_rfl) ?_
                exact ⟨b0, b1, b2, b3, b4, b5, b6, b7, b8, true, b10, b11, b12, b13, b14, b15, b16, b17, b18, b19, b20, b21, b22, x71, x74, rfl, rfl, hF⟩
              · obtain rfl : b10 = false := ready_self hr
                refine st_val rfl (by kernel_rfl) (some 67) rfl (.int .i64 i) V (by kernel_rfl) ?_
                exact ⟨b0, b1, b2, b3, b4, b5, b6, b7, b8, b9, true, b11, b12, b13, b14, b15, b16, b17, b18, b19, b20, b21, b22, x71, x74, rfl, rfl, hF⟩
              · obtain rfl : b11 = false := ready_self hr
                obtain rfl : b10 = true := ready_dep hr 10 (by kernel_rfl)
                refine st_val rfl (by kernel_rfl) (some 68) rfl (.int .i64 (i + 1 : Nat)) V (add_one rfl i (by omega) (by kernel_rfl) _) ?_
                exact ⟨b0, b1, b2, b3, b4, b5, b6, b7, b8, b9, true, true, b12, b13, b14, b15, b16, b17, b18, b19, b20, b21, b22, x71, x74, rfl, rfl, hF⟩
              · obtain rfl : b12 = false := ready_self hr
                obtain rfl : b9 = true := ready_dep hr 9 (by kernel_rfl)
                obtain rfl : b11 = true := ready_dep hr 11 (by kernel_rfl)
                refine st_call rfl (by kernel_rfl) (some 69) rfl 23 #[.int .i64 (i + 1 : Nat), .pointer (some ⟨g5, 0, none⟩)] (by kernel_rfl) ((P69.out V (HBR.out.trans (hF.1.bel.mono HBR.out.size))).mono fun e9 V9 hq9 => ?_)
                obtain ⟨rfl, hb9⟩ := hq9
                refine ⟨_, rfl, ?_⟩
                exact ⟨b0, b1, b2, b3, b4, b5, b6, b7, b8, true, b10, true, true, b13, b14, b15, b16, b17, b18, b19, b20, b21, b22, _, _, rfl, rfl, hF.1.call hb9, hF.2⟩
              · obtain rfl : b13 = false := ready_self hr
                obtain rfl : b8 = true := ready_dep hr 8 (by kernel_rfl)
                obtain rfl : b12 = true := ready_dep hr 12 (by kernel_rfl)
                refine st_val rfl (by kernel_rfl) (some 70) rfl (.string b70) V (add_s rfl _ _ _ hb70 hlb70 (by kernel_rfl) (by kernel_rfl) _) ?_
                exact ⟨b0, b1, b2, b3, b4, b5, b6, b7, true, b9, b10, b11, true, true, b14, b15, b16, b17, b18, b19, b20, b21, b22, x71, x74, rfl, rfl, hF⟩
              · obtain rfl : b14 = false := ready_self hr
                refine st_build rfl (by kernel_rfl) (some 71) rfl 39 3 #[(0, .const (.string ⟨#[]⟩)), (1, .const (.string ⟨#[35, 32, 120]⟩)), (2, .const (.string ⟨#[32, 35, 195, 169, 35]⟩))] rfl #[(0, .string ⟨#[]⟩), (1, .string ⟨#[35, 32, 120]⟩), (2, .string ⟨#[32, 35, 195, 169, 35]⟩)] (by kernel_rfl) (.slice (some ⟨V.heap.size, 0, none⟩) 3 3) _ (build_cmt V) ?_
                exact ⟨b0, b1, b2, b3, b4, b5, b6, b7, b8, b9, b10, b11, b12, b13, true, b15, b16, b17, b18, b19, b20, b21, b22, _, _, rfl, rfl, hF.1.s14, hF.2⟩
              · obtain rfl : b15 = false := ready_self hr
                refine st_val rfl (by kernel_rfl) (some 72) rfl (.int .i64 i) V (by kernel_rfl) ?_
                exact ⟨b0, b1, b2, b3, b4, b5, b6, b7, b8, b9, b10, b11, b12, b13, b14, true, b16, b17, b18, b19, b20, b21, b22, x71, x74, rfl, rfl, hF⟩
              · obtain rfl : b16 = false := ready_self hr
                obtain rfl : b15 = true := ready_dep hr 15 (by kernel_rfl)
                refine st_val rfl (by kernel_rfl) (some 73) rfl (.int .i64 (i % 3 : Nat)) V (rem_nn rfl i 3 (by omega) (by kernel_rfl) (by kernel_rfl) _) ?_
                exact ⟨b0, b1, b2, b3, b4, b5, b6, b7, b8, b9, b10, b11, b12, b13, b14, true, true, b17, b18, b19, b20, b21, b22, x71, x74, rfl, rfl, hF⟩
              · obtain rfl : b17 = false := ready_self hr
                obtain rfl : b14 = true := ready_dep hr 14 (by kernel_rfl)
                obtain rfl : b16 = true := ready_dep hr 16 (by kernel_rfl)
                obtain ⟨g9, rfl, hx9⟩ := hF.1.c14 rfl
                refine st_val rfl (by kernel_rfl) (some 74) rfl (.pointer (some ⟨g9, 0 + i % 3, none⟩)) V (idx_str g9 0 3 3 (i % 3) hk3 _ _ _ rfl (by kernel_rfl) (by kernel_rfl)) ?_
                exact ⟨b0, b1, b2, b3, b4, b5, b6, b7, b8, b9, b10, b11, b12, b13, true, b15, true, true, b18, b19, b20, b21, b22, _, _, rfl, rfl, hF.1.s17 hx9, hF.2⟩
              · obtain rfl : b18 = false := ready_self hr
                obtain rfl : b17 = true := ready_dep hr 17 (by kernel_rfl)
                obtain ⟨g9, rfl, hx9⟩ := hF.1.c17 rfl
                refine st_load rfl (by kernel_rfl) (some 75) rfl 9 (.tmp 74) rfl ⟨g9, 0 + i % 3, none⟩ (.string s75) (by kernel_rfl) (HL75.out g9 V hx9) ?_
                exact ⟨b0, b1, b2, b3, b4, b5, b6, b7, b8, b9, b10, b11, b12, b13, b14, b15, b16, true, true, b19, b20, b21, b22, _, _, rfl, rfl, hF⟩
              · obtain rfl : b19 = false := ready_self hr
                obtain rfl : b13 = true := ready_dep hr 13 (by kernel_rfl)
                obtain rfl : b18 = true := ready_dep hr 18 (by kernel_rfl)
                refine st_val rfl (by kernel_rfl) (some 76) rfl (.string b76) V (add_s rfl _ _ _ hb76 hlb76 (by kernel_rfl) (by kernel_rfl) _) ?_
                exact ⟨b0, b1, b2, b3, b4, b5, b6, b7, b8, b9, b10, b11, b12, true, b14, b15, b16, b17, true, true, b20, b21, b22, x71, x74, rfl, rfl, hF⟩
              · obtain rfl : b20 = false := ready_self hr
                obtain rfl : b19 = true := ready_dep hr 19 (by kernel_rfl)
                refine st_val rfl (by kernel_rfl) (some 77) rfl (.string b77) V (add_s rfl _ _ _ hb77 hlb77 (by kernel_rfl) (by kernel_rfl) _) ?_
                exact ⟨b0, b1, b2, b3, b4, b5, b6, b7, b8, b9, b10, b11, b12, b13, b14, b15, b16, b17, b18, true, true, b21, b22, x71, x74, rfl, rfl, hF⟩
              · obtain rfl : b21 = false := ready_self hr
                obtain rfl : b0 = true := ready_dep hr 0 (by kernel_rfl)
                obtain rfl : b20 = true := ready_dep hr 20 (by kernel_rfl)
                refine st_val rfl (by kernel_rfl) (some 78) rfl (.string b78) V (add_s rfl _ _ _ hb78 hlb78 (by kernel_rfl) (by kernel_rfl) V) ?_
                exact ⟨true, b1, b2, b3, b4, b5, b6, b7, b8, b9, b10, b11, b12, b13, b14, b15, b16, b17, b18, b19, true, true, b22, _, _, rfl, rfl, hF.1, fun _ => rfl, fun _ => rfl⟩
              · obtain rfl : b22 = false := ready_self hr
                obtain rfl : b21 = true := ready_dep hr 21 (by kernel_rfl)
                refine st_val rfl (by kernel_rfl) (some 12) rfl (.string b78) V (by kernel_rfl) ?_
                exact ⟨b0, b1, b2, b3, b4, b5, b6, b7, b8, b9, b10, b11, b12, b13, b14, b15, b16, b17, b18, b19, b20, true, true, _, _, rfl, rfl, hF.1, hF.2.1, fun _ => rfl⟩
            · intro act9 V hJ
              obtain ⟨b0, b1, b2, b3, b4, b5, b6, b7, b8, b9, b10, b11, b12, b13, b14, b15, b16, b17, b18, b19, b20, b21, b22, x71, x74, he, rfl, hF⟩ := hJ
              have he : (#[true, true, true, true, true, true, true, true, true, true, true, true, true, true, true, true, true, true, true, true, true, true, true] : Array Bool) = #[b0, b1, b2, b3, b4, b5, b6, b7, b8, b9, b10, b11, b12, b13, b14, b15, b16, b17, b18, b19, b20, b21, b22] := he
              simp only [Array.mk.injEq, List.cons.injEq, and_true] at he
              obtain ⟨rfl, rfl, rfl, rfl, rfl, rfl, rfl, rfl, rfl, rfl, rfl, rfl, rfl, rfl, rfl, rfl, rfl, rfl, rfl, rfl, rfl, rfl, rfl⟩ := he
              simp only [cond_true]
              have hb14 := hF.1.bel
              have HBR7 := Lib.hid (HBR.out.trans (hb14.mono HBR.out.size))
              have hcs7 := hcs.below hb14
              obtain ⟨W7, hW7⟩ : ∃ W7, W7 = V := ⟨V, rfl⟩
              subst hW7
              clear hF h0 hb14 hcl hcs hb65 hb70 hb76 hb77 hb78 hlb65 hlb70 hlb76 hlb77 hlb78 P69 HL75
              by_cases h4 : i % 4 = 1
              · skip
                obtain ⟨b86, hb86⟩ : ∃ z, y60 ++ (⟨#[10]⟩ : ByteArray) = z := ⟨_, rfl⟩
                have hsb86 : b86.size = y60.size + 1 := by rw [← hb86, ByteArray.size_append]; rfl
                have hlb86 : y60.size + (⟨#[10]⟩ : ByteArray).size ≤ 9223372036854775807 := by show y60.size + 1 ≤ _; omega
                obtain ⟨b87, hb87⟩ : ∃ z, b78 ++ b86 = z := ⟨_, rfl⟩
                have hsb87 : b87.size = b78.size + b86.size := by rw [← hb87, ByteArray.size_append]
                have hlb87 : b78.size + b86.size ≤ 9223372036854775807 := by omega
                have HSP3 : Hid (SpI cf (2 * i + 1 + 1) (nums b87) (rem.take jj ++ rem.drop (jj + 1))) := Lib.hid (by
                  have h1 := HBL.out _ _ _ HSP2.out
                  rwa [show nums b78 ++ (ps.flatten ++ [10]) = nums b87 by rw [← hb87, nums_app, ← hb86, nums_app, HPS.out]; rfl] at h1)
                have CP8 := P60.out W7 HBR7.out
                go_upto_region 15 with fail
                refine wl <| gz1 (.int .i64 i) <| gzw (.int .i64 (i % 4 : Nat)) (rem_nn rfl i 4 (by omega)) <| gzb (eql_nn rfl (i % 4) 1 (decide_eq_true h4)) <| wn ?_
                simp only [pu]
                go_upto_region 16 with fail
                refine wl <| gz3 (.string b78) (.func (.func 23) #[] #[.pointer (some ⟨g5, 0, none⟩)]) (.int .i64 i) <| gzc (.string y60) (fun w' => Below W7.heap.size W7 w') (CP8) (fun W8 hb8 => ?_)
                simp only [pu]
                refine gzw (.string b86) (add_s rfl _ _ _ hb86 hlb86) <| gzw (.string b87) (add_s rfl _ _ _ hb87 hlb87) <| gz1 (.string b87) <| wn ?_
                simp only [pu]
                have HBR8 := Lib.hid (HBR7.out.trans (hb8.mono HBR7.out.size))
                have hcs8 := hcs7.below hb8
                clear hb8 hcs7 CP8 hb86 hb87 hlb86 hlb87
                have HA : Hid (∀ V, Below W8.heap.size W8 V → Cs V (some ⟨bq, o9, none⟩) (strs (S.take jj))) := Lib.hid fun V hb => by rw [← strs_take]; exact (hcs8.below hb).take jj
                have HM : Hid (∀ V, Below W8.heap.size W8 V → Cs V (fromS 1 (some ⟨bq, o9, none⟩) cr (jj + 1)) (strs (S.drop (jj + 1)))) := Lib.hid fun V hb => by rw [← strs_drop]; exact (hcs8.below hb).from 1 cr (jj + 1) (by rw [strs_len]; omega)
                have hla : (S.take jj).length = jj := by rw [List.length_take]; omega
                have hlm : (S.drop (jj + 1)).length = S.length - (jj + 1) := List.length_drop ..
                have HMP2 : Hid ((S.take jj ++ S.drop (jj + 1)).map nums = (rem.take jj ++ rem.drop (jj + 1)).map (lineO cf)) := Lib.hid (by rw [List.map_append, List.map_append, List.map_take, List.map_drop, HMP.out, List.map_take, List.map_drop])
                have hrl : (rem.take jj ++ rem.drop (jj + 1)).length + 1 = rem.length := by rw [List.length_append, List.length_take, List.length_drop]; omega
                have h0 : KT W8 (S.take jj) (S.drop (jj + 1)) false false false u88 u92 u97 W8.drew ∧ (false = true → false = true) ∧ (false = true → false = true) ∧ (false = true → false = true) ∧ (false = true → false = true) ∧ (false = true → false = true) := ⟨KT.start W8 (S.take jj) (S.drop (jj + 1)) u88 u92 u97, id, id, id, id, id⟩
                have HSL : Hid (S.length ≤ 13) := Lib.hid (by omega)
                generalize S.take jj = SA at *
                generalize S.drop (jj + 1) = SM at *
                go_upto_region 17 with fail
                refine wp_region_inv (fun listed act9 V => ∃ b0 b1 b2 b3 b4 b5 b6 b7 b8 b9 b10 : Bool, ∃ x88 x92 x97 : Value, listed = #[b0, b1, b2, b3, b4, b5, b6, b7, b8, b9, b10] ∧ act9 = { tmps := #[.slice a L.length c, .slice (some ⟨bo, oo, none⟩) Lo.length co, .slice ap Lp.length cp, undef, undef, .pointer (some ⟨g5, 0, none⟩), .bool false, .pointer (some ⟨g7, 0, none⟩), .string F, .int .i64 0, (cond b10 (x97) (.slice (some ⟨bq, o9, none⟩) S.length cr)), .func (.func 23) #[] #[.pointer (some ⟨g5, 0, none⟩)], .string b87, .int .i64 i, .int .i64 jj, undef, undef, undef, .slice a L.length c, .slice (some ⟨bo, oo, none⟩) Lo.length co, .slice (some ⟨W.heap.size, 0, none⟩) 2 2, .bool false, .bool false, .slice ap Lp.length cp, .int .i64 Lp.length, .bool false, .bool false, undef, .slice a L.length c, .pointer (some ⟨gn, 0, none⟩), .agg CC, .tuple #[.string F, .int .i64 0], .agg CC, .tuple #[.string F, .int .i64 0], .string F, .int .i64 0, .string F, .slice a9 S0.length c9, .func (.func 23) #[] #[.pointer (some ⟨g5, 0, none⟩)], .slice (some ⟨bq, o9, none⟩) S.length cr, .int .i64 S.length, .bool true, u42, u43, .slice (some ⟨bo, oo, none⟩) Lo.length co, .int .i64 Lo.length, .bool true, .slice (some ⟨bo, oo, none⟩) Lo.length co, .int .i64 i, .slice (some ⟨bo, oo, none⟩) Lo.length co, .int .i64 Lo.length, .int .i64 (i % Lo.length : Nat), .pointer (some ⟨bo, oo + i % Lo.length, none⟩), .int .i64 xo, .slice (some ⟨bq, o9, none⟩) S.length cr, .int .i64 S.length, .int .i64 jj, .string u, .func (.func 23) #[] #[.pointer (some ⟨g5, 0, none⟩)], .int .i64 i, .string y60, .slice (some ⟨bq, o9, none⟩) S.length cr, .int .i64 jj, .pointer (some ⟨bq, o9 + jj, none⟩), .string ln, .string b65, .func (.func 23) #[] #[.pointer (some ⟨g5, 0, none⟩)], .int .i64 i, .int .i64 (i + 1 : Nat), .string y69, .string b70, x71, .int .i64 i, .int .i64 (i % 3 : Nat), x74, .string s75, .string b76, .string b77, .string b78, .int .i64 i, .int .i64 (i % 4 : Nat), .bool true, .string b78, .func (.func 23) #[] #[.pointer (some ⟨g5, 0, none⟩)], .int .i64 i, .string y60, .string b86, .string b87, x88, (cond b1 (.slice (some ⟨bq, o9, none⟩) S.length cr) (u89)), (cond b2 (.int .i64 jj) (u90)), (cond b3 (.slice (some ⟨bq, o9, none⟩) jj cr) (u91)), x92, (cond b5 (.slice (some ⟨bq, o9, none⟩) S.length cr) (u93)), (cond b6 (.int .i64 jj) (u94)), (cond b7 (.int .i64 (jj + 1 : Nat)) (u95)), (cond b8 (.slice (fromS 1 (some ⟨bq, o9, none⟩) cr (jj + 1)) (S.length - (jj + 1)) (cr - (jj + 1))) (u96)), x97, undef, undef, undef, undef, undef, undef, undef, undef, undef, undef, undef, undef, undef, undef, undef, undef, undef, undef, undef, undef], defers := [] } ∧ KT W8 SA SM b0 b4 b9 x88 x92 x97 V ∧ (b3 = true → b1 = true) ∧ (b4 = true → b3 = true) ∧ (b8 = true → b5 = true) ∧ (b9 = true → b8 = true) ∧ (b10 = true → b9 = true)) (by kernel_rfl) (by kernel_rfl) ?_ ?_ ?_
                · exact ⟨false, false, false, false, false, false, false, false, false, false, false, u88, u92, u97, rfl, rfl, h0⟩
                · intro i9 listed act9 V hi9 hr hJ
                  obtain ⟨b0, b1, b2, b3, b4, b5, b6, b7, b8, b9, b10, x88, x92, x97, rfl, rfl, hF⟩ := hJ
                  have hi2 : i9 < 11 := hi9
                  have hi3 : i9 = 0 ∨ i9 = 1 ∨ i9 = 2 ∨ i9 = 3 ∨ i9 = 4 ∨ i9 = 5 ∨ i9 = 6 ∨ i9 = 7 ∨ i9 = 8 ∨ i9 = 9 ∨ i9 = 10 := by omega
                  rcases hi3 with rfl | rfl | rfl | rfl | rfl | rfl | rfl | rfl | rfl | rfl | rfl
                  · obtain rfl : b0 = false := ready_self hr
                    obtain ⟨rfl, rfl⟩ : b4 = false ∧ b9 = false := hF.1.n0
                    refine st_build rfl (by kernel_rfl) (some 88) rfl 39 0 #[] rfl #[] (by kernel_rfl) (.slice (some ⟨V.heap.size, 0, none⟩) 0 0) _ (nil_str V) ?_
                    exact ⟨true, b1, b2, b3, false, b5, b6, b7, b8, false, b10, _, _, _, rfl, rfl, hF.1.s0, hF.2⟩
                  · obtain rfl : b1 = false := ready_self hr
                    obtain rfl : b3 = false := (by cases b3; rfl; exact absurd (hF.2.1 rfl) (by decide))
                    obtain rfl : b4 = false := (by cases b4; rfl; exact absurd (hF.2.2.1 rfl) (by decide))
                    obtain rfl : b9 = false := hF.1.n4
                    obtain rfl : b10 = false := (by cases b10; rfl; exact absurd (hF.2.2.2.2.2 rfl) (by decide))
                    refine st_val rfl (by kernel_rfl) (some 89) rfl (.slice (some ⟨bq, o9, none⟩) S.length cr) V (by kernel_rfl) ?_
                    exact ⟨b0, true, b2, false, false, b5, b6, b7, b8, false, false, _, _, _, rfl, rfl, hF.1, fun q => (by cases q), hF.2.2.1, hF.2.2.2.1, hF.2.2.2.2.1, hF.2.2.2.2.2⟩
                  · obtain rfl : b2 = false := ready_self hr
                    refine st_val rfl (by kernel_rfl) (some 90) rfl (.int .i64 jj) V (by kernel_rfl) ?_
                    exact ⟨b0, b1, true, b3, b4, b5, b6, b7, b8, b9, b10, x88, x92, x97, rfl, rfl, hF⟩
                  · obtain rfl : b3 = false := ready_self hr
                    obtain rfl : b1 = true := ready_dep hr 1 (by kernel_rfl)
                    obtain rfl : b2 = true := ready_dep hr 2 (by kernel_rfl)
                    refine st_val rfl (by kernel_rfl) (some 91) rfl (.slice (some ⟨bq, o9, none⟩) jj cr) V (ex_to rfl _ S.length cr jj (by omega) (by kernel_rfl) (by kernel_rfl) V) ?_
                    exact ⟨b0, true, true, true, b4, b5, b6, b7, b8, b9, b10, _, _, _, rfl, rfl, hF.1, fun _ => rfl, fun _ => rfl, hF.2.2.2.1, hF.2.2.2.2.1, hF.2.2.2.2.2⟩
                  · obtain rfl : b4 = false := ready_self hr
                    obtain rfl : b0 = true := ready_dep hr 0 (by kernel_rfl)
                    obtain rfl : b3 = true := ready_dep hr 3 (by kernel_rfl)
                    obtain rfl : b9 = false := hF.1.n4
                    obtain ⟨v9, V9, hap9, hr9, hb9, -, -⟩ := app_str (hF.1.r0 rfl rfl) hF.1.bel.size (some ⟨bq, o9, none⟩) jj cr SA (HA.out V hF.1.bel) hla (by show 0 ≤ _; omega) (by have := HSL.out; omega)
                    refine st_append rfl (by kernel_rfl) (some 92) rfl 39 rfl (.tmp 88) (.tmp 91) 39 rfl x88 (.slice (some ⟨bq, o9, none⟩) jj cr) v9 V9 (by kernel_rfl) (by kernel_rfl) hap9 ?_
                    exact ⟨true, b1, b2, true, true, b5, b6, b7, b8, false, b10, _, _, _, rfl, rfl, hF.1.s4 hr9 hb9, hF.2.1, fun _ => rfl, hF.2.2.2.1, hF.2.2.2.2.1, hF.2.2.2.2.2⟩
                  · obtain rfl : b5 = false := ready_self hr
                    obtain rfl : b8 = false := (by cases b8; rfl; exact absurd (hF.2.2.2.1 rfl) (by decide))
                    obtain rfl : b9 = false := (by cases b9; rfl; exact absurd (hF.2.2.2.2.1 rfl) (by decide))
                    obtain rfl : b10 = false := (by cases b10; rfl; exact absurd (hF.2.2.2.2.2 rfl) (by decide))
                    refine st_val rfl (by kernel_rfl) (some 93) rfl (.slice (some ⟨bq, o9, none⟩) S.length cr) V (by kernel_rfl) ?_
                    exact ⟨b0, b1, b2, b3, b4, true, b6, b7, false, false, false, _, _, _, rfl, rfl, hF.1, hF.2.1, hF.2.2.1, fun q => (by cases q), hF.2.2.2.2.1, hF.2.2.2.2.2⟩
                  · obtain rfl : b6 = false := ready_self hr
                    refine st_val rfl (by kernel_rfl) (some 94) rfl (.int .i64 jj) V (by kernel_rfl) ?_
                    exact ⟨b0, b1, b2, b3, b4, b5, true, b7, b8, b9, b10, x88, x92, x97, rfl, rfl, hF⟩
                  · obtain rfl : b7 = false := ready_self hr
                    obtain rfl : b6 = true := ready_dep hr 6 (by kernel_rfl)
                    refine st_val rfl (by kernel_rfl) (some 95) rfl (.int .i64 (jj + 1 : Nat)) V (add_one rfl jj (by omega) (by kernel_rfl) _) ?_
                    exact ⟨b0, b1, b2, b3, b4, b5, true, true, b8, b9, b10, x88, x92, x97, rfl, rfl, hF⟩
                  · obtain rfl : b8 = false := ready_self hr
                    obtain rfl : b5 = true := ready_dep hr 5 (by kernel_rfl)
                    obtain rfl : b7 = true := ready_dep hr 7 (by kernel_rfl)
                    refine st_val rfl (by kernel_rfl) (some 96) rfl (.slice (fromS 1 (some ⟨bq, o9, none⟩) cr (jj + 1)) (S.length - (jj + 1)) (cr - (jj + 1))) V (ex_from rfl _ S.length cr (jj + 1) (by omega) (by kernel_rfl) (by kernel_rfl) V) ?_
                    exact ⟨b0, b1, b2, b3, b4, true, b6, true, true, b9, b10, _, _, _, rfl, rfl, hF.1, hF.2.1, hF.2.2.1, fun _ => rfl, fun _ => rfl, hF.2.2.2.2.2⟩
                  · obtain rfl : b9 = false := ready_self hr
                    obtain rfl : b4 = true := ready_dep hr 4 (by kernel_rfl)
                    obtain rfl : b8 = true := ready_dep hr 8 (by kernel_rfl)
                    obtain rfl : b10 = false := (by cases b10; rfl; exact absurd (hF.2.2.2.2.2 rfl) (by decide))
                    obtain ⟨v9, V9, hap9, hr9, hb9, -, -⟩ := app_str (hF.1.r4 rfl rfl) hF.1.bel.size (fromS 1 (some ⟨bq, o9, none⟩) cr (jj + 1)) (S.length - (jj + 1)) (cr - (jj + 1)) SM (HM.out V hF.1.bel) hlm (by have := HSL.out; omega) (by have := HSL.out; omega)
                    refine st_append rfl (by kernel_rfl) (some 97) rfl 39 rfl (.tmp 92) (.tmp 96) 39 rfl x92 (.slice (fromS 1 (some ⟨bq, o9, none⟩) cr (jj + 1)) (S.length - (jj + 1)) (cr - (jj + 1))) v9 V9 (by kernel_rfl) (by kernel_rfl) hap9 ?_
                    exact ⟨b0, b1, b2, b3, true, b5, b6, b7, true, true, false, _, _, _, rfl, rfl, hF.1.s9 hr9 hb9, hF.2.1, hF.2.2.1, hF.2.2.2.1, fun _ => rfl, fun _ => rfl⟩
                  · obtain rfl : b10 = false := ready_self hr
                    obtain rfl : b9 = true := ready_dep hr 9 (by kernel_rfl)
                    refine st_val rfl (by kernel_rfl) (some 10) rfl x97 V (by kernel_rfl) ?_
                    exact ⟨b0, b1, b2, b3, b4, b5, b6, b7, b8, true, true, _, _, _, rfl, rfl, hF.1, hF.2.1, hF.2.2.1, hF.2.2.2.1, hF.2.2.2.2.1, fun _ => rfl⟩
                · intro act9 V hJ
                  obtain ⟨b0, b1, b2, b3, b4, b5, b6, b7, b8, b9, b10, x88, x92, x97, he, rfl, hF⟩ := hJ
                  have he : (#[true, true, true, true, true, true, true, true, true, true, true] : Array Bool) = #[b0, b1, b2, b3, b4, b5, b6, b7, b8, b9, b10] := he
                  simp only [Array.mk.injEq, List.cons.injEq, and_true] at he
                  obtain ⟨rfl, rfl, rfl, rfl, rfl, rfl, rfl, rfl, rfl, rfl, rfl⟩ := he
                  simp only [cond_true]
                  have hb17 := hF.1.bel
                  have HBRF := Lib.hid (HBR8.out.trans (hb17.mono HBR8.out.size))
                  have HRF : Hid (∃ a c, x97 = .slice a (SA ++ SM).length c ∧ Cs V a (strs (SA ++ SM)) ∧ (SA ++ SM).length ≤ c) := Lib.hid (hF.1.r9 rfl).cs
                  clear hF h0 hb17
                  go_upto_region 10 with fail
                  refine wl <| gz1 (.int .i64 i) <| gzv (.int .i64 (i + 1 : Nat)) (add_one rfl i (by omega) (by kernel_rfl) _) <| gz1 (.int .i64 (i + 1 : Nat)) <| wn ?_
                  simp only [pu]
                  go_wp2_with fail
                  go_roundg (rem.take jj ++ rem.drop (jj + 1)).length
                  case measure => omega
                  case rel => exact ⟨i + 1, b87, x97, _, _, rfl, rfl, rfl, rfl, by omega, by omega, HRF, HMP2, Lib.hid (HSP3.out.mono (by omega)), HBRF⟩
              · skip
                go_upto_region 15 with fail
                refine wl <| gz1 (.int .i64 i) <| gzw (.int .i64 (i % 4 : Nat)) (rem_nn rfl i 4 (by omega)) <| gzb (eql_nn rfl (i % 4) 1 (decide_eq_false h4)) <| wn ?_
                simp only [pu]
                have HA : Hid (∀ V, Below W7.heap.size W7 V → Cs V (some ⟨bq, o9, none⟩) (strs (S.take jj))) := Lib.hid fun V hb => by rw [← strs_take]; exact (hcs7.below hb).take jj
                have HM : Hid (∀ V, Below W7.heap.size W7 V → Cs V (fromS 1 (some ⟨bq, o9, none⟩) cr (jj + 1)) (strs (S.drop (jj + 1)))) := Lib.hid fun V hb => by rw [← strs_drop]; exact (hcs7.below hb).from 1 cr (jj + 1) (by rw [strs_len]; omega)
                have hla : (S.take jj).length = jj := by rw [List.length_take]; omega
                have hlm : (S.drop (jj + 1)).length = S.length - (jj + 1) := List.length_drop ..
                have HMP2 : Hid ((S.take jj ++ S.drop (jj + 1)).map nums = (rem.take jj ++ rem.drop (jj + 1)).map (lineO cf)) := Lib.hid (by rw [List.map_append, List.map_append, List.map_take, List.map_drop, HMP.out, List.map_take, List.map_drop])
                have hrl : (rem.take jj ++ rem.drop (jj + 1)).length + 1 = rem.length := by rw [List.length_append, List.length_take, List.length_drop]; omega
                have h0 : KT W7 (S.take jj) (S.drop (jj + 1)) false false false u88 u92 u97 W7.drew ∧ (false = true → false = true) ∧ (false = true → false = true) ∧ (false = true → false = true) ∧ (false = true → false = true) ∧ (false = true → false = true) := ⟨KT.start W7 (S.take jj) (S.drop (jj + 1)) u88 u92 u97, id, id, id, id, id⟩
                have HSL : Hid (S.length ≤ 13) := Lib.hid (by omega)
                generalize S.take jj = SA at *
                generalize S.drop (jj + 1) = SM at *
                go_upto_region 17 with fail
                refine wp_region_inv (fun listed act9 V => ∃ b0 b1 b2 b3 b4 b5 b6 b7 b8 b9 b10 : Bool, ∃ x88 x92 x97 : Value, listed = #[b0, b1, b2, b3, b4, b5, b6, b7, b8, b9, b10] ∧ act9 = { tmps := #[.slice a L.length c, .slice (some ⟨bo, oo, none⟩) Lo.length co, .slice ap Lp.length cp, undef, undef, .pointer (some ⟨g5, 0, none⟩), .bool false, .pointer (some ⟨g7, 0, none⟩), .string F, .int .i64 0, (cond b10 (x97) (.slice (some ⟨bq, o9, none⟩) S.length cr)), .func (.func 23) #[] #[.pointer (some ⟨g5, 0, none⟩)], .string b78, .int .i64 i, .int .i64 jj, undef, undef, undef, .slice a L.length c, .slice (some ⟨bo, oo, none⟩) Lo.length co, .slice (some ⟨W.heap.size, 0, none⟩) 2 2, .bool false, .bool false, .slice ap Lp.length cp, .int .i64 Lp.length, .bool false, .bool false, undef, .slice a L.length c, .pointer (some ⟨gn, 0, none⟩), .agg CC, .tuple #[.string F, .int .i64 0], .agg CC, .tuple #[.string F, .int .i64 0], .string F, .int .i64 0, .string F, .slice a9 S0.length c9, .func (.func 23) #[] #[.pointer (some ⟨g5, 0, none⟩)], .slice (some ⟨bq, o9, none⟩) S.length cr, .int .i64 S.length, .bool true, u42, u43, .slice (some ⟨bo, oo, none⟩) Lo.length co, .int .i64 Lo.length, .bool true, .slice (some ⟨bo, oo, none⟩) Lo.length co, .int .i64 i, .slice (some ⟨bo, oo, none⟩) Lo.length co, .int .i64 Lo.length, .int .i64 (i % Lo.length : Nat), .pointer (some ⟨bo, oo + i % Lo.length, none⟩), .int .i64 xo, .slice (some ⟨bq, o9, none⟩) S.length cr, .int .i64 S.length, .int .i64 jj, .string u, .func (.func 23) #[] #[.pointer (some ⟨g5, 0, none⟩)], .int .i64 i, .string y60, .slice (some ⟨bq, o9, none⟩) S.length cr, .int .i64 jj, .pointer (some ⟨bq, o9 + jj, none⟩), .string ln, .string b65, .func (.func 23) #[] #[.pointer (some ⟨g5, 0, none⟩)], .int .i64 i, .int .i64 (i + 1 : Nat), .string y69, .string b70, x71, .int .i64 i, .int .i64 (i % 3 : Nat), x74, .string s75, .string b76, .string b77, .string b78, .int .i64 i, .int .i64 (i % 4 : Nat), .bool false, u82, u83, u84, u85, u86, u87, x88, (cond b1 (.slice (some ⟨bq, o9, none⟩) S.length cr) (u89)), (cond b2 (.int .i64 jj) (u90)), (cond b3 (.slice (some ⟨bq, o9, none⟩) jj cr) (u91)), x92, (cond b5 (.slice (some ⟨bq, o9, none⟩) S.length cr) (u93)), (cond b6 (.int .i64 jj) (u94)), (cond b7 (.int .i64 (jj + 1 : Nat)) (u95)), (cond b8 (.slice (fromS 1 (some ⟨bq, o9, none⟩) cr (jj + 1)) (S.length - (jj + 1)) (cr - (jj + 1))) (u96)), x97, undef, undef, undef, undef, undef, undef, undef, undef, undef, undef, undef, undef, undef, undef, undef, undef, undef, undef, undef, undef], defers := [] } ∧ KT W7 SA SM b0 b4 b9 x88 x92 x97 V ∧ (b3 = true → b1 = true) ∧ (b4 = true → b3 = true) ∧ (b8 = true → b5 = true) ∧ (b9 = true → b8 = true) ∧ (b10 = true → b9 = true)) (by kernel_rfl) (by kernel_rfl) ?_ ?_ ?_
                · exact ⟨false, false, false, false, false, false, false, false, false, false, false, u88, u92, u97, rfl, rfl, h0⟩
                · intro i9 listed act9 V hi9 hr hJ
                  obtain ⟨b0, b1, b2, b3, b4, b5, b6, b7, b8, b9, b10, x88, x92, x97, rfl, rfl, hF⟩ := hJ
                  have hi2 : i9 < 11 := hi9
                  have hi3 : i9 = 0 ∨ i9 = 1 ∨ i9 = 2 ∨ i9 = 3 ∨ i9 = 4 ∨ i9 = 5 ∨ i9 = 6 ∨ i9 = 7 ∨ i9 = 8 ∨ i9 = 9 ∨ i9 = 10 := by omega
                  rcases hi3 with rfl | rfl | rfl | rfl | rfl | rfl | rfl | rfl | rfl | rfl | rfl
                  · obtain rfl : b0 = false := ready_self hr
                    obtain ⟨rfl, rfl⟩ : b4 = false ∧ b9 = false := hF.1.n0
                    refine st_build rfl (by kernel_rfl) (some 88) rfl 39 0 #[] rfl #[] (by kernel_rfl) (.slice (some ⟨V.heap.size, 0, none⟩) 0 0) _ (nil_str V) ?_
                    exact ⟨true, b1, b2, b3, false, b5, b6, b7, b8, false, b10, _, _, _, rfl, rfl, hF.1.s0, hF.2⟩
                  · obtain rfl : b1 = false := ready_self hr
                    obtain rfl : b3 = false := (by cases b3; rfl; exact absurd (hF.2.1 rfl) (by decide))
                    obtain rfl : b4 = false := (by cases b4; rfl; exact absurd (hF.2.2.1 rfl) (by decide))
                    obtain rfl : b9 = false := hF.1.n4
                    obtain rfl : b10 = false := (by cases b10; rfl; exact absurd (hF.2.2.2.2.2 rfl) (by decide))
                    refine st_val rfl (by kernel_rfl) (some 89) rfl (.slice (some ⟨bq, o9, none⟩) S.length cr) V (by kernel_rfl) ?_
                    exact ⟨b0, true, b2, false, false, b5, b6, b7, b8, false, false, _, _, _, rfl, rfl, hF.1, fun q => (by cases q), hF.2.2.1, hF.2.2.2.1, hF.2.2.2.2.1, hF.2.2.2.2.2⟩
                  · obtain rfl : b2 = false := ready_self hr
                    refine st_val rfl (by kernel_rfl) (some 90) rfl (.int .i64 jj) V (by kernel_rfl) ?_
                    exact ⟨b0, b1, true, b3, b4, b5, b6, b7, b8, b9, b10, x88, x92, x97, rfl, rfl, hF⟩
                  · obtain rfl : b3 = false := ready_self hr
                    obtain rfl : b1 = true := ready_dep hr 1 (by kernel_rfl)
                    obtain rfl : b2 = true := ready_dep hr 2 (by kernel_rfl)
                    refine st_val rfl (by kernel_rfl) (some 91) rfl (.slice (some ⟨bq, o9, none⟩) jj cr) V (ex_to rfl _ S.length cr jj (by omega) (by kernel_rfl) (by kernel_rfl) V) ?_
                    exact ⟨b0, true, true, true, b4, b5, b6, b7, b8, b9, b10, _, _, _, rfl, rfl, hF.1, fun _ => rfl, fun _ => rfl, hF.2.2.2.1, hF.2.2.2.2.1, hF.2.2.2.2.2⟩
                  · obtain rfl : b4 = false := ready_self hr
                    obtain rfl : b0 = true := ready_dep hr 0 (by kernel_rfl)
                    obtain rfl : b3 = true := ready_dep hr 3 (by kernel_rfl)
                    obtain rfl : b9 = false := hF.1.n4
                    obtain ⟨v9, V9, hap9, hr9, hb9, -, -⟩ := app_str (hF.1.r0 rfl rfl) hF.1.bel.size (some ⟨bq, o9, none⟩) jj cr SA (HA.out V hF.1.bel) hla (by show 0 ≤ _; omega) (by have := HSL.out; omega)
                    refine st_append rfl (by kernel_rfl) (some 92) rfl 39 rfl (.tmp 88) (.tmp 91) 39 rfl x88 (.slice (some ⟨bq, o9, none⟩) jj cr) v9 V9 (by kernel_rfl) (by kernel_rfl) hap9 ?_
                    exact ⟨true, b1, b2, true, true, b5, b6, b7, b8, false, b10, _, _, _, rfl, rfl, hF.1.s4 hr9 hb9, hF.2.1, fun _ => rfl, hF.2.2.2.1, hF.2.2.2.2.1, hF.2.2.2.2.2⟩
                  · obtain rfl : b5 = false := ready_self hr
                    obtain rfl : b8 = false := (by cases b8; rfl; exact absurd (hF.2.2.2.1 rfl) (by decide))
                    obtain rfl : b9 = false := (by cases b9; rfl; exact absurd (hF.2.2.2.2.1 rfl) (by decide))
                    obtain rfl : b10 = false := (by cases b10; rfl; exact absurd (hF.2.2.2.2.2 rfl) (by decide))
                    refine st_val rfl (by kernel_rfl) (some 93) rfl (.slice (some ⟨bq, o9, none⟩) S.length cr) V (by kernel_rfl) ?_
                    exact ⟨b0, b1, b2, b3, b4, true, b6, b7, false, false, false, _, _, _, rfl, rfl, hF.1, hF.2.1, hF.2.2.1, fun q => (by cases q), hF.2.2.2.2.1, hF.2.2.2.2.2⟩
                  · obtain rfl : b6 = false := ready_self hr
                    refine st_val rfl (by kernel_rfl) (some 94) rfl (.int .i64 jj) V (by kernel_rfl) ?_
                    exact ⟨b0, b1, b2, b3, b4, b5, true, b7, b8, b9, b10, x88, x92, x97, rfl, rfl, hF⟩
                  · obtain rfl : b7 = false := ready_self hr
                    obtain rfl : b6 = true := ready_dep hr 6 (by kernel_rfl)
                    refine st_val rfl (by kernel_rfl) (some 95) rfl (.int .i64 (jj + 1 : Nat)) V (add_one rfl jj (by omega) (by kernel_rfl) _) ?_
                    exact ⟨b0, b1, b2, b3, b4, b5, true, true, b8, b9, b10, x88, x92, x97, rfl, rfl, hF⟩
                  · obtain rfl : b8 = false := ready_self hr
                    obtain rfl : b5 = true := ready_dep hr 5 (by kernel_rfl)
                    obtain rfl : b7 = true := ready_dep hr 7 (by kernel_rfl)
                    refine st_val rfl (by kernel_rfl) (some 96) rfl (.slice (fromS 1 (some ⟨bq, o9, none⟩) cr (jj + 1)) (S.length - (jj + 1)) (cr - (jj + 1))) V (ex_from rfl _ S.length cr (jj + 1) (by omega) (by kernel_rfl) (by kernel_rfl) V) ?_
                    exact ⟨b0, b1, b2, b3, b4, true, b6, true, true, b9, b10, _, _, _, rfl, rfl, hF.1, hF.2.1, hF.2.2.1, fun _ => rfl, fun _ => rfl, hF.2.2.2.2.2⟩
                  · obtain rfl : b9 = false := ready_self hr
                    obtain rfl : b4 = true := ready_dep hr 4 (by kernel_rfl)
                    obtain rfl : b8 = true := ready_dep hr 8 (by kernel_rfl)
                    obtain rfl : b10 = false := (by cases b10; rfl; exact absurd (hF.2.2.2.2.2 rfl) (by decide))
                    obtain ⟨v9, V9, hap9, hr9, hb9, -, -⟩ := app_str (hF.1.r4 rfl rfl) hF.1.bel.size (fromS 1 (some ⟨bq, o9, none⟩) cr (jj + 1)) (S.length - (jj + 1)) (cr - (jj + 1)) SM (HM.out V hF.1.bel) hlm (by have := HSL.out; omega) (by have := HSL.out; omega)
                    refine st_append rfl (by kernel_rfl) (some 97) rfl 39 rfl (.tmp 92) (.tmp 96) 39 rfl x92 (.slice (fromS 1 (some ⟨bq, o9, none⟩) cr (jj + 1)) (S.length - (jj + 1)) (cr - (jj + 1))) v9 V9 (by kernel_rfl) (by kernel_rfl) hap9 ?_
                    exact ⟨b0, b1, b2, b3, true, b5, b6, b7, true, true, false, _, _, _, rfl, rfl, hF.1.s9 hr9 hb9, hF.2.1, hF.2.2.1, hF.2.2.2.1, fun _ => rfl, fun _ => rfl⟩
                  · obtain rfl : b10 = false := ready_self hr
                    obtain rfl : b9 = true := ready_dep hr 9 (by kernel_rfl)
                    refine st_val rfl (by kernel_rfl) (some 10) rfl x97 V (by kernel_rfl) ?_
                    exact ⟨b0, b1, b2, b3, b4, b5, b6, b7, b8, true, true, _, _, _, rfl, rfl, hF.1, hF.2.1, hF.2.2.1, hF.2.2.2.1, hF.2.2.2.2.1, fun _ => rfl⟩
                · intro act9 V hJ
                  obtain ⟨b0, b1, b2, b3, b4, b5, b6, b7, b8, b9, b10, x88, x92, x97, he, rfl, hF⟩ := hJ
                  have he : (#[true, true, true, true, true, true, true, true, true, true, true] : Array Bool) = #[b0, b1, b2, b3, b4, b5, b6, b7, b8, b9, b10] := he
                  simp only [Array.mk.injEq, List.cons.injEq, and_true] at he
                  obtain ⟨rfl, rfl, rfl, rfl, rfl, rfl, rfl, rfl, rfl, rfl, rfl⟩ := he
                  simp only [cond_true]
                  have hb17 := hF.1.bel
                  have HBRF := Lib.hid (HBR7.out.trans (hb17.mono HBR7.out.size))
                  have HRF : Hid (∃ a c, x97 = .slice a (SA ++ SM).length c ∧ Cs V a (strs (SA ++ SM)) ∧ (SA ++ SM).length ≤ c) := Lib.hid (hF.1.r9 rfl).cs
                  clear hF h0 hb17
                  go_upto_region 10 with fail
                  refine wl <| gz1 (.int .i64 i) <| gzv (.int .i64 (i + 1 : Nat)) (add_one rfl i (by omega) (by kernel_rfl) _) <| gz1 (.int .i64 (i + 1 : Nat)) <| wn ?_
                  simp only [pu]
                  go_wp2_with fail
                  go_roundg (rem.take jj ++ rem.drop (jj + 1)).length
                  case measure => omega
                  case rel => exact ⟨i + 1, b78, x97, _, _, rfl, rfl, rfl, rfl, by omega, by omega, HRF, HMP2, Lib.hid (HSP2.out.mono (by omega)), HBRF⟩
          · skip
            go_upto_region 12 with fail
            refine wl <| gz2 (.slice ao Lo.length co) (.int .i64 Lo.length) <| gzb (gtr_n rfl Lo.length 0 dF) <| wn ?_
            simp only [pu]
            have hjl : 0 < S.length := hlt
            have hr0 := HSR.out
            obtain ⟨x, hx⟩ : ∃ x, rem[0]? = some x := ⟨_, List.getElem?_eq_getElem (by omega)⟩
            have hln : nums (S.getD 0 (⟨#[]⟩ : ByteArray)) = lineO cf x := by
              have h1 := getD_nums S hjl
              rw [HMP.out] at h1
              rw [← h1, List.getD_eq_getElem?_getD, List.getElem?_map, hx]
              rfl
            have hlz : (S.getD 0 (⟨#[]⟩ : ByteArray)).size ≤ 33 := by rw [← nums_len, hln]; exact HSP.out.line_len HVL.out H9.out hx
            obtain ⟨ps, hps, hpsp, hpz⟩ := padS_is Lp i
            obtain ⟨ps2, hps2, hps2p, hpz2⟩ := padS_is Lp (i + 1)
            have hi12 : i < 13 := by omega
            have P60 := Lib.hid fun V (hb : Below V5.heap.size V5 V) => HPAD.out V hb i (by omega)
            have P69 := Lib.hid fun V (hb : Below V5.heap.size V5 V) => HPAD.out V hb (i + 1) (by omega)
            have hk3 : i % 3 < 3 := Nat.mod_lt _ (by omega)
            obtain ⟨hc1, hc2⟩ := cmt_is (i % 3) hk3
            have HL75 : Hid (∀ g V, Bx V g (strs cmtB).toArray 9 → (Instr.loadAt 9 (.pointer (some ⟨g, 0 + i % 3, none⟩))).run Tryd.prog V = .ok (.string (cmtB.getD (i % 3) (⟨#[]⟩ : ByteArray))) V) := Lib.hid fun g V hX => load_str hX (k := i % 3) hk3
            obtain ⟨bq, o9, har, -, hcl⟩ := strs_get hcs (k := 0) hjl
            obtain rfl := har
            have hpl4 : ps.flatten.length ≤ 4 := by rw [← hps, nums_len]; exact hpz
            have hpl42 : ps2.flatten.length ≤ 4 := by rw [← hps2, nums_len]; exact hpz2
            have hsp := HSP.out.put HVL.out H9.out hx hpsp hpl4 hps2p hpl42 hk3
            have HBL : Hid (∀ (m : Nat) (T : List Int) (R : List (Option Nat)), SpI cf m T R → SpI cf (m + 1) (T ++ (ps.flatten ++ [10])) R) := Lib.hid fun m T R h => h.blank hpsp hpl4
            generalize S.getD 0 (⟨#[]⟩ : ByteArray) = ln at *
            generalize padS Lp i = y60 at *
            generalize padS Lp (i + 1) = y69 at *
            generalize cmtB.getD (i % 3) (⟨#[]⟩ : ByteArray) = s75 at *
            obtain ⟨b65, hb65⟩ : ∃ z, y60 ++ ln = z := ⟨_, rfl⟩
            have hsb65 : b65.size = y60.size + ln.size := by rw [← hb65, ByteArray.size_append]
            have hlb65 : y60.size + ln.size ≤ 9223372036854775807 := by omega
            obtain ⟨b70, hb70⟩ : ∃ z, b65 ++ y69 = z := ⟨_, rfl⟩
            have hsb70 : b70.size = b65.size + y69.size := by rw [← hb70, ByteArray.size_append]
            have hlb70 : b65.size + y69.size ≤ 9223372036854775807 := by omega
            obtain ⟨b76, hb76⟩ : ∃ z, b70 ++ s75 = z := ⟨_, rfl⟩
            have hsb76 : b76.size = b70.size + s75.size := by rw [← hb76, ByteArray.size_append]
            have hlb76 : b70.size + s75.size ≤ 9223372036854775807 := by omega
            obtain ⟨b77, hb77⟩ : ∃ z, b76 ++ (⟨#[10]⟩ : ByteArray) = z := ⟨_, rfl⟩
            have hsb77 : b77.size = b76.size + 1 := by rw [← hb77, ByteArray.size_append]; rfl
            have hlb77 : b76.size + (⟨#[10]⟩ : ByteArray).size ≤ 9223372036854775807 := by show b76.size + 1 ≤ _; omega
            obtain ⟨b78, hb78⟩ : ∃ z, u ++ b77 = z := ⟨_, rfl⟩
            have hsb78 : b78.size = u.size + b77.size := by rw [← hb78, ByteArray.size_append]
            have hlb78 : u.size + b77.size ≤ 9223372036854775807 := by omega
            have hnb : nums b78 = nums u ++ ((ps.flatten ++ lineO cf x ++ (ps2 ++ cmtT (i % 3)).flatten) ++ [10]) := by
              rw [← hb78, nums_app, ← hb77, nums_app, ← hb76, nums_app, ← hb70, nums_app, ← hb65, nums_app, hps, hln, hps2, hc1, List.flatten_append, show nums (⟨#[10]⟩ : ByteArray) = [10] from rfl]
              simp only [List.append_assoc]
            rw [← hnb] at hsp
            have HSP2 := Lib.hid hsp
            have HPS := Lib.hid hps
            have hbs78 : b78.size ≤ u.size + 50 := by omega
            have h0 : KQ wr (i % 3) false false u71 u74 wr.drew ∧ (false = true → false = true) ∧ (false = true → false = true) := ⟨KQ.start wr (i % 3) u71 u74, id, id⟩
            clear hsp hnb hps2 hps2p hpz2 hpl42 hln hc1 hlz
            go_upto_region 14 with fail
            refine wp_region_inv (fun listed act9 V => ∃ b0 b1 b2 b3 b4 b5 b6 b7 b8 b9 b10 b11 b12 b13 b14 b15 b16 b17 b18 b19 b20 b21 b22 : Bool, ∃ x71 x74 : Value, listed = #[b0, b1, b2, b3, b4, b5, b6, b7, b8, b9, b10, b11, b12, b13, b14, b15, b16, b17, b18, b19, b20, b21, b22] ∧ act9 = { tmps := #[.slice a L.length c, .slice ao Lo.length co, .slice ap Lp.length cp, undef, undef, .pointer (some ⟨g5, 0, none⟩), .bool false, .pointer (some ⟨g7, 0, none⟩), .string F, .int .i64 0, .slice (some ⟨bq, o9, none⟩) S.length cr, .func (.func 23) #[] #[.pointer (some ⟨g5, 0, none⟩)], (cond b22 (.string b78) (.string u)), .int .i64 i, .int .i64 0, undef, undef, undef, .slice a L.length c, .slice ao Lo.length co, .slice (some ⟨W.heap.size, 0, none⟩) 2 2, .bool false, .bool false, .slice ap Lp.length cp, .int .i64 Lp.length, .bool false, .bool false, undef, .slice a L.length c, .pointer (some ⟨gn, 0, none⟩), .agg CC, .tuple #[.string F, .int .i64 0], .agg CC, .tuple #[.string F, .int .i64 0], .string F, .int .i64 0, .string F, .slice a9 S0.length c9, .func (.func 23) #[] #[.pointer (some ⟨g5, 0, none⟩)], .slice (some ⟨bq, o9, none⟩) S.length cr, .int .i64 S.length, .bool true, u42, u43, .slice ao Lo.length co, .int .i64 Lo.length, .bool false, u47, u48, u49, u50, u51, u52, u53, u54, u55, u56, (cond b0 (.string u) (u57)), (cond b1 (.func (.func 23) #[] #[.pointer (some ⟨g5, 0, none⟩)]) (u58)), (cond b2 (.int .i64 i) (u59)), (cond b3 (.string y60) (u60)), (cond b4 (.slice (some ⟨bq, o9, none⟩) S.length cr) (u61)), (cond b5 (.int .i64 0) (u62)), (cond b6 (.pointer (some ⟨bq, o9 + 0, none⟩)) (u63)), (cond b7 (.string ln) (u64)), (cond b8 (.string b65) (u65)), (cond b9 (.func (.func 23) #[] #[.pointer (some ⟨g5, 0, none⟩)]) (u66)), (cond b10 (.int .i64 i) (u67)), (cond b11 (.int .i64 (i + 1 : Nat)) (u68)), (cond b12 (.string y69) (u69)), (cond b13 (.string b70) (u70)), x71, (cond b15 (.int .i64 i) (u72)), (cond b16 (.int .i64 (i % 3 : Nat)) (u73)), x74, (cond b18 (.string s75) (u75)), (cond b19 (.string b76) (u76)), (cond b20 (.string b77) (u77)), (cond b21 (.string b78) (u78)), u79, u80, u81, u82, u83, u84, u85, u86, u87, u88, u89, u90, u91, u92, u93, u94, u95, u96, u97, undef, undef, undef, undef, undef, undef, undef, undef, undef, undef, undef, undef, undef, undef, undef, undef, undef, undef, undef, undef], defers := [] } ∧ KQ wr (i % 3) b14 b17 x71 x74 V ∧ (b21 = true → b0 = true) ∧ (b22 = true → b21 = true)) (by kernel_rfl) (by kernel_rfl) ?_ ?_ ?_
            · exact ⟨false, false, false, false, false, false, false, false, false, false, false, false, false, false, false, false, false, false, false, false, false, false, false, u71, u74, rfl, rfl, h0⟩
            · intro i9 listed act9 V hi9 hr hJ
              obtain ⟨b0, b1, b2, b3, b4, b5, b6, b7, b8, b9, b10, b11, b12, b13, b14, b15, b16, b17, b18, b19, b20, b21, b22, x71, x74, rfl, rfl, hF⟩ := hJ
              have hi2 : i9 < 23 := hi9
              have hi3 : i9 = 0 ∨ i9 = 1 ∨ i9 = 2 ∨ i9 = 3 ∨ i9 = 4 ∨ i9 = 5 ∨ i9 = 6 ∨ i9 = 7 ∨ i9 = 8 ∨ i9 = 9 ∨ i9 = 10 ∨ i9 = 11 ∨ i9 = 12 ∨ i9 = 13 ∨ i9 = 14 ∨ i9 = 15 ∨ i9 = 16 ∨ i9 = 17 ∨ i9 = 18 ∨ i9 = 19 ∨ i9 = 20 ∨ i9 = 21 ∨ i9 = 22 := by omega
              rcases hi3 with rfl | rfl | rfl | rfl | rfl | rfl | rfl | rfl | rfl | rfl | rfl | rfl | rfl | rfl | rfl | rfl | rfl | rfl | rfl | rfl | rfl | rfl | rfl
              · obtain rfl : b0 = false := ready_self hr
                obtain rfl : b21 = false := (by cases b21; rfl; exact absurd (hF.2.1 rfl) (by decide))
                obtain rfl : b22 = false := (by cases b22; rfl; exact absurd (hF.2.2 rfl) (by decide))
                refine st_val rfl (by kernel_rfl) (some 57) rfl (.string u) V (by kernel_rfl) ?_
                exact ⟨true, b1, b2, b3, b4, b5, b6, b7, b8, b9, b10, b11, b12, b13, b14, b15, b16, b17, b18, b19, b20, false, false, _, _, rfl, rfl, hF.1, fun q => (by cases q), fun q => (by cases q)⟩
              · obtain rfl : b1 = false := ready_self hr
                refine st_val rfl (by kernel_rfl) (some 58) rfl (.func (.func 23) #[] #[.pointer (some ⟨g5, 0, none⟩)]) V (by kernel_rfl) ?_
                exact ⟨b0, true, b2, b3, b4, b5, b6, b7, b8, b9, b10, b11, b12, b13, b14, b15, b16, b17, b18, b19, b20, b21, b22, x71, x74, rfl, rfl, hF⟩
              · obtain rfl : b2 = false := ready_self hr
                refine st_val rfl (by kernel_rfl) (some 59) rfl (.int .i64 i) V (by kernel_rfl) ?_
                exact ⟨b0, b1, true, b3, b4, b5, b6, b7, b8, b9, b10, b11, b12, b13, b14, b15, b16, b17, b18, b19, b20, b21, b22, x71, x74, rfl, rfl, hF⟩
              · obtain rfl : b3 = false := ready_self hr
                obtain rfl : b1 = true := ready_dep hr 1 (by kernel_rfl)
                obtain rfl : b2 = true := ready_dep hr 2 (by kernel_rfl)
                refine st_call rfl (by kernel_rfl) (some 60) rfl 23 #[.int .i64 i, .pointer (some ⟨g5, 0, none⟩)] (by kernel_rfl) ((P60.out V (HBR.out.trans (hF.1.bel.mono HBR.out.size))).mono fun e9 V9 hq9 => ?_)
                obtain ⟨rfl, hb9⟩ := hq9
                refine ⟨_, rfl, ?_⟩
                exact ⟨b0, true, true, true, b4, b5, b6, b7, b8, b9, b10, b11, b12, b13, b14, b15, b16, b17, b18, b19, b20, b21, b22, _, _, rfl, rfl, hF.1.call hb9, hF.2⟩
              · obtain rfl : b4 = false := ready_self hr
                refine st_val rfl (by kernel_rfl) (some 61) rfl (.slice (some ⟨bq, o9, none⟩) S.length cr) V (by kernel_rfl) ?_
                exact ⟨b0, b1, b2, b3, true, b5, b6, b7, b8, b9, b10, b11, b12, b13, b14, b15, b16, b17, b18, b19, b20, b21, b22, x71, x74, rfl, rfl, hF⟩
              · obtain rfl : b5 = false := ready_self hr
                refine st_val rfl (by kernel_rfl) (some 62) rfl (.int .i64 0) V (by kernel_rfl) ?_
                exact ⟨b0, b1, b2, b3, b4, true, b6, b7, b8, b9, b10, b11, b12, b13, b14, b15, b16, b17, b18, b19, b20, b21, b22, x71, x74, rfl, rfl, hF⟩
              · obtain rfl : b6 = false := ready_self hr
                obtain rfl : b4 = true := ready_dep hr 4 (by kernel_rfl)
                obtain rfl : b5 = true := ready_dep hr 5 (by kernel_rfl)
                refine st_val rfl (by kernel_rfl) (some 63) rfl (.pointer (some ⟨bq, o9 + 0, none⟩)) V (idx_str bq o9 S.length cr 0 hjl _ _ _ rfl (by kernel_rfl) (by kernel_rfl)) ?_
                exact ⟨b0, b1, b2, b3, true, true, true, b7, b8, b9, b10, b11, b12, b13, b14, b15, b16, b17, b18, b19, b20, b21, b22, x71, x74, rfl, rfl, hF⟩
              · obtain rfl : b7 = false := ready_self hr
                obtain rfl : b6 = true := ready_dep hr 6 (by kernel_rfl)
                refine st_load rfl (by kernel_rfl) (some 64) rfl 9 (.tmp 63) rfl ⟨bq, o9 + 0, none⟩ (.string ln) (by kernel_rfl) (load_cell ((hF.1.bel.cell (p := ⟨bq, o9 + 0, none⟩) (World.block_lt_of_cell? wr _ hcl)).trans hcl) (by kernel_rfl)) ?_
                exact ⟨b0, b1, b2, b3, b4, b5, true, true, b8, b9, b10, b11, b12, b13, b14, b15, b16, b17, b18, b19, b20, b21, b22, _, _, rfl, rfl, hF⟩
              · obtain rfl : b8 = false := ready_self hr
                obtain rfl : b3 = true := ready_dep hr 3 (by kernel_rfl)
                obtain rfl : b7 = true := ready_dep hr 7 (by kernel_rfl)
                refine st_val rfl (by kernel_rfl) (some 65) rfl (.string b65) V (add_s rfl _ _ _ hb65 hlb65 (by kernel_rfl) (by kernel_rfl) _) ?_
                exact ⟨b0, b1, b2, true, b4, b5, b6, true, true, b9, b10, b11, b12, b13, b14, b15, b16, b17, b18, b19, b20, b21, b22, x71, x74, rfl, rfl, hF⟩
              · obtain rfl : b9 = false := ready_self hr
                refine st_val rfl (by kernel_rfl) (some 66) rfl (.func (.func 23) #[] #[.pointer (some ⟨g5, 0, none⟩)]) V (by kernel_rfl) ?_
                exact ⟨b0, b1, b2, b3, b4, b5, b6, b7, b8, true, b10, b11, b12, b13, b14, b15, b16, b17, b18, b19, b20, b21, b22, x71, x74, rfl, rfl, hF⟩
              · obtain rfl : b10 = false := ready_self hr
                refine st_val rfl (by kernel_rfl) (some 67) rfl (.int .i64 i) V (by kernel_rfl) ?_
                exact ⟨b0, b1, b2, b3, b4, b5, b6, b7, b8, b9, true, b11, b12, b13, b14, b15, b16, b17, b18, b19, b20, b21, b22, x71, x74, rfl, rfl, hF⟩
              · obtain rfl : b11 = false := ready_self hr
                obtain rfl : b10 = true := ready_dep hr 10 (by kernel_rfl)
                refine st_val rfl (by kernel_rfl) (some 68) rfl (.int .i64 (i + 1 : Nat)) V (add_one rfl i (by omega) (by kernel_rfl) _) ?_
                exact ⟨b0, b1, b2, b3, b4, b5, b6, b7, b8, b9, true, true, b12, b13, b14, b15, b16, b17, b18, b19, b20, b21, b22, x71, x74, rfl, rfl, hF⟩
              · obtain rfl : b12 = false := ready_self hr
                obtain rfl : b9 = true := ready_dep hr 9 (by kernel_rfl)
                obtain rfl : b11 = true := ready_dep hr 11 (by kernel_rfl)
                refine st_call rfl (by kernel_rfl) (some 69) rfl 23 #[.int .i64 (i + 1 : Nat), .pointer (some ⟨g5, 0, none⟩)] (by kernel_rfl) ((P69.out V (HBR.out.trans (hF.1.bel.mono HBR.out.size))).mono fun e9 V9 hq9 => ?_)
                obtain ⟨rfl, hb9⟩ := hq9
                refine ⟨_, rfl, ?_⟩
                exact ⟨b0, b1, b2, b3, b4, b5, b6, b7, b8, true, b10, true, true, b13, b14, b15, b16, b17, b18, b19, b20, b21, b22, _, _, rfl, rfl, hF.1.call hb9, hF.2⟩
              · obtain rfl : b13 = false := ready_self hr
                obtain rfl : b8 = true := ready_dep hr 8 (by kernel_rfl)
                obtain rfl : b12 = true := ready_dep hr 12 (by kernel_rfl)
                refine st_val rfl (by kernel_rfl) (some 70) rfl (.string b70) V (add_s rfl _ _ _ hb70 hlb70 (by kernel_rfl) (by kernel_rfl) _) ?_
                exact ⟨b0, b1, b2, b3, b4, b5, b6, b7, true, b9, b10, b11, true, true, b14, b15, b16, b17, b18, b19, b20, b21, b22, x71, x74, rfl, rfl, hF⟩
              · obtain rfl : b14 = false := ready_self hr
                refine st_build rfl (by kernel_rfl) (some 71) rfl 39 3 #[(0, .const (.string ⟨#[]⟩)), (1, .const (.string ⟨#[35, 32, 120]⟩)), (2, .const (.string ⟨#[32, 35, 195, 169, 35]⟩))] rfl #[(0, .string ⟨#[]⟩), (1, .string ⟨#[35, 32, 120]⟩), (2, .string ⟨#[32, 35, 195, 169, 35]⟩)] (by kernel_rfl) (.slice (some ⟨V.heap.size, 0, none⟩) 3 3) _ (build_cmt V) ?_
                exact ⟨b0, b1, b2, b3, b4, b5, b6, b7, b8, b9, b10, b11, b12, b13, true, b15, b16, b17, b18, b19, b20, b21, b22, _, _, rfl, rfl, hF.1.s14, hF.2⟩
              · obtain rfl : b15 = false := ready_self hr
                refine st_val rfl (by kernel_rfl) (some 72) rfl (.int .i64 i) V (by kernel_rfl) ?_
                exact ⟨b0, b1, b2, b3, b4, b5, b6, b7, b8, b9, b10, b11, b12, b13, b14, true, b16, b17, b18, b19, b20, b21, b22, x71, x74, rfl, rfl, hF⟩
              · obtain rfl : b16 = false := ready_self hr
                obtain rfl : b15 = true := ready_dep hr 15 (by kernel_rfl)
                refine st_val rfl (by kernel_rfl) (some 73) rfl (.int .i64 (i % 3 : Nat)) V (rem_nn rfl i 3 (by omega) (by kernel_rfl) (by kernel_rfl) _) ?_
                exact ⟨b0, b1, b2, b3, b4, b5, b6, b7, b8, b9, b10, b11, b12, b13, b14, true, true, b17, b18, b19, b20, b21, b22, x71, x74, rfl, rfl, hF⟩
              · obtain rfl : b17 = false := ready_self hr
                obtain rfl : b14 = true := ready_dep hr 14 (by kernel_rfl)
                obtain rfl : b16 = true := ready_dep hr 16 (by kernel_rfl)
                obtain ⟨g9, rfl, hx9⟩ := hF.1.c14 rfl
                refine st_val rfl (by kernel_rfl) (some 74) rfl (.pointer (some ⟨g9, 0 + i % 3, none⟩)) V (idx_str g9 0 3 3 (i % 3) hk3 _ _ _ rfl (by kernel_rfl) (by kernel_rfl)) ?_
                exact ⟨b0, b1, b2, b3, b4, b5, b6, b7, b8, b9, b10, b11, b12, b13, true, b15, true, true, b18, b19, b20, b21, b22, _, _, rfl, rfl, hF.1.s17 hx9, hF.2⟩
              · obtain rfl : b18 = false := ready_self hr
                obtain rfl : b17 = true := ready_dep hr 17 (by kernel_rfl)
                obtain ⟨g9, rfl, hx9⟩ := hF.1.c17 rfl
                refine st_load rfl (by kernel_rfl) (some 75) rfl 9 (.tmp 74) rfl ⟨g9, 0 + i % 3, none⟩ (.string s75) (by kernel_rfl) (HL75.out g9 V hx9) ?_
                exact ⟨b0, b1, b2, b3, b4, b5, b6, b7, b8, b9, b10, b11, b12, b13, b14, b15, b16, true, true, b19, b20, b21, b22, _, _, rfl, rfl, hF⟩
              · obtain rfl : b19 = false := ready_self hr
                obtain rfl : b13 = true := ready_dep hr 13 (by kernel_rfl)
                obtain rfl : b18 = true := ready_dep hr 18 (by kernel_rfl)
                refine st_val rfl (by kernel_rfl) (some 76) rfl (.string b76) V (add_s rfl _ _ _ hb76 hlb76 (by kernel_rfl) (by kernel_rfl) _) ?_
                exact ⟨b0, b1, b2, b3, b4, b5, b6, b7, b8, b9, b10, b11, b12, true, b14, b15, b16, b17, true, true, b20, b21, b22, x71, x74, rfl, rfl, hF⟩
              · obtain rfl : b20 = false := ready_self hr
                obtain rfl : b19 = true := ready_dep hr 19 (by kernel_rfl)
                refine st_val rfl (by kernel_rfl) (some 77) rfl (.string b77) V (add_s rfl _ _ _ hb77 hlb77 (by kernel_rfl) (by kernel_rfl) _) ?_
                exact ⟨b0, b1, b2, b3, b4, b5, b6, b7, b8, b9, b10, b11, b12, b13, b14, b15, b16, b17, b18, true, true, b21, b22, x71, x74, rfl, rfl, hF⟩
              · obtain rfl : b21 = false := ready_self hr
                obtain rfl : b0 = true := ready_dep hr 0 (by kernel_rfl)
                obtain rfl : b20 = true := ready_dep hr 20 (by kernel_rfl)
                refine st_val rfl (by kernel_rfl) (some 78) rfl (.string b78) V (add_s rfl _ _ _ hb78 hlb78 (by kernel_rfl) (by kernel_rfl) V) ?_
                exact ⟨true, b1, b2, b3, b4, b5, b6, b7, b8, b9, b10, b11, b12, b13, b14, b15, b16, b17, b18, b19, true, true, b22, _, _, rfl, rfl, hF.1, fun _ => rfl, fun _ => rfl⟩
              · obtain rfl : b22 = false := ready_self hr
                obtain rfl : b21 = true := ready_dep hr 21 (by kernel_rfl)
                refine st_val rfl (by kernel_rfl) (some 12) rfl (.string b78) V (by kernel_rfl) ?_
                exact ⟨b0, b1, b2, b3, b4, b5, b6, b7, b8, b9, b10, b11, b12, b13, b14, b15, b16, b17, b18, b19, b20, true, true, _, _, rfl, rfl, hF.1, hF.2.1, fun _ => rfl⟩
            · intro act9 V hJ
              obtain ⟨b0, b1, b2, b3, b4, b5, b6, b7, b8, b9, b10, b11, b12, b13, b14, b15, b16, b17, b18, b19, b20, b21, b22, x71, x74, he, rfl, hF⟩ := hJ
              have he : (#[true, true, true, true, true, true, true, true, true, true, true, true, true, true, true, true, true, true, true, true, true, true, true] : Array Bool) = #[b0, b1, b2, b3, b4, b5, b6, b7, b8, b9, b10, b11, b12, b13, b14, b15, b16, b17, b18, b19, b20, b21, b22] := he
              simp only [Array.mk.injEq, List.cons.injEq, and_true] at he
              obtain ⟨rfl, rfl, rfl, rfl, rfl, rfl, rfl, rfl, rfl, rfl, rfl, rfl, rfl, rfl, rfl, rfl, rfl, rfl, rfl, rfl, rfl, rfl, rfl⟩ := he
              simp only [cond_true]
              have hb14 := hF.1.bel
              have HBR7 := Lib.hid (HBR.out.trans (hb14.mono HBR.out.size))
              have hcs7 := hcs.below hb14
              obtain ⟨W7, hW7⟩ : ∃ W7, W7 = V := ⟨V, rfl⟩
              subst hW7
              clear hF h0 hb14 hcl hcs hb65 hb70 hb76 hb77 hb78 hlb65 hlb70 hlb76 hlb77 hlb78 P69 HL75
              by_cases h4 : i % 4 = 1
              · skip
                obtain ⟨b86, hb86⟩ : ∃ z, y60 ++ (⟨#[10]⟩ : ByteArray) = z := ⟨_, rfl⟩
                have hsb86 : b86.size = y60.size + 1 := by rw [← hb86, ByteArray.size_append]; rfl
                have hlb86 : y60.size + (⟨#[10]⟩ : ByteArray).size ≤ 9223372036854775807 := by show y60.size + 1 ≤ _; omega
                obtain ⟨b87, hb87⟩ : ∃ z, b78 ++ b86 = z := ⟨_, rfl⟩
                have hsb87 : b87.size = b78.size + b86.size := by rw [← hb87, ByteArray.size_append]
                have hlb87 : b78.size + b86.size ≤ 9223372036854775807 := by omega
                have HSP3 : Hid (SpI cf (2 * i + 1 + 1) (nums b87) (rem.take 0 ++ rem.drop (0 + 1))) := Lib.hid (by
                  have h1 := HBL.out _ _ _ HSP2.out
                  rwa [show nums b78 ++ (ps.flatten ++ [10]) = nums b87 by rw [← hb87, nums_app, ← hb86, nums_app, HPS.out]; rfl] at h1)
                have CP8 := P60.out W7 HBR7.out
                go_upto_region 15 with fail
                refine wl <| gz1 (.int .i64 i) <| gzw (.int .i64 (i % 4 : Nat)) (rem_nn rfl i 4 (by omega)) <| gzb (eql_nn rfl (i % 4) 1 (decide_eq_true h4)) <| wn ?_
                simp only [pu]
                go_upto_region 16 with fail
                refine wl <| gz3 (.string b78) (.func (.func 23) #[] #[.pointer (some ⟨g5, 0, none⟩)]) (.int .i64 i) <| gzc (.string y60) (fun w' => Below W7.heap.size W7 w') (CP8) (fun W8 hb8 => ?_)
                simp only [pu]
                refine gzw (.string b86) (add_s rfl _ _ _ hb86 hlb86) <| gzw (.string b87) (add_s rfl _ _ _ hb87 hlb87) <| gz1 (.string b87) <| wn ?_
                simp only [pu]
                have HBR8 := Lib.hid (HBR7.out.trans (hb8.mono HBR7.out.size))
                have hcs8 := hcs7.below hb8
                clear hb8 hcs7 CP8 hb86 hb87 hlb86 hlb87
                have HA : Hid (∀ V, Below W8.heap.size W8 V → Cs V (some ⟨bq, o9, none⟩) (strs (S.take 0))) := Lib.hid fun V hb => by rw [← strs_take]; exact (hcs8.below hb).take 0
                have HM : Hid (∀ V, Below W8.heap.size W8 V → Cs V (fromS 1 (some ⟨bq, o9, none⟩) cr (0 + 1)) (strs (S.drop (0 + 1)))) := Lib.hid fun V hb => by rw [← strs_drop]; exact (hcs8.below hb).from 1 cr (0 + 1) (by rw [strs_len]; omega)
                have hla : (S.take 0).length = 0 := by rw [List.length_take]; omega
                have hlm : (S.drop (0 + 1)).length = S.length - (0 + 1) := List.length_drop ..
                have HMP2 : Hid ((S.take 0 ++ S.drop (0 + 1)).map nums = (rem.take 0 ++ rem.drop (0 + 1)).map (lineO cf)) := Lib.hid (by rw [List.map_append, List.map_append, List.map_take, List.map_drop, HMP.out, List.map_take, List.map_drop])
                have hrl : (rem.take 0 ++ rem.drop (0 + 1)).length + 1 = rem.length := by rw [List.length_append, List.length_take, List.length_drop]; omega
                have h0 : KT W8 (S.take 0) (S.drop (0 + 1)) false false false u88 u92 u97 W8.drew ∧ (false = true → false = true) ∧ (false = true → false = true) ∧ (false = true → false = true) ∧ (false = true → false = true) ∧ (false = true → false = true) := ⟨KT.start W8 (S.take 0) (S.drop (0 + 1)) u88 u92 u97, id, id, id, id, id⟩
                have HSL : Hid (S.length ≤ 13) := Lib.hid (by omega)
                generalize S.take 0 = SA at *
                generalize S.drop (0 + 1) = SM at *
                go_upto_region 17 with fail
                refine wp_region_inv (fun listed act9 V => ∃ b0 b1 b2 b3 b4 b5 b6 b7 b8 b9 b10 : Bool, ∃ x88 x92 x97 : Value, listed = #[b0, b1, b2, b3, b4, b5, b6, b7, b8, b9, b10] ∧ act9 = { tmps := #[.slice a L.length c, .slice ao Lo.length co, .slice ap Lp.length cp, undef, undef, .pointer (some ⟨g5, 0, none⟩), .bool false, .pointer (some ⟨g7, 0, none⟩), .string F, .int .i64 0, (cond b10 (x97) (.slice (some ⟨bq, o9, none⟩) S.length cr)), .func (.func 23) #[] #[.pointer (some ⟨g5, 0, none⟩)], .string b87, .int .i64 i, .int .i64 0, undef, undef, undef, .slice a L.length c, .slice ao Lo.length co, .slice (some ⟨W.heap.size, 0, none⟩) 2 2, .bool false, .bool false, .slice ap Lp.length cp, .int .i64 Lp.length, .bool false, .bool false, undef, .slice a L.length c, .pointer (some ⟨gn, 0, none⟩), .agg CC, .tuple #[.string F, .int .i64 0], .agg CC, .tuple #[.string F, .int .i64 0], .string F, .int .i64 0, .string F, .slice a9 S0.length c9, .func (.func 23) #[] #[.pointer (some ⟨g5, 0, none⟩)], .slice (some ⟨bq, o9, none⟩) S.length cr, .int .i64 S.length, .bool true, u42, u43, .slice ao Lo.length co, .int .i64 Lo.length, .bool false, u47, u48, u49, u50, u51, u52, u53, u54, u55, u56, .string u, .func (.func 23) #[] #[.pointer (some ⟨g5, 0, none⟩)], .int .i64 i, .string y60, .slice (some ⟨bq, o9, none⟩) S.length cr, .int .i64 0, .pointer (some ⟨bq, o9 + 0, none⟩), .string ln, .string b65, .func (.func 23) #[] #[.pointer (some ⟨g5, 0, none⟩)], .int .i64 i, .int .i64 (i + 1 : Nat), .string y69, .string b70, x71, .int .i64 i, .int .i64 (i % 3 : Nat), x74, .string s75, .string b76, .string b77, .string b78, .int .i64 i, .int .i64 (i % 4 : Nat), .bool true, .string b78, .func (.func 23) #[] #[.pointer (some ⟨g5, 0, none⟩)], .int .i64 i, .string y60, .string b86, .string b87, x88, (cond b1 (.slice (some ⟨bq, o9, none⟩) S.length cr) (u89)), (cond b2 (.int .i64 0) (u90)), (cond b3 (.slice (some ⟨bq, o9, none⟩) 0 cr) (u91)), x92, (cond b5 (.slice (some ⟨bq, o9, none⟩) S.length cr) (u93)), (cond b6 (.int .i64 0) (u94)), (cond b7 (.int .i64 (0 + 1 : Nat)) (u95)), (cond b8 (.slice (fromS 1 (some ⟨bq, o9, none⟩) cr (0 + 1)) (S.length - (0 + 1)) (cr - (0 + 1))) (u96)), x97, undef, undef, undef, undef, undef, undef, undef, undef, undef, undef, undef, undef, undef, undef, undef, undef, undef, undef, undef, undef], defers := [] } ∧ KT W8 SA SM b0 b4 b9 x88 x92 x97 V ∧ (b3 = true → b1 = true) ∧ (b4 = true → b3 = true) ∧ (b8 = true → b5 = true) ∧ (b9 = true → b8 = true) ∧ (b10 = true → b9 = true)) (by kernel_rfl) (by kernel_rfl) ?_ ?_ ?_
                · exact ⟨false, false, false, false, false, false, false, false, false, false, false, u88, u92, u97, rfl, rfl, h0⟩
                · intro i9 listed act9 V hi9 hr hJ
                  obtain ⟨b0, b1, b2, b3, b4, b5, b6, b7, b8, b9, b10, x88, x92, x97, rfl, rfl, hF⟩ := hJ
                  have hi2 : i9 < 11 := hi9
                  have hi3 : i9 = 0 ∨ i9 = 1 ∨ i9 = 2 ∨ i9 = 3 ∨ i9 = 4 ∨ i9 = 5 ∨ i9 = 6 ∨ i9 = 7 ∨ i9 = 8 ∨ i9 = 9 ∨ i9 = 10 := by omega
                  rcases hi3 with rfl | rfl | rfl | rfl | rfl | rfl | rfl | rfl | rfl | rfl | rfl
                  · obtain rfl : b0 = false := ready_self hr
                    obtain ⟨rfl, rfl⟩ : b4 = false ∧ b9 = false := hF.1.n0
                    refine st_build rfl (by kernel_rfl) (some 88) rfl 39 0 #[] rfl #[] (by kernel_rfl) (.slice (some ⟨V.heap.size, 0, none⟩) 0 0) _ (nil_str V) ?_
                    exact ⟨true, b1, b2, b3, false, b5, b6, b7, b8, false, b10, _, _, _, rfl, rfl, hF.1.s0, hF.2⟩
                  · obtain rfl : b1 = false := ready_self hr
                    obtain rfl : b3 = false := (by cases b3; rfl; exact absurd (hF.2.1 rfl) (by decide))
                    obtain rfl : b4 = false := (by cases b4; rfl; exact absurd (hF.2.2.1 rfl) (by decide))
                    obtain rfl : b9 = false := hF.1.n4
                    obtain rfl : b10 = false := (by cases b10; rfl; exact absurd (hF.2.2.2.2.2 rfl) (by decide))
                    refine st_val rfl (by kernel_rfl) (some 89) rfl (.slice (some ⟨bq, o9, none⟩) S.length cr) V (by kernel_rfl) ?_
                    exact ⟨b0, true, b2, false, false, b5, b6, b7, b8, false, false, _, _, _, rfl, rfl, hF.1, fun q => (by cases q), hF.2.2.1, hF.2.2.2.1, hF.2.2.2.2.1, hF.2.2.2.2.2⟩
                  · obtain rfl : b2 = false := ready_self hr
                    refine st_val rfl (by kernel_rfl) (some 90) rfl (.int .i64 0) V (by kernel_rfl) ?_
                    exact ⟨b0, b1, true, b3, b4, b5, b6, b7, b8, b9, b10, x88, x92, x97, rfl, rfl, hF⟩
                  · obtain rfl : b3 = false := ready_self hr
                    obtain rfl : b1 = true := ready_dep hr 1 (by kernel_rfl)
                    obtain rfl : b2 = true := ready_dep hr 2 (by kernel_rfl)
                    refine st_val rfl (by kernel_rfl) (some 91) rfl (.slice (some ⟨bq, o9, none⟩) 0 cr) V (ex_to rfl _ S.length cr 0 (by omega) (by kernel_rfl) (by kernel_rfl) V) ?_
                    exact ⟨b0, true, true, true, b4, b5, b6, b7, b8, b9, b10, _, _, _, rfl, rfl, hF.1, fun _ => rfl, fun _ => rfl, hF.2.2.2.1, hF.2.2.2.2.1, hF.2.2.2.2.2⟩
                  · obtain rfl : b4 = false := ready_self hr
                    obtain rfl : b0 = true := ready_dep hr 0 (by kernel_rfl)
                    obtain rfl : b3 = true := ready_dep hr 3 (by kernel_rfl)
                    obtain rfl : b9 = false := hF.1.n4
                    obtain ⟨v9, V9, hap9, hr9, hb9, -, -⟩ := app_str (hF.1.r0 rfl rfl) hF.1.bel.size (some ⟨bq, o9, none⟩) 0 cr SA (HA.out V hF.1.bel) hla (by show 0 ≤ _; omega) (by have := HSL.out; omega)
                    refine st_append rfl (by kernel_rfl) (some 92) rfl 39 rfl (.tmp 88) (.tmp 91) 39 rfl x88 (.slice (some ⟨bq, o9, none⟩) 0 cr) v9 V9 (by kernel_rfl) (by kernel_rfl) hap9 ?_
                    exact ⟨true, b1, b2, true, true, b5, b6, b7, b8, false, b10, _, _, _, rfl, rfl, hF.1.s4 hr9 hb9, hF.2.1, fun _ => rfl, hF.2.2.2.1, hF.2.2.2.2.1, hF.2.2.2.2.2⟩
                  · obtain rfl : b5 = false := ready_self hr
                    obtain rfl : b8 = false := (by cases b8; rfl; exact absurd (hF.2.2.2.1 rfl) (by decide))
                    obtain rfl : b9 = false := (by cases b9; rfl; exact absurd (hF.2.2.2.2.1 rfl) (by decide))
                    obtain rfl : b10 = false := (by cases b10; rfl; exact absurd (hF.2.2.2.2.2 rfl) (by decide))
                    refine st_val rfl (by kernel_rfl) (some 93) rfl (.slice (some ⟨bq, o9, none⟩) S.length cr) V (by kernel_rfl) ?_
                    exact ⟨b0, b1, b2, b3, b4, true, b6, b7, false, false, false, _, _, _, rfl, rfl, hF.1, hF.2.1, hF.2.2.1, fun q => (by cases q), hF.2.2.2.2.1, hF.2.2.2.2.2⟩
                  · obtain rfl : b6 = false := ready_self hr
                    refine st_val rfl (by kernel_rfl) (some 94) rfl (.int .i64 0) V (by kernel_rfl) ?_
                    exact ⟨b0, b1, b2, b3, b4, b5, true, b7, b8, b9, b10, x88, x92, x97, rfl, rfl, hF⟩
                  · obtain rfl : b7 = false := ready_self hr
                    obtain rfl : b6 = true := ready_dep hr 6 (by kernel_rfl)
                    refine st_val rfl (by kernel_rfl) (some 95) rfl (.int .i64 (0 + 1 : Nat)) V (add_one rfl 0 (by omega) (by kernel_rfl) _) ?_
                    exact ⟨b0, b1, b2, b3, b4, b5, true, true, b8, b9, b10, x88, x92, x97, rfl, rfl, hF⟩
                  · obtain rfl : b8 = false := ready_self hr
                    obtain rfl : b5 = true := ready_dep hr 5 (by kernel_rfl)
                    obtain rfl : b7 = true := ready_dep hr 7 (by kernel_rfl)
                    refine st_val rfl (by kernel_rfl) (some 96) rfl (.slice (fromS 1 (some ⟨bq, o9, none⟩) cr (0 + 1)) (S.length - (0 + 1)) (cr - (0 + 1))) V (ex_from rfl _ S.length cr (0 + 1) (by omega) (by kernel_rfl) (by kernel_rfl) V) ?_
                    exact ⟨b0, b1, b2, b3, b4, true, b6, true, true, b9, b10, _, _, _, rfl, rfl, hF.1, hF.2.1, hF.2.2.1, fun _ => rfl, fun _ => rfl, hF.2.2.2.2.2⟩
                  · obtain rfl : b9 = false := ready_self hr
                    obtain rfl : b4 = true := ready_dep hr 4 (by kernel_rfl)
                    obtain rfl : b8 = true := ready_dep hr 8 (by kernel_rfl)
                    obtain rfl : b10 = false := (by cases b10; rfl; exact absurd (hF.2.2.2.2.2 rfl) (by decide))
                    obtain ⟨v9, V9, hap9, hr9, hb9, -, -⟩ := app_str (hF.1.r4 rfl rfl) hF.1.bel.size (fromS 1 (some ⟨bq, o9, none⟩) cr (0 + 1)) (S.length - (0 + 1)) (cr - (0 + 1)) SM (HM.out V hF.1.bel) hlm (by have := HSL.out; omega) (by have := HSL.out; omega)
                    refine st_append rfl (by kernel_rfl) (some 97) rfl 39 rfl (.tmp 92) (.tmp 96) 39 rfl x92 (.slice (fromS 1 (some ⟨bq, o9, none⟩) cr (0 + 1)) (S.length - (0 + 1)) (cr - (0 + 1))) v9 V9 (by kernel_rfl) (by kernel_rfl) hap9 ?_
                    exact ⟨b0, b1, b2, b3, true, b5, b6, b7, true, true, false, _, _, _, rfl, rfl, hF.1.s9 hr9 hb9, hF.2.1, hF.2.2.1, hF.2.2.2.1, fun _ => rfl, fun _ => rfl⟩
                  · obtain rfl : b10 = false := ready_self hr
                    obtain rfl : b9 = true := ready_dep hr 9 (by kernel_rfl)
                    refine st_val rfl (by kernel_rfl) (some 10) rfl x97 V (by kernel_rfl) ?_
                    exact ⟨b0, b1, b2, b3, b4, b5, b6, b7, b8, true, true, _, _, _, rfl, rfl, hF.1, hF.2.1, hF.2.2.1, hF.2.2.2.1, hF.2.2.2.2.1, fun _ => rfl⟩
                · intro act9 V hJ
                  obtain ⟨b0, b1, b2, b3, b4, b5, b6, b7, b8, b9, b10, x88, x92, x97, he, rfl, hF⟩ := hJ
                  have he : (#[true, true, true, true, true, true, true, true, true, true, true] : Array Bool) = #[b0, b1, b2, b3, b4, b5, b6, b7, b8, b9, b10] := he
                  simp only [Array.mk.injEq, List.cons.injEq, and_true] at he
                  obtain ⟨rfl, rfl, rfl, rfl, rfl, rfl, rfl, rfl, rfl, rfl, rfl⟩ := he
                  simp only [cond_true]
                  have hb17 := hF.1.bel
                  have HBRF := Lib.hid (HBR8.out.trans (hb17.mono HBR8.out.size))
                  have HRF : Hid (∃ a c, x97 = .slice a (SA ++ SM).length c ∧ Cs V a (strs (SA ++ SM)) ∧ (SA ++ SM).length ≤ c) := Lib.hid (hF.1.r9 rfl).cs
                  clear hF h0 hb17
                  go_upto_region 10 with fail
                  refine wl <| gz1 (.int .i64 i) <| gzv (.int .i64 (i + 1 : Nat)) (add_one rfl i (by omega) (by kernel_rfl) _) <| gz1 (.int .i64 (i + 1 : Nat)) <| wn ?_
                  simp only [pu]
                  go_wp2_with fail
                  go_roundg (rem.take 0 ++ rem.drop (0 + 1)).length
                  case measure => omega
                  case rel => exact ⟨i + 1, b87, x97, _, _, rfl, rfl, rfl, rfl, by omega, by omega, HRF, HMP2, Lib.hid (HSP3.out.mono (by omega)), HBRF⟩
              · skip
                go_upto_region 15 with fail
                refine wl <| gz1 (.int .i64 i) <| gzw (.int .i64 (i % 4 : Nat)) (rem_nn rfl i 4 (by omega)) <| gzb (eql_nn rfl (i % 4) 1 (decide_eq_false h4)) <| wn ?_
                simp only [pu]
                have HA : Hid (∀ V, Below W7.heap.size W7 V → Cs V (some ⟨bq, o9, none⟩) (strs (S.take 0))) := Lib.hid fun V hb => by rw [← strs_take]; exact (hcs7.below hb).take 0
                have HM : Hid (∀ V, Below W7.heap.size W7 V → Cs V (fromS 1 (some ⟨bq, o9, none⟩) cr (0 + 1)) (strs (S.drop (0 + 1)))) := Lib.hid fun V hb => by rw [← strs_drop]; exact (hcs7.below hb).from 1 cr (0 + 1) (by rw [strs_len]; omega)
                have hla : (S.take 0).length = 0 := by rw [List.length_take]; omega
                have hlm : (S.drop (0 + 1)).length = S.length - (0 + 1) := List.length_drop ..
                have HMP2 : Hid ((S.take 0 ++ S.drop (0 + 1)).map nums = (rem.take 0 ++ rem.drop (0 + 1)).map (lineO cf)) := Lib.hid (by rw [List.map_append, List.map_append, List.map_take, List.map_drop, HMP.out, List.map_take, List.map_drop])
                have hrl : (rem.take 0 ++ rem.drop (0 + 1)).length + 1 = rem.length := by rw [List.length_append, List.length_take, List.length_drop]; omega
                have h0 : KT W7 (S.take 0) (S.drop (0 + 1)) false false false u88 u92 u97 W7.drew ∧ (false = true → false = true) ∧ (false = true → false = true) ∧ (false = true → false = true) ∧ (false = true → false = true) ∧ (false = true → false = true) := ⟨KT.start W7 (S.take 0) (S.drop (0 + 1)) u88 u92 u97, id, id, id, id, id⟩
                have HSL : Hid (S.length ≤ 13) := Lib.hid (by omega)
                generalize S.take 0 = SA at *
                generalize S.drop (0 + 1) = SM at *
                go_upto_region 17 with fail
                refine wp_region_inv (fun listed act9 V => ∃ b0 b1 b2 b3 b4 b5 b6 b7 b8 b9 b10 : Bool, ∃ x88 x92 x97 : Value, listed = #[b0, b1, b2, b3, b4, b5, b6, b7, b8, b9, b10] ∧ act9 = { tmps := #[.slice a L.length c, .slice ao Lo.length co, .slice ap Lp.length cp, undef, undef, .pointer (some ⟨g5, 0, none⟩), .bool false, .pointer (some ⟨g7, 0, none⟩), .string F, .int .i64 0, (cond b10 (x97) (.slice (some ⟨bq, o9, none⟩) S.length cr)), .func (.func 23) #[] #[.pointer (some ⟨g5, 0, none⟩)], .string b78, .int .i64 i, .int .i64 0, undef, undef, undef, .slice a L.length c, .slice ao Lo.length co, .slice (some ⟨W.heap.size, 0, none⟩) 2 2, .bool false, .bool false, .slice ap Lp.length cp, .int .i64 Lp.length, .bool false, .bool false, undef, .slice a L.length c, .pointer (some ⟨gn, 0, none⟩), .agg CC, .tuple #[.string F, .int .i64 0], .agg CC, .tuple #[.string F, .int .i64 0], .string F, .int .i64 0, .string F, .slice a9 S0.length c9, .func (.func 23) #[] #[.pointer (some ⟨g5, 0, none⟩)], .slice (some ⟨bq, o9, none⟩) S.length cr, .int .i64 S.length, .bool true, u42, u43, .slice ao Lo.length co, .int .i64 Lo.length, .bool false, u47, u48, u49, u50, u51, u52, u53, u54, u55, u56, .string u, .func (.func 23) #[] #[.pointer (some ⟨g5, 0, none⟩)], .int .i64 i, .string y60, .slice (some ⟨bq, o9, none⟩) S.length cr, .int .i64 0, .pointer (some ⟨bq, o9 + 0, none⟩), .string ln, .string b65, .func (.func 23) #[] #[.pointer (some ⟨g5, 0, none⟩)], .int .i64 i, .int .i64 (i + 1 : Nat), .string y69, .string b70, x71, .int .i64 i, .int .i64 (i % 3 : Nat), x74, .string s75, .string b76, .string b77, .string b78, .int .i64 i, .int .i64 (i % 4 : Nat), .bool false, u82, u83, u84, u85, u86, u87, x88, (cond b1 (.slice (some ⟨bq, o9, none⟩) S.length cr) (u89)), (cond b2 (.int .i64 0) (u90)), (cond b3 (.slice (some ⟨bq, o9, none⟩) 0 cr) (u91)), x92, (cond b5 (.slice (some ⟨bq, o9, none⟩) S.length cr) (u93)), (cond b6 (.int .i64 0) (u94)), (cond b7 (.int .i64 (0 + 1 : Nat)) (u95)), (cond b8 (.slice (fromS 1 (some ⟨bq, o9, none⟩) cr (0 + 1)) (S.length - (0 + 1)) (cr - (0 + 1))) (u96)), x97, undef, undef, undef, undef, undef, undef, undef, undef, undef, undef, undef, undef, undef, undef, undef, undef, undef, undef, undef, undef], defers := [] } ∧ KT W7 SA SM b0 b4 b9 x88 x92 x97 V ∧ (b3 = true → b1 = true) ∧ (b4 = true → b3 = true) ∧ (b8 = true → b5 = true) ∧ (b9 = true → b8 = true) ∧ (b10 = true → b9 = true)) (by kernel_rfl) (by kernel_rfl) ?_ ?_ ?_
                · exact ⟨false, false, false, false, false, false, false, false, false, false, false, u88, u92, u97, rfl, rfl, h0⟩
                · intro i9 listed act9 V hi9 hr hJ
                  obtain ⟨b0, b1, b2, b3, b4, b5, b6, b7, b8, b9, b10, x88, x92, x97, rfl, rfl, hF⟩ := hJ
                  have hi2 : i9 < 11 := hi9
                  have hi3 : i9 = 0 ∨ i9 = 1 ∨ i9 = 2 ∨ i9 = 3 ∨ i9 = 4 ∨ i9 = 5 ∨ i9 = 6 ∨ i9 = 7 ∨ i9 = 8 ∨ i9 = 9 ∨ i9 = 10 := by omega
                  rcases hi3 with rfl | rfl | rfl | rfl | rfl | rfl | rfl | rfl | rfl | rfl | rfl
                  · obtain rfl : b0 = false := ready_self hr
                    obtain ⟨rfl, rfl⟩ : b4 = false ∧ b9 = false := hF.1.n0
                    refine st_build rfl (by kernel_rfl) (some 88) rfl 39 0 #[] rfl #[] (by kernel_rfl) (.slice (some ⟨V.heap.size, 0, none⟩) 0 0) _ (nil_str V) ?_
                    exact ⟨true, b1, b2, b3, false, b5, b6, b7, b8, false, b10, _, _, _, rfl, rfl, hF.1.s0, hF.2⟩
                  · obtain rfl : b1 = false := ready_self hr
                    obtain rfl : b3 = false := (by cases b3; rfl; exact absurd (hF.2.1 rfl) (by decide))
                    obtain rfl : b4 = false := (by cases b4; rfl; exact absurd (hF.2.2.1 rfl) (by decide))
                    obtain rfl : b9 = false := hF.1.n4
                    obtain rfl : b10 = false := (by cases b10; rfl; exact absurd (hF.2.2.2.2.2 rfl) (by decide))
                    refine st_val rfl (by kernel_rfl) (some 89) rfl (.slice (some ⟨bq, o9, none⟩) S.length cr) V (by kernel_rfl) ?_
                    exact ⟨b0, true, b2, false, false, b5, b6, b7, b8, false, false, _, _, _, rfl, rfl, hF.1, fun q => (by cases q), hF.2.2.1, hF.2.2.2.1, hF.2.2.2.2.1, hF.2.2.2.2.2⟩
                  · obtain rfl : b2 = false := ready_self hr
                    refine st_val rfl (by kernel_rfl) (some 90) rfl (.int .i64 0) V (by kernel_rfl) ?_
                    exact ⟨b0, b1, true, b3, b4, b5, b6, b7, b8, b9, b10, x88, x92, x97, rfl, rfl, hF⟩
                  · obtain rfl : b3 = false := ready_self hr
                    obtain rfl : b1 = true := ready_dep hr 1 (by kernel_rfl)
                    obtain rfl : b2 = true := ready_dep hr 2 (by kernel_rfl)
                    refine st_val rfl (by kernel_rfl) (some 91) rfl (.slice (some ⟨bq, o9, none⟩) 0 cr) V (ex_to rfl _ S.length cr 0 (by omega) (by kernel_rfl) (by kernel_rfl) V) ?_
                    exact ⟨b0, true, true, true, b4, b5, b6, b7, b8, b9, b10, _, _, _, rfl, rfl, hF.1, fun _ => rfl, fun _ => rfl, hF.2.2.2.1, hF.2.2.2.2.1, hF.2.2.2.2.2⟩
                  · obtain rfl : b4 = false := ready_self hr
                    obtain rfl : b0 = true := ready_dep hr 0 (by kernel_rfl)
                    obtain rfl : b3 = true := ready_dep hr 3 (by kernel_rfl)
                    obtain rfl : b9 = false := hF.1.n4
                    obtain ⟨v9, V9, hap9, hr9, hb9, -, -⟩ := app_str (hF.1.r0 rfl rfl) hF.1.bel.size (some ⟨bq, o9, none⟩) 0 cr SA (HA.out V hF.1.bel) hla (by show 0 ≤ _; omega) (by have := HSL.out; omega)
                    refine st_append rfl (by kernel_rfl) (some 92) rfl 39 rfl (.tmp 88) (.tmp 91) 39 rfl x88 (.slice (some ⟨bq, o9, none⟩) 0 cr) v9 V9 (by kernel_rfl) (by kernel_rfl) hap9 ?_
                    exact ⟨true, b1, b2, true, true, b5, b6, b7, b8, false, b10, _, _, _, rfl, rfl, hF.1.s4 hr9 hb9, hF.2.1, fun _ => rfl, hF.2.2.2.1, hF.2.2.2.2.1, hF.2.2.2.2.2⟩
                  · obtain rfl : b5 = false := ready_self hr
                    obtain rfl : b8 = false := (by cases b8; rfl; exact absurd (hF.2.2.2.1 rfl) (by decide))
                    obtain rfl : b9 = false := (by cases b9; rfl; exact absurd (hF.2.2.2.2.1 rfl) (by decide))
                    obtain rfl : b10 = false := (by cases b10; rfl; exact absurd (hF.2.2.2.2.2 rfl) (by decide))
                    refine st_val rfl (by kernel_rfl) (some 93) rfl (.slice (some ⟨bq, o9, none⟩) S.length cr) V (by kernel_rfl) ?_
                    exact ⟨b0, b1, b2, b3, b4, true, b6, b7, false, false, false, _, _, _, rfl, rfl, hF.1, hF.2.1, hF.2.2.1, fun q => (by cases q), hF.2.2.2.2.1, hF.2.2.2.2.2⟩
                  · obtain rfl : b6 = false := ready_self hr
                    refine st_val rfl (by kernel_rfl) (some 94) rfl (.int .i64 0) V (by kernel_rfl) ?_
                    exact ⟨b0, b1, b2, b3, b4, b5, true, b7, b8, b9, b10, x88, x92, x97, rfl, rfl, hF⟩
                  · obtain rfl : b7 = false := ready_self hr
                    obtain rfl : b6 = true := ready_dep hr 6 (by kernel_rfl)
                    refine st_val rfl (by kernel_rfl) (some 95) rfl (.int .i64 (0 + 1 : Nat)) V (add_one rfl 0 (by omega) (by kernel_rfl) _) ?_
                    exact ⟨b0, b1, b2, b3, b4, b5, true, true, b8, b9, b10, x88, x92, x97, rfl, rfl, hF⟩
                  · obtain rfl : b8 = false := ready_self hr
                    obtain rfl : b5 = true := ready_dep hr 5 (by kernel_rfl)
                    obtain rfl : b7 = true := ready_dep hr 7 (by kernel_rfl)
                    refine st_val rfl (by kernel_rfl) (some 96) rfl (.slice (fromS 1 (some ⟨bq, o9, none⟩) cr (0 + 1)) (S.length - (0 + 1)) (cr - (0 + 1))) V (ex_from rfl _ S.length cr (0 + 1) (by omega) (by kernel_rfl) (by kernel_rfl) V) ?_
                    exact ⟨b0, b1, b2, b3, b4, true, b6, true, true, b9, b10, _, _, _, rfl, rfl, hF.1, hF.2.1, hF.2.2.1, fun _ => rfl, fun _ => rfl, hF.2.2.2.2.2⟩
                  · obtain rfl : b9 = false := ready_self hr
                    obtain rfl : b4 = true := ready_dep hr 4 (by kernel_rfl)
                    obtain rfl : b8 = true := ready_dep hr 8 (by kernel_rfl)
                    obtain rfl : b10 = false := (by cases b10; rfl; exact absurd (hF.2.2.2.2.2 rfl) (by decide))
                    obtain ⟨v9, V9, hap9, hr9, hb9, -, -⟩ := app_str (hF.1.r4 rfl rfl) hF.1.bel.size (fromS 1 (some ⟨bq, o9, none⟩) cr (0 + 1)) (S.length - (0 + 1)) (cr - (0 + 1)) SM (HM.out V hF.1.bel) hlm (by have := HSL.out; omega) (by have := HSL.out; omega)
                    refine st_append rfl (by kernel_rfl) (some 97) rfl 39 rfl (.tmp 92) (.tmp 96) 39 rfl x92 (.slice (fromS 1 (some ⟨bq, o9, none⟩) cr (0 + 1)) (S.length - (0 + 1)) (cr - (0 + 1))) v9 V9 (by kernel_rfl) (by kernel_rfl) hap9 ?_
                    exact ⟨b0, b1, b2, b3, true, b5, b6, b7, true, true, false, _, _, _, rfl, rfl, hF.1.s9 hr9 hb9, hF.2.1, hF.2.2.1, hF.2.2.2.1, fun _ => rfl, fun _ => rfl⟩
                  · obtain rfl : b10 = false := ready_self hr
                    obtain rfl : b9 = true := ready_dep hr 9 (by kernel_rfl)
                    refine st_val rfl (by kernel_rfl) (some 10) rfl x97 V (by kernel_rfl) ?_
                    exact ⟨b0, b1, b2, b3, b4, b5, b6, b7, b8, true, true, _, _, _, rfl, rfl, hF.1, hF.2.1, hF.2.2.1, hF.2.2.2.1, hF.2.2.2.2.1, fun _ => rfl⟩
                · intro act9 V hJ
                  obtain ⟨b0, b1, b2, b3, b4, b5, b6, b7, b8, b9, b10, x88, x92, x97, he, rfl, hF⟩ := hJ
                  have he : (#[true, true, true, true, true, true, true, true, true, true, true] : Array Bool) = #[b0, b1, b2, b3, b4, b5, b6, b7, b8, b9, b10] := he
                  simp only [Array.mk.injEq, List.cons.injEq, and_true] at he
                  obtain ⟨rfl, rfl, rfl, rfl, rfl, rfl, rfl, rfl, rfl, rfl, rfl⟩ := he
                  simp only [cond_true]
                  have hb17 := hF.1.bel
                  have HBRF := Lib.hid (HBR7.out.trans (hb17.mono HBR7.out.size))
                  have HRF : Hid (∃ a c, x97 = .slice a (SA ++ SM).length c ∧ Cs V a (strs (SA ++ SM)) ∧ (SA ++ SM).length ≤ c) := Lib.hid (hF.1.r9 rfl).cs
                  clear hF h0 hb17
                  go_upto_region 10 with fail
                  refine wl <| gz1 (.int .i64 i) <| gzv (.int .i64 (i + 1 : Nat)) (add_one rfl i (by omega) (by kernel_rfl) _) <| gz1 (.int .i64 (i + 1 : Nat)) <| wn ?_
                  simp only [pu]
                  go_wp2_with fail
                  go_roundg (rem.take 0 ++ rem.drop (0 + 1)).length
                  case measure => omega
                  case rel => exact ⟨i + 1, b78, x97, _, _, rfl, rfl, rfl, rfl, by omega, by omega, HRF, HMP2, Lib.hid (HSP2.out.mono (by omega)), HBRF⟩
        · skip
          have hS0 : S.length = 0 := by omega
          have hrem : rem = [] := List.eq_nil_of_length_eq_zero (by have := HSR.out; omega)
          subst hrem
          have hpx := HSP.out.fin (by have : i = 13 := by simpa using hir
                                      omega) HCL.out HC1011.out
          have hpv := HPV.out _ hpx u rfl
          have CPR := HQ.p u (by have : i = 13 := by simpa using hir
                                 omega) wr (HB5.out.trans (HBR.out.mono HB5.out.size))
          rw [hpv] at CPR
          have hX7 := HX75.out.below HX75.out.lt HBR.out
          clear hpv hpx
          go_upto_region 9 with fail
          refine wl <| gz2 (.slice ar S.length cr) (.int .i64 S.length) <| gzb (gtr_n rfl S.length 0 dF) <| wn ?_
          simp only [pu]
          go_upto_region 18 with fail
          refine wl <| gz1 (.string u) <| gzc (.tuple #[.agg CC, .int .i64 0, .int .i64 0]) (fun w' => Below wr.heap.size wr w') (CPR) (fun V7 hb7 => ?_)
          obtain ⟨V8, hst8, hb8, hX15⟩ := NB.out V7
          simp only [pu]
          refine gz4 (.tuple #[.agg CC, .int .i64 0, .int .i64 0]) (.agg CC) (.int .i64 0) (.int .i64 0) ?_
          simp only [pu]
          refine run_to rfl (some 15) rfl (.pointer (some ⟨V7.heap.size, 0, none⟩)) (V7.alloc (.cells #[.int .i64 0, .int .i64 0, .int .i64 0, .int .i64 0, .int .i64 0, .int .i64 0, .bool false, .int .i64 0, .int .i64 0, .int .u64 0, .int .i64 0, .int .i64 0] 24)) (by kernel_rfl) ?_
          simp only [pu]
          refine gzs rfl (hst8) <| gz2 (.int .i64 0) (.int .i64 0) <| wn ?_
          simp only [pu]
          have h78 := hb7.trans (hb8.mono hb7.size)
          have HR8 := Lib.hid (HBR.out.trans (h78.mono HBR.out.size))
          have hX78 := hX7.below hX7.lt h78
          obtain ⟨g15, hg15⟩ : ∃ g, V7.heap.size = g := ⟨_, rfl⟩
          rw [hg15] at hX15
          simp only [hg15]
          have hl15 := LD.out _ _ hX15
          have hl7 := LD.out _ _ hX78
          clear hst8 hb7 hb8 h78 hg15 hX7 CPR
          go_upto_region 19 with fail
          refine wl <| gz1 (.int .i64 0) <| gzb (eql_e rfl 0 0 (decide_eq_true rfl)) <| gz2 (.bool true) (.int .i64 0) <| gzb (eql_n rfl 0 0 (decide_eq_true rfl)) <| gz2 (.bool true) (.bool true) <|
            gzl rfl ⟨g15, 0, none⟩ (.agg CC) (hl15) <| gzl rfl ⟨g7, 0, none⟩ (.agg CC) (hl7) <| gzv (.bool true) (HEQ.out _ _ _ _ rfl (by kernel_rfl) (by kernel_rfl) _) <| gz2 (.bool true) (.bool true) <|
            gzc (.bool true) (fun w' => Below V8.heap.size V8 w') (known_true HQ V8 (HB5.out.trans (HR8.out.mono HB5.out.size))) (fun V9 hb9 => ?_)
          simp only [pu]
          refine gz2 (.bool true) (.bool true) <| wn ?_
          simp only [pu]
          have HE := Lib.hid (HB5.out.trans ((HR8.out.trans (hb9.mono HR8.out.size)).mono HB5.out.size))
          clear hl15 hl7 hb9
          go_wp2_with fail
          go_ret
          exact ⟨rfl, HE.out⟩
end Go.Proofs.YtplfineaomneiaaDoor
