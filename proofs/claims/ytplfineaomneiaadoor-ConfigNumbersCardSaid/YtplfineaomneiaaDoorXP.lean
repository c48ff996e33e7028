/-
 The program's parse: contract.
-/
import Derived.Test.YtplfineaomneiaaDoorXI
import Derived.Test.YtplfineaomneiaaDoorXL
import Derived.Test.YtplfineaomneiaaDoorRZ
import Derived.Lib.AtoiErrMem
namespace Go.Proofs.YtplfineaomneiaaDoor
attribute [local irreducible] wpList wpQuiet
open Go.RowKit
set_option maxRecDepth 100000
set_option linter.unusedSimpArgs false
set_option linter.unusedVariables false

/-- What a text is as a value of a key. -/
def prsX (i : Nat) (s : List Int) : Int × Int :=
 if i = 8 ∧ s = [45, 49] then (-1, 0)
 else if digitsX s = false then (0, 2)
 else if inR i (dval s) then (dval s, 0) else (0, 1)
theorem pu_dig : ∀ (l : List UInt8) (a : Nat), (∀ b ∈ l, 48 ≤ b.toNat ∧ b.toNat ≤ 57) → a < 18446744073709551616 → Lib.parseUintM 18446744073709551615 a l = if dvalF (l.map fun b => (b.toNat : Int)) a < 18446744073709551616 then .ok (dvalF (l.map fun b => (b.toNat : Int)) a).toNat else .range
 | [], a, _, ha => by
  show Lib.NumEnd.ok a = _
  rw [show dvalF (([] : List UInt8).map fun b => (b.toNat : Int)) a = (a : Int) from rfl, if_pos (by omega), Int.toNat_natCast]
 | c :: r, a, h, ha => by
  have hc := h c (by simp)
  have hr : ∀ b ∈ r, 48 ≤ b.toNat ∧ b.toNat ≤ 57 := fun b hb => h b (by simp [hb])
  have hge : ∀ n : Int, 0 ≤ n → n ≤ dvalF (r.map fun b => (b.toNat : Int)) n := fun n hn => dvalF_ge _ n (fun x hx => by
   obtain ⟨b, hb, rfl⟩ := List.mem_map.1 hx
   have := (hr b hb).1
   omega) hn
  have e : dvalF ((c :: r).map fun b => (b.toNat : Int)) a = dvalF (r.map fun b => (b.toNat : Int)) ((a * 10 + (c.toNat - 48) : Nat) : Int) := by
   show dvalF (r.map fun b => (b.toNat : Int)) (10 * (a : Int) + ((c.toNat : Int) - 48)) = _
   congr 1
   omega
  rw [e]
  unfold Lib.parseUintM
  rw [if_pos hc]
  by_cases h1 : 1844674407370955162 ≤ a
  ·rw [if_pos h1, if_neg]
   have := hge ((a * 10 + (c.toNat - 48) : Nat) : Int) (by omega)
   omega
  ·rw [if_neg h1]
   by_cases h2 : 18446744073709551615 < a * 10 + (c.toNat - 48)
   ·rw [if_pos h2, if_neg]
    have := hge ((a * 10 + (c.toNat - 48) : Nat) : Int) (by omega)
    omega
   ·rw [if_neg h2]
    exact pu_dig r _ hr (by omega)
theorem dig_all {L : List Int} (h : digitsX L = true) : (∀ x ∈ L, 48 ≤ x ∧ x ≤ 57) ∧ L ≠ [] := by
 unfold digitsX at h
 rw [Bool.and_eq_true, List.all_eq_true, Bool.and_eq_true, decide_eq_true_eq] at h
 refine ⟨fun x hx => ?_, h.2.1⟩
 have := h.1 x hx
 rwa [Bool.and_eq_true, decide_eq_true_eq, decide_eq_true_eq] at this
theorem pu_text {s : ByteArray} (h : digitsX (nums s) = true) : Lib.parseUintB 64 s.data.toList = if dval (nums s) < 18446744073709551616 then .ok (dval (nums s)).toNat else .range := by
 obtain ⟨h1, h2⟩ := dig_all h
 have e : nums s = s.data.toList.map fun b => (b.toNat : Int) := rfl
 unfold Lib.parseUintB
 rw [if_neg (fun q => h2 (by rw [e, q]; rfl)), show 2 ^ 64 - 1 = 18446744073709551615 from rfl, pu_dig _ 0 (fun b hb => by
  have := h1 (b.toNat : Int) (by rw [e]; exact List.mem_map.2 ⟨b, hb, rfl⟩)
  omega) (by omega)]
 rfl
theorem inR_grP {i : Nat} (hi : i < 12) (v : Int) : inR i v = (decide (leastL.getD i 0 ≤ v) && decide (v ≤ grP.getD i 0)) := by
 unfold inR
 match i, hi with
 | 0, _ => rfl
 | 1, _ => rfl
 | 2, _ => rfl
 | 3, _ => rfl
 | 4, _ => rfl
 | 5, _ => rfl
 | 6, _ => rfl
 | 7, _ => rfl
 | 8, _ => rfl
 | 9, _ => rfl
 | 10, _ => rfl
 | 11, _ => rfl
theorem inR_top {i : Nat} (hi : i < 12) {v : Int} (h : ¬ v < 18446744073709551616) : inR i v = false := by
 rw [inR_grP hi]
 have hm : ∀ i, i < 12 → grP.getD i 0 ≤ 18446744073709551615 := by decide +kernel
 have := hm i hi
 rw [show decide (v ≤ grP.getD i 0) = false from decide_eq_false (by omega), Bool.and_false]
theorem least_neg : ∀ i, i < 12 → (leastL.getD i 0 < 0 ↔ i = 8) := by decide +kernel
theorem p_pu_ok {s : ByteArray} {u : Nat} (hl : s.size ≤ 90000) (h : Lib.parseUintB 64 s.data.toList = .ok u) (w : World) : Calls Tryd.prog 65 #[.string s, .int .i64 10, .int .i64 64] w fun e w' => e = .returned (.tuple #[.int .u64 u, .nilIface]) ∧ Below w.heap.size w w' :=
 (strconv_ParseUint_10_at64_ok s (by omega) u h w).mono fun e w' z => ⟨z.1, by
  rcases z.2 with rfl | rfl
  ·exact Below.refl _ _
  ·exact Lib.bytesWorld_below w _ s⟩
def PuR (w : World) (v : Value) (w' : World) : Prop := ∃ N, v = .tuple #[.int .u64 18446744073709551615, .iface 135 (.pointer (some ⟨N, 0, none⟩))] ∧ Below w.heap.size w w'
theorem p_pu_range {s : ByteArray} (hl : s.size ≤ 90000) (h : Lib.parseUintB 64 s.data.toList = .range) (w : World) (hG : Glob w) : Calls Tryd.prog 65 #[.string s, .int .i64 10, .int .i64 64] w fun e w' => ∃ v, e = .returned v ∧ PuR w v w' := by
 obtain ⟨tp, p, hv⟩ := hG.err
 refine (strconv_ParseUint_10_at64_range_var s (by omega) h tp p w hv).mono fun e w' z => ?_
 obtain ⟨n, h1, -, -, h4⟩ := z
 exact ⟨_, h1, n, rfl, h4⟩
section
variable {ρ : Operand → Value} {o : Oper} {x y : Operand}
theorem neq_err (ho : o.op = .binOp .neq 71 x y 71) (tp : TypeId) (p : Value) (hx : ρ x = .iface tp p) (hy : ρ y = .nilIface) (w : World) : (execOp ρ o).run Tryd.prog w = .ok (.value (.bool true)) w := by
 unfold execOp
 simp only [ho, hx, hy]
 go_simp
end
set_option maxRecDepth 100000 in
set_option maxHeartbeats 8000000 in
theorem p_parse {g i : Nat} (hi : i < 12) (s : ByteArray) (hl : s.size ≤ 90000) (w : World) (hG : Glob w) : Calls Tryd.prog 51 #[.agg (sgA g i), .string s] w fun e w' => e = .returned (.tuple #[.agg (nuA (decide ((prsX i (nums s)).1 < 0)) (absI (prsX i (nums s)).1)), .int .i64 (prsX i (nums s)).2]) ∧ Below w.heap.size w w' := by
 have CD := fun V => p_dec s (by omega) V
 have CW : ∀ V, Calls Tryd.prog 43 #[.int .i64 (-1)] V fun e w' => e = .returned (.agg #[.bool true, .int .u64 1]) ∧ Below V.heap.size V w' := fun V => p_whole (n := -1) (by omega) V
 have HAL := fun v V => p_allowsS (g := g) hi v V
 have HIR := fun v => inR_grP hi v
 have HBIG := fun v (h : ¬ v < 18446744073709551616) => inR_top hi h
 have HLN := least_neg i hi
 have HPT := pu_text (s := s)
 have HG : Hid (∀ V, Below w.heap.size w V → Glob V) := Lib.hid fun V h => hG.below h
 have HM1 : Hid (s = ⟨#[45, 49]⟩ ↔ nums s = [45, 49]) := Lib.hid ⟨fun e => by rw [e]; rfl, fun e => nums_inj (by rw [e]; rfl)⟩
 have HV0 : 0 ≤ dval (nums s) ∨ digitsX (nums s) = false := by
  by_cases h : digitsX (nums s) = true
  ·refine .inl (dvalF_ge _ 0 (fun x hx => ((dig_all h).1 x hx).1) (Int.le_refl 0))
  ·exact .inr (by cases hq : digitsX (nums s) with
    | true => exact absurd hq h
    | false => rfl)
 have hsg : sgA g i = #[.string (keysB.getD i ⟨#[]⟩), .iface (tyN i) (.pointer (some ⟨g, i, none⟩)), .int .i64 (leastL.getD i 0), .int .u64 (grP.getD i 0)] := rfl
 have hone : (sgA g i).all (·.oneCell') = true := sg_one g i
 obtain ⟨R, hR⟩ : ∃ R, prsX i (nums s) = R := ⟨_, rfl⟩
 rw [hR]
 have hR1 : i = 8 ∧ nums s = [45, 49] → R = (-1, 0) := fun h => by rw [← hR]; unfold prsX; rw [if_pos h]
 have hR2 : ¬ (i = 8 ∧ nums s = [45, 49]) → digitsX (nums s) = false → R = (0, 2) := fun h h2 => by rw [← hR]; unfold prsX; rw [if_neg h, if_pos h2]
 have hR3 : ¬ (i = 8 ∧ nums s = [45, 49]) → digitsX (nums s) = true → inR i (dval (nums s)) = false → R = (0, 1) := fun h h2 h3 => by rw [← hR]; unfold prsX; rw [if_neg h, if_neg (by rw [h2]; decide), if_neg (by rw [h3]; decide)]
 have hR4 : ¬ (i = 8 ∧ nums s = [45, 49]) → digitsX (nums s) = true → inR i (dval (nums s)) = true → R = (dval (nums s), 0) := fun h h2 h3 => by rw [← hR]; unfold prsX; rw [if_neg h, if_neg (by rw [h2]; decide), if_pos h3]
 clear hR
 rw [← HM1.out] at hR1 hR2 hR3 hR4
 rw [hsg] at HAL hone ⊢
 generalize (.iface (tyN i) (.pointer (some ⟨g, i, none⟩)) : Value) = fv at *
 generalize keysB.getD i (⟨#[]⟩ : ByteArray) = kb at *
 obtain ⟨lo, hlo⟩ : ∃ z, leastL.getD i 0 = z := ⟨_, rfl⟩
 rw [hlo] at HAL HIR HLN hone ⊢
 generalize grP.getD i 0 = up at *
 obtain ⟨dg, hdg⟩ : ∃ d, digitsX (nums s) = d := ⟨_, rfl⟩
 rw [hdg] at CD hR2 hR3 hR4 HV0 HPT
 obtain ⟨dv, hdv⟩ : ∃ d, dval (nums s) = d := ⟨_, rfl⟩
 rw [hdv] at hR3 hR4 HV0 HPT
 clear HM1 hdg hdv hsg hG hlo
 go_enter Tryd.func51, Tryd.ntmps51
 go_upto_region 1 with fail
 change Code.wp _ _ _ _ ((w.alloc (.cells #[.string kb, fv, .int .i64 lo, .int .u64 up] 59)).alloc (.cells #[.bool false, .int .u64 0] 62))
 have hb_0 : Below w.heap.size w (w.alloc (.cells #[.string kb, fv, .int .i64 lo, .int .u64 up] 59)) := (Below.refl _ w).alloc (Nat.le_refl _) _
 have hX2 : Bx (w.alloc (.cells #[.string kb, fv, .int .i64 lo, .int .u64 up] 59)) w.heap.size #[.string kb, fv, .int .i64 lo, .int .u64 up] 59 := heap_alloc_last w _
 have hs_0 : (w.alloc (.cells #[.string kb, fv, .int .i64 lo, .int .u64 up] 59)).heap.size = w.heap.size + 1 := by simp
 generalize w.alloc (.cells #[.string kb, fv, .int .i64 lo, .int .u64 up] 59) = W0_ at *
 have hb_1 : Below w.heap.size w (W0_.alloc (.cells #[.bool false, .int .u64 0] 62)) := hb_0.alloc hb_0.size _
 have hX2 := hX2.below hX2.lt ((Below.refl _ W0_).alloc (Nat.le_refl _) (.cells #[.bool false, .int .u64 0] 62))
 have hX4 : Bx (W0_.alloc (.cells #[.bool false, .int .u64 0] 62)) W0_.heap.size #[.bool false, .int .u64 0] 62 := heap_alloc_last W0_ _
 have hs_1 : (W0_.alloc (.cells #[.bool false, .int .u64 0] 62)).heap.size = W0_.heap.size + 1 := by simp
 generalize W0_.alloc (.cells #[.bool false, .int .u64 0] 62) = W at *
 obtain ⟨g2, hg2⟩ : ∃ g, w.heap.size = g := ⟨_, rfl⟩
 rw [hg2] at hX2
 obtain ⟨g4, hg4⟩ : ∃ g, W0_.heap.size = g := ⟨_, rfl⟩
 rw [hg4] at hX4
 have hq1 : w.heap.size + 1 = g4 := by omega
 have HGE : Hid (g2 = w.heap.size + 0 ∧ g4 = w.heap.size + 1 ∧ W.heap.size = w.heap.size + 2) := Lib.hid ⟨by omega, by omega, by omega⟩
 have HB := Lib.hid hb_1
 simp only [hg2]
 try simp only [show g2 + 1 = g4 by omega]
 clear hb_0 hs_0 hg2 hb_1 hs_1 hg4 hq1
 by_cases hs1 : s = ⟨#[45, 49]⟩
 ·skip
  by_cases hi8 : i = 8
  ·skip
   obtain rfl := hR1 ⟨hi8, hs1⟩
   have hlo := HLN.2 hi8
   go_upto_region 1 with fail
   refine wl <| gz1 (.string s) <| gzw (.bool true) (eql_s rfl s ⟨#[45, 49]⟩ (by rw [beqB]; exact decide_eq_true hs1)) <| gz2 (.bool true) (.pointer (some ⟨g2, 2, none⟩)) <| gzl rfl ⟨g2, 2, none⟩ (.int .i64 lo) (hX2.load (i := 2) rfl (by kernel_rfl)) <|
    gzb (lss_n rfl lo 0 (decide_eq_true hlo)) <| gz1 (.bool true) <| wn ?_
   simp only [pu]
   go_upto_region 2 with fail
   refine wl <| gzc (.agg #[.bool true, .int .u64 1]) (fun w' => Below W.heap.size W w') (CW W) (fun V1 hb1 => ?_)
   obtain ⟨V9, hst, hY, hbt⟩ := st_all (cs' := #[.bool true, .int .u64 1]) (ty := 62) (hX4.below hX4.lt hb1) rfl (by kernel_rfl) (by kernel_rfl)
   simp only [pu]
   refine gzs rfl (hst) <| gz1 (.int .i64 0) <| wn ?_
   simp only [pu]
   have HLD := Lib.hid (load_nu hY)
   have HE : Hid (Below w.heap.size w V9) := Lib.hid ((HB.out.trans (hb1.mono HB.out.size)).trans (hbt.1.mono (by have := HGE.out; omega)))
   clear CD CW HAL HIR HBIG HLN HPT HV0 hR1 hR2 hR3 hR4 hX2 hX4 hY hbt hb1 HG
   go_wp2_with fail
   exact bodyPost_ret (results_c (p := 4) rfl (by kernel_rfl) HLD.out (by kernel_rfl)) rfl ⟨rfl, HE.out⟩
  ·skip
   have hno : ¬ (i = 8 ∧ s = ⟨#[45, 49]⟩) := fun h => hi8 h.1
   have hlo : ¬ lo < 0 := fun h => hi8 (HLN.1 h)
   go_upto_region 1 with fail
   refine wl <| gz1 (.string s) <| gzw (.bool true) (eql_s rfl s ⟨#[45, 49]⟩ (by rw [beqB]; exact decide_eq_true hs1)) <| gz2 (.bool true) (.pointer (some ⟨g2, 2, none⟩)) <| gzl rfl ⟨g2, 2, none⟩ (.int .i64 lo) (hX2.load (i := 2) rfl (by kernel_rfl)) <|
    gzb (lss_n rfl lo 0 (decide_eq_false hlo)) <| gz1 (.bool false) <| wn ?_
   simp only [pu]
   have CDW := CD W
   cases dg
   ·skip
    obtain rfl := hR2 hno rfl
    go_upto_region 3 with fail
    refine wl <| gz1 (.string s) <| gzc (.bool false) (fun w' => Below W.heap.size W w') (CDW) (fun V1 hb1 => ?_)
    simp only [pu]
    refine gz1 (.bool true) <| wn ?_
    simp only [pu]
    obtain ⟨V9, hst, hY, hbt⟩ := st_all (cs' := #[.bool false, .int .u64 0]) (ty := 62) (hX4.below hX4.lt hb1) rfl (by kernel_rfl) (by kernel_rfl)
    have HLD := Lib.hid (load_nu hY)
    have HE : Hid (Below w.heap.size w V9) := Lib.hid ((HB.out.trans (hb1.mono HB.out.size)).trans (hbt.1.mono (by have := HGE.out; omega)))
    clear CD CW HAL HIR HBIG HLN HPT HV0 hR1 hR2 hR3 hR4 hX2 hX4 hY hbt hb1 CDW HG
    go_upto_region 4 with fail
    refine wl <| gz1 (.agg #[.bool false, .int .u64 0]) <| gzs rfl (hst) <| gz1 (.int .i64 2) <| wn ?_
    simp only [pu]
    go_wp2_with fail
    exact bodyPost_ret (results_c (p := 4) rfl (by kernel_rfl) HLD.out (by kernel_rfl)) rfl ⟨rfl, HE.out⟩
   ·skip
    have hv0 : 0 ≤ dv := HV0.resolve_right (by decide)
    have HPT2 := HPT rfl
    have hX2b := hX2
    clear CD CW HV0 HPT hR1 hR2
    go_upto_region 3 with fail
    refine wl <| gz1 (.string s) <| gzc (.bool true) (fun w' => Below W.heap.size W w') (CDW) (fun V1 hb1 => ?_)
    simp only [pu]
    refine gz1 (.bool false) <| wn ?_
    simp only [pu]
    have HB1 : Hid (Below w.heap.size w V1) := Lib.hid (HB.out.trans (hb1.mono HB.out.size))
    have hXa := hX2.below hX2.lt hb1
    have hXb := hX4.below hX4.lt hb1
    have HGE1 : Hid (g2 = w.heap.size + 0 ∧ g4 = w.heap.size + 1 ∧ w.heap.size + 2 ≤ V1.heap.size) := Lib.hid ⟨by have := HGE.out; omega, by have := HGE.out; omega, by have := HGE.out; have := hb1.size; omega⟩
    clear CDW hX2 hX2b hX4 hb1 HB HGE
    by_cases hlt : dv < 18446744073709551616
    ·skip
     rw [if_pos hlt] at HPT2
     have CP := p_pu_ok hl HPT2 V1
     have hun : ((dv.toNat : Nat) : Int) = dv := by omega
     rw [hun] at CP
     clear HPT2 hun
     go_upto_region 5 with fail
     refine wl <| gz1 (.string s) <| gzc (.tuple #[.int .u64 dv, .nilIface]) (fun w' => Below V1.heap.size V1 w') (CP) (fun V2 hb2 => ?_)
     simp only [pu]
     refine gz5 (.tuple #[.int .u64 dv, .nilIface]) (.int .u64 dv) (.nilIface) (.int .u64 dv) (.nilIface) <| wn ?_
     simp only [pu]
     have HB2 : Hid (Below w.heap.size w V2) := Lib.hid (HB1.out.trans (hb2.mono HB1.out.size))
     have hXa2 := hXa.below hXa.lt hb2
     have hXb2 := hXb.below hXb.lt hb2
     obtain ⟨V3, hst3, hbn3, hY3⟩ := new_bx (c := #[.bool false, .int .u64 0]) (c' := #[.bool false, .int .u64 dv]) (ty := 62) V2 rfl (by kernel_rfl) (by kernel_rfl)
     have HB3 : Hid (Below w.heap.size w V3) := Lib.hid (HB2.out.trans (hbn3.mono HB2.out.size))
     have hXa3 := hXa2.below hXa2.lt hbn3
     have hXb3 := hXb2.below hXb2.lt hbn3
     have HG4 : Hid (g4 < V2.heap.size ∧ g4 < V3.heap.size ∧ w.heap.size ≤ g4) := Lib.hid ⟨hXb2.lt, hXb3.lt, by have := HGE1.out; omega⟩
     clear CP hb2 hbn3 hXa hXb hXa2 hXb2
     go_upto_region 6 with fail
     refine wl <| gz2 (.int .u64 dv) (.agg #[.bool false, .int .u64 dv]) ?_
     simp only [pu]
     refine run_to rfl (some 8) rfl (.pointer (some ⟨V2.heap.size, 0, none⟩)) (V2.alloc (.cells #[.bool false, .int .u64 0] 62)) (by kernel_rfl) ?_
     simp only [pu]
     refine gzs rfl (hst3) <| wn ?_
     obtain ⟨g8, hg8⟩ : ∃ g, V2.heap.size = g := ⟨_, rfl⟩
     rw [hg8] at hY3
     simp only [hg8]
     clear hst3 hg8
     have CA := HAL dv V3
     rw [decide_eq_false (show ¬ dv < 0 by omega), show absI dv = dv by unfold absI; rw [if_neg (by omega)], ← HIR] at CA
     have hls : (Instr.loadAt 59 (.pointer (some ⟨g2, 0, none⟩))).run Tryd.prog V3 = .ok (.agg #[.string kb, fv, .int .i64 lo, .int .u64 up]) V3 := run_loadAt_mid V3 g2 0 59 [.string kb, fv, .int .i64 lo, .int .u64 up] _ (bx_range (cs := [.string kb, fv, .int .i64 lo, .int .u64 up]) hXa3) Tryd.underlying59 rfl (by kernel_rfl)
     have hln := load_nu hY3
     cases hq : inR i dv
     ·skip
      rw [hq] at CA
      obtain rfl := hR3 hno rfl hq
      clear HAL HIR HBIG hR3 hR4 HLN
      go_upto_region 7 with fail
      refine wl <| gz3 (.nilIface) (.bool false) (.bool false) <| gzl rfl ⟨g2, 0, none⟩ (.agg #[.string kb, fv, .int .i64 lo, .int .u64 up]) (hls) <| gzl rfl ⟨g8, 0, none⟩ (.agg #[.bool false, .int .u64 dv]) (hln) <| gzc (.bool false) (fun w' => Below V3.heap.size V3 w') (CA) (fun V4 hb4 => ?_)
      simp only [pu]
      refine gz2 (.bool true) (.bool true) <| wn ?_
      simp only [pu]
      have HB4 : Hid (Below w.heap.size w V4) := Lib.hid (HB3.out.trans (hb4.mono HB3.out.size))
      have hXb4 := hXb3.below hXb3.lt hb4
      have hY4 := hY3.below hY3.lt hb4
      have hln4 := load_nu hY4
      obtain ⟨V9, hst, hY, hbt⟩ := st_all (cs' := #[.bool false, .int .u64 0]) (ty := 62) hXb4 rfl (by kernel_rfl) (by kernel_rfl)
      have HLD := Lib.hid (load_nu hY)
      have HE : Hid (Below w.heap.size w V9) := Lib.hid (HB4.out.trans (hbt.1.mono (by have := HG4.out; omega)))
      clear CA hls hln hY3 hXa3 hXb3 hb4 hXb4 hY4 hY hbt HG hq
      go_upto_region 8 with fail
      refine wl <| gz1 (.agg #[.bool false, .int .u64 0]) <| gzs rfl (hst) <| gz1 (.int .i64 1) <| wn ?_
      simp only [pu]
      go_wp2_with fail
      exact bodyPost_ret (results_c (p := 4) rfl (by kernel_rfl) HLD.out (by kernel_rfl)) rfl ⟨rfl, HE.out⟩
     ·skip
      rw [hq] at CA
      obtain rfl := hR4 hno rfl hq
      clear HAL HIR HBIG hR3 hR4 HLN
      go_upto_region 7 with fail
      refine wl <| gz3 (.nilIface) (.bool false) (.bool false) <| gzl rfl ⟨g2, 0, none⟩ (.agg #[.string kb, fv, .int .i64 lo, .int .u64 up]) (hls) <| gzl rfl ⟨g8, 0, none⟩ (.agg #[.bool false, .int .u64 dv]) (hln) <| gzc (.bool true) (fun w' => Below V3.heap.size V3 w') (CA) (fun V4 hb4 => ?_)
      simp only [pu]
      refine gz2 (.bool false) (.bool false) <| wn ?_
      simp only [pu]
      have HB4 : Hid (Below w.heap.size w V4) := Lib.hid (HB3.out.trans (hb4.mono HB3.out.size))
      have hXb4 := hXb3.below hXb3.lt hb4
      have hY4 := hY3.below hY3.lt hb4
      have hln4 := load_nu hY4
      obtain ⟨V9, hst, hY, hbt⟩ := st_all (cs' := #[.bool false, .int .u64 dv]) (ty := 62) hXb4 rfl (by kernel_rfl) (by kernel_rfl)
      have hsn : decide (dv < 0) = false := decide_eq_false (by omega)
      have hab : absI dv = dv := by unfold absI; rw [if_neg (by omega)]
      skip
      have HLD := Lib.hid (load_nu hY)
      have HE : Hid (Below w.heap.size w V9) := Lib.hid (HB4.out.trans (hbt.1.mono (by have := HG4.out; omega)))
      have HSN := Lib.hid (And.intro hsn hab)
      clear hsn hab
      clear CA hls hln hY3 hXa3 hXb3 hb4 hXb4 hY4 hY hbt HG hq
      go_upto_region 9 with fail
      refine wl <| gzl rfl ⟨g8, 0, none⟩ (.agg #[.bool false, .int .u64 dv]) (hln4) <| gzs rfl (hst) <| gz1 (.int .i64 0) <| wn ?_
      simp only [pu]
      go_wp2_with fail
      exact bodyPost_ret (results_c (p := 4) rfl (by kernel_rfl) HLD.out (by kernel_rfl)) rfl ⟨by rw [HSN.out.1, HSN.out.2], HE.out⟩
    ·skip
     rw [if_neg hlt] at HPT2
     have CP := p_pu_range hl HPT2 V1 (HG.out V1 HB1.out)
     obtain rfl := hR3 hno rfl (HBIG dv hlt)
     clear HPT2 HAL HIR HBIG hR3 hR4 HLN
     go_upto_region 5 with fail
     refine wl <| gz1 (.string s) <| gze (PuR V1) CP (fun vv V2 hq => ?_)
     obtain ⟨gn, rfl, hb2⟩ := hq
     simp only [pu]
     refine gz5 (.tuple #[.int .u64 18446744073709551615, .iface 135 (.pointer (some ⟨gn, 0, none⟩))]) (.int .u64 18446744073709551615) (.iface 135 (.pointer (some ⟨gn, 0, none⟩))) (.int .u64 18446744073709551615) (.iface 135 (.pointer (some ⟨gn, 0, none⟩))) <| wn ?_
     simp only [pu]
     have HB2 : Hid (Below w.heap.size w V2) := Lib.hid (HB1.out.trans (hb2.mono HB1.out.size))
     have hXb2 := hXb.below hXb.lt hb2
     obtain ⟨V3, hst3, hbn3, hY3⟩ := new_bx (c := #[.bool false, .int .u64 0]) (c' := #[.bool false, .int .u64 18446744073709551615]) (ty := 62) V2 rfl (by kernel_rfl) (by kernel_rfl)
     have HB3 : Hid (Below w.heap.size w V3) := Lib.hid (HB2.out.trans (hbn3.mono HB2.out.size))
     have hXb3 := hXb2.below hXb2.lt hbn3
     have HG4 : Hid (w.heap.size ≤ g4) := Lib.hid (by have := HGE1.out; omega)
     clear CP hb2 hbn3 hXa hXb hXb2
     go_upto_region 6 with fail
     refine wl <| gz2 (.int .u64 18446744073709551615) (.agg #[.bool false, .int .u64 18446744073709551615]) ?_
     simp only [pu]
     refine run_to rfl (some 8) rfl (.pointer (some ⟨V2.heap.size, 0, none⟩)) (V2.alloc (.cells #[.bool false, .int .u64 0] 62)) (by kernel_rfl) ?_
     simp only [pu]
     refine gzs rfl (hst3) <| wn ?_
     obtain ⟨g8, hg8⟩ : ∃ g, V2.heap.size = g := ⟨_, rfl⟩
     rw [hg8] at hY3
     simp only [hg8]
     obtain ⟨V9, hst, hY, hbt⟩ := st_all (cs' := #[.bool false, .int .u64 0]) (ty := 62) hXb3 rfl (by kernel_rfl) (by kernel_rfl)
     have HLD := Lib.hid (load_nu hY)
     have HE : Hid (Below w.heap.size w V9) := Lib.hid (HB3.out.trans (hbt.1.mono HG4.out))
     clear hst3 hg8 hY3 hXb3 hY hbt HG
     go_upto_region 7 with fail
     refine wl <| gz1 (.iface 135 (.pointer (some ⟨gn, 0, none⟩))) <| gzw (.bool true) (neq_err rfl 135 (.pointer (some ⟨gn, 0, none⟩))) <| gz6 (.bool true) undef undef undef undef (.bool true) <| wn ?_
     simp only [pu]
     go_upto_region 8 with fail
     refine wl <| gz1 (.agg #[.bool false, .int .u64 0]) <| gzs rfl (hst) <| gz1 (.int .i64 1) <| wn ?_
     simp only [pu]
     go_wp2_with fail
     exact bodyPost_ret (results_c (p := 4) rfl (by kernel_rfl) HLD.out (by kernel_rfl)) rfl ⟨rfl, HE.out⟩
 ·skip
  have hno : ¬ (i = 8 ∧ s = ⟨#[45, 49]⟩) := fun h => hs1 h.2
  go_upto_region 1 with fail
  refine wl <| gz1 (.string s) <| gzw (.bool false) (eql_s rfl s ⟨#[45, 49]⟩ (by rw [beqB]; exact decide_eq_false hs1)) <| gz5 (.bool false) undef undef undef (.bool false) <| wn ?_
  simp only [pu]
  have CDW := CD W
  cases dg
  ·skip
   obtain rfl := hR2 hno rfl
   go_upto_region 3 with fail
   refine wl <| gz1 (.string s) <| gzc (.bool false) (fun w' => Below W.heap.size W w') (CDW) (fun V1 hb1 => ?_)
   simp only [pu]
   refine gz1 (.bool true) <| wn ?_
   simp only [pu]
   obtain ⟨V9, hst, hY, hbt⟩ := st_all (cs' := #[.bool false, .int .u64 0]) (ty := 62) (hX4.below hX4.lt hb1) rfl (by kernel_rfl) (by kernel_rfl)
   have HLD := Lib.hid (load_nu hY)
   have HE : Hid (Below w.heap.size w V9) := Lib.hid ((HB.out.trans (hb1.mono HB.out.size)).trans (hbt.1.mono (by have := HGE.out; omega)))
   clear CD CW HAL HIR HBIG HLN HPT HV0 hR1 hR2 hR3 hR4 hX2 hX4 hY hbt hb1 CDW HG
   go_upto_region 4 with fail
   refine wl <| gz1 (.agg #[.bool false, .int .u64 0]) <| gzs rfl (hst) <| gz1 (.int .i64 2) <| wn ?_
   simp only [pu]
   go_wp2_with fail
   exact bodyPost_ret (results_c (p := 4) rfl (by kernel_rfl) HLD.out (by kernel_rfl)) rfl ⟨rfl, HE.out⟩
  ·skip
   have hv0 : 0 ≤ dv := HV0.resolve_right (by decide)
   have HPT2 := HPT rfl
   have hX2b := hX2
   clear CD CW HV0 HPT hR1 hR2
   go_upto_region 3 with fail
   refine wl <| gz1 (.string s) <| gzc (.bool true) (fun w' => Below W.heap.size W w') (CDW) (fun V1 hb1 => ?_)
   simp only [pu]
   refine gz1 (.bool false) <| wn ?_
   simp only [pu]
   have HB1 : Hid (Below w.heap.size w V1) := Lib.hid (HB.out.trans (hb1.mono HB.out.size))
   have hXa := hX2.below hX2.lt hb1
   have hXb := hX4.below hX4.lt hb1
   have HGE1 : Hid (g2 = w.heap.size + 0 ∧ g4 = w.heap.size + 1 ∧ w.heap.size + 2 ≤ V1.heap.size) := Lib.hid ⟨by have := HGE.out; omega, by have := HGE.out; omega, by have := HGE.out; have := hb1.size; omega⟩
   clear CDW hX2 hX2b hX4 hb1 HB HGE
   by_cases hlt : dv < 18446744073709551616
   ·skip
    rw [if_pos hlt] at HPT2
    have CP := p_pu_ok hl HPT2 V1
    have hun : ((dv.toNat : Nat) : Int) = dv := by omega
    rw [hun] at CP
    clear HPT2 hun
    go_upto_region 5 with fail
    refine wl <| gz1 (.string s) <| gzc (.tuple #[.int .u64 dv, .nilIface]) (fun w' => Below V1.heap.size V1 w') (CP) (fun V2 hb2 => ?_)
    simp only [pu]
    refine gz5 (.tuple #[.int .u64 dv, .nilIface]) (.int .u64 dv) (.nilIface) (.int .u64 dv) (.nilIface) <| wn ?_
    simp only [pu]
    have HB2 : Hid (Below w.heap.size w V2) := Lib.hid (HB1.out.trans (hb2.mono HB1.out.size))
    have hXa2 := hXa.below hXa.lt hb2
    have hXb2 := hXb.below hXb.lt hb2
    obtain ⟨V3, hst3, hbn3, hY3⟩ := new_bx (c := #[.bool false, .int .u64 0]) (c' := #[.bool false, .int .u64 dv]) (ty := 62) V2 rfl (by kernel_rfl) (by kernel_rfl)
    have HB3 : Hid (Below w.heap.size w V3) := Lib.hid (HB2.out.trans (hbn3.mono HB2.out.size))
    have hXa3 := hXa2.below hXa2.lt hbn3
    have hXb3 := hXb2.below hXb2.lt hbn3
    have HG4 : Hid (g4 < V2.heap.size ∧ g4 < V3.heap.size ∧ w.heap.size ≤ g4) := Lib.hid ⟨hXb2.lt, hXb3.lt, by have := HGE1.out; omega⟩
    clear CP hb2 hbn3 hXa hXb hXa2 hXb2
    go_upto_region 6 with fail
    refine wl <| gz2 (.int .u64 dv) (.agg #[.bool false, .int .u64 dv]) ?_
    simp only [pu]
    refine run_to rfl (some 8) rfl (.pointer (some ⟨V2.heap.size, 0, none⟩)) (V2.alloc (.cells #[.bool false, .int .u64 0] 62)) (by kernel_rfl) ?_
    simp only [pu]
    refine gzs rfl (hst3) <| wn ?_
    obtain ⟨g8, hg8⟩ : ∃ g, V2.heap.size = g := ⟨_, rfl⟩
    rw [hg8] at hY3
    simp only [hg8]
    clear hst3 hg8
    have CA := HAL dv V3
    rw [decide_eq_false (show ¬ dv < 0 by omega), show absI dv = dv by unfold absI; rw [if_neg (by omega)], ← HIR] at CA
    have hls : (Instr.loadAt 59 (.pointer (some ⟨g2, 0, none⟩))).run Tryd.prog V3 = .ok (.agg #[.string kb, fv, .int .i64 lo, .int .u64 up]) V3 := run_loadAt_mid V3 g2 0 59 [.string kb, fv, .int .i64 lo, .int .u64 up] _ (bx_range (cs := [.string kb, fv, .int .i64 lo, .int .u64 up]) hXa3) Tryd.underlying59 rfl (by kernel_rfl)
    have hln := load_nu hY3
    cases hq : inR i dv
    ·skip
     rw [hq] at CA
     obtain rfl := hR3 hno rfl hq
     clear HAL HIR HBIG hR3 hR4 HLN
     go_upto_region 7 with fail
     refine wl <| gz3 (.nilIface) (.bool false) (.bool false) <| gzl rfl ⟨g2, 0, none⟩ (.agg #[.string kb, fv, .int .i64 lo, .int .u64 up]) (hls) <| gzl rfl ⟨g8, 0, none⟩ (.agg #[.bool false, .int .u64 dv]) (hln) <| gzc (.bool false) (fun w' => Below V3.heap.size V3 w') (CA) (fun V4 hb4 => ?_)
     simp only [pu]
     refine gz2 (.bool true) (.bool true) <| wn ?_
     simp only [pu]
     have HB4 : Hid (Below w.heap.size w V4) := Lib.hid (HB3.out.trans (hb4.mono HB3.out.size))
     have hXb4 := hXb3.below hXb3.lt hb4
     have hY4 := hY3.below hY3.lt hb4
     have hln4 := load_nu hY4
     obtain ⟨V9, hst, hY, hbt⟩ := st_all (cs' := #[.bool false, .int .u64 0]) (ty := 62) hXb4 rfl (by kernel_rfl) (by kernel_rfl)
     have HLD := Lib.hid (load_nu hY)
     have HE : Hid (Below w.heap.size w V9) := Lib.hid (HB4.out.trans (hbt.1.mono (by have := HG4.out; omega)))
     clear CA hls hln hY3 hXa3 hXb3 hb4 hXb4 hY4 hY hbt HG hq
     go_upto_region 8 with fail
     refine wl <| gz1 (.agg #[.bool false, .int .u64 0]) <| gzs rfl (hst) <| gz1 (.int .i64 1) <| wn ?_
     simp only [pu]
     go_wp2_with fail
     exact bodyPost_ret (results_c (p := 4) rfl (by kernel_rfl) HLD.out (by kernel_rfl)) rfl ⟨rfl, HE.out⟩
    ·skip
     rw [hq] at CA
     obtain rfl := hR4 hno rfl hq
     clear HAL HIR HBIG hR3 hR4 HLN
     go_upto_region 7 with fail
     refine wl <| gz3 (.nilIface) (.bool false) (.bool false) <| gzl rfl ⟨g2, 0, none⟩ (.agg #[.string kb, fv, .int .i64 lo, .int .u64 up]) (hls) <| gzl rfl ⟨g8, 0, none⟩ (.agg #[.bool false, .int .u64 dv]) (hln) <| gzc (.bool true) (fun w' => Below V3.heap.size V3 w') (CA) (fun V4 hb4 => ?_)
     simp only [pu]
     refine gz2 (.bool false) (.bool false) <| wn ?_
     simp only [pu]
     have HB4 : Hid (Below w.heap.size w V4) := Lib.hid (HB3.out.trans (hb4.mono HB3.out.size))
     have hXb4 := hXb3.below hXb3.lt hb4
     have hY4 := hY3.below hY3.lt hb4
     have hln4 := load_nu hY4
     obtain ⟨V9, hst, hY, hbt⟩ := st_all (cs' := #[.bool false, .int .u64 dv]) (ty := 62) hXb4 rfl (by kernel_rfl) (by kernel_rfl)
     have hsn : decide (dv < 0) = false := decide_eq_false (by omega)
     have hab : absI dv = dv := by unfold absI; rw [if_neg (by omega)]
     skip
     have HLD := Lib.hid (load_nu hY)
     have HE : Hid (Below w.heap.size w V9) := Lib.hid (HB4.out.trans (hbt.1.mono (by have := HG4.out; omega)))
     have HSN := Lib.hid (And.intro hsn hab)
     clear hsn hab
     clear CA hls hln hY3 hXa3 hXb3 hb4 hXb4 hY4 hY hbt HG hq
     go_upto_region 9 with fail
     refine wl <| gzl rfl ⟨g8, 0, none⟩ (.agg #[.bool false, .int .u64 dv]) (hln4) <| gzs rfl (hst) <| gz1 (.int .i64 0) <| wn ?_
     simp only [pu]
     go_wp2_with fail
     exact bodyPost_ret (results_c (p := 4) rfl (by kernel_rfl) HLD.out (by kernel_rfl)) rfl ⟨by rw [HSN.out.1, HSN.out.2], HE.out⟩
   ·skip
    rw [if_neg hlt] at HPT2
    have CP := p_pu_range hl HPT2 V1 (HG.out V1 HB1.out)
    obtain rfl := hR3 hno rfl (HBIG dv hlt)
    clear HPT2 HAL HIR HBIG hR3 hR4 HLN
    go_upto_region 5 with fail
    refine wl <| gz1 (.string s) <| gze (PuR V1) CP (fun vv V2 hq => ?_)
    obtain ⟨gn, rfl, hb2⟩ := hq
    simp only [pu]
    refine gz5 (.tuple #[.int .u64 18446744073709551615, .iface 135 (.pointer (some ⟨gn, 0, none⟩))]) (.int .u64 18446744073709551615) (.iface 135 (.pointer (some ⟨gn, 0, none⟩))) (.int .u64 18446744073709551615) (.iface 135 (.pointer (some ⟨gn, 0, none⟩))) <| wn ?_
    simp only [pu]
    have HB2 : Hid (Below w.heap.size w V2) := Lib.hid (HB1.out.trans (hb2.mono HB1.out.size))
    have hXb2 := hXb.below hXb.lt hb2
    obtain ⟨V3, hst3, hbn3, hY3⟩ := new_bx (c := #[.bool false, .int .u64 0]) (c' := #[.bool false, .int .u64 18446744073709551615]) (ty := 62) V2 rfl (by kernel_rfl) (by kernel_rfl)
    have HB3 : Hid (Below w.heap.size w V3) := Lib.hid (HB2.out.trans (hbn3.mono HB2.out.size))
    have hXb3 := hXb2.below hXb2.lt hbn3
    have HG4 : Hid (w.heap.size ≤ g4) := Lib.hid (by have := HGE1.out; omega)
    clear CP hb2 hbn3 hXa hXb hXb2
    go_upto_region 6 with fail
    refine wl <| gz2 (.int .u64 18446744073709551615) (.agg #[.bool false, .int .u64 18446744073709551615]) ?_
    simp only [pu]
    refine run_to rfl (some 8) rfl (.pointer (some ⟨V2.heap.size, 0, none⟩)) (V2.alloc (.cells #[.bool false, .int .u64 0] 62)) (by kernel_rfl) ?_
    simp only [pu]
    refine gzs rfl (hst3) <| wn ?_
    obtain ⟨g8, hg8⟩ : ∃ g, V2.heap.size = g := ⟨_, rfl⟩
    rw [hg8] at hY3
    simp only [hg8]
    obtain ⟨V9, hst, hY, hbt⟩ := st_all (cs' := #[.bool false, .int .u64 0]) (ty := 62) hXb3 rfl (by kernel_rfl) (by kernel_rfl)
    have HLD := Lib.hid (load_nu hY)
    have HE : Hid (Below w.heap.size w V9) := Lib.hid (HB3.out.trans (hbt.1.mono HG4.out))
    clear hst3 hg8 hY3 hXb3 hY hbt HG
    go_upto_region 7 with fail
    refine wl <| gz1 (.iface 135 (.pointer (some ⟨gn, 0, none⟩))) <| gzw (.bool true) (neq_err rfl 135 (.pointer (some ⟨gn, 0, none⟩))) <| gz6 (.bool true) undef undef undef undef (.bool true) <| wn ?_
    simp only [pu]
    go_upto_region 8 with fail
    refine wl <| gz1 (.agg #[.bool false, .int .u64 0]) <| gzs rfl (hst) <| gz1 (.int .i64 1) <| wn ?_
    simp only [pu]
    go_wp2_with fail
    exact bodyPost_ret (results_c (p := 4) rfl (by kernel_rfl) HLD.out (by kernel_rfl)) rfl ⟨rfl, HE.out⟩
end Go.Proofs.YtplfineaomneiaaDoor
