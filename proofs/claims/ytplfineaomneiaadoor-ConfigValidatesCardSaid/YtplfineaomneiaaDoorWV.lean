/-
 The walk of ConfigValidates.
-/
import Derived.Test.YtplfineaomneiaaDoorPZ
namespace Go.Proofs.YtplfineaomneiaaDoor
attribute [local irreducible] wpList wpQuiet
open Go.RowKit
set_option maxRecDepth 100000
set_option linter.unusedSimpArgs false
set_option linter.unusedVariables false

def s20 (n : Int) : List Int := [n, -2, -1, 0, 1, 2, 512, 513, 1048576, 1048577, 4096, 4097, 1024, 1025, 1073741824, 1073741825, 1125899906842624, 1125899906842625, 8, 9]
theorem s20_rng {n : Int} (hn : -9223372036854775808 ≤ n ∧ n < 9223372036854775808) : ∀ k, k < 20 → -9223372036854775808 ≤ (s20 n).getD k 0 ∧ (s20 n).getD k 0 < 9223372036854775808 := fun k hk => by
 have h : (s20 n).getD k 0 ∈ s20 n := by rw [List.getD_eq_getElem?_getD, List.getElem?_eq_getElem (show k < (s20 n).length from hk)]; exact List.getElem_mem _
 generalize (s20 n).getD k 0 = x at h
 simp only [s20, List.mem_cons, List.not_mem_nil, or_false] at h
 omega
theorem build_20 (n : Int) (V : World) : (Instr.buildSlice 25 20 #[(0, .int .i64 n), (1, .int .i64 (-2)), (2, .int .i64 (-1)), (3, .int .i64 0), (4, .int .i64 1), (5, .int .i64 2), (6, .int .i64 512), (7, .int .i64 513), (8, .int .i64 1048576), (9, .int .i64 1048577), (10, .int .i64 4096), (11, .int .i64 4097), (12, .int .i64 1024), (13, .int .i64 1025), (14, .int .i64 1073741824), (15, .int .i64 1073741825), (16, .int .i64 1125899906842624), (17, .int .i64 1125899906842625), (18, .int .i64 8), (19, .int .i64 9)]).run Tryd.prog V = .ok (.slice (some ⟨V.heap.size, 0, none⟩) 20 20) (V.alloc (.cells (icells (s20 n)).toArray 3)) := by
 obtain ⟨i0, hi, hz0, hz1, hz2⟩ := info_parts infoI
 refine run_buildSlice V 25 3 20 _ (icells (s20 n)).toArray i0 _ Tryd.underlying25 hi hz0 (by rw [hz1]; omega) (by rw [hz1]; omega) ?_
 rw [hz1]
 kernel_rfl
set_option maxRecDepth 100000 in
set_option maxHeartbeats 8000000 in
theorem validates_core {w : World} (HQ : Prg w) {c0 : List Int} (hc0 : CfOk c0) {a : Option Addr} {c : Nat} {L : List Int} (h : Cs w a (icells L)) (hl : L.length ≤ 9223372036854775807) (fd n : Int) (hn : -9223372036854775808 ≤ n ∧ n < 9223372036854775808) : Calls Tryd.prog 3 #[.agg (cfA c0), .slice a L.length c, .int .i64 fd, .int .i64 n] w fun e w' => e = .returned (.bool true) ∧ Below w.heap.size w w' := by
 have hb0 : Below w.heap.size w (w.alloc (.cells (cfA c0) 24)) := (Below.refl _ w).alloc (Nat.le_refl _) _
 have hX0 : Bx (w.alloc (.cells (cfA c0) 24)) w.heap.size (cfA c0) 24 := heap_alloc_last w _
 obtain ⟨W, hW⟩ : ∃ W, w.alloc (.cells (cfA c0) 24) = W := ⟨_, rfl⟩
 rw [hW] at hb0 hX0
 have HBW := Lib.hid hb0
 have HR := Lib.hid fun V (hb : Below w.heap.size w V) => h.below hb
 have CV0 := Lib.hid fun V => HQ.v c0 hc0 V
 have CR0 := Lib.hid fun V => r_valid hc0.2.1 V
 have L0 := Lib.hid (lda c0)
 have HV := Lib.hid HQ.v
 have CD := Lib.hid HQ.d
 have HRG := Lib.hid (s20_rng hn)
 have hbd20 := Lib.hid (build_20 n)
 have H20 : Hid ((s20 n).length = 20) := Lib.hid rfl
 have HQH := Lib.hid HQ
 generalize s20 n = S20 at *
 generalize cfA c0 = C0 at *
 obtain ⟨v0, hv0⟩ : ∃ v, valL c0 = v := ⟨_, rfl⟩
 rw [hv0] at CV0 CR0
 clear hv0 hb0 h hc0 hn
 go_enter Tryd.func3, Tryd.ntmps3
 go_upto_region 1 with fail
 obtain ⟨g4, hg4⟩ : ∃ g4, w.heap.size = g4 := ⟨_, rfl⟩
 rw [hg4] at hX0
 simp only [hg4]
 clear hW hg4
 have hbd := one_row a L.length c W
 have hXl : Bx (W.alloc (.cells #[.slice a L.length c] 25)) W.heap.size #[.slice a L.length c] 25 := heap_alloc_last W _
 have hbl : Below W.heap.size W (W.alloc (.cells #[.slice a L.length c] 25)) := (Below.refl _ W).alloc (Nat.le_refl _) _
 have CL := long_one W.heap.size a L.length c _ hXl hl
 generalize W.alloc (.cells #[.slice a L.length c] 25) = W1 at *
 have HB1 := Lib.hid (HBW.out.trans (hbl.mono HBW.out.size))
 have HBL := Lib.hid hbl
 clear hXl hbl
 by_cases hlong : 160 < L.length
 ·skip
  rw [decide_eq_true (by omega)] at CL
  refine wl <| gz1 (.slice a L.length c) ?_
  simp only [pu]
  refine gw_build (by kernel_rfl) (some 13) rfl 54 1 #[(0, .tmp 12)] rfl #[(0, .slice a L.length c)] (by kernel_rfl) (.slice (some ⟨W.heap.size, 0, none⟩) 1 1) _ hbd ?_
  simp only [pu]
  refine gzc (.bool true) (fun w' => W1 = w') (CL) (fun V9 hV9 => ?_)
  subst hV9
  simp only [pu]
  apply wpList_nil
  clear CL hbd
  go_upto_region 2 with fail
  refine wl <| gzc (.bool true) (fun w' => Below W1.heap.size W1 w') (known_true HQ W1 (HB1.out)) (fun V2 hV2 => ?_)
  simp only [pu]
  refine gz1 (.bool true) <| wn ?_
  simp only [pu]
  have HE := HB1.out.trans (hV2.mono HB1.out.size)
  go_wp2_with fail
  go_ret
  exact ⟨rfl, HE⟩
 ·skip
  rw [decide_eq_false (by omega)] at CL
  refine wl <| gz1 (.slice a L.length c) ?_
  simp only [pu]
  refine gw_build (by kernel_rfl) (some 13) rfl 54 1 #[(0, .tmp 12)] rfl #[(0, .slice a L.length c)] (by kernel_rfl) (.slice (some ⟨W.heap.size, 0, none⟩) 1 1) _ hbd ?_
  simp only [pu]
  refine gzc (.bool false) (fun w' => W1 = w') (CL) (fun V9 hV9 => ?_)
  subst hV9
  simp only [pu]
  apply wpList_nil
  clear CL hbd
  have hlong : L.length ≤ 160 := by omega
  have hX4 := hX0.below hX0.lt HBL.out
  have hbd := hbd20.out W1
  have hbx : Bx (W1.alloc (.cells (icells S20).toArray 3)) W1.heap.size (icells S20).toArray 3 := heap_alloc_last W1 _
  have hbw : Below W1.heap.size W1 (W1.alloc (.cells (icells S20).toArray 3)) := (Below.refl _ W1).alloc (Nat.le_refl _) _
  generalize W1.alloc (.cells (icells S20).toArray 3) = W2 at *
  have HX4 := Lib.hid (hX4.below hX4.lt hbw)
  have HB2 := Lib.hid (HB1.out.trans (hbw.mono HB1.out.size))
  obtain ⟨g5, hg5⟩ : ∃ g, W1.heap.size = g := ⟨_, rfl⟩
  rw [hg5] at hbx hbd
  have HX5 := Lib.hid hbx
  clear hX0 hX4 hbw hg5 hbx HBL HB1 hbd20
  go_upto_region 3 with fail
  refine wl <| gz1 (.int .i64 n) ?_
  simp only [pu]
  refine gw_build (by kernel_rfl) (some 17) rfl 25 20 #[(0, .tmp 16), (1, .const (.int .i64 (-2))), (2, .const (.int .i64 (-1))), (3, .const (.int .i64 0)), (4, .const (.int .i64 1)), (5, .const (.int .i64 2)), (6, .const (.int .i64 512)), (7, .const (.int .i64 513)), (8, .const (.int .i64 1048576)), (9, .const (.int .i64 1048577)), (10, .const (.int .i64 4096)), (11, .const (.int .i64 4097)), (12, .const (.int .i64 1024)), (13, .const (.int .i64 1025)), (14, .const (.int .i64 1073741824)), (15, .const (.int .i64 1073741825)), (16, .const (.int .i64 1125899906842624)), (17, .const (.int .i64 1125899906842625)), (18, .const (.int .i64 8)), (19, .const (.int .i64 9))] rfl #[(0, .int .i64 n), (1, .int .i64 (-2)), (2, .int .i64 (-1)), (3, .int .i64 0), (4, .int .i64 1), (5, .int .i64 2), (6, .int .i64 512), (7, .int .i64 513), (8, .int .i64 1048576), (9, .int .i64 1048577), (10, .int .i64 4096), (11, .int .i64 4097), (12, .int .i64 1024), (13, .int .i64 1025), (14, .int .i64 1073741824), (15, .int .i64 1073741825), (16, .int .i64 1125899906842624), (17, .int .i64 1125899906842625), (18, .int .i64 8), (19, .int .i64 9)] (by kernel_rfl) (.slice (some ⟨g5, 0, none⟩) 20 20) _ hbd ?_
  simp only [pu]
  refine gz2 (.int .i64 20) (.int .i64 0) <| wn ?_
  simp only [pu]
  clear hbd
  go_wp2_with fail
  go_loopg [19] 20 (fun gg s19 wx => ∃ (i : Nat), s19 = .int .i64 i ∧ i ≤ 20 ∧ gg + i = 20 ∧ Hid (Below W2.heap.size W2 wx))
  case atStart => exact ⟨0, rfl, by omega, by omega, Lib.hid (Below.refl _ _)⟩
  case round =>
   obtain ⟨i, hs19, hin, hg, HRW⟩ := hrel
   obtain rfl := hs19
   have HGK : Hid (gk + i = 20) := Lib.hid hg
   clear hg
   by_cases hlt : i < 20
   ·skip
    have hX5 := HX5.out.below HX5.out.lt HRW.out
    have hl22 : (Instr.loadAt 3 (.pointer (some ⟨g5, 0 + i, none⟩))).run Tryd.prog wr = .ok (.int .i64 (S20.getD i 0)) wr := load_i hX5 (k := i) (by rw [H20.out]; exact hlt)
    have hrg := HRG.out i hlt
    generalize S20.getD i 0 = x at *
    have CC := mk_changed (c := c) (HR.out wr (HB2.out.trans (HRW.out.mono HB2.out.size))) (by omega) fd x hrg
    go_upto_region 4 with fail
    refine wl <| gzb (lss_n rfl (i) (20) dT) <| wn ?_
    simp only [pu]
    go_upto_region 5 with fail
    refine wl <| gzv (.pointer (some ⟨g5, 0 + i, none⟩)) (idx_int g5 0 20 20 i hlt _ _ _ rfl (by kernel_rfl) (by kernel_rfl)) <| gzl rfl ⟨g5, 0 + i, none⟩ (.int .i64 x) (hl22) <| gz1 (.int .i64 x) <| wn ?_
    simp only [pu]
    clear hl22 hX5
    go_upto_region 6 with fail
    refine wl <| gz3 (.slice a L.length c) (.int .i64 fd) (.int .i64 x) <| gze (CfO wr) (CC) (fun vv V2 hq => ?_)
    obtain ⟨cf, rfl, hcf, hb2⟩ := hq
    obtain ⟨V3, hst3, hb3, hX11⟩ := new_bx (c := #[.int .i64 0, .int .i64 0, .int .i64 0, .int .i64 0, .int .i64 0, .int .i64 0, .bool false, .int .i64 0, .int .i64 0, .int .u64 0, .int .i64 0, .int .i64 0]) (c' := cfA cf) (ty := 24) V2 rfl (by kernel_rfl) (by kernel_rfl)
    simp only [pu]
    refine run_to rfl (some 11) rfl (.pointer (some ⟨V2.heap.size, 0, none⟩)) (V2.alloc (.cells #[.int .i64 0, .int .i64 0, .int .i64 0, .int .i64 0, .int .i64 0, .int .i64 0, .bool false, .int .i64 0, .int .i64 0, .int .u64 0, .int .i64 0, .int .i64 0] 24)) (by kernel_rfl) ?_
    simp only [pu]
    refine gzs rfl (hst3) <| wn ?_
    have hb23 := hb2.trans (hb3.mono hb2.size)
    have HR3 := Lib.hid (HRW.out.trans (hb23.mono HRW.out.size))
    obtain ⟨g11, hg11⟩ : ∃ g, V2.heap.size = g := ⟨_, rfl⟩
    rw [hg11] at hX11
    simp only [hg11]
    have CVf := HV.out cf hcf
    have CRf := fun V => r_valid hcf.2.1 V
    have LC := lda cf
    generalize cfA cf = CN at *
    generalize valL cf = vn at *
    clear hst3 hb2 hb3 hb23 hg11 CC hrg hcf
    go_upto_region 7 with fail
    refine wp_region_class (C := fun U => Below V3.heap.size V3 U) (by kernel_rfl) (by kernel_rfl) ((Below.refl _ V3).drew) ?_
    refine gyl rfl ⟨g11, 0, none⟩ (.agg CN) (fun U hU => LC _ _ (hX11.below hX11.lt hU)) ?_
    simp only [pu]
    refine gq_call (by kernel_rfl) (some 28) rfl 12 #[.agg CN] (.int .i64 vn) (fun U hU => by kernel_rfl) (fun U hU => (CVf U).mono fun e w2 z => ⟨z.1, hU.trans (z.2.mono hU.size)⟩) ?_
    simp only [pu]
    refine gyl rfl ⟨g11, 0, none⟩ (.agg CN) (fun U hU => LC _ _ (hX11.below hX11.lt hU)) ?_
    simp only [pu]
    refine gq_call (by kernel_rfl) (some 30) rfl 13 #[.agg CN] (.int .i64 vn) (fun U hU => by kernel_rfl) (fun U hU => (CRf U).mono fun e w2 z => ⟨z.1, hU.trans (z.2.mono hU.size)⟩) ?_
    simp only [pu]
    refine gyv (.bool false) (fun U hU => neq_e rfl vn vn (decide_eq_false (fun h => h rfl)) (by kernel_rfl) (by kernel_rfl) U) ?_
    simp only [pu]
    apply wpQuiet_nil
    intro V4 hV4
    have HR4 := Lib.hid (HR3.out.trans (hV4.mono HR3.out.size))
    clear hV4 CVf CRf LC hX11
    go_upto_region 9 with fail
    refine wl <| gzv (.int .i64 (i + 1 : Nat)) (add_one rfl i (by omega) (by kernel_rfl) _) <| gz1 (.int .i64 (i + 1 : Nat)) <| wn ?_
    simp only [pu]
    go_wp2_with fail
    go_roundg (20 - (i + 1))
    case measure => have := HGK.out; omega
    case rel => exact ⟨i + 1, rfl, by omega, by omega, HR4⟩
   ·skip
    obtain rfl : i = 20 := by omega
    have hX4 := HX4.out.below HX4.out.lt HRW.out
    have hbwr : Below w.heap.size w wr := HB2.out.trans (HRW.out.mono HB2.out.size)
    have CKN := fun V (hV : Below wr.heap.size wr V) => known_true HQH.out V (hbwr.trans (hV.mono hbwr.size))
    have CDR := fun V => r_default V
    have HEC := fun (ρ : Operand → Value) (o : Oper) (x y : Operand) (ho : o.op = .binOp .eql 24 x y 24) (hx : ρ x = .agg (cfA dfltL)) (hy : ρ y = .agg (cfA dfltL)) (w : World) => eql_C ho dfltL hx hy w
    have CDP := CD.out
    generalize cfA dfltL = D0 at *
    go_upto_region 4 with fail
    refine wl <| gzb (lss_n rfl ((20 : Nat)) (20) dF) <| wn ?_
    simp only [pu]
    go_upto_region 10 with fail
    refine wp_region_class (C := fun U => Below wr.heap.size wr U) (by kernel_rfl) (by kernel_rfl) ((Below.refl _ wr).drew) ?_
    refine gyl rfl ⟨g4, 0, none⟩ (.agg C0) (fun U hU => L0.out _ _ (hX4.below hX4.lt hU)) ?_
    simp only [pu]
    refine gq_call (by kernel_rfl) (some 34) rfl 12 #[.agg C0] (.int .i64 v0) (fun U hU => by kernel_rfl) (fun U hU => (CV0.out U).mono fun e w2 z => ⟨z.1, hU.trans (z.2.mono hU.size)⟩) ?_
    simp only [pu]
    refine gyl rfl ⟨g4, 0, none⟩ (.agg C0) (fun U hU => L0.out _ _ (hX4.below hX4.lt hU)) ?_
    simp only [pu]
    refine gq_call (by kernel_rfl) (some 36) rfl 13 #[.agg C0] (.int .i64 v0) (fun U hU => by kernel_rfl) (fun U hU => (CR0.out U).mono fun e w2 z => ⟨z.1, hU.trans (z.2.mono hU.size)⟩) ?_
    simp only [pu]
    refine gyv (.bool true) (fun U hU => eql_e rfl v0 v0 (decide_eq_true rfl) (by kernel_rfl) (by kernel_rfl) U) <| gy (.bool true) ?_
    simp only [pu]
    refine gq_call (by kernel_rfl) (some 39) rfl 14 #[] (.agg D0) (fun U hU => by kernel_rfl) (fun U hU => (CDP U).mono fun e w2 z => ⟨z.1, hU.trans (z.2.mono hU.size)⟩) ?_
    simp only [pu]
    refine gq_call (by kernel_rfl) (some 40) rfl 15 #[] (.agg D0) (fun U hU => by kernel_rfl) (fun U hU => (CDR U).mono fun e w2 z => ⟨z.1, hU.trans (z.2.mono hU.size)⟩) ?_
    simp only [pu]
    refine gyv (.bool true) (fun U hU => HEC _ _ _ _ rfl (by kernel_rfl) (by kernel_rfl) U) <| gy (.bool true) <| gy (.bool true) ?_
    simp only [pu]
    refine gq_call (by kernel_rfl) (some 44) rfl 10 #[] (.bool true) (fun U hU => by kernel_rfl) (fun U hU => (CKN U hU).mono fun e w2 z => ⟨z.1, hU.trans (z.2.mono hU.size)⟩) ?_
    simp only [pu]
    refine gy (.bool true) <| gy (.bool true) ?_
    simp only [pu]
    apply wpQuiet_nil
    intro V4 hV4
    have HE := Lib.hid (HB2.out.trans ((HRW.out.trans (hV4.mono HRW.out.size)).mono HB2.out.size))
    clear hV4
    go_wp2_with fail
    go_ret
    exact ⟨rfl, HE.out⟩
end Go.Proofs.YtplfineaomneiaaDoor
