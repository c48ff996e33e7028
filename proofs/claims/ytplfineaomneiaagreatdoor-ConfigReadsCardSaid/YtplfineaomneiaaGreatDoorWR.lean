/-
 The walk of ConfigReads.
-/
import Derived.Test.YtplfineaomneiaaGreatDoorWF
namespace Go.Proofs.YtplfineaomneiaaGreatDoor
attribute [local irreducible] wpList wpQuiet
open Go.RowKit
set_option maxRecDepth 100000
set_option linter.unusedSimpArgs false
set_option linter.unusedVariables false

theorem cut_from_s {ρ : Operand → Value} {o : Oper} {x y : Operand} (ho : o.op = .slice 9 x (some y) none none) (s : ByteArray) (i : Nat) (hi : i ≤ s.size) (hx : ρ x = .string s) (hy : ρ y = .int .i64 i) (w : World) : (execOp ρ o).run Tryz.prog w = .ok (.value (.string (s.extract i s.size))) w := by
 unfold execOp
 simp only [ho, hx, hy]
 go_simp
theorem ext_size (s : ByteArray) (i j : Nat) : (s.extract i j).size ≤ s.size := by
 rw [ByteArray.size_extract]
 omega
/-- What the region of the changed byte keeps. -/
def KB1 (W : World) (by_ : Int) (b4 : Bool) (x : Value) (V : World) : Prop := Below W.heap.size W V ∧ (b4 = true → ∃ g, x = .slice (some ⟨g, 0, none⟩) 1 1 ∧ Bx V g #[.int .u8 by_] 5)
theorem KB1.start {W V : World} (hb : Below W.heap.size W V) (by_ : Int) (x : Value) : KB1 W by_ false x V.drew := ⟨hb.drew, fun h => by (cases h)⟩
theorem KB1.s4 {W V : World} {by_ : Int} {b : Bool} {x : Value} (h : KB1 W by_ b x V) : KB1 W by_ true (.slice (some ⟨V.heap.size, 0, none⟩) 1 1) (V.alloc (.cells #[.int .u8 by_] 5)) := ⟨h.1.alloc h.1.size _, fun _ => ⟨_, rfl, heap_alloc_last V _⟩⟩
theorem split_pos : ∀ (L cur : List Int), 0 < (splitL cur L).length
 | [], cur => by rw [splitL]; exact Nat.succ_pos _
 | x :: r, cur => by
  rw [splitL]
  split
  ·exact Nat.succ_pos _
  ·exact split_pos r _
set_option maxRecDepth 100000 in
set_option maxHeartbeats 8000000 in
theorem reads_core {w : World} (HQ : Prg w)  {a : Option Addr} {c : Nat} {L : List Int} (h : Cs w a (icells L)) (hl : L.length ≤ 9223372036854775807) (at_ : Int) (by_ : Int) (ln : Int) (hw : Nat) : Calls Tryz.prog 3 #[.slice a L.length c, .int .i64 at_, .int .u8 by_, .int .i64 ln, .int .u8 hw] w fun e w' => e = .returned (.bool true) ∧ Below w.heap.size w w' := by
 have HBW : Hid (Below w.heap.size w w) := Lib.hid (Below.refl _ _)
 have HR := Lib.hid fun V (hb : Below w.heap.size w V) => h.below hb
 clear h
 go_enter Tryz.func3, Tryz.ntmps3
 go_upto_region 1 with fail
 have hbd := one_row a L.length c w
 have hXl : Bx (w.alloc (.cells #[.slice a L.length c] 22)) w.heap.size #[.slice a L.length c] 22 := heap_alloc_last w _
 have hbl : Below w.heap.size w (w.alloc (.cells #[.slice a L.length c] 22)) := (Below.refl _ w).alloc (Nat.le_refl _) _
 have CL := long_one w.heap.size a L.length c _ hXl hl
 generalize w.alloc (.cells #[.slice a L.length c] 22) = W1 at *
 have HB1 := Lib.hid (HBW.out.trans (hbl.mono HBW.out.size))
 have HBL := Lib.hid hbl
 clear hXl hbl
 by_cases hlong : 160 < L.length
 ·skip
  rw [decide_eq_true (by omega)] at CL
  refine wl <| gz1 (.slice a L.length c) ?_
  simp only [pu]
  refine gw_build (by kernel_rfl) (some 21) rfl 40 1 #[(0, .tmp 20)] rfl #[(0, .slice a L.length c)] (by kernel_rfl) (.slice (some ⟨w.heap.size, 0, none⟩) 1 1) _ hbd ?_
  simp only [pu]
  refine gzc (.bool true) (fun w' => W1 = w') (CL) (fun V9 hV9 => ?_)
  subst hV9
  simp only [pu]
  apply wpList_nil
  clear CL hbd
  go_upto_region 2 with fail
  refine wl <| gzc (.bool true) (fun w' => Below W1.heap.size W1 w') (known_true HQ W1 (HB1.out)) (fun V2 hV2 => ?_)
  simp only [pu]
  refine gz1 (.bool true) <| wn ?_
  simp only [pu]
  have HE := HB1.out.trans (hV2.mono HB1.out.size)
  go_wp2_with fail
  go_ret
  exact ⟨rfl, HE⟩
 ·skip
  rw [decide_eq_false (by omega)] at CL
  refine wl <| gz1 (.slice a L.length c) ?_
  simp only [pu]
  refine gw_build (by kernel_rfl) (some 21) rfl 40 1 #[(0, .tmp 20)] rfl #[(0, .slice a L.length c)] (by kernel_rfl) (.slice (some ⟨w.heap.size, 0, none⟩) 1 1) _ hbd ?_
  simp only [pu]
  refine gzc (.bool false) (fun w' => W1 = w') (CL) (fun V9 hV9 => ?_)
  subst hV9
  simp only [pu]
  apply wpList_nil
  clear CL hbd
  have hlong : L.length ≤ 160 := by omega
  have CM := mk_fromN (c := c) (HR.out W1 HB1.out)
  have HL : Hid (L.length ≤ 100000) := Lib.hid (by omega)
  go_upto_region 3 with fail
  refine wl <| gz1 (.slice a L.length c) <| gze (FrO W1 a c L) (CM) (fun vv V1 hq => ?_)
  obtain ⟨gn, rfl, hnm, hgn, hb1⟩ := hq
  have CM2 := mk_configN hnm HL.out
  simp only [pu]
  refine gze (MdO V1 gn a c L) (CM2) (fun vv V2 hq => ?_)
  obtain ⟨cf, N2, rfl, hmd, -, -, hbt2⟩ := hq
  have hb2 : Below W1.heap.size W1 V2 := hb1.trans (hbt2.1.mono hgn)
  have CF1 := r_format hmd.1 V2
  rw [show fmtV cf = .tuple #[.string (strOfNums (fmtL cf)), .int .i64 0] by unfold fmtV; rw [if_pos hmd.2]] at CF1
  have hfs : (strOfNums (fmtL cf)).size ≤ 408 := by rw [strOfNums_size]; exact fmt_len hmd.2 ⟨hmd.1.2.2.1, by have := hmd.1.2.2.2.1; omega⟩
  generalize strOfNums (fmtL cf) = F at *
  simp only [pu]
  refine gzc (.tuple #[.string F, .int .i64 0]) (fun w' => Below V2.heap.size V2 w') (CF1) (fun V3 hb3 => ?_)
  simp only [pu]
  refine gz5 (.tuple #[.string F, .int .i64 0]) (.string F) (.int .i64 0) (.string F) (.int .i64 0) <| wn ?_
  simp only [pu]
  have hb23 := hb2.trans (hb3.mono hb2.size)
  have HB3 := Lib.hid (HB1.out.trans (hb23.mono HB1.out.size))
  obtain ⟨m, hm⟩ : ∃ m, F.size = m := ⟨_, rfl⟩
  rw [hm] at hfs
  have hpr := pl_range at_ (m + 1) (by omega)
  have CP := mk_place at_ (m + 1) V3 (by omega) (by omega)
  obtain ⟨p, hp⟩ : ∃ p : Nat, pl at_ (m + 1) = (p : Int) := ⟨(pl at_ (m + 1)).toNat, by omega⟩
  rw [hp] at CP hpr
  have hpm : p ≤ F.size := by omega
  clear hp hpr hnm hgn hb1 hmd hbt2 hb2 hb3 hb23 CM CM2 CF1 HB1 HBL HL
  go_upto_region 4 with fail
  refine wl <| gz2 (.int .i64 at_) (.string F) <| gzv (.int .i64 m) (by rw [← hm]; kernel_rfl) <| gzw (.int .i64 (m + 1)) (add_i rfl m 1 (by omega)) <| gzc (.int .i64 p) (fun w' => V3 = w') (CP) (fun V9 hV9 => ?_)
  subst hV9
  simp only [pu]
  refine gz1 (.int .i64 p) <| wn ?_
  simp only [pu]
  clear CP
  obtain ⟨y38, h38⟩ : ∃ z, F.extract 0 p = z := ⟨_, rfl⟩
  have hs38 : y38.size ≤ m := by rw [← h38, ← hm]; exact ext_size F 0 p
  obtain ⟨y45, h45⟩ : ∃ z, F.extract p F.size = z := ⟨_, rfl⟩
  have hs45 : y45.size ≤ m := by rw [← h45]; exact Nat.le_trans (ext_size F p F.size) (Nat.le_of_eq hm)
  obtain ⟨y41, h41⟩ : ∃ z, strOfNums [by_] = z := ⟨_, rfl⟩
  have hs41 : y41.size = 1 := by rw [← h41, strOfNums_size]; rfl
  obtain ⟨y42, h42⟩ : ∃ z, y38 ++ y41 = z := ⟨_, rfl⟩
  have hs42 : y42.size = y38.size + y41.size := by rw [← h42, ByteArray.size_append]
  have hl42 : y38.size + y41.size ≤ 9223372036854775807 := by omega
  obtain ⟨y46, h46⟩ : ∃ z, y42 ++ y45 = z := ⟨_, rfl⟩
  have hs46 : y46.size = y42.size + y45.size := by rw [← h46, ByteArray.size_append]
  have hl46 : y42.size + y45.size ≤ 9223372036854775807 := by omega
  have HS46 : Hid (y46.size ≤ 1000000) := Lib.hid (by omega)
  have HS38 : Hid (y38.size ≤ 1000000) := Lib.hid (by omega)
  have h0 := KB1.start (Below.refl _ V3) by_ undef
  clear hs38 hs45 hs41 hs42 hs46
  go_upto_region 5 with fail
  refine wp_region_inv (fun listed act9 V => ∃ b0 b1 b2 b3 b4 b5 b6 b7 b8 b9 b10 b11 : Bool, ∃ x40 : Value, listed = #[b0, b1, b2, b3, b4, b5, b6, b7, b8, b9, b10, b11] ∧ act9 = { tmps := #[.slice a L.length c, .int .i64 at_, .int .u8 by_, .int .i64 ln, .int .u8 hw, undef, undef, undef, undef, undef, .bool false, .string F, .int .i64 0, .int .i64 p, (cond b11 (.string y46) undef), undef, undef, undef, undef, undef, .slice a L.length c, .slice (some ⟨w.heap.size, 0, none⟩) 1 1, .bool false, undef, .tuple #[.string F, .int .i64 0], .slice a L.length c, .pointer (some ⟨gn, 0, none⟩), .agg (cfA cf), .tuple #[.string F, .int .i64 0], .string F, .int .i64 0, .int .i64 at_, .string F, .int .i64 m, .int .i64 (m + 1), .int .i64 p, (cond b0 (.string F) undef), (cond b1 (.int .i64 p) undef), (cond b2 (.string y38) undef), (cond b3 (.int .u8 by_) undef), x40, (cond b5 (.string y41) undef), (cond b6 (.string y42) undef), (cond b7 (.string F) undef), (cond b8 (.int .i64 p) undef), (cond b9 (.string y45) undef), (cond b10 (.string y46) undef), undef, undef, undef, undef, undef, undef, undef, undef, undef, undef, undef, undef, undef, undef, undef, undef, undef, undef, undef, undef, undef, undef, undef, undef, undef, undef, undef, undef, undef, undef, undef, undef, undef, undef, undef, undef, undef, undef, undef, undef, undef, undef, undef, undef, undef, undef, undef, undef, undef, undef, undef, undef, undef, undef, undef, undef, undef, undef, undef, undef, undef, undef, undef, undef], defers := [] } ∧ KB1 V3 by_ b4 x40 V) (by kernel_rfl) (by kernel_rfl) ?_ ?_ ?_
  ·exact ⟨false, false, false, false, false, false, false, false, false, false, false, false, undef, rfl, rfl, h0⟩
  ·intro i9 listed act9 V hi9 hr hJ
   obtain ⟨b0, b1, b2, b3, b4, b5, b6, b7, b8, b9, b10, b11, x40, rfl, rfl, hF⟩ := hJ
   have hi2 : i9 < 12 := hi9
   have hi3 : i9 = 0 ∨ i9 = 1 ∨ i9 = 2 ∨ i9 = 3 ∨ i9 = 4 ∨ i9 = 5 ∨ i9 = 6 ∨ i9 = 7 ∨ i9 = 8 ∨ i9 = 9 ∨ i9 = 10 ∨ i9 = 11 := by omega
   rcases hi3 with rfl | rfl | rfl | rfl | rfl | rfl | rfl | rfl | rfl | rfl | rfl | rfl
   ·obtain rfl : b0 = false := ready_self hr
    refine st_val rfl (by kernel_rfl) (some 36) rfl (.string F) V (by kernel_rfl) ?_
    exact ⟨true, b1, b2, b3, b4, b5, b6, b7, b8, b9, b10, b11, x40, rfl, rfl, hF⟩
   ·obtain rfl : b1 = false := ready_self hr
    refine st_val rfl (by kernel_rfl) (some 37) rfl (.int .i64 p) V (by kernel_rfl) ?_
    exact ⟨b0, true, b2, b3, b4, b5, b6, b7, b8, b9, b10, b11, x40, rfl, rfl, hF⟩
   ·obtain rfl : b2 = false := ready_self hr
    obtain rfl : b0 = true := ready_dep hr 0 (by kernel_rfl)
    obtain rfl : b1 = true := ready_dep hr 1 (by kernel_rfl)
    refine st_val rfl (by kernel_rfl) (some 38) rfl (.string y38) V ((by rw [← h38]; exact cut_to_s rfl F p hpm (by kernel_rfl) (by kernel_rfl) _)) ?_
    exact ⟨true, true, true, b3, b4, b5, b6, b7, b8, b9, b10, b11, x40, rfl, rfl, hF⟩
   ·obtain rfl : b3 = false := ready_self hr
    refine st_val rfl (by kernel_rfl) (some 39) rfl (.int .u8 by_) V (by kernel_rfl) ?_
    exact ⟨b0, b1, b2, true, b4, b5, b6, b7, b8, b9, b10, b11, x40, rfl, rfl, hF⟩
   ·obtain rfl : b4 = false := ready_self hr
    obtain rfl : b3 = true := ready_dep hr 3 (by kernel_rfl)
    refine st_build rfl (by kernel_rfl) (some 40) rfl 35 1 #[(0, .tmp 39)] rfl #[(0, .int .u8 by_)] (by kernel_rfl) (.slice (some ⟨V.heap.size, 0, none⟩) 1 1) _ (build_b1 by_ V) ?_
    exact ⟨b0, b1, b2, true, true, b5, b6, b7, b8, b9, b10, b11, _, rfl, rfl, hF.s4⟩
   ·obtain rfl : b5 = false := ready_self hr
    obtain rfl : b4 = true := ready_dep hr 4 (by kernel_rfl)
    obtain ⟨g9, rfl, hx9⟩ := hF.2 rfl
    refine st_val rfl (by kernel_rfl) (some 41) rfl (.string y41) V (by rw [← h41]; exact conv_b1 rfl by_ hx9 (by kernel_rfl)) ?_
    exact ⟨b0, b1, b2, b3, true, true, b6, b7, b8, b9, b10, b11, _, rfl, rfl, hF⟩
   ·obtain rfl : b6 = false := ready_self hr
    obtain rfl : b2 = true := ready_dep hr 2 (by kernel_rfl)
    obtain rfl : b5 = true := ready_dep hr 5 (by kernel_rfl)
    refine st_val rfl (by kernel_rfl) (some 42) rfl (.string y42) V (add_s rfl _ _ _ h42 hl42 (by kernel_rfl) (by kernel_rfl) _) ?_
    exact ⟨b0, b1, true, b3, b4, true, true, b7, b8, b9, b10, b11, x40, rfl, rfl, hF⟩
   ·obtain rfl : b7 = false := ready_self hr
    refine st_val rfl (by kernel_rfl) (some 43) rfl (.string F) V (by kernel_rfl) ?_
    exact ⟨b0, b1, b2, b3, b4, b5, b6, true, b8, b9, b10, b11, x40, rfl, rfl, hF⟩
   ·obtain rfl : b8 = false := ready_self hr
    refine st_val rfl (by kernel_rfl) (some 44) rfl (.int .i64 p) V (by kernel_rfl) ?_
    exact ⟨b0, b1, b2, b3, b4, b5, b6, b7, true, b9, b10, b11, x40, rfl, rfl, hF⟩
   ·obtain rfl : b9 = false := ready_self hr
    obtain rfl : b7 = true := ready_dep hr 7 (by kernel_rfl)
    obtain rfl : b8 = true := ready_dep hr 8 (by kernel_rfl)
    refine st_val rfl (by kernel_rfl) (some 45) rfl (.string y45) V ((by rw [← h45]; exact cut_from_s rfl F p hpm (by kernel_rfl) (by kernel_rfl) _)) ?_
    exact ⟨b0, b1, b2, b3, b4, b5, b6, true, true, true, b10, b11, x40, rfl, rfl, hF⟩
   ·obtain rfl : b10 = false := ready_self hr
    obtain rfl : b6 = true := ready_dep hr 6 (by kernel_rfl)
    obtain rfl : b9 = true := ready_dep hr 9 (by kernel_rfl)
    refine st_val rfl (by kernel_rfl) (some 46) rfl (.string y46) V (add_s rfl _ _ _ h46 hl46 (by kernel_rfl) (by kernel_rfl) _) ?_
    exact ⟨b0, b1, b2, b3, b4, b5, true, b7, b8, true, true, b11, x40, rfl, rfl, hF⟩
   ·obtain rfl : b11 = false := ready_self hr
    obtain rfl : b10 = true := ready_dep hr 10 (by kernel_rfl)
    refine st_val rfl (by kernel_rfl) (some 14) rfl (.string y46) V (by kernel_rfl) ?_
    exact ⟨b0, b1, b2, b3, b4, b5, b6, b7, b8, b9, true, true, x40, rfl, rfl, hF⟩
  ·intro act9 V hJ
   obtain ⟨b0, b1, b2, b3, b4, b5, b6, b7, b8, b9, b10, b11, x40, he, rfl, hF⟩ := hJ
   have he : (#[true, true, true, true, true, true, true, true, true, true, true, true] : Array Bool) = #[b0, b1, b2, b3, b4, b5, b6, b7, b8, b9, b10, b11] := he
   simp only [Array.mk.injEq, List.cons.injEq, and_true] at he
   obtain ⟨rfl, rfl, rfl, rfl, rfl, rfl, rfl, rfl, rfl, rfl, rfl, rfl⟩ := he
   simp only [cond_true]
   have hb5 := hF.1
   have HB5 := Lib.hid (HB3.out.trans (hb5.mono HB3.out.size))
   obtain ⟨W4, hW4⟩ : ∃ W4, W4 = V := ⟨V, rfl⟩
   subst hW4
   have CL := r_lines2 F (by omega) W4
   clear hF h0 hb5 HB3 h45 h41 h42 h46 hl42 hl46
   go_upto_region 6 with fail
   refine wl <| gz1 (.string F) <| gze (fun v w' => ∃ S, RowS w' W4.heap.size v S ∧ S.map nums = splitL [] (nums F) ∧ Below W4.heap.size W4 w') (CL) (fun v48 V5 hq => ?_)
   obtain ⟨Ls, hrow, hmp, hb6⟩ := hq
   obtain ⟨a9, c9, hv9, hcs9, hcl9⟩ := hrow.cs
   obtain rfl := hv9
   obtain ⟨nl, hnl⟩ : ∃ nl, Ls.length = nl := ⟨_, rfl⟩
   simp only [hnl]
   simp only [pu]
   refine gz1 (.slice a9 nl c9) <| wn ?_
   simp only [pu]
   have HB6 := Lib.hid (HB5.out.trans (hb6.mono HB5.out.size))
   have hlsz : ∀ i, i < nl → (Ls.getD i (⟨#[]⟩ : ByteArray)).size ≤ 408 := fun i hi => by
    have h1 := getD_memS (S := Ls) (i := i) (by omega)
    rw [hmp] at h1
    have h2 := split_len (nums F) [] _ h1
    rw [nums_len, nums_len] at h2
    simp only [List.length_nil] at h2
    omega
   have HLS := Lib.hid hlsz
   have hnp : 0 < nl := by rw [← hnl, map_len hmp]; exact split_pos _ _
   have hnb : nl ≤ 409 := by
    have h1 := split_num (nums F) []
    rw [nums_len, ← hmp, List.length_map] at h1
    omega
   have HA : Hid (∀ i, i < nl → ∃ b off, a9 = some ⟨b, off, none⟩ ∧ V5.cell? ⟨b, off + i, none⟩ = some (.string (Ls.getD i (⟨#[]⟩ : ByteArray)))) := Lib.hid fun i hi => by
    obtain ⟨b, off, e1, -, c1⟩ := strs_get hcs9 (k := i) (by omega)
    exact ⟨b, off, e1, c1⟩
   have hpr := pl_range ln nl (by omega)
   have CP := mk_place ln nl V5 (by omega) (by omega)
   obtain ⟨j, hj⟩ : ∃ j : Nat, pl ln nl = (j : Int) := ⟨(pl ln nl).toNat, by omega⟩
   rw [hj] at CP
   clear hj hpr hcs9 hcl9 hrow hmp hb6 hlsz CL HB5 hnl
   go_upto_region 7 with fail
   refine wl <| gz3 (.int .i64 ln) (.slice a9 nl c9) (.int .i64 nl) <| gzc (.int .i64 j) (fun w' => V5 = w') (CP) (fun V9 hV9 => ?_)
   subst hV9
   simp only [pu]
   refine gz1 (.int .i64 j) <| wn ?_
   simp only [pu]
   clear CP
   go_upto_region 8 with fail
   refine wl <| gz1 (.string ⟨#[]⟩) <| wn ?_
   simp only [pu]
   go_upto_region 9 with fail
   refine wl <| gz3 (.slice a9 nl c9) (.int .i64 nl) (.int .i64 0) <| wn ?_
   simp only [pu]
   go_wp2_with fail
   go_loopg [17, 55] nl (fun gg s17 s55 wx => ∃ (i : Nat) (u : ByteArray), s55 = .int .i64 i ∧ s17 = .string u ∧ i ≤ nl ∧ gg + i = nl ∧ u.size ≤ 1000 * i ∧ wx = V5)
   case atStart => exact ⟨0, _, rfl, rfl, by omega, by omega, Nat.le_refl _, rfl⟩
   case round =>
    obtain ⟨i, u, hs55, hs17, hin, hg, hu, hwx⟩ := hrel
    obtain rfl := hs55
    obtain rfl := hs17
    subst hwx
    have HGK : Hid (gk + i = nl) := Lib.hid hg
    clear hg
    by_cases hlt : i < nl
    ·skip
     obtain ⟨b, off, hab, hcl⟩ := HA.out i hlt
     obtain rfl := hab
     have hls := HLS.out i hlt
     generalize Ls.getD i (⟨#[]⟩ : ByteArray) = y at *
     go_upto_region 10 with fail
     refine wl <| gzb (lss_n rfl (i) (nl) dT) <| wn ?_
     simp only [pu]
     go_upto_region 11 with fail
     refine wl <| gz1 (.int .i64 i) <| gzv (.pointer (some ⟨b, off + i, none⟩)) (idx_str b off nl c9 i hlt _ _ _ rfl (by kernel_rfl) (by kernel_rfl)) <| gzl rfl ⟨b, off + i, none⟩ (.string y) (load_cell hcl (by kernel_rfl)) <| gz2 (.int .i64 i) (.string y) <| wn ?_
     simp only [pu]
     clear hcl
     by_cases hij : i = j
     ·skip
      by_cases h1 : hw % 3 = 1
      ·skip
       obtain ⟨b1, hb1⟩ : ∃ z, y ++ (⟨#[10]⟩ : ByteArray) = z := ⟨_, rfl⟩
       have hsb1 : b1.size = y.size + 1 := by rw [← hb1, ByteArray.size_append]; rfl
       have hlb1 : y.size + (⟨#[10]⟩ : ByteArray).size ≤ 9223372036854775807 := by show y.size + 1 ≤ _; omega
       obtain ⟨u1, hu1⟩ : ∃ z, u ++ b1 = z := ⟨_, rfl⟩
       have hsu1 : u1.size = u.size + b1.size := by rw [← hu1, ByteArray.size_append]
       have hlu1 : u.size + b1.size ≤ 9223372036854775807 := by omega
       obtain ⟨u2, hu2⟩ : ∃ z, u1 ++ y = z := ⟨_, rfl⟩
       have hsu2 : u2.size = u1.size + y.size := by rw [← hu2, ByteArray.size_append]
       have hlu2 : u1.size + y.size ≤ 9223372036854775807 := by omega
       go_upto_region 12 with fail
       refine wl <| gz2 (.int .i64 i) (.int .i64 j) <| gzb (neq_n rfl i j dF) <| gz2 (.bool false) (.int .u8 hw) <| gzw (.int .u8 (hw % 3 : Nat)) (rem_8 rfl hw 3 (by omega)) <|
        gzb (eql_u rfl (hw % 3 : Nat) 1 dT) <| gz1 (.bool true) <| wn ?_
       simp only [pu]
       go_upto_region 13 with fail
       refine wl <| gz2 (.string u) (.string y) <| gzw (.string b1) (add_s rfl _ _ _ hb1 hlb1) <| gzw (.string u1) (add_s rfl _ _ _ hu1 hlu1) <| gz1 (.string u1) <| wn ?_
       simp only [pu]
       go_upto_region 14 with fail
       refine wl <| gz2 (.int .i64 i) (.int .i64 j) <| gzb (eql_nn rfl i j (decide_eq_true hij)) <| gz2 (.bool true) (.int .u8 hw) <| gzw (.int .u8 (hw % 3 : Nat)) (rem_8 rfl hw 3 (by omega)) <|
        gzb (eql_u rfl (hw % 3 : Nat) 1 dT) <| gz1 (.bool true) <| wn ?_
       simp only [pu]
       go_upto_region 15 with fail
       refine wl <| gz2 (.string u1) (.string y) <| gzw (.string u2) (add_s rfl _ _ _ hu2 hlu2) <| gz1 (.string u2) <| wn ?_
       simp only [pu]
       go_upto_region 16 with fail
       refine wl <| gz2 (.int .i64 i) (.int .i64 j) <| gzb (eql_nn rfl i j (decide_eq_true hij)) <| gz2 (.bool true) (.int .u8 hw) <| gzw (.int .u8 (hw % 3 : Nat)) (rem_8 rfl hw 3 (by omega)) <|
        gzb (eql_u rfl (hw % 3 : Nat) 2 dF) <| gz1 (.bool false) <| wn ?_
       simp only [pu]
       go_upto_region 18 with fail
       refine wl <| gzv (.int .i64 (i + 1 : Nat)) (add_one rfl i (by omega) (by kernel_rfl) _) <| gz1 (.int .i64 (i + 1 : Nat)) <| wn ?_
       simp only [pu]
       go_wp2_with fail
       go_roundg (nl - (i + 1))
       case measure => have := HGK.out; omega
       case rel => exact ⟨i + 1, u2, rfl, rfl, by omega, by omega, by omega, rfl⟩
      ·skip
       by_cases h2 : hw % 3 = 2
       ·skip
        obtain ⟨b1, hb1⟩ : ∃ z, y ++ (⟨#[32, 53, 10]⟩ : ByteArray) = z := ⟨_, rfl⟩
        have hsb1 : b1.size = y.size + 3 := by rw [← hb1, ByteArray.size_append]; rfl
        have hlb1 : y.size + (⟨#[32, 53, 10]⟩ : ByteArray).size ≤ 9223372036854775807 := by show y.size + 3 ≤ _; omega
        obtain ⟨u1, hu1⟩ : ∃ z, u ++ b1 = z := ⟨_, rfl⟩
        have hsu1 : u1.size = u.size + b1.size := by rw [← hu1, ByteArray.size_append]
        have hlu1 : u.size + b1.size ≤ 9223372036854775807 := by omega
        go_upto_region 12 with fail
        refine wl <| gz2 (.int .i64 i) (.int .i64 j) <| gzb (neq_n rfl i j dF) <| gz2 (.bool false) (.int .u8 hw) <|
         gzw (.int .u8 (hw % 3 : Nat)) (rem_8 rfl hw 3 (by omega)) <| gzb (eql_u rfl (hw % 3 : Nat) 1 dF) <| gz1 (.bool false) <| wn ?_
        simp only [pu]
        go_upto_region 14 with fail
        refine wl <| gz2 (.int .i64 i) (.int .i64 j) <| gzb (eql_nn rfl i j (decide_eq_true hij)) <| gz2 (.bool true) (.int .u8 hw) <| gzw (.int .u8 (hw % 3 : Nat)) (rem_8 rfl hw 3 (by omega)) <|
         gzb (eql_u rfl (hw % 3 : Nat) 1 dF) <| gz1 (.bool false) <| wn ?_
        simp only [pu]
        go_upto_region 16 with fail
        refine wl <| gz2 (.int .i64 i) (.int .i64 j) <| gzb (eql_nn rfl i j (decide_eq_true hij)) <| gz2 (.bool true) (.int .u8 hw) <| gzw (.int .u8 (hw % 3 : Nat)) (rem_8 rfl hw 3 (by omega)) <|
         gzb (eql_u rfl (hw % 3 : Nat) 2 dT) <| gz1 (.bool true) <| wn ?_
        simp only [pu]
        go_upto_region 17 with fail
        refine wl <| gz2 (.string u) (.string y) <| gzw (.string b1) (add_s rfl _ _ _ hb1 hlb1) <| gzw (.string u1) (add_s rfl _ _ _ hu1 hlu1) <| gz1 (.string u1) <| wn ?_
        simp only [pu]
        go_upto_region 18 with fail
        refine wl <| gzv (.int .i64 (i + 1 : Nat)) (add_one rfl i (by omega) (by kernel_rfl) _) <| gz1 (.int .i64 (i + 1 : Nat)) <| wn ?_
        simp only [pu]
        go_wp2_with fail
        go_roundg (nl - (i + 1))
        case measure => have := HGK.out; omega
        case rel => exact ⟨i + 1, u1, rfl, rfl, by omega, by omega, by omega, rfl⟩
       ·skip
        go_upto_region 12 with fail
        refine wl <| gz2 (.int .i64 i) (.int .i64 j) <| gzb (neq_n rfl i j dF) <| gz2 (.bool false) (.int .u8 hw) <|
         gzw (.int .u8 (hw % 3 : Nat)) (rem_8 rfl hw 3 (by omega)) <| gzb (eql_u rfl (hw % 3 : Nat) 1 dF) <| gz1 (.bool false) <| wn ?_
        simp only [pu]
        go_upto_region 14 with fail
        refine wl <| gz2 (.int .i64 i) (.int .i64 j) <| gzb (eql_nn rfl i j (decide_eq_true hij)) <| gz2 (.bool true) (.int .u8 hw) <| gzw (.int .u8 (hw % 3 : Nat)) (rem_8 rfl hw 3 (by omega)) <|
         gzb (eql_u rfl (hw % 3 : Nat) 1 dF) <| gz1 (.bool false) <| wn ?_
        simp only [pu]
        go_upto_region 16 with fail
        refine wl <| gz2 (.int .i64 i) (.int .i64 j) <| gzb (eql_nn rfl i j (decide_eq_true hij)) <| gz2 (.bool true) (.int .u8 hw) <| gzw (.int .u8 (hw % 3 : Nat)) (rem_8 rfl hw 3 (by omega)) <|
         gzb (eql_u rfl (hw % 3 : Nat) 2 dF) <| gz1 (.bool false) <| wn ?_
        simp only [pu]
        go_upto_region 18 with fail
        refine wl <| gzv (.int .i64 (i + 1 : Nat)) (add_one rfl i (by omega) (by kernel_rfl) _) <| gz1 (.int .i64 (i + 1 : Nat)) <| wn ?_
        simp only [pu]
        go_wp2_with fail
        go_roundg (nl - (i + 1))
        case measure => have := HGK.out; omega
        case rel => exact ⟨i + 1, u, rfl, rfl, by omega, by omega, by omega, rfl⟩
     ·skip
      obtain ⟨b1, hb1⟩ : ∃ z, y ++ (⟨#[10]⟩ : ByteArray) = z := ⟨_, rfl⟩
      have hsb1 : b1.size = y.size + 1 := by rw [← hb1, ByteArray.size_append]; rfl
      have hlb1 : y.size + (⟨#[10]⟩ : ByteArray).size ≤ 9223372036854775807 := by show y.size + 1 ≤ _; omega
      obtain ⟨u1, hu1⟩ : ∃ z, u ++ b1 = z := ⟨_, rfl⟩
      have hsu1 : u1.size = u.size + b1.size := by rw [← hu1, ByteArray.size_append]
      have hlu1 : u.size + b1.size ≤ 9223372036854775807 := by omega
      go_upto_region 12 with fail
      refine wl <| gz2 (.int .i64 i) (.int .i64 j) <| gzb (neq_n rfl i j dT) <| gz5 (.bool true) undef undef undef (.bool true) <| wn ?_
      simp only [pu]
      go_upto_region 13 with fail
      refine wl <| gz2 (.string u) (.string y) <| gzw (.string b1) (add_s rfl _ _ _ hb1 hlb1) <| gzw (.string u1) (add_s rfl _ _ _ hu1 hlu1) <| gz1 (.string u1) <| wn ?_
      simp only [pu]
      go_upto_region 14 with fail
      refine wl <| gz2 (.int .i64 i) (.int .i64 j) <| gzb (eql_nn rfl i j (decide_eq_false hij)) <| gz5 (.bool false) undef undef undef (.bool false) <| wn ?_
      simp only [pu]
      go_upto_region 16 with fail
      refine wl <| gz2 (.int .i64 i) (.int .i64 j) <| gzb (eql_nn rfl i j (decide_eq_false hij)) <| gz5 (.bool false) undef undef undef (.bool false) <| wn ?_
      simp only [pu]
      go_upto_region 18 with fail
      refine wl <| gzv (.int .i64 (i + 1 : Nat)) (add_one rfl i (by omega) (by kernel_rfl) _) <| gz1 (.int .i64 (i + 1 : Nat)) <| wn ?_
      simp only [pu]
      go_wp2_with fail
      go_roundg (nl - (i + 1))
      case measure => have := HGK.out; omega
      case rel => exact ⟨i + 1, u1, rfl, rfl, by omega, by omega, by omega, rfl⟩
    ·skip
     obtain rfl : i = nl := by omega
     go_upto_region 10 with fail
     refine wl <| gzb (lss_n rfl (i) (i) dF) <| wn ?_
     simp only [pu]
     go_upto_region 19 with fail
     refine wl <| gz1 (.string y46) <| gzc (.bool true) (fun w' => Below wr.heap.size wr w') (r_parses HQ y46 (HS46.out) wr (HB6.out)) (fun V6 hb7 => ?_)
     simp only [pu]
     refine gz3 (.bool true) (.string F) (.int .i64 p) <| gzv (.string y38) ((by rw [← h38]; exact cut_to_s rfl F p hpm (by kernel_rfl) (by kernel_rfl) _)) <| gzc (.bool true) (fun w' => Below V6.heap.size V6 w') (r_parses HQ y38 (HS38.out) V6 ((HB6.out.trans (hb7.mono HB6.out.size)))) (fun V7 hb8 => ?_)
     simp only [pu]
     refine gz3 (.bool true) (.bool true) (.string u) <| gzc (.bool true) (fun w' => Below V7.heap.size V7 w') (r_parses HQ u (by omega) V7 (((HB6.out.trans (hb7.mono HB6.out.size)).trans (hb8.mono (HB6.out.trans (hb7.mono HB6.out.size)).size)))) (fun V8 hb9 => ?_)
     simp only [pu]
     refine gz2 (.bool true) (.bool true) <|
      gzc (.bool true) (fun w' => Below V8.heap.size V8 w') (known_true HQ V8 ((((HB6.out.trans (hb7.mono HB6.out.size)).trans (hb8.mono (HB6.out.trans (hb7.mono HB6.out.size)).size)).trans (hb9.mono ((HB6.out.trans (hb7.mono HB6.out.size)).trans (hb8.mono (HB6.out.trans (hb7.mono HB6.out.size)).size)).size)))) (fun V9 hb10 => ?_)
     simp only [pu]
     refine gz2 (.bool true) (.bool true) <| wn ?_
     simp only [pu]
     have h78 := hb7.trans (hb8.mono hb7.size)
     have h79 := h78.trans (hb9.mono h78.size)
     have h710 := h79.trans (hb10.mono h79.size)
     have HE := Lib.hid (HB6.out.trans (h710.mono HB6.out.size))
     go_wp2_with fail
     go_ret
     exact ⟨rfl, HE.out⟩
end Go.Proofs.YtplfineaomneiaaGreatDoor
