/-
 The statements' entry, raw and fixed example: contracts.
-/
import Derived.Test.YtgkckblcekbafaaVE
namespace Go.Proofs.Ytgkckblcekbafaa
attribute [local irreducible] wpList wpQuiet
open Go.RowKit
set_option maxRecDepth 100000
set_option linter.unusedSimpArgs false
set_option linter.unusedVariables false

theorem one_by (x : Int) (V : World) : (Instr.buildSlice 48 1 #[(0, .int .u8 x)]).run Try.prog V = .ok (.slice (some ⟨V.heap.size, 0, none⟩) 1 1) (V.alloc (.cells #[.int .u8 x] 5)) := by
 obtain ⟨i0, hi, hz0, hz1, hz2⟩ := info_parts info5
 refine run_buildSlice V 48 5 1 _ #[.int .u8 x] i0 _ Try.underlying48 hi hz0 (by rw [hz1]; omega) (by rw [hz1]; omega) ?_
 rw [hz1]
 kernel_rfl
/-- A key of one byte; the statements' small entry. -/
def kk (n : Nat) : Nat → Int := fun i => if i = 0 then (n : Int) else 0
def kEn (n : Nat) (p : Int) : En := ⟨kk n, [(n : Int)], ⟨#[]⟩, 0, 0, p, 0, 0, n, []⟩
/-- What raw counts. -/
def szE (e : En) : Nat := e.raw.length + e.snd.size + e.prs.length
def szL : List En → Nat
 | [] => 0
 | e :: r => szE e + szL r
theorem sz_app : ∀ A B : List En, szL (A ++ B) = szL A + szL B
 | [], B => by simp [szL]
 | e :: r, B => by simp only [List.cons_append, szL]; rw [sz_app r B]; omega
theorem sz_step (L : List En) (i : Nat) (h : i < L.length) : szL (L.take (i + 1)) = szL (L.take i) + szE (L.getD i zEn) := by
 rw [← take_snoc L i h, sz_app, List.getD_eq_getElem?_getD, List.getElem?_eq_getElem h]
 simp [szL]
theorem sz_take (L : List En) (i : Nat) : szL (L.take i) ≤ szL L := by
 have := sz_app (L.take i) (L.drop i)
 rw [List.take_append_drop] at this
 omega
theorem raw_sz (L : List En) : rawL L ≤ szL L := by
 induction L with
 | nil => exact Nat.le_refl _
 | cons e r ih => simp only [rawL, szL, szE]; omega
theorem sz_mem {L : List En} {e : En} (h : e ∈ L) : szE e ≤ szL L := by
 induction L with
 | nil => cases h
 | cons x r ih =>
  simp only [szL]
  rcases List.mem_cons.1 h with rfl | h
  ·omega
  ·have := ih h; omega
set_option maxRecDepth 100000 in
set_option maxHeartbeats 8000000 in
theorem k_entry (n : Nat) (hn : n ≤ 255) (p : Int) (w : World) : Calls Try.prog 21 #[.int .i64 n, .int .u64 p] w fun e w' => ∃ d, e = .returned (.agg (enA (kEn n p) d)) ∧ EnW w' w.heap.size (kEn n p) d ∧ Below w.heap.size w w' := by
 go_enter Try.func21, Try.ntmps21
 go_upto_region 1 with fail
 change Code.wp _ _ _ _ (w.alloc (.cells (enA zEn zAd) 50))
 have hb_0 : Below w.heap.size w (w.alloc (.cells (enA zEn zAd) 50)) := (Below.refl _ w).alloc (Nat.le_refl _) _
 have hX4 : Bx (w.alloc (.cells (enA zEn zAd) 50)) w.heap.size (enA zEn zAd) 50 := heap_alloc_last w _
 have hs_0 : (w.alloc (.cells (enA zEn zAd) 50)).heap.size = w.heap.size + 1 := by simp
 generalize w.alloc (.cells (enA zEn zAd) 50) = W at *
 obtain ⟨g4, hg4⟩ : ∃ g, w.heap.size = g := ⟨_, rfl⟩
 rw [hg4] at hX4
 have HGE : Hid (g4 = w.heap.size + 0 ∧ W.heap.size = w.heap.size + 1) := Lib.hid ⟨by omega, by omega⟩
 have HB := Lib.hid hb_0
 simp only [hg4]
 clear hb_0 hs_0 hg4
 have hbA : Below W.heap.size W (W.alloc (.cells #[.int .u8 n] 5)) := (Below.refl _ W).alloc (Nat.le_refl _) _
 have hbd := one_by n W
 have hXA : Bx (W.alloc (.cells #[.int .u8 n] 5)) W.heap.size #[.int .u8 n] 5 := heap_alloc_last W _
 obtain ⟨V2, hst2, hY8, hbt2⟩ := st_all (cs' := enA (kEn n p) ⟨some ⟨W.heap.size, 0, none⟩, 1, none, 0⟩) (ty := 50) (hX4.below hX4.lt hbA) rfl (enA_one _ _) (by kernel_rfl)
 have hrow : (W.alloc (.cells #[.int .u8 n] 5)).ownsRow w.heap.size 5 1 (.slice (some ⟨W.heap.size, 0, none⟩) 1 1) 1 (bcells [(n : Int)]) := ⟨rfl, .inr ⟨W.heap.size, 1, #[.int .u8 n], rfl, HB.out.size, hXA, Nat.le_refl _, by unfold maxLen; omega, rfl, rfl⟩⟩
 have HE : Hid (EnW V2 w.heap.size (kEn n p) ⟨some ⟨W.heap.size, 0, none⟩, 1, none, 0⟩ ∧ Below w.heap.size w V2) := Lib.hid ⟨⟨own_butq hrow hbt2 fun y hy => by cases hy; have := HGE.out; show W.heap.size ≠ g4; omega, World.ownsRow_nil _ _ _ _⟩, (HB.out.trans (hbA.mono HB.out.size)).trans (hbt2.1.mono (by have := HGE.out; omega))⟩
 clear hX4 hXA hrow hbt2 hbA
 refine wl <| gz1 (.int .i64 n) <| gzv (.int .u8 n) (conv_i8 rfl n hn (by kernel_rfl) _) <| gz2 (.agg (kcA (kk n))) (.int .i64 n) <| gzv (.int .u8 n) (conv_i8 rfl n hn (by kernel_rfl) _) ?_
 simp only [pu]
 refine gw_build (by kernel_rfl) (some 10) rfl 48 1 #[(0, .tmp 9)] rfl #[(0, .int .u8 n)] (by kernel_rfl) (.slice (some ⟨W.heap.size, 0, none⟩) 1 1) _ (hbd) ?_
 simp only [pu]
 refine gz3 (.int .u64 p) (.int .i64 n) (.agg (enA (kEn n p) ⟨some ⟨W.heap.size, 0, none⟩, 1, none, 0⟩)) <| gzs rfl (hst2) <| wn ?_
 simp only [pu]
 clear hst2 hbd
 go_wp2_with fail
 exact bodyPost_ret (results_1c rfl (by kernel_rfl) (load_en (bx_range hY8))) rfl ⟨_, rfl, HE.out⟩
set_option maxRecDepth 100000 in
set_option maxHeartbeats 8000000 in
theorem k_raw {w : World} {a : Option Addr} {c : Nat} {X : List (En × Ad)} (h : Xr w a X) (hl : X.length ≤ 1000000) (hr : szL (lE X) ≤ 100000000000) : Calls Try.prog 8 #[.slice a X.length c] w fun e w' => e = .returned (.bool (decide (((X.length + szL (lE X) : Nat) : Int) < 200))) ∧ Below w.heap.size w w' := by
 have HRNG : Hid (∀ V, Below w.heap.size w V → ∀ i, i < X.length → ∃ b off, a = some ⟨b, off, none⟩ ∧ V.rangeAt b (off + i * 41) (enp (X.getD i zEA))) := Lib.hid fun V hV i hi => by
  obtain ⟨b, off, h1, -, h2⟩ := (h.below hV).rg hi
  exact ⟨b, off, h1, h2⟩
 have HL := lE_at X
 have HLL := lE_len X
 generalize lE X = L at *
 have HSZ : Hid (∀ i, szL (L.take i) ≤ 100000000000) := Lib.hid fun i => Nat.le_trans (sz_take L i) hr
 have HKX : Hid (∀ i, i < X.length → (L.getD i zEn) = (X.getD i zEA).1) := Lib.hid HL
 obtain ⟨n, hn⟩ : ∃ n, X.length = n := ⟨_, rfl⟩
 rw [hn] at HRNG HLL HKX hl ⊢
 have HN := Lib.hid hl
 have HLN := Lib.hid HLL
 have HST := Lib.hid (Below.refl w.heap.size w)
 clear h hn HL HLL hl hr
 go_enter Try.func8, Try.ntmps8
 go_upto_region 1 with fail
 refine wl <| gz3 (.slice a n c) (.int .i64 n) (.int .i64 n) <| wn ?_
 simp only [pu]
 go_upto_region 2 with fail
 refine wl <| gz3 (.slice a n c) (.int .i64 n) (.int .i64 0) <| wn ?_
 simp only [pu]
 go_wp2_with fail
 go_loopg [3, 10] n (fun gg s3 s10 wx => ∃ (i cn : Nat), s10 = .int .i64 i ∧ s3 = .int .i64 cn ∧ i ≤ n ∧ gg + i = n ∧ Hid (cn = n + szL (L.take i)) ∧ Hid (Below w.heap.size w wx))
 case atStart => exact ⟨0, n, rfl, rfl, by omega, by omega, Lib.hid (by simp [szL]), HST⟩
 case round =>
  obtain ⟨i, cn, rfl, rfl, hin, hg, HC, HR⟩ := hrel
  clear HST
  have HGK : Hid (gk + i = n) := Lib.hid hg
  clear hg
  by_cases hlt : i < n
  ·skip
   obtain ⟨b, off, hbb, hrg⟩ := HRNG.out wr HR.out i hlt
   obtain rfl := hbb
   have hkx := HKX.out i hlt
   obtain ⟨x, hx⟩ : ∃ x, X.getD i zEA = x := ⟨_, rfl⟩
   rw [hx] at hrg hkx
   obtain ⟨V2, hst2, hb2, hX5⟩ := new_bx (c := enA zEn zAd) (c' := enA x.1 x.2) (ty := 50) wr rfl (enA_one _ _) (by kernel_rfl)
   have HR2 := Lib.hid (HR.out.trans (hb2.mono HR.out.size))
   have hs := sz_step L i (by have := HLN.out; omega)
   have hsz := HSZ.out (i + 1)
   rw [hkx] at hs
   have HS : Hid (szL (L.take (i + 1)) = szL (L.take i) + (x.1.raw.length + x.1.snd.size + x.1.prs.length) ∧ szL (L.take (i + 1)) ≤ 100000000000) := Lib.hid ⟨hs, hsz⟩
   clear hx hkx HR hs hsz
   go_upto_region 3 with fail
   refine wl <| gzb (lss_n rfl (i) (n) dT) <| wn ?_
   simp only [pu]
   go_upto_region 4 with fail
   refine wl <| gzv (.pointer (some ⟨b, off + i * 41, none⟩)) (idx_en b off n c i hlt _ _ _ rfl (by kernel_rfl) (by kernel_rfl)) <| gzl rfl ⟨b, off + i * 41, none⟩ (.agg (enA x.1 x.2)) (load_en hrg) ?_
   simp only [pu]
   refine run_to rfl (some 5) rfl (.pointer (some ⟨wr.heap.size, 0, none⟩)) (wr.alloc (.cells (enA zEn zAd) 50)) (by kernel_rfl) ?_
   simp only [pu]
   refine gzs rfl (hst2) <| wn ?_
   obtain ⟨g5, hg5⟩ : ∃ g, wr.heap.size = g := ⟨_, rfl⟩
   rw [hg5] at hX5 ⊢
   clear hst2 hb2 hrg hg5
   go_upto_region 5 with fail
   refine wl <| gz2 (.int .i64 cn) (.pointer (some ⟨g5, 32, none⟩)) <| gzl rfl ⟨g5, 32, none⟩ (.slice x.2.ra x.1.raw.length x.2.rc) (rg_cell (bx_range hX5) (j := 32) rfl (by kernel_rfl)) <| gz2 (.int .i64 x.1.raw.length) (.pointer (some ⟨g5, 33, none⟩)) <|
    gzl rfl ⟨g5, 33, none⟩ (.string x.1.snd) (rg_cell (bx_range hX5) (j := 33) rfl (by kernel_rfl)) <| gz1 (.int .i64 x.1.snd.size) <|
    gzw (.int .i64 ((x.1.raw.length + x.1.snd.size : Nat) : Int)) (add_nn rfl (x.1.raw.length) (x.1.snd.size) (by have := HS.out; have := HC.out; have := HN.out; omega)) <| gz1 (.pointer (some ⟨g5, 40, none⟩)) <|
    gzl rfl ⟨g5, 40, none⟩ (.slice x.2.pa x.1.prs.length x.2.pc) (rg_cell (bx_range hX5) (j := 40) rfl (by kernel_rfl)) <| gz1 (.int .i64 x.1.prs.length) <|
    gzw (.int .i64 ((x.1.raw.length + x.1.snd.size + x.1.prs.length : Nat) : Int)) (add_nn rfl (x.1.raw.length + x.1.snd.size) (x.1.prs.length) (by have := HS.out; have := HC.out; have := HN.out; omega)) <|
    gzw (.int .i64 ((cn + (x.1.raw.length + x.1.snd.size + x.1.prs.length) : Nat) : Int)) (add_nn rfl (cn) ((x.1.raw.length + x.1.snd.size + x.1.prs.length)) (by have := HS.out; have := HC.out; have := HN.out; omega)) <|
    gz1 (.int .i64 ((cn + (x.1.raw.length + x.1.snd.size + x.1.prs.length) : Nat) : Int)) <| wn ?_
   simp only [pu]
   clear hX5
   go_upto_region 6 with fail
   refine wl <| gzv (.int .i64 (i + 1 : Nat)) (add_one rfl i (by have := HN.out; omega) (by kernel_rfl) _) <| gz1 (.int .i64 (i + 1 : Nat)) <| wn ?_
   simp only [pu]
   go_wp2_with fail
   go_roundg (n - (i + 1))
   case measure => have := HGK.out; omega
   case rel => exact ⟨i + 1, _, rfl, rfl, by omega, by omega, Lib.hid (by have := HS.out; have := HC.out; omega), HR2⟩
  ·skip
   obtain rfl : i = n := by omega
   go_upto_region 3 with fail
   refine wl <| gzb (lss_n rfl (i) (i) dF) <| wn ?_
   simp only [pu]
   have hcn := HC.out
   rw [List.take_of_length_le (by have := HLN.out; omega)] at hcn
   obtain ⟨q, hq⟩ : ∃ q : Bool, decide ((cn : Int) < 200) = q := ⟨_, rfl⟩
   have HE : Hid (q = decide (((i + szL L : Nat) : Int) < 200)) := Lib.hid (by rw [← hq, hcn])
   clear hcn
   go_upto_region 7 with fail
   refine wl <| gz1 (.int .i64 cn) <| gzw (.bool q) (lss_n rfl cn 200 hq) <| gz1 (.bool q) <| wn ?_
   simp only [pu]
   go_wp2_with fail
   go_ret
   exact ⟨congrArg (fun q => Ending.returned (Value.bool q)) HE.out, HR.out⟩
def kL3 : List En := [kEn 1 1, kEn 2 2, kEn 3 2]
theorem kV1 : vicB (ordL kL3) 2 (max 1 0) 3 100 = true := by decide +kernel
theorem kV2 : vicB (ordL kL3) 3 (max 1 0) 1 100 = true := by decide +kernel
theorem kV3 : vicB (ordL []) 3 (max 1 0) 0 100 = false := by decide +kernel
theorem kO : ordL kL3 = [kEn 1 1, kEn 3 2, kEn 2 2] := by kernel_rfl
theorem kN1 : vicN (ordL kL3) 2 (max 1 0) 3 100 = 1 := by decide +kernel
theorem kN2 : vicN (ordL kL3) 3 (max 1 0) 1 100 = 3 := by decide +kernel
theorem kK1 : vicK (ordL kL3) 2 (max 1 0) 3 100 = [kk 1] := by
 unfold vicK
 rw [kV1, kN1, kO]
 rfl
theorem kK2 : vicK (ordL kL3) 3 (max 1 0) 1 100 = [kk 1, kk 3, kk 2] := by
 unfold vicK
 rw [kV2, kN2, kO]
 rfl
theorem build_3en (x y z : En × Ad) (V : World) : (Instr.buildSlice 22 3 #[(0, .agg (enA x.1 x.2)), (1, .agg (enA y.1 y.2)), (2, .agg (enA z.1 z.2))]).run Try.prog V = .ok (.slice (some ⟨V.heap.size, 0, none⟩) 3 3) (V.alloc (.cells (ens [x, y, z]).toArray 50)) := by
 obtain ⟨i0, hi, hz0, hz1, hz2⟩ := info_parts infoEe
 refine run_buildSlice V 22 50 3 _ (ens [x, y, z]).toArray i0 _ Try.underlying22 hi hz0 (by rw [hz1]; omega) (by rw [hz1]; omega) ?_
 rw [hz1]
 kernel_rfl
theorem build_3ky (x y z : Nat → Int) (V : World) : (Instr.buildSlice 39 3 #[(0, .agg (kcA x)), (1, .agg (kcA y)), (2, .agg (kcA z))]).run Try.prog V = .ok (.slice (some ⟨V.heap.size, 0, none⟩) 3 3) (V.alloc (.cells (kys [x, y, z]).toArray 47)) := by
 obtain ⟨i0, hi, hz0, hz1, hz2⟩ := info_parts infoKy
 refine run_buildSlice V 39 47 3 _ (kys [x, y, z]).toArray i0 _ Try.underlying39 hi hz0 (by rw [hz1]; omega) (by rw [hz1]; omega) ?_
 rw [hz1]
 kernel_rfl
set_option maxRecDepth 100000 in
set_option maxHeartbeats 8000000 in
theorem known_true (w : World) : Calls Try.prog 9 #[] w fun e w' => e = .returned (.bool true) ∧ Below w.heap.size w w' := by
 go_enter Try.func9, Try.ntmps9
 go_upto_region 1 with fail
 refine wl <| gze (fun v w' => ∃ d, v = .agg (enA (kEn 1 1) d) ∧ EnW w' w.heap.size (kEn 1 1) d ∧ Below w.heap.size w w') ((k_entry 1 (by omega) 1 w).mono fun e9 w' z => by obtain ⟨d, h1, h2, h3⟩ := z; exact ⟨_, h1, d, rfl, h2, h3⟩) (fun vv V1 hq => ?_)
 obtain ⟨d1, rfl, hw1, hb1⟩ := hq
 simp only [pu]
 refine gze (fun v w' => ∃ d, v = .agg (enA (kEn 2 2) d) ∧ EnW w' V1.heap.size (kEn 2 2) d ∧ Below V1.heap.size V1 w') ((k_entry 2 (by omega) 2 V1).mono fun e9 w' z => by obtain ⟨d, h1, h2, h3⟩ := z; exact ⟨_, h1, d, rfl, h2, h3⟩) (fun vv V2 hq => ?_)
 obtain ⟨d2, rfl, hw2, hb2⟩ := hq
 simp only [pu]
 refine gze (fun v w' => ∃ d, v = .agg (enA (kEn 3 2) d) ∧ EnW w' V2.heap.size (kEn 3 2) d ∧ Below V2.heap.size V2 w') ((k_entry 3 (by omega) 2 V2).mono fun e9 w' z => by obtain ⟨d, h1, h2, h3⟩ := z; exact ⟨_, h1, d, rfl, h2, h3⟩) (fun vv V3 hq => ?_)
 obtain ⟨d3, rfl, hw3, hb3⟩ := hq
 simp only [pu]
 refine gw_build (by kernel_rfl) (some 11) rfl 22 3 #[(0, .tmp 8), (1, .tmp 9), (2, .tmp 10)] rfl #[(0, .agg (enA (kEn 1 1) d1)), (1, .agg (enA (kEn 2 2) d2)), (2, .agg (enA (kEn 3 2) d3))] (by kernel_rfl) (.slice (some ⟨V3.heap.size, 0, none⟩) 3 3) _ (build_3en (kEn 1 1, d1) (kEn 2 2, d2) (kEn 3 2, d3) V3) ?_
 simp only [pu]
 refine gz1 (.slice (some ⟨V3.heap.size, 0, none⟩) 3 3) <| wn ?_
 simp only [pu]
 have hb4 : Below V3.heap.size V3 (V3.alloc (.cells (ens [(kEn 1 1, d1), (kEn 2 2, d2), (kEn 3 2, d3)]).toArray 50)) := (Below.refl _ V3).alloc (Nat.le_refl _) _
 have hcs : Cs (V3.alloc (.cells (ens [(kEn 1 1, d1), (kEn 2 2, d2), (kEn 3 2, d3)]).toArray 50)) (some ⟨V3.heap.size, 0, none⟩) (ens [(kEn 1 1, d1), (kEn 2 2, d2), (kEn 3 2, d3)]) := Cs.block (t := 50) (fr := (0, 0)) (heap_alloc_last V3 _)
 generalize V3.alloc (.cells (ens [(kEn 1 1, d1), (kEn 2 2, d2), (kEn 3 2, d3)]).toArray 50) = V4 at *
 have hxr : Xr V4 (some ⟨V3.heap.size, 0, none⟩) [(kEn 1 1, d1), (kEn 2 2, d2), (kEn 3 2, d3)] := ⟨hcs, en_sub fun x hx => by
  simp only [List.mem_cons, List.not_mem_nil, or_false] at hx
  rcases hx with rfl | rfl | rfl
  ·exact (((hw1.i.below hb2).below hb3).below hb4)
  ·exact ((hw2.i.below hb3).below hb4)
  ·exact (hw3.i.below hb4)⟩
 have HB4 : Hid (Below w.heap.size w V4) := Lib.hid (((hb1.trans (hb2.mono hb1.size)).trans (hb3.mono (by have := hb1.size; have := hb2.size; omega))).trans (hb4.mono (by have := hb1.size; have := hb2.size; have := hb3.size; omega)))
 have HXR := Lib.hid (fun V (hV : Below V4.heap.size V4 V) => hxr.below hV)
 obtain ⟨gr, hgr⟩ : ∃ q, V3.heap.size = q := ⟨_, rfl⟩
 rw [hgr] at HXR ⊢
 have C1 := q_select (c := 3) (HXR.out V4 (Below.refl _ _)) (by simp) (show rawL kL3 ≤ 40000000 by decide) 2 1 3 100 (by omega)
 rw [show lE [(kEn 1 1, d1), (kEn 2 2, d2), (kEn 3 2, d3)] = kL3 from rfl, kV1, kK1] at C1
 clear hw1 hw2 hw3 hb1 hb2 hb3 hb4 hcs hxr hgr
 go_upto_region 2 with fail
 refine wl <| gz1 (.slice (some ⟨gr, 0, none⟩) 3 3) <| gze (fun v w' => ∃ a c, v = .tuple #[.slice a 1 c, .bool true] ∧ Cs w' a (kys [kk 1]) ∧ Below V4.heap.size V4 w') (C1.mono fun e9 w' z => by obtain ⟨v, h1, a, c, rfl, h2, h3⟩ := z; exact ⟨_, h1, a, c, rfl, h2, h3⟩) (fun vv V5 hq => ?_)
 obtain ⟨a1, c1, rfl, hk1, hb1⟩ := hq
 simp only [pu]
 refine gz5 (.tuple #[.slice a1 1 c1, .bool true]) (.slice a1 1 c1) (.bool true) (.slice a1 1 c1) (.bool true) <| wn ?_
 simp only [pu]
 have HB5 : Hid (Below w.heap.size w V5 ∧ Below V4.heap.size V4 V5) := Lib.hid ⟨HB4.out.trans (hb1.mono HB4.out.size), hb1⟩
 have C2 := q_select (c := 3) (HXR.out V5 HB5.out.2) (by simp) (show rawL kL3 ≤ 40000000 by decide) 3 1 1 100 (by omega)
 rw [show lE [(kEn 1 1, d1), (kEn 2 2, d2), (kEn 3 2, d3)] = kL3 from rfl, kV2, kK2] at C2
 clear hb1 C1 HXR
 go_upto_region 3 with fail
 refine wl <| gz1 (.slice (some ⟨gr, 0, none⟩) 3 3) <| gze (fun v w' => ∃ a c, v = .tuple #[.slice a 3 c, .bool true] ∧ Cs w' a (kys [kk 1, kk 3, kk 2]) ∧ Below V5.heap.size V5 w') (C2.mono fun e9 w' z => by obtain ⟨v, h1, a, c, rfl, h2, h3⟩ := z; exact ⟨_, h1, a, c, rfl, h2, h3⟩) (fun vv V6 hq => ?_)
 obtain ⟨a2, c2, rfl, hk2, hb2⟩ := hq
 simp only [pu]
 refine gz5 (.tuple #[.slice a2 3 c2, .bool true]) (.slice a2 3 c2) (.bool true) (.slice a2 3 c2) (.bool true) <| wn ?_
 simp only [pu]
 have HB6 : Hid (Below w.heap.size w V6) := Lib.hid (HB5.out.1.trans (hb2.mono HB5.out.1.size))
 have hk1 := hk1.below hb2
 have C3 := q_select (c := 0) (Xr.nil V6 none) (by simp) (show rawL (lE []) ≤ 40000000 by decide) 3 1 0 100 (by omega)
 rw [show lE [] = [] from rfl, kV3, show vicK (ordL []) 3 (max 1 0) 0 100 = [] by unfold vicK; rw [kV3]; rfl] at C3
 clear hb2 C2
 go_upto_region 4 with fail
 refine wl <| gze (fun v w' => ∃ a c, v = .tuple #[.slice a 0 c, .bool false] ∧ Cs w' a (kys []) ∧ Below V6.heap.size V6 w') (C3.mono fun e9 w' z => by obtain ⟨v, h1, a, c, rfl, h2, h3⟩ := z; exact ⟨_, h1, a, c, rfl, h2, h3⟩) (fun vv V7 hq => ?_)
 obtain ⟨a3, c3, rfl, hk3, hb3⟩ := hq
 simp only [pu]
 refine gz5 (.tuple #[.slice a3 0 c3, .bool false]) (.slice a3 0 c3) (.bool false) (.slice a3 0 c3) (.bool false) <| wn ?_
 simp only [pu]
 have HB7 : Hid (Below w.heap.size w V7) := Lib.hid (HB6.out.trans (hb3.mono HB6.out.size))
 have hk1 := hk1.below hb3
 have hk2 := hk2.below hb3
 clear hb3 C3 hk3
 go_upto_region 5 with fail
 refine wl <| gz4 (.bool true) (.bool true) (.slice a1 1 c1) (.agg (kcA (kk 1))) ?_
 simp only [pu]
 refine gw_build (by kernel_rfl) (some 30) rfl 39 1 #[(0, .tmp 29)] rfl #[(0, .agg (kcA (kk 1)))] (by kernel_rfl) (.slice (some ⟨V7.heap.size, 0, none⟩) 1 1) _ (build_ky (kk 1) V7) ?_
 have hb8 : Below V7.heap.size V7 (V7.alloc (.cells (kcA (kk 1)) 47)) := (Below.refl _ V7).alloc (Nat.le_refl _) _
 have hk8 : Cs (V7.alloc (.cells (kcA (kk 1)) 47)) (some ⟨V7.heap.size, 0, none⟩) (kys [kk 1]) := by
  have := Cs.block (cs := kcl (kk 1)) (t := 47) (fr := (0, 0)) (heap_alloc_last V7 (.cells (kcA (kk 1)) 47))
  unfold kys
  simpa using this
 have hk1 := hk1.below hb8
 have hk2 := hk2.below hb8
 have HB8 := Lib.hid (HB7.out.trans (hb8.mono HB7.out.size))
 generalize V7.alloc (.cells (kcA (kk 1)) 47) = V8 at *
 have C4 := same_keys (c := c1) (c2 := 1) hk1 hk8 (by simp)
 simp only [pu]
 refine gzc (.bool true) (fun w' => Below V8.heap.size V8 w') (C4) (fun V9 hV9 => ?_)
 have hk2 := hk2.below hV9
 have HB9 := Lib.hid (HB8.out.trans (hV9.mono HB8.out.size))
 clear hV9 C4 hk8 hk1 hb8
 simp only [pu]
 refine gz6 (.bool true) (.bool true) (.bool true) (.bool true) (.bool true) (.slice a2 3 c2) <| gz3 (.agg (kcA (kk 1))) (.agg (kcA (kk 3))) (.agg (kcA (kk 2))) ?_
 simp only [pu]
 refine gw_build (by kernel_rfl) (some 41) rfl 39 3 #[(0, .tmp 38), (1, .tmp 39), (2, .tmp 40)] rfl #[(0, .agg (kcA (kk 1))), (1, .agg (kcA (kk 3))), (2, .agg (kcA (kk 2)))] (by kernel_rfl) (.slice (some ⟨V9.heap.size, 0, none⟩) 3 3) _ (build_3ky (kk 1) (kk 3) (kk 2) V9) ?_
 have hb10 : Below V9.heap.size V9 (V9.alloc (.cells (kys [kk 1, kk 3, kk 2]).toArray 47)) := (Below.refl _ V9).alloc (Nat.le_refl _) _
 have hk10 : Cs (V9.alloc (.cells (kys [kk 1, kk 3, kk 2]).toArray 47)) (some ⟨V9.heap.size, 0, none⟩) (kys [kk 1, kk 3, kk 2]) := Cs.block (t := 47) (fr := (0, 0)) (heap_alloc_last V9 _)
 have hk2 := hk2.below hb10
 have HB10 := Lib.hid (HB9.out.trans (hb10.mono HB9.out.size))
 generalize V9.alloc (.cells (kys [kk 1, kk 3, kk 2]).toArray 47) = V10 at *
 have C5 := same_keys (c := c2) (c2 := 3) hk2 hk10 (by simp)
 simp only [pu]
 refine gzc (.bool true) (fun w' => Below V10.heap.size V10 w') (C5) (fun V11 hV11 => ?_)
 have HE := Lib.hid (HB10.out.trans (hV11.mono HB10.out.size))
 clear hV11 C5 hk10 hk2 hb10
 simp only [pu]
 refine gz6 (.bool true) (.bool true) (.bool false) (.bool true) (.bool true) (.bool true) <| wn ?_
 simp only [pu]
 go_wp2_with fail
 go_ret
 exact ⟨rfl, HE.out⟩
end Go.Proofs.Ytgkckblcekbafaa
