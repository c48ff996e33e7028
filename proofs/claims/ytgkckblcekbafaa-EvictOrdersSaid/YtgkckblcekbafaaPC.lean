/-
 The reference's Bytes, SameEntries: contracts.
-/
import Derived.Test.YtgkckblcekbafaaPB
namespace Go.Proofs.Ytgkckblcekbafaa
attribute [local irreducible] wpList wpQuiet
open Go.RowKit
set_option maxRecDepth 100000
set_option linter.unusedSimpArgs false
set_option linter.unusedVariables false

set_option maxRecDepth 100000 in
set_option maxHeartbeats 8000000 in
theorem r_bytes {w : World} {a : Option Addr} {c : Nat} {X : List (En × Ad)} (h : Xr w a X) (hl : X.length ≤ 100000) (hr : rawL (lE X) ≤ 40000000) : Calls Try.prog 20 #[.slice a X.length c] w fun e w' => e = .returned (.int .i64 (rawL (lE X))) ∧ Below w.heap.size w w' := by
 have HRNG : Hid (∀ V, Below w.heap.size w V → ∀ i, i < X.length → ∃ b off, a = some ⟨b, off, none⟩ ∧ V.rangeAt b (off + i * 41) (enp (X.getD i zEA))) := Lib.hid fun V hV i hi => by
  obtain ⟨b, off, h1, -, h2⟩ := (h.below hV).rg hi
  exact ⟨b, off, h1, h2⟩
 have HL := lE_at X
 have HLL := lE_len X
 generalize lE X = L at *
 have HSZ : Hid (∀ i, rawL (L.take i) ≤ 40000000) := Lib.hid fun i => Nat.le_trans (raw_sub (List.take_sublist i L)) hr
 have HKX : Hid (∀ i, i < X.length → (L.getD i zEn) = (X.getD i zEA).1) := Lib.hid HL
 obtain ⟨n, hn⟩ : ∃ n, X.length = n := ⟨_, rfl⟩
 rw [hn] at HRNG HLL HKX hl ⊢
 have HN := Lib.hid hl
 have HLN := Lib.hid HLL
 have HST := Lib.hid (Below.refl w.heap.size w)
 clear h hn HL HLL hl hr
 go_enter Try.func20, Try.ntmps20
 go_upto_region 1 with fail
 refine wl <| gz1 (.int .i64 0) <| wn ?_
 simp only [pu]
 go_upto_region 2 with fail
 refine wl <| gz3 (.slice a n c) (.int .i64 n) (.int .i64 0) <| wn ?_
 simp only [pu]
 go_wp2_with fail
 go_loopg [3, 8] n (fun gg s3 s8 wx => ∃ (i : Nat), s8 = .int .i64 i ∧ s3 = .int .i64 (rawL (L.take i)) ∧ i ≤ n ∧ gg + i = n ∧ Hid (Below w.heap.size w wx))
 case atStart => exact ⟨0, rfl, rfl, by omega, by omega, HST⟩
 case round =>
  obtain ⟨i, rfl, rfl, hin, hg, HR⟩ := hrel
  clear HST
  obtain ⟨cn, hcn⟩ : ∃ k, rawL (L.take i) = k := ⟨_, rfl⟩
  have HCN := Lib.hid hcn
  rw [hcn]
  have HGK : Hid (gk + i = n) := Lib.hid hg
  clear hg hcn
  by_cases hlt : i < n
  ·skip
   obtain ⟨b, off, hbb, hrg⟩ := HRNG.out wr HR.out i hlt
   obtain rfl := hbb
   have hkx := HKX.out i hlt
   obtain ⟨x, hx⟩ : ∃ x, X.getD i zEA = x := ⟨_, rfl⟩
   rw [hx] at hrg hkx
   obtain ⟨V2, hst2, hb2, hX5⟩ := new_bx (c := enA zEn zAd) (c' := enA x.1 x.2) (ty := 50) wr rfl (enA_one _ _) (by kernel_rfl)
   have HR2 := Lib.hid (HR.out.trans (hb2.mono HR.out.size))
   have hs := raw_step L i (by have := HLN.out; omega)
   have hsz := HSZ.out (i + 1)
   rw [HCN.out, hkx] at hs
   have HS := Lib.hid hs
   have HZ : Hid (cn + x.1.raw.length ≤ 40000000) := Lib.hid (by omega)
   clear hx hkx HR hs hsz
   go_upto_region 3 with fail
   refine wl <| gzb (lss_n rfl (i) (n) dT) <| wn ?_
   simp only [pu]
   go_upto_region 4 with fail
   refine wl <| gzv (.pointer (some ⟨b, off + i * 41, none⟩)) (idx_en b off n c i hlt _ _ _ rfl (by kernel_rfl) (by kernel_rfl)) <| gzl rfl ⟨b, off + i * 41, none⟩ (.agg (enA x.1 x.2)) (load_en hrg) ?_
   simp only [pu]
   refine run_to rfl (some 5) rfl (.pointer (some ⟨wr.heap.size, 0, none⟩)) (wr.alloc (.cells (enA zEn zAd) 50)) (by kernel_rfl) ?_
   simp only [pu]
   refine gzs rfl (hst2) <| wn ?_
   obtain ⟨g5, hg5⟩ : ∃ g, wr.heap.size = g := ⟨_, rfl⟩
   rw [hg5] at hX5 ⊢
   clear hst2 hb2 hrg hg5
   go_upto_region 5 with fail
   refine wl <| gz2 (.int .i64 cn) (.pointer (some ⟨g5, 32, none⟩)) <| gzl rfl ⟨g5, 32, none⟩ (.slice x.2.ra x.1.raw.length x.2.rc) (rg_cell (bx_range hX5) (j := 32) rfl (by kernel_rfl)) <| gz1 (.int .i64 x.1.raw.length) <|
    gzw (.int .i64 ((cn : Int) + x.1.raw.length)) (add_i rfl cn x.1.raw.length (by have := HZ.out; omega)) <| gz1 (.int .i64 ((cn : Int) + x.1.raw.length)) <| wn ?_
   simp only [pu]
   clear hX5
   go_upto_region 6 with fail
   refine wl <| gzv (.int .i64 (i + 1 : Nat)) (add_one rfl i (by have := HN.out; omega) (by kernel_rfl) _) <| gz1 (.int .i64 (i + 1 : Nat)) <| wn ?_
   simp only [pu]
   go_wp2_with fail
   go_roundg (n - (i + 1))
   case measure => have := HGK.out; omega
   case rel => exact ⟨i + 1, rfl, by rw [HS.out]; rfl, by omega, by omega, HR2⟩
  ·skip
   obtain rfl : i = n := by omega
   go_upto_region 3 with fail
   refine wl <| gzb (lss_n rfl (i) (i) dF) <| wn ?_
   simp only [pu]
   have hcn := HCN.out
   rw [List.take_of_length_le (by have := HLN.out; omega)] at hcn
   have HE : Hid ((cn : Int) = (rawL L : Int)) := Lib.hid (by rw [hcn])
   clear hcn
   go_upto_region 7 with fail
   refine wl <| gz2 (.int .i64 cn) (.int .i64 cn) <| wn ?_
   simp only [pu]
   go_wp2_with fail
   go_ret
   exact ⟨congrArg (fun q => Ending.returned (Value.int .i64 q)) HE.out, HR.out⟩
/-- Every entry of them is of a sort. -/
def EBs (L : List En) : Prop := ∀ i, i < L.length → EnB (L.getD i zEn)
set_option maxRecDepth 100000 in
set_option maxHeartbeats 8000000 in
theorem same_ents {w : World} {a a2 : Option Addr} {c c2 : Nat} {X Y : List (En × Ad)} (h : Xr w a X) (h2 : Xr w a2 Y) (he : lE X = lE Y) (hl : X.length ≤ 100000) (hB : EBs (lE X)) : Calls Try.prog 12 #[.slice a X.length c, .slice a2 Y.length c2] w fun e w' => e = .returned (.bool true) ∧ Below w.heap.size w w' := by
 have hxy : X.length = Y.length := by rw [← lE_len X, he, lE_len]
 have HRN : Hid (∀ V, Below w.heap.size w V → ∀ i, i < X.length → ∃ b off b2 off2, a = some ⟨b, off, none⟩ ∧ a2 = some ⟨b2, off2, none⟩ ∧ V.rangeAt b (off + i * 41) (enp (X.getD i zEA)) ∧ V.rangeAt b2 (off2 + i * 41) (enp (Y.getD i zEA)) ∧
   (X.getD i zEA).1 = (Y.getD i zEA).1 ∧ EnB (X.getD i zEA).1 ∧ EnI V (X.getD i zEA).1 (X.getD i zEA).2 ∧ EnI V (Y.getD i zEA).1 (Y.getD i zEA).2) := Lib.hid fun V hV i hi => by
  obtain ⟨b, off, h1, -, h3⟩ := (h.below hV).rg hi
  obtain ⟨b2, off2, h4, -, h5⟩ := (h2.below hV).rg (i := i) (by omega)
  have e1 := lE_at X i hi
  have e2 := lE_at Y i (by omega)
  have e3 := hB i (by rw [lE_len]; exact hi)
  rw [e1] at e3
  exact ⟨b, off, b2, off2, h1, h4, h3, h5, by rw [← e1, ← e2, he], e3, (h.below hV).en i hi, (h2.below hV).en i (by omega)⟩
 obtain ⟨n, hn⟩ : ∃ n, X.length = n := ⟨_, rfl⟩
 rw [← hxy]
 rw [hn] at HRN hl ⊢
 have HN := Lib.hid hl
 clear h h2 he hl hB hxy hn
 go_enter Try.func12, Try.ntmps12
 go_upto_region 1 with fail
 refine wl <| gz4 (.slice a n c) (.int .i64 n) (.slice a2 n c2) (.int .i64 n) <| gzb (neq_n rfl (n) (n) (decide_eq_false (fun h => h rfl))) <| wn ?_
 simp only [pu]
 go_upto_region 3 with fail
 refine wl <| gz3 (.slice a n c) (.int .i64 n) (.int .i64 0) <| wn ?_
 simp only [pu]
 go_wp2_with fail
 go_loopg [13] n (fun gg s13 wx => ∃ (i : Nat), s13 = .int .i64 i ∧ i ≤ n ∧ gg + i = n ∧ Hid (Below w.heap.size w wx))
 case atStart => exact ⟨0, rfl, by omega, by omega, Lib.hid (Below.refl _ _)⟩
 case round =>
  obtain ⟨i, rfl, hin, hg, HR⟩ := hrel
  have HGK : Hid (gk + i = n) := Lib.hid hg
  clear hg
  by_cases hlt : i < n
  ·skip
   obtain ⟨b, off, b2, off2, hq1, hq2, -, -, -, -, -, -⟩ := HRN.out wr HR.out i hlt
   obtain rfl := hq1
   obtain rfl := hq2
   have HRX : Hid (∀ U, Below wr.heap.size wr U → U.rangeAt b (off + i * 41) (enp (X.getD i zEA)) ∧ U.rangeAt b2 (off2 + i * 41) (enp (Y.getD i zEA)) ∧ (X.getD i zEA).1 = (Y.getD i zEA).1 ∧ EnB (X.getD i zEA).1 ∧ EnI U (X.getD i zEA).1 (X.getD i zEA).2 ∧ EnI U (Y.getD i zEA).1 (Y.getD i zEA).2) := Lib.hid fun U hU => by
    obtain ⟨b', off', b2', off2', e1, e2, r1, r2, r3, r4, r5, r6⟩ := HRN.out U (HR.out.trans (hU.mono HR.out.size)) i hlt
    cases e1
    cases e2
    exact ⟨r1, r2, r3, r4, r5, r6⟩
   generalize X.getD i zEA = x at *
   generalize Y.getD i zEA = y at *
   obtain ⟨e1, d1⟩ := x
   obtain ⟨e2, d2⟩ := y
   obtain rfl : e1 = e2 := (HRX.out wr (Below.refl _ _)).2.2.1
   have CS := fun U (hU : Below wr.heap.size wr U) => r_same (HRX.out U hU).2.2.2.2.1 (HRX.out U hU).2.2.2.2.2 (HRX.out U hU).2.2.2.1
   go_upto_region 4 with fail
   refine wl <| gzb (lss_n rfl (i) (n) dT) <| wn ?_
   simp only [pu]
   go_upto_region 5 with fail
   refine wl <| gz2 (.int .i64 i) (.int .i64 i) <| wn ?_
   simp only [pu]
   go_upto_region 6 with fail
   refine wp_region_class (C := fun U => Below wr.heap.size wr U) (by kernel_rfl) (by kernel_rfl) ((Below.refl _ wr).drew) ?_
   refine gy (.slice (some ⟨b, off, none⟩) n c) <| gy (.int .i64 i) <| gyv (.pointer (some ⟨b, off + i * 41, none⟩)) (fun U hU => idx_en b off n c i hlt U _ _ rfl (by kernel_rfl) (by kernel_rfl)) <| gyl rfl ⟨b, off + i * 41, none⟩ (.agg (enA e1 d1)) (fun U hU => load_en (HRX.out U hU).1) <|
     gy (.slice (some ⟨b2, off2, none⟩) n c2) <| gy (.int .i64 i) <| gyv (.pointer (some ⟨b2, off2 + i * 41, none⟩)) (fun U hU => idx_en b2 off2 n c2 i hlt U _ _ rfl (by kernel_rfl) (by kernel_rfl)) <| gyl rfl ⟨b2, off2 + i * 41, none⟩ (.agg (enA e1 d2)) (fun U hU => load_en (HRX.out U hU).2.1) ?_
   simp only [pu]
   refine gq_call (by kernel_rfl) (some 24) rfl 23 #[.agg (enA e1 d1), .agg (enA e1 d2)] (.bool true) (fun U hU => by kernel_rfl) (fun U hU => (CS U hU).mono fun e w2 z => ⟨z.1, hU.trans (z.2.mono hU.size)⟩) ?_
   simp only [pu]
   refine gy (.bool false) ?_
   simp only [pu]
   apply wpQuiet_nil
   intro V3 hV3
   have HR2 := Lib.hid (HR.out.trans (hV3.mono HR.out.size))
   clear hV3 HR CS HRX
   go_upto_region 8 with fail
   refine wl <| gzv (.int .i64 (i + 1 : Nat)) (add_one rfl i (by have := HN.out; omega) (by kernel_rfl) _) <| gz1 (.int .i64 (i + 1 : Nat)) <| wn ?_
   simp only [pu]
   go_wp2_with fail
   go_roundg (n - (i + 1))
   case measure => have := HGK.out; omega
   case rel => exact ⟨i + 1, rfl, by omega, by omega, HR2⟩
  ·skip
   obtain rfl : i = n := by omega
   go_upto_region 4 with fail
   refine wl <| gzb (lss_n rfl (i) (i) dF) <| wn ?_
   simp only [pu]
   go_upto_region 9 with fail
   refine wl <| gz1 (.bool true) <| wn ?_
   simp only [pu]
   go_wp2_with fail
   go_ret
   exact ⟨rfl, HR.out⟩
end Go.Proofs.Ytgkckblcekbafaa
