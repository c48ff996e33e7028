/-
 What the program is held to; equal configurations; the fixed example.
-/
import Derived.Test.YtplfineaomneiaaGreatDoorMC
namespace Go.Proofs.YtplfineaomneiaaGreatDoor
attribute [local irreducible] wpList wpQuiet
open Go.RowKit
set_option maxRecDepth 100000
set_option linter.unusedSimpArgs false
set_option linter.unusedVariables false

/-- What the program's functions answer. -/
structure Prg (w : World) : Prop where
 d : ∀ V, Calls Tryz.prog 14 #[] V fun e w' => e = .returned (.agg (cfA dfltL)) ∧ Below V.heap.size V w'
 v : ∀ c, CfOk c → ∀ V, Calls Tryz.prog 26 #[.agg (cfA c)] V fun e w' => e = .returned (.int .i64 (valL c)) ∧ Below V.heap.size V w'
 f : ∀ c, CfOk c → ∀ V, Below w.heap.size w V → Calls Tryz.prog 13 #[.agg (cfA c)] V fun e w' => e = .returned (fmtV c) ∧ Below V.heap.size V w'
 p : ∀ s : ByteArray, s.size ≤ 1000000 → ∀ V, Below w.heap.size w V → Calls Tryz.prog 12 #[.string s] V fun e w' => e = .returned (parV (nums s)) ∧ Below V.heap.size V w'
section
variable {ρ : Operand → Value} {o : Oper} {x y : Operand}
theorem eql_C0 (ho : o.op = .binOp .eql 30 x y 30) (x0 x1 x2 x3 x4 x5 x7 x8 x9 x10 x11 : Int) (q : Bool) (hx : ρ x = .agg #[.int .i64 x0, .int .i64 x1, .int .i64 x2, .int .i64 x3, .int .i64 x4, .int .i64 x5, .bool q, .int .i64 x7, .int .i64 x8, .int .u64 x9, .int .i64 x10, .int .i64 x11]) (hy : ρ y = .agg #[.int .i64 x0, .int .i64 x1, .int .i64 x2, .int .i64 x3, .int .i64 x4, .int .i64 x5, .bool q, .int .i64 x7, .int .i64 x8, .int .u64 x9, .int .i64 x10, .int .i64 x11]) (w : World) : (execOp ρ o).run Tryz.prog w = .ok (.value (.bool true)) w := by
 unfold execOp
 simp only [ho, hx, hy]
 go_simp
theorem eql_C (ho : o.op = .binOp .eql 30 x y 30) (c : List Int) (hx : ρ x = .agg (cfA c)) (hy : ρ y = .agg (cfA c)) (w : World) : (execOp ρ o).run Tryz.prog w = .ok (.value (.bool true)) w := eql_C0 ho _ _ _ _ _ _ _ _ _ _ _ _ hx hy w
theorem neq_C0 (ho : o.op = .binOp .neq 30 x y 30) (x0 x1 x2 x3 x4 x5 x7 x8 x9 x10 x11 : Int) (q : Bool) (hx : ρ x = .agg #[.int .i64 x0, .int .i64 x1, .int .i64 x2, .int .i64 x3, .int .i64 x4, .int .i64 x5, .bool q, .int .i64 x7, .int .i64 x8, .int .u64 x9, .int .i64 x10, .int .i64 x11]) (hy : ρ y = .agg #[.int .i64 x0, .int .i64 x1, .int .i64 x2, .int .i64 x3, .int .i64 x4, .int .i64 x5, .bool q, .int .i64 x7, .int .i64 x8, .int .u64 x9, .int .i64 x10, .int .i64 x11]) (w : World) : (execOp ρ o).run Tryz.prog w = .ok (.value (.bool false)) w := by
 unfold execOp
 simp only [ho, hx, hy]
 go_simp
theorem neq_C (ho : o.op = .binOp .neq 30 x y 30) (c : List Int) (hx : ρ x = .agg (cfA c)) (hy : ρ y = .agg (cfA c)) (w : World) : (execOp ρ o).run Tryz.prog w = .ok (.value (.bool false)) w := neq_C0 ho _ _ _ _ _ _ _ _ _ _ _ _ hx hy w
theorem eql_e (ho : o.op = .binOp .eql 25 x y 25) (a b : Int) {t : Bool} (ht : decide (a = b) = t) (hx : ρ x = .int .i64 a) (hy : ρ y = .int .i64 b) (w : World) : (execOp ρ o).run Tryz.prog w = .ok (.value (.bool t)) w := by
 have e : (a == b) = t := ht
 unfold execOp
 simp only [ho, hx, hy]
 go_simp
theorem cut_to_s {z : Operand} (ho : o.op = .slice 9 x none (some z) none) (s : ByteArray) (j : Nat) (hj : j ≤ s.size) (hx : ρ x = .string s) (hz : ρ z = .int .i64 j) (w : World) : (execOp ρ o).run Tryz.prog w = .ok (.value (.string (s.extract 0 j))) w := by
 unfold execOp
 simp only [ho, hx, hz]
 go_simp
end
/-- A text's whole runes. -/
def tokB (r : List Int) : Bool := spL r || (match r with | [b] => decide (b < 128) | _ => false)
theorem tokB_ok {r : List Int} (h : tokB r = true) : Tok r := by
 unfold tokB at h
 rw [Bool.or_eq_true] at h
 rcases h with h | h
 ·exact sp_tok h
 ·split at h
  ·exact tok1 (of_decide_eq_true h)
  ·cases h
theorem toks_ok {ts : List (List Int)} (h : ts.all tokB = true) : ∀ r ∈ ts, Tok r := fun r hr => tokB_ok (List.all_eq_true.1 h r hr)
theorem wrd_of {l : List Int} (ts : List (List Int)) (h : l = ts.flatten) (ht : ts.all tokB = true) : wrd l 0 [] = wrdT ts [] := by
 rw [h]
 exact wrd_toks ts (toks_ok ht) [] []
theorem runs_of {l : List Int} (ts : List (List Int)) (h : l = ts.flatten) (ht : ts.all tokB = true) : runs l 0 ≠ none := by
 rw [h]
 exact runs_toks ts (toks_ok ht) []
def k1S : ByteArray := ⟨#[109, 97, 120, 45, 116, 120, 115, 32, 53, 32, 35, 32, 102, 101, 119, 10, 227, 128, 128, 112, 114, 105, 99, 101, 194, 160, 55, 10]⟩
def k2S : ByteArray := ⟨#[35, 32, 120, 10, 112, 114, 105, 99, 101, 32, 48, 49]⟩
def kfS : ByteArray := ⟨#[109, 97, 120, 45, 116, 120, 115, 32, 49, 48, 48, 10, 109, 97, 120, 45, 98, 121, 116, 101, 115, 32, 54, 53, 53, 51, 54, 10, 109, 97, 120, 45, 116, 120, 45, 98, 121, 116, 101, 115, 32, 49, 48, 50, 52, 10, 99, 97, 99, 104, 101, 45, 115, 105, 122, 101, 32, 50, 48, 48, 10, 116, 116, 108, 45, 98, 108, 111, 99, 107, 115, 32, 48, 10, 116, 116, 108, 45, 116, 105, 109, 101, 32, 48, 10, 107, 101, 101, 112, 45, 105, 110, 118, 97, 108, 105, 100, 32, 48, 10, 98, 108, 111, 99, 107, 45, 98, 121, 116, 101, 115, 32, 51, 50, 55, 54, 56, 10, 98, 108, 111, 99, 107, 45, 103, 97, 115, 32, 45, 49, 10, 112, 114, 105, 99, 101, 32, 49, 10, 115, 101, 108, 102, 32, 48, 10, 110, 111, 100, 101, 115, 32, 49, 10]⟩
def k1L : List ByteArray := [⟨#[109, 97, 120, 45, 116, 120, 115, 32, 53, 32, 35, 32, 102, 101, 119]⟩, ⟨#[227, 128, 128, 112, 114, 105, 99, 101, 194, 160, 55]⟩, ⟨#[]⟩]
def k2L : List ByteArray := [⟨#[35, 32, 120]⟩, ⟨#[112, 114, 105, 99, 101, 32, 48, 49]⟩]
theorem known1 : parX (nums k1S) = ([5, 65536, 1024, 200, 0, 0, 0, 32768, -1, 7, 0, 1], 0, 0) := by
 have P0 : PI (nums k1S) 0 dfltL [] k1L := PI.start (by decide +kernel) (runs_of [[109], [97], [120], [45], [116], [120], [115], [32], [53], [32], [35], [32], [102], [101], [119], [10], [227, 128, 128], [112], [114], [105], [99], [101], [194, 160], [55], [10]] (by decide +kernel) (by decide +kernel)) (by decide +kernel)
 have P1 := P0.step (k := ⟨#[109, 97, 120, 45, 116, 120, 115]⟩) (v := ⟨#[53]⟩) (by decide +kernel) ((wrd_of [[109], [97], [120], [45], [116], [120], [115], [32], [53], [32], [35], [32], [102], [101], [119]] (by decide +kernel) (by decide +kernel)).trans (by decide +kernel)) (j := 0) (by decide +kernel) (by decide) (by decide +kernel) (by decide +kernel)
 have P2 := P1.step (k := ⟨#[112, 114, 105, 99, 101]⟩) (v := ⟨#[55]⟩) (by decide +kernel) ((wrd_of [[227, 128, 128], [112], [114], [105], [99], [101], [194, 160], [55]] (by decide +kernel) (by decide +kernel)).trans (by decide +kernel)) (j := 9) (by decide +kernel) (by decide) (by decide +kernel) (by decide +kernel)
 have P3 := P2.skip (by decide +kernel) ((wrd_of [] (by decide +kernel) (by decide +kernel)).trans (by decide +kernel))
 rw [P3.fin (by decide +kernel), if_neg (by decide +kernel)]
 decide +kernel
theorem known2 : parX (nums k2S) = (zeroL, 2, 2) := by
 have P0 : PI (nums k2S) 0 dfltL [] k2L := PI.start (by decide +kernel) (runs_of [[35], [32], [120], [10], [112], [114], [105], [99], [101], [32], [48], [49]] (by decide +kernel) (by decide +kernel)) (by decide +kernel)
 have P1 := P0.skip (by decide +kernel) ((wrd_of [[35], [32], [120]] (by decide +kernel) (by decide +kernel)).trans (by decide +kernel))
 have P2 := P1.bad (k := ⟨#[112, 114, 105, 99, 101]⟩) (v := ⟨#[48, 49]⟩) (by decide +kernel) ((wrd_of [[112], [114], [105], [99], [101], [32], [48], [49]] (by decide +kernel) (by decide +kernel)).trans (by decide +kernel)) (j := 9) (by decide +kernel) (by decide +kernel) (by decide +kernel)
 rw [P2]
 decide +kernel
theorem dec_0 : decI 0 = [48] := by
 unfold decI
 rw [if_neg (by omega)]
 show decN 0 = _
 simp [decN]
theorem dec_1 : decI 1 = [49] := by
 unfold decI
 rw [if_neg (by omega)]
 show decN 1 = _
 simp [decN]
theorem dec_100 : decI 100 = [49, 48, 48] := by
 unfold decI
 rw [if_neg (by omega)]
 show decN 100 = _
 simp [decN]
theorem dec_200 : decI 200 = [50, 48, 48] := by
 unfold decI
 rw [if_neg (by omega)]
 show decN 200 = _
 simp [decN]
theorem dec_1024 : decI 1024 = [49, 48, 50, 52] := by
 unfold decI
 rw [if_neg (by omega)]
 show decN 1024 = _
 simp [decN]
theorem dec_32768 : decI 32768 = [51, 50, 55, 54, 56] := by
 unfold decI
 rw [if_neg (by omega)]
 show decN 32768 = _
 simp [decN]
theorem dec_65536 : decI 65536 = [54, 53, 53, 51, 54] := by
 unfold decI
 rw [if_neg (by omega)]
 show decN 65536 = _
 simp [decN]
theorem fmt_dflt : fmtL dfltL = nums kfS := by
 have e : (List.range 12).map (lineL dfltL) = [[109, 97, 120, 45, 116, 120, 115, 32, 49, 48, 48], [109, 97, 120, 45, 98, 121, 116, 101, 115, 32, 54, 53, 53, 51, 54], [109, 97, 120, 45, 116, 120, 45, 98, 121, 116, 101, 115, 32, 49, 48, 50, 52], [99, 97, 99, 104, 101, 45, 115, 105, 122, 101, 32, 50, 48, 48], [116, 116, 108, 45, 98, 108, 111, 99, 107, 115, 32, 48], [116, 116, 108, 45, 116, 105, 109, 101, 32, 48], [107, 101, 101, 112, 45, 105, 110, 118, 97, 108, 105, 100, 32, 48], [98, 108, 111, 99, 107, 45, 98, 121, 116, 101, 115, 32, 51, 50, 55, 54, 56], [98, 108, 111, 99, 107, 45, 103, 97, 115, 32, 45, 49], [112, 114, 105, 99, 101, 32, 49], [115, 101, 108, 102, 32, 48], [110, 111, 100, 101, 115, 32, 49]] := by
  show [[109, 97, 120, 45, 116, 120, 115] ++ 32 :: decI 100, [109, 97, 120, 45, 98, 121, 116, 101, 115] ++ 32 :: decI 65536, [109, 97, 120, 45, 116, 120, 45, 98, 121, 116, 101, 115] ++ 32 :: decI 1024, [99, 97, 99, 104, 101, 45, 115, 105, 122, 101] ++ 32 :: decI 200, [116, 116, 108, 45, 98, 108, 111, 99, 107, 115] ++ 32 :: decI 0, [116, 116, 108, 45, 116, 105, 109, 101] ++ 32 :: decI 0, [107, 101, 101, 112, 45, 105, 110, 118, 97, 108, 105, 100] ++ 32 :: decI 0, [98, 108, 111, 99, 107, 45, 98, 121, 116, 101, 115] ++ 32 :: decI 32768, [98, 108, 111, 99, 107, 45, 103, 97, 115] ++ 32 :: decI (-1), [112, 114, 105, 99, 101] ++ 32 :: decI 1, [115, 101, 108, 102] ++ 32 :: decI 0, [110, 111, 100, 101, 115] ++ 32 :: decI 1] = _
  rw [dec_0, dec_1, dec_100, dec_200, dec_1024, dec_32768, dec_65536, dec_m1]
  rfl
 unfold fmtL
 rw [e]
 decide +kernel
theorem known3 : fmtV dfltL = .tuple #[.string kfS, .int .i64 0] := by
 unfold fmtV
 rw [if_pos (by decide +kernel), fmt_dflt, str_nums]
set_option maxRecDepth 100000 in
set_option maxHeartbeats 8000000 in
theorem known_true {w0 : World} (HQ : Prg w0) (w : World) (hw : Below w0.heap.size w0 w) : Calls Tryz.prog 5 #[] w fun e w' => e = .returned (.bool true) ∧ Below w.heap.size w w' := by
 have CP1 : ∀ V, Below w.heap.size w V → Calls Tryz.prog 12 #[.string ⟨#[109, 97, 120, 45, 116, 120, 115, 32, 53, 32, 35, 32, 102, 101, 119, 10, 227, 128, 128, 112, 114, 105, 99, 101, 194, 160, 55, 10]⟩] V fun e w' => e = .returned (.tuple #[.agg #[.int .i64 5, .int .i64 65536, .int .i64 1024, .int .i64 200, .int .i64 0, .int .i64 0, .bool false, .int .i64 32768, .int .i64 (-1), .int .u64 7, .int .i64 0, .int .i64 1], .int .i64 0, .int .i64 0]) ∧ Below V.heap.size V w' := fun V hV => by
  have h := HQ.p k1S (by decide +kernel) V (hw.trans (hV.mono hw.size))
  rw [show parV (nums k1S) = .tuple #[.agg #[.int .i64 5, .int .i64 65536, .int .i64 1024, .int .i64 200, .int .i64 0, .int .i64 0, .bool false, .int .i64 32768, .int .i64 (-1), .int .u64 7, .int .i64 0, .int .i64 1], .int .i64 0, .int .i64 0] by unfold parV; rw [known1]; rfl] at h
  exact h
 have CP2 : ∀ V, Below w.heap.size w V → Calls Tryz.prog 12 #[.string ⟨#[35, 32, 120, 10, 112, 114, 105, 99, 101, 32, 48, 49]⟩] V fun e w' => e = .returned (.tuple #[.agg #[.int .i64 0, .int .i64 0, .int .i64 0, .int .i64 0, .int .i64 0, .int .i64 0, .bool false, .int .i64 0, .int .i64 0, .int .u64 0, .int .i64 0, .int .i64 0], .int .i64 2, .int .i64 2]) ∧ Below V.heap.size V w' := fun V hV => by
  have h := HQ.p k2S (by decide +kernel) V (hw.trans (hV.mono hw.size))
  rw [show parV (nums k2S) = .tuple #[.agg #[.int .i64 0, .int .i64 0, .int .i64 0, .int .i64 0, .int .i64 0, .int .i64 0, .bool false, .int .i64 0, .int .i64 0, .int .u64 0, .int .i64 0, .int .i64 0], .int .i64 2, .int .i64 2] by unfold parV; rw [known2]; rfl] at h
  exact h
 have CD := HQ.d
 have CF3 : ∀ V, Below w.heap.size w V → Calls Tryz.prog 13 #[.agg (cfA dfltL)] V fun e w' => e = .returned (.tuple #[.string kfS, .int .i64 0]) ∧ Below V.heap.size V w' := fun V hV => by
  have h := HQ.f dfltL dflt_ok V (hw.trans (hV.mono hw.size))
  rw [known3] at h
  exact h
 have hkn : kfS.size = 154 := by decide +kernel
 have hk12 : kfS.extract 0 12 = ⟨#[109, 97, 120, 45, 116, 120, 115, 32, 49, 48, 48, 10]⟩ := by decide +kernel
 obtain ⟨KF, hKF⟩ : ∃ s, kfS = s := ⟨_, rfl⟩
 rw [hKF] at hkn hk12
 simp only [hKF] at CF3
 obtain ⟨D0, hD0⟩ : ∃ X, cfA dfltL = X := ⟨_, rfl⟩
 simp only [hD0] at CD CF3
 clear hKF hD0 HQ hw
 go_enter Tryz.func5, Tryz.ntmps5
 go_upto_region 1 with fail
 refine wl <|
  gzc (.tuple #[.agg #[.int .i64 5, .int .i64 65536, .int .i64 1024, .int .i64 200, .int .i64 0, .int .i64 0, .bool false, .int .i64 32768, .int .i64 (-1), .int .u64 7, .int .i64 0, .int .i64 1], .int .i64 0, .int .i64 0]) (fun w' => Below w.heap.size w w') (CP1 w (Below.refl _ _)) (fun V1 hb1 => ?_)
 obtain ⟨V2, hst1, hbs1, hX1⟩ := new_bx (c := #[.int .i64 0, .int .i64 0, .int .i64 0, .int .i64 0, .int .i64 0, .int .i64 0, .bool false, .int .i64 0, .int .i64 0, .int .u64 0, .int .i64 0, .int .i64 0]) (c' := #[.int .i64 5, .int .i64 65536, .int .i64 1024, .int .i64 200, .int .i64 0, .int .i64 0, .bool false, .int .i64 32768, .int .i64 (-1), .int .u64 7, .int .i64 0, .int .i64 1]) (ty := 30) V1 rfl (by kernel_rfl) (by kernel_rfl)
 simp only [pu]
 refine gz4 (.tuple #[.agg #[.int .i64 5, .int .i64 65536, .int .i64 1024, .int .i64 200, .int .i64 0, .int .i64 0, .bool false, .int .i64 32768, .int .i64 (-1), .int .u64 7, .int .i64 0, .int .i64 1], .int .i64 0, .int .i64 0]) (.agg #[.int .i64 5, .int .i64 65536, .int .i64 1024, .int .i64 200, .int .i64 0, .int .i64 0, .bool false, .int .i64 32768, .int .i64 (-1), .int .u64 7, .int .i64 0, .int .i64 1]) (.int .i64 0) (.int .i64 0) ?_
 simp only [pu]
 refine run_to rfl (some 1) rfl (.pointer (some ⟨V1.heap.size, 0, none⟩)) (V1.alloc (.cells #[.int .i64 0, .int .i64 0, .int .i64 0, .int .i64 0, .int .i64 0, .int .i64 0, .bool false, .int .i64 0, .int .i64 0, .int .u64 0, .int .i64 0, .int .i64 0] 30)) (by kernel_rfl) ?_
 simp only [pu]
 refine gzs rfl (hst1) <| gz2 (.int .i64 0) (.int .i64 0) <| wn ?_
 simp only [pu]
 have HB2 := Lib.hid (hb1.trans (hbs1.mono hb1.size))
 obtain ⟨g1, hg1⟩ : ∃ g, V1.heap.size = g := ⟨_, rfl⟩
 rw [hg1] at hX1
 simp only [hg1]
 clear hst1 hbs1 hb1 hg1 CP1
 go_upto_region 2 with fail
 refine wl <| gzc (.tuple #[.agg #[.int .i64 0, .int .i64 0, .int .i64 0, .int .i64 0, .int .i64 0, .int .i64 0, .bool false, .int .i64 0, .int .i64 0, .int .u64 0, .int .i64 0, .int .i64 0], .int .i64 2, .int .i64 2]) (fun w' => Below V2.heap.size V2 w') (CP2 V2 HB2.out) (fun V3 hb3 => ?_)
 obtain ⟨V4, hst4, hbs4, hX4⟩ := new_bx (c := #[.int .i64 0, .int .i64 0, .int .i64 0, .int .i64 0, .int .i64 0, .int .i64 0, .bool false, .int .i64 0, .int .i64 0, .int .u64 0, .int .i64 0, .int .i64 0]) (c' := #[.int .i64 0, .int .i64 0, .int .i64 0, .int .i64 0, .int .i64 0, .int .i64 0, .bool false, .int .i64 0, .int .i64 0, .int .u64 0, .int .i64 0, .int .i64 0]) (ty := 30) V3 rfl (by kernel_rfl) (by kernel_rfl)
 simp only [pu]
 refine gz4 (.tuple #[.agg #[.int .i64 0, .int .i64 0, .int .i64 0, .int .i64 0, .int .i64 0, .int .i64 0, .bool false, .int .i64 0, .int .i64 0, .int .u64 0, .int .i64 0, .int .i64 0], .int .i64 2, .int .i64 2]) (.agg #[.int .i64 0, .int .i64 0, .int .i64 0, .int .i64 0, .int .i64 0, .int .i64 0, .bool false, .int .i64 0, .int .i64 0, .int .u64 0, .int .i64 0, .int .i64 0]) (.int .i64 2) (.int .i64 2) ?_
 simp only [pu]
 refine run_to rfl (some 4) rfl (.pointer (some ⟨V3.heap.size, 0, none⟩)) (V3.alloc (.cells #[.int .i64 0, .int .i64 0, .int .i64 0, .int .i64 0, .int .i64 0, .int .i64 0, .bool false, .int .i64 0, .int .i64 0, .int .u64 0, .int .i64 0, .int .i64 0] 30)) (by kernel_rfl) ?_
 simp only [pu]
 refine gzs rfl (hst4) <| gz2 (.int .i64 2) (.int .i64 2) <| wn ?_
 simp only [pu]
 have HB4 := Lib.hid ((HB2.out.trans (hb3.mono HB2.out.size)).trans (hbs4.mono (HB2.out.trans (hb3.mono HB2.out.size)).size))
 have hX14 := (hX1.below hX1.lt hb3).below (hX1.below hX1.lt hb3).lt hbs4
 obtain ⟨g4, hg4⟩ : ∃ g, V3.heap.size = g := ⟨_, rfl⟩
 simp only [hg4]
 clear hst4 hbs4 hb3 hg4 hX1 hX4 CP2 HB2
 go_upto_region 3 with fail
 refine wl <| gzc (.agg D0) (fun w' => Below V4.heap.size V4 w') (CD V4) (fun V5 hb5 => ?_)
 simp only [pu]
 refine gzc (.tuple #[.string KF, .int .i64 0]) (fun w' => Below V5.heap.size V5 w') (CF3 V5 (HB4.out.trans (hb5.mono HB4.out.size))) (fun V6 hb6 => ?_)
 simp only [pu]
 refine gz5 (.tuple #[.string KF, .int .i64 0]) (.string KF) (.int .i64 0) (.string KF) (.int .i64 0) <| wn ?_
 simp only [pu]
 have HB6 := Lib.hid ((HB4.out.trans (hb5.mono HB4.out.size)).trans (hb6.mono (HB4.out.trans (hb5.mono HB4.out.size)).size))
 have hX16 := (hX14.below hX14.lt hb5).below (hX14.below hX14.lt hb5).lt hb6
 clear hb5 hb6 hX14 HB4 CD CF3
 go_upto_region 4 with fail
 refine wl <| gz1 (.int .i64 0) <| gzb (eql_e rfl 0 0 dT) <| gz2 (.bool true) (.int .i64 0) <| gzb (eql_n rfl 0 0 dT) <|
  gz3 (.bool true) (.bool true) (.pointer (some ⟨g1, 0, none⟩)) <| gzl rfl ⟨g1, 0, none⟩ (.int .i64 5) (hX16.load (i := 0) rfl (by kernel_rfl)) <| gzb (eql_n rfl 5 5 dT) <|
  gz3 (.bool true) (.bool true) (.pointer (some ⟨g1, 9, none⟩)) <| gzl rfl ⟨g1, 9, none⟩ (.int .u64 7) (hX16.load (i := 9) rfl (by kernel_rfl)) <| gzb (eql_w rfl 7 7 dT) <|
  gz3 (.bool true) (.bool true) (.pointer (some ⟨g1, 8, none⟩)) <| gzl rfl ⟨g1, 8, none⟩ (.int .i64 (-1)) (hX16.load (i := 8) rfl (by kernel_rfl)) <| gzb (eql_n rfl (-1) (-1) dT) <| gz3 (.bool true) (.bool true) (.int .i64 2) <|
  gzb (eql_n rfl 2 2 dT) <| gz3 (.bool true) (.bool true) (.int .i64 2) <| gzb (eql_e rfl 2 2 dT) <| gz3 (.bool true) (.bool true) (.int .i64 0) <|
  gzb (eql_e rfl 0 0 dT) <| gz3 (.bool true) (.bool true) (.string KF) <| gzv (.int .i64 154) (by rw [show (154 : Int) = ((154 : Nat) : Int) from rfl, ← hkn]; kernel_rfl) <|
  gzb (gtr_n rfl 154 100 dT) <| gz3 (.bool true) (.bool true) (.string KF) <|
  gzv (.string ⟨#[109, 97, 120, 45, 116, 120, 115, 32, 49, 48, 48, 10]⟩) ((by rw [← hk12]; exact cut_to_s rfl KF 12 (by rw [hkn]; omega) (by kernel_rfl) (by kernel_rfl) _)) <|
  gzw (.bool true) (eql_s rfl ⟨#[109, 97, 120, 45, 116, 120, 115, 32, 49, 48, 48, 10]⟩ ⟨#[109, 97, 120, 45, 116, 120, 115, 32, 49, 48, 48, 10]⟩ (str_self _)) <| gz2 (.bool true) (.bool true) <| wn ?_
 simp only [pu]
 go_wp2_with fail
 go_ret
 exact ⟨rfl, HB6.out⟩
end Go.Proofs.YtplfineaomneiaaGreatDoor
