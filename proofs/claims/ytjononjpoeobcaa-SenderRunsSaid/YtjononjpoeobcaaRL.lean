/-
 The reference's List, Names, Run; SameTexts, SameInts of equal lists: contracts.
-/
import Derived.Test.YtjononjpoeobcaaRG
namespace Go.Proofs.Ytjononjpoeobcaa
attribute [local irreducible] wpList wpQuiet
open Go.RowKit
set_option maxRecDepth 100000
set_option linter.unusedSimpArgs false
set_option linter.unusedVariables false

/-- An answer in a row of its own. -/
def IsO (w : World) (L : List Int) (e : Ending) (w' : World) : Prop := ∃ v, e = .returned v ∧ RowI w' w.heap.size v L ∧ Below w.heap.size w w'
def NsO (w : World) (L : List ByteArray) (e : Ending) (w' : World) : Prop := ∃ v, e = .returned v ∧ RowS w' w.heap.size v L ∧ Below w.heap.size w w'
def idsE (E : List Eo) : List Int := E.map fun e => e.2
theorem one_str (x : ByteArray) (w : World) : (Instr.buildSlice 32 1 #[(0, .string x)]).run Try.prog w = .ok (.slice (some ⟨w.heap.size, 0, none⟩) 1 1) (w.alloc (.cells #[.string x] 9)) := by
 obtain ⟨i0, hi, hz0, hz1, hz2⟩ := info_parts infoSt
 refine run_buildSlice w 32 9 1 _ #[.string x] i0 _ Try.underlying32 hi hz0 (by rw [hz1]; omega) (by rw [hz1]; omega) ?_
 rw [hz1]
 kernel_rfl
theorem own_no (w : World) (B e s : Nat) : w.ownsRow B e s (.slice none 0 0) 0 [] := ⟨by simp, .inl ⟨rfl, rfl⟩⟩
theorem add_w {ρ : Operand → Value} {o : Oper} {x y : Operand} (ho : o.op = .binOp .add 38 x y 38) (a b : Int) (hx : ρ x = .int .u64 a) (hy : ρ y = .int .u64 b) (w : World) : (execOp ρ o).run Try.prog w = .ok (.value (.int .u64 (IntKind.u64.wrap (a + b)))) w := by
 unfold execOp
 simp only [ho, hx, hy]
 go_simp
theorem neq_t {ρ : Operand → Value} {o : Oper} {x y : Operand} (ho : o.op = .binOp .neq 9 x y 9) (a b : ByteArray) {t : Bool} (ht : decide (a ≠ b) = t) (hx : ρ x = .string a) (hy : ρ y = .string b) (w : World) : (execOp ρ o).run Try.prog w = .ok (.value (.bool t)) w := by
 have h := neq_s ho a b (beqB a b) hx hy w
 have e : (!decide (a = b)) = t := by rw [← ht]; by_cases h : a = b <;> simp [h]
 rw [e] at h
 exact h
theorem lst_step {M : List Rw} {n : ByteArray} {i : Nat} (hi : i < M.length) : lstE (M.take (i + 1)) n = lstE (M.take i) n ++ (if (M.getD i zrw).1 = n then [(M.getD i zrw).2] else []) := by
 rw [take_one hi, lst_app, lst_cons]
 rfl
theorem drop_one {M : List Rw} {i : Nat} (hi : i < M.length) : M.drop i = M.getD i zrw :: M.drop (i + 1) := by rw [getD_lt M i zrw hi, ← List.drop_eq_getElem_cons hi]
theorem lst_len (M : List Rw) (n : ByteArray) : (lstE M n).length ≤ M.length := by
 unfold lstE
 rw [List.length_map]
 exact List.length_filter_le _ _
set_option maxRecDepth 100000 in
set_option maxHeartbeats 8000000 in
theorem r_list {w : World} {al : Option Addr} {c : Nat} {M : List Rw} (hR : Cs w al (rwcs M)) (hl : M.length ≤ 1000) (nm : ByteArray) : Calls Try.prog 16 #[.slice al M.length c, .string nm] w (IsO w (idsE (lstE M nm))) := by
 have HRG : Hid (∀ V, Below w.heap.size w V → ∀ i, i < M.length → ∃ b off, al = some ⟨b, off, none⟩ ∧ V.rangeAt b (off + i * 3) (rwl (M.getD i zrw))) := Lib.hid fun V hV i hi => by
  obtain ⟨b, off, h1, -, h2⟩ := rw_rg (hR.below hV) hi
  exact ⟨b, off, h1, h2⟩
 have HST : Hid (∀ i, i < M.length → lstE (M.take (i + 1)) nm = lstE (M.take i) nm ++ (if (M.getD i zrw).1 = nm then [(M.getD i zrw).2] else [])) := Lib.hid fun i hi => lst_step hi
 have HLL : Hid (∀ i, (idsE (lstE (M.take i) nm)).length ≤ 1000) := Lib.hid fun i => by
  have h1 := lst_len (M.take i) nm
  rw [List.length_take] at h1
  unfold idsE
  rw [List.length_map]
  omega
 have HEND : Hid (∀ V v, Below w.heap.size w V → RowI V w.heap.size v (idsE (lstE (M.take M.length) nm)) → IsO w (idsE (lstE M nm)) (.returned v) V) := Lib.hid fun V v hV h => ⟨v, rfl, by rw [List.take_length] at h; exact h, hV⟩
 obtain ⟨PO, hPO⟩ : ∃ PO, IsO w (idsE (lstE M nm)) = PO := ⟨_, rfl⟩
 rw [hPO] at HEND ⊢
 obtain ⟨n, hn⟩ : ∃ n, M.length = n := ⟨_, rfl⟩
 have HN := Lib.hid hn
 rw [hn] at HRG HST HEND hl ⊢
 clear hR hn hPO
 go_enter Try.func16, Try.ntmps16
 go_upto_region 1 with fail
 refine wl <| gz1 (.slice none 0 0) <| wn ?_
 simp only [pu]
 go_upto_region 2 with fail
 refine wl <| gz3 (.slice al n c) (.int .i64 n) (.int .i64 0) <| wn ?_
 simp only [pu]
 go_wp2_with fail
 go_loopg [5, 10] n (fun gg s5 s10 wx => ∃ (i : Nat) (v : Value), s10 = .int .i64 i ∧ s5 = v ∧ i ≤ n ∧ gg + i = n ∧ Hid (RowI wx w.heap.size v (idsE (lstE (M.take i) nm))) ∧ Hid (Below w.heap.size w wx))
 case atStart => exact ⟨0, _, rfl, rfl, by omega, by omega, Lib.hid (own_no _ _ _ _), Lib.hid (Below.refl _ _)⟩
 case round =>
  obtain ⟨i, v, rfl, hv, hin, hg, HP, HR⟩ := hrel
  obtain rfl := hv.symm
  have HGK : Hid (gk + i = n) := Lib.hid hg
  clear hg
  by_cases hlt : i < n
  ·skip
   obtain ⟨b, off, hbb, hrg⟩ := HRG.out wr HR.out i hlt
   obtain rfl := hbb
   obtain ⟨x, hx⟩ : ∃ x, M.getD i zrw = x := ⟨_, rfl⟩
   rw [hx] at hrg
   obtain ⟨V2, hst2, hb2, hX2⟩ := new_bx (c := rwA zrw) (c' := rwA x) (ty := 43) wr rfl (rwA_one x) (by kernel_rfl)
   have HR2 : Hid (Below w.heap.size w V2) := Lib.hid (HR.out.trans (hb2.mono HR.out.size))
   go_upto_region 3 with fail
   refine wl <| gzb (lss_n rfl (i) (n) dT) <| wn ?_
   simp only [pu]
   go_upto_region 4 with fail
   refine wl <| gzv (.pointer (some ⟨b, off + i * 3, none⟩)) (idx_rw b off n c i hlt _ _ _ rfl (by kernel_rfl) (by kernel_rfl)) <| gzl rfl ⟨b, off + i * 3, none⟩ (.agg (rwA x)) (load_rw hrg) ?_
   simp only [pu]
   refine run_to rfl (some 7) rfl (.pointer (some ⟨wr.heap.size, 0, none⟩)) (wr.alloc (.cells (rwA zrw) 43)) (by kernel_rfl) ?_
   simp only [pu]
   refine gzs rfl (hst2) <| wn ?_
   obtain ⟨g5, hg5⟩ : ∃ g, wr.heap.size = g := ⟨_, rfl⟩
   rw [hg5] at hX2 ⊢
   have hbV2 := hb2
   clear hst2 hb2 hg5
   have HP2 := Lib.hid (HP.out.below ((Below.refl _ wr).trans hbV2))
   have hST := HST.out i hlt
   rw [hx] at hST
   have HST2 := Lib.hid hST
   clear hST hx hrg HR HP
   by_cases he9 : x.1 = nm
   ·skip
    go_upto_region 5 with fail
    refine wl <| gz1 (.pointer (some ⟨g5, 0, none⟩)) <| gzl rfl ⟨g5, 0, none⟩ (.string x.1) (hX2.load (i := 0) rfl (by kernel_rfl)) <| gz1 (.string nm) <| gzw (.bool true) (eql_s rfl x.1 nm (by rw [beqB]; exact decide_eq_true he9)) <| wn ?_
    simp only [pu]
    have hbA : Below V2.heap.size V2 (V2.alloc (.cells #[.int .i64 (x.2.2)] 3)) := (Below.refl _ V2).alloc (Nat.le_refl _) _
    have hXA : Bx (V2.alloc (.cells #[.int .i64 (x.2.2)] 3)) V2.heap.size #[.int .i64 (x.2.2)] 3 := heap_alloc_last V2 _
    obtain ⟨v6, W6, hap6, hrow6, hb6, -, -⟩ := app_int (RowI.below HP2.out hbA) (Nat.le_trans (HR2.out.size) hbA.size) (some ⟨V2.heap.size, 0, none⟩) 1 1 [x.2.2] (Cs.block (cs := icells [x.2.2]) hXA) rfl (by have := HLL.out i; omega) (by omega)
    have hbW6 : Below w.heap.size V2 W6 := (hbA.mono (HR2.out.size)).trans hb6
    go_upto_region 6 with fail
    refine wl <| gz2 (v) (.pointer (some ⟨g5, 2, none⟩)) <| gzl rfl ⟨g5, 2, none⟩ (.int .i64 x.2.2) (hX2.load (i := 2) rfl (by kernel_rfl)) ?_
    simp only [pu]
    refine gw_build (by kernel_rfl) (some 21) rfl 22 1 #[(0, .tmp 20)] rfl #[(0, .int .i64 (x.2.2))] (by kernel_rfl) (.slice (some ⟨V2.heap.size, 0, none⟩) 1 1) _ (one_int (x.2.2) V2) ?_
    simp only [pu]
    refine append_step rfl (some 22) rfl 22 rfl (.tmp 18) (.tmp 21) 22 rfl (v) (.slice (some ⟨V2.heap.size, 0, none⟩) 1 1) (v6) W6 (by kernel_rfl) (by kernel_rfl) hap6 ?_
    simp only [pu]
    refine gz1 (v6) <| wn ?_
    simp only [pu]
    have HR6 := Lib.hid (HR2.out.trans hbW6)
    have HP6 : Hid (RowI W6 w.heap.size v6 (idsE (lstE (M.take (i + 1)) nm))) := Lib.hid (by rw [HST2.out, if_pos he9]; unfold idsE at hrow6 ⊢; rw [List.map_append]; exact hrow6)
    clear hap6 hrow6 hb6 hbW6 hbA hXA HP2 HR2 hX2 HST2
    go_upto_region 7 with fail
    refine wl <| gzv (.int .i64 (i + 1 : Nat)) (add_one rfl i (by omega) (by kernel_rfl) _) <| gz1 (.int .i64 (i + 1 : Nat)) <| wn ?_
    simp only [pu]
    go_wp2_with fail
    go_roundg (n - (i + 1))
    case measure => have := HGK.out; omega
    case rel => exact ⟨i + 1, v6, rfl, rfl, by omega, by omega, HP6, HR6⟩
   ·skip
    go_upto_region 5 with fail
    refine wl <| gz1 (.pointer (some ⟨g5, 0, none⟩)) <| gzl rfl ⟨g5, 0, none⟩ (.string x.1) (hX2.load (i := 0) rfl (by kernel_rfl)) <| gz1 (.string nm) <| gzw (.bool false) (eql_s rfl x.1 nm (by rw [beqB]; exact decide_eq_false he9)) <| wn ?_
    simp only [pu]
    have HP6 : Hid (RowI V2 w.heap.size v (idsE (lstE (M.take (i + 1)) nm))) := Lib.hid (by rw [HST2.out, if_neg he9, List.append_nil]; exact HP2.out)
    clear HP2 hX2 HST2
    go_upto_region 7 with fail
    refine wl <| gzv (.int .i64 (i + 1 : Nat)) (add_one rfl i (by omega) (by kernel_rfl) _) <| gz1 (.int .i64 (i + 1 : Nat)) <| wn ?_
    simp only [pu]
    go_wp2_with fail
    go_roundg (n - (i + 1))
    case measure => have := HGK.out; omega
    case rel => exact ⟨i + 1, v, rfl, rfl, by omega, by omega, HP6, HR2⟩
  ·skip
   obtain rfl : i = n := by omega
   go_upto_region 3 with fail
   refine wl <| gzb (lss_n rfl (i) (i) dF) <| wn ?_
   simp only [pu]
   have HE := Lib.hid (HEND.out wr v HR.out HP.out)
   clear HP HR HEND HST HRG
   go_upto_region 8 with fail
   refine wl <| gz2 (v) (v) <| wn ?_
   simp only [pu]
   go_wp2_with fail
   exact HE.out
set_option maxRecDepth 100000 in
set_option maxHeartbeats 8000000 in
theorem r_names {w : World} {al : Option Addr} {c : Nat} {M : List Rw} (hR : Cs w al (rwcs M)) (hl : M.length ≤ 1000) : Calls Try.prog 13 #[.slice al M.length c] w (NsO w (nmsA none M)) := by
 have HRG : Hid (∀ V, Below w.heap.size w V → ∀ i, i < M.length → ∃ b off, al = some ⟨b, off, none⟩ ∧ V.rangeAt b (off + i * 3) (rwl (M.getD i zrw))) := Lib.hid fun V hV i hi => by
  obtain ⟨b, off, h1, -, h2⟩ := rw_rg (hR.below hV) hi
  exact ⟨b, off, h1, h2⟩
 have HST : Hid (∀ i, i + 1 < M.length → nmsA none (M.take (i + 2)) = nmsA none (M.take (i + 1)) ++ (if (M.getD i zrw).1 = (M.getD (i + 1) zrw).1 then [] else [(M.getD (i + 1) zrw).1])) := Lib.hid fun i hi => nms_step hi
 have HS0 : Hid (0 < M.length → nmsA none (M.take 1) = [(M.getD 0 zrw).1]) := Lib.hid nms_step0
 have HLL : Hid (∀ i, (nmsA none (M.take i)).length ≤ 1000) := Lib.hid fun i => by
  have h1 := nms_len none (M.take i)
  rw [List.length_take] at h1
  omega
 have HEND : Hid (∀ V v, Below w.heap.size w V → RowS V w.heap.size v (nmsA none (M.take M.length)) → NsO w (nmsA none M) (.returned v) V) := Lib.hid fun V v hV h => ⟨v, rfl, by rw [List.take_length] at h; exact h, hV⟩
 obtain ⟨PO, hPO⟩ : ∃ PO, NsO w (nmsA none M) = PO := ⟨_, rfl⟩
 rw [hPO] at HEND ⊢
 obtain ⟨n, hn⟩ : ∃ n, M.length = n := ⟨_, rfl⟩
 have HN := Lib.hid hn
 rw [hn] at HRG HST HS0 HEND hl ⊢
 clear hR hn hPO
 go_enter Try.func13, Try.ntmps13
 go_upto_region 1 with fail
 refine wl <| gz1 (.slice none 0 0) <| wn ?_
 simp only [pu]
 go_upto_region 2 with fail
 refine wl <| gz3 (.slice al n c) (.int .i64 n) (.int .i64 0) <| wn ?_
 simp only [pu]
 go_wp2_with fail
 go_loopg [3, 8] n (fun gg s3 s8 wx => ∃ (i : Nat) (v : Value), s8 = .int .i64 i ∧ s3 = v ∧ i ≤ n ∧ gg + i = n ∧ Hid (RowS wx w.heap.size v (nmsA none (M.take i))) ∧ Hid (Below w.heap.size w wx))
 case atStart => exact ⟨0, _, rfl, rfl, by omega, by omega, Lib.hid (own_no _ _ _ _), Lib.hid (Below.refl _ _)⟩
 case round =>
  obtain ⟨i, v, rfl, hv, hin, hg, HP, HR⟩ := hrel
  obtain rfl := hv.symm
  have HGK : Hid (gk + i = n) := Lib.hid hg
  clear hg
  by_cases hlt : i < n
  ·skip
   obtain ⟨b, off, hbb, hrg⟩ := HRG.out wr HR.out i hlt
   obtain rfl := hbb
   obtain ⟨x, hx⟩ : ∃ x, M.getD i zrw = x := ⟨_, rfl⟩
   rw [hx] at hrg
   obtain ⟨V2, hst2, hb2, hX2⟩ := new_bx (c := rwA zrw) (c' := rwA x) (ty := 43) wr rfl (rwA_one x) (by kernel_rfl)
   have HR2 : Hid (Below w.heap.size w V2) := Lib.hid (HR.out.trans (hb2.mono HR.out.size))
   go_upto_region 3 with fail
   refine wl <| gzb (lss_n rfl (i) (n) dT) <| wn ?_
   simp only [pu]
   go_upto_region 4 with fail
   refine wl <| gz1 (.int .i64 i) <| gzv (.pointer (some ⟨b, off + i * 3, none⟩)) (idx_rw b off n c i hlt _ _ _ rfl (by kernel_rfl) (by kernel_rfl)) <| gzl rfl ⟨b, off + i * 3, none⟩ (.agg (rwA x)) (load_rw hrg) ?_
   simp only [pu]
   refine run_to rfl (some 5) rfl (.pointer (some ⟨wr.heap.size, 0, none⟩)) (wr.alloc (.cells (rwA zrw) 43)) (by kernel_rfl) ?_
   simp only [pu]
   refine gz1 (.int .i64 i) <| gzs rfl (hst2) <| wn ?_
   simp only [pu]
   obtain ⟨g5, hg5⟩ : ∃ g, wr.heap.size = g := ⟨_, rfl⟩
   rw [hg5] at hX2 ⊢
   have hbV2 := hb2
   clear hst2 hb2 hg5
   have HP2 := Lib.hid (HP.out.below hbV2)
   clear hrg HR HP
   by_cases h0 : i = 0
   ·skip
    have hS1 : nmsA none (M.take (i + 1)) = [x.1] := by rw [← hx, h0]; exact HS0.out (by omega)
    have hS2 : nmsA none (M.take i) = [] := by rw [h0]; rfl
    have HS1 := Lib.hid hS1
    have HS2 := Lib.hid hS2
    clear hS1 hS2 hx
    go_upto_region 5 with fail
    refine wp_region_class (C := fun U => Below V2.heap.size V2 U) (by kernel_rfl) (by kernel_rfl) ((Below.refl _ V2).drew) ?_
    refine gy (.int .i64 i) <| gyv (.bool true) (fun U hU => eql_nn rfl i 0 (decide_eq_true h0) (by kernel_rfl) (by kernel_rfl) _) <| gy (.bool true) <| gyn <| gyn <| gyn <| gyn <| gyn <| gyn <| gyn <| gyn <| gyn <| gy (.bool true) ?_
    simp only [pu]
    apply wpQuiet_nil
    intro V3 hV3
    have HR3 := Lib.hid (HR2.out.trans (hV3.mono HR2.out.size))
    have hX3 := hX2.below hX2.lt hV3
    have HP3 := Lib.hid (HP2.out.below hV3)
    clear hV3 HR2 hX2 HP2
    have H0 := Lib.hid h0
    clear h0
    have hbA : Below V3.heap.size V3 (V3.alloc (.cells #[.string (x.1)] 9)) := (Below.refl _ V3).alloc (Nat.le_refl _) _
    have hXA : Bx (V3.alloc (.cells #[.string (x.1)] 9)) V3.heap.size #[.string (x.1)] 9 := heap_alloc_last V3 _
    obtain ⟨v6, W6, hap6, hrow6, hb6, -, -⟩ := app_str (RowS.below HP3.out hbA) (Nat.le_trans (HR3.out.size) hbA.size) (some ⟨V3.heap.size, 0, none⟩) 1 1 [x.1] (Cs.block (cs := strs [x.1]) hXA) rfl (by have := HLL.out i; omega) (by omega)
    have hbW6 : Below w.heap.size V3 W6 := (hbA.mono (HR3.out.size)).trans hb6
    go_upto_region 6 with fail
    refine wl <| gz2 (v) (.pointer (some ⟨g5, 0, none⟩)) <| gzl rfl ⟨g5, 0, none⟩ (.string x.1) (hX3.load (i := 0) rfl (by kernel_rfl)) ?_
    simp only [pu]
    refine gw_build (by kernel_rfl) (some 29) rfl 32 1 #[(0, .tmp 28)] rfl #[(0, .string (x.1))] (by kernel_rfl) (.slice (some ⟨V3.heap.size, 0, none⟩) 1 1) _ (one_str (x.1) V3) ?_
    simp only [pu]
    refine append_step rfl (some 30) rfl 32 rfl (.tmp 26) (.tmp 29) 32 rfl (v) (.slice (some ⟨V3.heap.size, 0, none⟩) 1 1) (v6) W6 (by kernel_rfl) (by kernel_rfl) hap6 ?_
    simp only [pu]
    refine gz1 (v6) <| wn ?_
    simp only [pu]
    have HR6 := Lib.hid (HR3.out.trans hbW6)
    have HP6 : Hid (RowS W6 w.heap.size v6 (nmsA none (M.take (i + 1)))) := Lib.hid (by rw [HS2.out] at hrow6; rw [HS1.out]; exact hrow6)
    clear hap6 hrow6 hb6 hbW6 hbA hXA HP3 HR3 hX3
    go_upto_region 7 with fail
    refine wl <| gzv (.int .i64 (i + 1 : Nat)) (add_one rfl i (by omega) (by kernel_rfl) _) <| gz1 (.int .i64 (i + 1 : Nat)) <| wn ?_
    simp only [pu]
    go_wp2_with fail
    go_roundg (n - (i + 1))
    case measure => have := HGK.out; omega
    case rel => exact ⟨i + 1, v6, rfl, rfl, by omega, by omega, HP6, HR6⟩
   ·skip
    have hST := HST.out (i - 1) (by omega)
    rw [show i - 1 + 2 = i + 1 by omega, show i - 1 + 1 = i by omega, hx] at hST
    obtain ⟨b2, off2, hbb2, hrg2⟩ := HRG.out V2 HR2.out (i - 1) (by omega)
    simp only [Option.some.injEq, Addr.mk.injEq, and_true] at hbb2
    obtain ⟨hq1, hq2⟩ := hbb2
    subst hq1
    subst hq2
    obtain ⟨y, hy⟩ : ∃ y, M.getD (i - 1) zrw = y := ⟨_, rfl⟩
    rw [hy] at hrg2 hST
    have HST2 := Lib.hid hST
    clear hST hx hy
    by_cases he9 : y.1 = x.1
    ·skip
     go_upto_region 5 with fail
     refine wp_region_class (C := fun U => Below V2.heap.size V2 U) (by kernel_rfl) (by kernel_rfl) ((Below.refl _ V2).drew) ?_
     refine gy (.int .i64 i) <| gyv (.bool false) (fun U hU => eql_nn rfl i 0 (decide_eq_false h0) (by kernel_rfl) (by kernel_rfl) _) <| gy (.bool false) <| gy (.slice (some ⟨b, off, none⟩) n c) <| gy (.int .i64 i) <|
       gyv (.int .i64 ((i - 1 : Nat) : Int)) (fun U hU => sub_nat rfl i (by omega) (by omega) (by kernel_rfl) (by kernel_rfl) _) <| gyv (.pointer (some ⟨b, off + (i - 1) * 3, none⟩)) (fun U hU => idx_rw b off n c (i - 1) (by omega) _ _ _ rfl (by kernel_rfl) (by kernel_rfl)) <|
       gy (.pointer (some ⟨b, off + (i - 1) * 3, none⟩)) <| gyl rfl ⟨b, off + (i - 1) * 3, none⟩ (.string y.1) (fun U hU => rg_cell (rg_below hrg2 hU) (j := 0) rfl (by kernel_rfl)) <| gy (.pointer (some ⟨g5, 0, none⟩)) <|
       gyl rfl ⟨g5, 0, none⟩ (.string x.1) (fun U hU => (hX2.below hX2.lt hU).load (i := 0) rfl (by kernel_rfl)) <| gyv (.bool false) (fun U hU => neq_t rfl y.1 x.1 (decide_eq_false (fun h => h he9)) (by kernel_rfl) (by kernel_rfl) _) <| gy (.bool false) ?_
     simp only [pu]
     apply wpQuiet_nil
     intro V3 hV3
     have HR3 := Lib.hid (HR2.out.trans (hV3.mono HR2.out.size))
     have hX3 := hX2.below hX2.lt hV3
     have HP3 := Lib.hid (HP2.out.below hV3)
     clear hV3 HR2 hX2 HP2
     have HP6 : Hid (RowS V3 w.heap.size v (nmsA none (M.take (i + 1)))) := Lib.hid (by rw [HST2.out, if_pos he9, List.append_nil]; exact HP3.out)
     clear HP3 hX3 HST2 hrg2
     go_upto_region 7 with fail
     refine wl <| gzv (.int .i64 (i + 1 : Nat)) (add_one rfl i (by omega) (by kernel_rfl) _) <| gz1 (.int .i64 (i + 1 : Nat)) <| wn ?_
     simp only [pu]
     go_wp2_with fail
     go_roundg (n - (i + 1))
     case measure => have := HGK.out; omega
     case rel => exact ⟨i + 1, v, rfl, rfl, by omega, by omega, HP6, HR3⟩
    ·skip
     go_upto_region 5 with fail
     refine wp_region_class (C := fun U => Below V2.heap.size V2 U) (by kernel_rfl) (by kernel_rfl) ((Below.refl _ V2).drew) ?_
     refine gy (.int .i64 i) <| gyv (.bool false) (fun U hU => eql_nn rfl i 0 (decide_eq_false h0) (by kernel_rfl) (by kernel_rfl) _) <| gy (.bool false) <| gy (.slice (some ⟨b, off, none⟩) n c) <| gy (.int .i64 i) <|
       gyv (.int .i64 ((i - 1 : Nat) : Int)) (fun U hU => sub_nat rfl i (by omega) (by omega) (by kernel_rfl) (by kernel_rfl) _) <| gyv (.pointer (some ⟨b, off + (i - 1) * 3, none⟩)) (fun U hU => idx_rw b off n c (i - 1) (by omega) _ _ _ rfl (by kernel_rfl) (by kernel_rfl)) <|
       gy (.pointer (some ⟨b, off + (i - 1) * 3, none⟩)) <| gyl rfl ⟨b, off + (i - 1) * 3, none⟩ (.string y.1) (fun U hU => rg_cell (rg_below hrg2 hU) (j := 0) rfl (by kernel_rfl)) <| gy (.pointer (some ⟨g5, 0, none⟩)) <|
       gyl rfl ⟨g5, 0, none⟩ (.string x.1) (fun U hU => (hX2.below hX2.lt hU).load (i := 0) rfl (by kernel_rfl)) <| gyv (.bool true) (fun U hU => neq_t rfl y.1 x.1 (decide_eq_true he9) (by kernel_rfl) (by kernel_rfl) _) <| gy (.bool true) ?_
     simp only [pu]
     apply wpQuiet_nil
     intro V3 hV3
     have HR3 := Lib.hid (HR2.out.trans (hV3.mono HR2.out.size))
     have hX3 := hX2.below hX2.lt hV3
     have HP3 := Lib.hid (HP2.out.below hV3)
     clear hV3 HR2 hX2 HP2
     have hbA : Below V3.heap.size V3 (V3.alloc (.cells #[.string (x.1)] 9)) := (Below.refl _ V3).alloc (Nat.le_refl _) _
     have hXA : Bx (V3.alloc (.cells #[.string (x.1)] 9)) V3.heap.size #[.string (x.1)] 9 := heap_alloc_last V3 _
     obtain ⟨v6, W6, hap6, hrow6, hb6, -, -⟩ := app_str (RowS.below HP3.out hbA) (Nat.le_trans (HR3.out.size) hbA.size) (some ⟨V3.heap.size, 0, none⟩) 1 1 [x.1] (Cs.block (cs := strs [x.1]) hXA) rfl (by have := HLL.out i; omega) (by omega)
     have hbW6 : Below w.heap.size V3 W6 := (hbA.mono (HR3.out.size)).trans hb6
     go_upto_region 6 with fail
     refine wl <| gz2 (v) (.pointer (some ⟨g5, 0, none⟩)) <| gzl rfl ⟨g5, 0, none⟩ (.string x.1) (hX3.load (i := 0) rfl (by kernel_rfl)) ?_
     simp only [pu]
     refine gw_build (by kernel_rfl) (some 29) rfl 32 1 #[(0, .tmp 28)] rfl #[(0, .string (x.1))] (by kernel_rfl) (.slice (some ⟨V3.heap.size, 0, none⟩) 1 1) _ (one_str (x.1) V3) ?_
     simp only [pu]
     refine append_step rfl (some 30) rfl 32 rfl (.tmp 26) (.tmp 29) 32 rfl (v) (.slice (some ⟨V3.heap.size, 0, none⟩) 1 1) (v6) W6 (by kernel_rfl) (by kernel_rfl) hap6 ?_
     simp only [pu]
     refine gz1 (v6) <| wn ?_
     simp only [pu]
     have HR6 := Lib.hid (HR3.out.trans hbW6)
     have HP6 : Hid (RowS W6 w.heap.size v6 (nmsA none (M.take (i + 1)))) := Lib.hid (by rw [HST2.out, if_neg he9]; exact hrow6)
     clear hap6 hrow6 hb6 hbW6 hbA hXA HP3 HR3 hX3
     go_upto_region 7 with fail
     refine wl <| gzv (.int .i64 (i + 1 : Nat)) (add_one rfl i (by omega) (by kernel_rfl) _) <| gz1 (.int .i64 (i + 1 : Nat)) <| wn ?_
     simp only [pu]
     go_wp2_with fail
     go_roundg (n - (i + 1))
     case measure => have := HGK.out; omega
     case rel => exact ⟨i + 1, v6, rfl, rfl, by omega, by omega, HP6, HR6⟩
  ·skip
   obtain rfl : i = n := by omega
   go_upto_region 3 with fail
   refine wl <| gzb (lss_n rfl (i) (i) dF) <| wn ?_
   simp only [pu]
   have HE := Lib.hid (HEND.out wr v HR.out HP.out)
   clear HP HR HEND HST HRG
   go_upto_region 8 with fail
   refine wl <| gz2 (v) (v) <| wn ?_
   simp only [pu]
   go_wp2_with fail
   exact HE.out
set_option maxRecDepth 100000 in
set_option maxHeartbeats 8000000 in
theorem r_run {w : World} {al : Option Addr} {c : Nat} {M : List Rw} (hR : Cs w al (rwcs M)) (hl : M.length ≤ 1000) (nm : ByteArray) (q0 : Int) : Calls Try.prog 18 #[.slice al M.length c, .string nm, .int .u64 q0] w (IsO w (runF nm M q0 false)) := by
 have HRG : Hid (∀ V, Below w.heap.size w V → ∀ i, i < M.length → ∃ b off, al = some ⟨b, off, none⟩ ∧ V.rangeAt b (off + i * 3) (rwl (M.getD i zrw))) := Lib.hid fun V hV i hi => by
  obtain ⟨b, off, h1, -, h2⟩ := rw_rg (hR.below hV) hi
  exact ⟨b, off, h1, h2⟩
 have HDR : Hid (∀ i, i < M.length → M.drop i = M.getD i zrw :: M.drop (i + 1)) := Lib.hid fun i hi => drop_one hi
 have HDE : Hid (M.drop M.length = []) := Lib.hid List.drop_length
 have HEND : Hid (∀ V v, Below w.heap.size w V → RowI V w.heap.size v (runF nm M q0 false) → IsO w (runF nm M q0 false) (.returned v) V) := Lib.hid fun V v hV h => ⟨v, rfl, h, hV⟩
 have HS0 : Hid (runF nm M q0 false = [] ++ runF nm (M.drop 0) q0 false) := Lib.hid rfl
 obtain ⟨R9, hR9⟩ : ∃ R, runF nm M q0 false = R := ⟨_, rfl⟩
 rw [hR9] at HEND HS0 ⊢
 obtain ⟨PO, hPO⟩ : ∃ PO, IsO w R9 = PO := ⟨_, rfl⟩
 rw [hPO] at HEND ⊢
 obtain ⟨n, hn⟩ : ∃ n, M.length = n := ⟨_, rfl⟩
 have HN := Lib.hid hn
 rw [hn] at HRG HDR HDE hl ⊢
 clear hR hn hPO hR9
 go_enter Try.func18, Try.ntmps18
 go_upto_region 1 with fail
 refine wl <| gz1 (.slice none 0 0) <| wn ?_
 simp only [pu]
 go_upto_region 2 with fail
 refine wl <| gz1 (.bool false) <| wn ?_
 simp only [pu]
 go_upto_region 3 with fail
 refine wl <| gz3 (.slice al n c) (.int .i64 n) (.int .i64 0) <| wn ?_
 simp only [pu]
 go_wp2_with fail
 go_loopg [2, 7, 8, 13] n (fun gg s2 s7 s8 s13 wx => ∃ (i : Nat) (v : Value) (q : Int) (t : Bool) (L : List Int), s13 = .int .i64 i ∧ s7 = v ∧ s2 = .int .u64 q ∧ s8 = .bool t ∧ i ≤ n ∧ gg + i = n ∧ Hid (R9 = L ++ runF nm (M.drop i) q t ∧ L.length ≤ i) ∧ Hid (RowI wx w.heap.size v L) ∧ Hid (Below w.heap.size w wx))
 case atStart => exact ⟨0, _, q0, false, [], rfl, rfl, rfl, rfl, by omega, by omega, Lib.hid ⟨HS0.out, Nat.le_refl 0⟩, Lib.hid (own_no _ _ _ _), Lib.hid (Below.refl _ _)⟩
 case round =>
  obtain ⟨i, v, q, t, L, rfl, hv, rfl, rfl, hin, hg, HQ, HP, HR⟩ := hrel
  obtain rfl := hv.symm
  have HGK : Hid (gk + i = n) := Lib.hid hg
  clear hg
  by_cases hlt : i < n
  ·skip
   obtain ⟨b, off, hbb, hrg⟩ := HRG.out wr HR.out i hlt
   obtain rfl := hbb
   obtain ⟨x, hx⟩ : ∃ x, M.getD i zrw = x := ⟨_, rfl⟩
   rw [hx] at hrg
   obtain ⟨V2, hst2, hb2, hX2⟩ := new_bx (c := rwA zrw) (c' := rwA x) (ty := 43) wr rfl (rwA_one x) (by kernel_rfl)
   have HR2 : Hid (Below w.heap.size w V2) := Lib.hid (HR.out.trans (hb2.mono HR.out.size))
   go_upto_region 4 with fail
   refine wl <| gzb (lss_n rfl (i) (n) dT) <| wn ?_
   simp only [pu]
   go_upto_region 5 with fail
   refine wl <| gzv (.pointer (some ⟨b, off + i * 3, none⟩)) (idx_rw b off n c i hlt _ _ _ rfl (by kernel_rfl) (by kernel_rfl)) <| gzl rfl ⟨b, off + i * 3, none⟩ (.agg (rwA x)) (load_rw hrg) ?_
   simp only [pu]
   refine run_to rfl (some 10) rfl (.pointer (some ⟨wr.heap.size, 0, none⟩)) (wr.alloc (.cells (rwA zrw) 43)) (by kernel_rfl) ?_
   simp only [pu]
   refine gzs rfl (hst2) <| wn ?_
   obtain ⟨g5, hg5⟩ : ∃ g, wr.heap.size = g := ⟨_, rfl⟩
   rw [hg5] at hX2 ⊢
   have hbV2 := hb2
   clear hst2 hb2 hg5
   have HP2 := Lib.hid (HP.out.below hbV2)
   have hQ := HQ.out
   rw [HDR.out i hlt, hx, runF] at hQ
   have HQ2 := Lib.hid hQ
   clear hx hrg HR HP hQ HQ
   by_cases he9 : x.1 = nm
   ·skip
    by_cases hq9 : x.2.1 < q
    ·skip
     go_upto_region 6 with fail
     refine wl <| gz1 (.pointer (some ⟨g5, 0, none⟩)) <| gzl rfl ⟨g5, 0, none⟩ (.string x.1) (hX2.load (i := 0) rfl (by kernel_rfl)) <| gz1 (.string nm) <| gzb (neq_t rfl x.1 nm (decide_eq_false (fun h => h he9))) <|
      gz2 (.bool false) (.pointer (some ⟨g5, 1, none⟩)) <| gzl rfl ⟨g5, 1, none⟩ (.int .u64 x.2.1) (hX2.load (i := 1) rfl (by kernel_rfl)) <| gz1 (.int .u64 q) <| gzb (lss_w rfl x.2.1 q (decide_eq_true hq9)) <|
      gz4 (.bool true) (.bool true) undef (.bool true) <| wn ?_
     simp only [pu]
     have hQ := HQ2.out
     rw [if_pos (.inr (.inl hq9))] at hQ
     have HQ3 : Hid (R9 = L ++ runF nm (M.drop (i + 1)) q t ∧ L.length ≤ i + 1) := Lib.hid ⟨hQ.1, by have := hQ.2; omega⟩
     clear hQ HQ2 hX2
     go_upto_region 11 with fail
     refine wl <| gzv (.int .i64 (i + 1 : Nat)) (add_one rfl i (by omega) (by kernel_rfl) _) <| gz1 (.int .i64 (i + 1 : Nat)) <| wn ?_
     simp only [pu]
     go_wp2_with fail
     go_roundg (n - (i + 1))
     case measure => have := HGK.out; omega
     case rel => exact ⟨i + 1, v, q, t, L, rfl, rfl, rfl, rfl, by omega, by omega, HQ3, HP2, HR2⟩
    ·skip
     cases t
     ·skip
      go_upto_region 6 with fail
      refine wl <| gz1 (.pointer (some ⟨g5, 0, none⟩)) <| gzl rfl ⟨g5, 0, none⟩ (.string x.1) (hX2.load (i := 0) rfl (by kernel_rfl)) <| gz1 (.string nm) <| gzb (neq_t rfl x.1 nm (decide_eq_false (fun h => h he9))) <|
       gz2 (.bool false) (.pointer (some ⟨g5, 1, none⟩)) <| gzl rfl ⟨g5, 1, none⟩ (.int .u64 x.2.1) (hX2.load (i := 1) rfl (by kernel_rfl)) <| gz1 (.int .u64 q) <| gzb (lss_w rfl x.2.1 q (decide_eq_false hq9)) <|
       gz4 (.bool false) (.bool false) (.bool false) (.bool false) <| wn ?_
      simp only [pu]
      have hQ := HQ2.out
      rw [if_neg (fun h => h.elim (fun h2 => h2 he9) fun h2 => h2.elim hq9 fun h3 => by cases h3)] at hQ
      by_cases hg9 : q < x.2.1
      ·skip
       rw [if_pos hg9, List.append_nil] at hQ
       have HE := Lib.hid (HEND.out V2 v HR2.out (by rw [hQ.1]; exact HP2.out))
       clear hQ HQ2
       go_upto_region 7 with fail
       refine wl <| gz1 (.pointer (some ⟨g5, 1, none⟩)) <| gzl rfl ⟨g5, 1, none⟩ (.int .u64 x.2.1) (hX2.load (i := 1) rfl (by kernel_rfl)) <| gz1 (.int .u64 q) <| gzb (gtr_w rfl x.2.1 q (decide_eq_true hg9)) <| wn ?_
       simp only [pu]
       clear hX2 HP2 HR2 HEND HDR HDE HRG
       go_upto_region 12 with fail
       refine wl <| gz2 (v) (v) <| wn ?_
       simp only [pu]
       go_wp2_with fail
       exact HE.out
      ·skip
       rw [if_neg hg9] at hQ
       have HQ3 : Hid (R9 = (L ++ [x.2.2]) ++ runF nm (M.drop (i + 1)) (IntKind.u64.wrap (q + 1)) (decide (q = 18446744073709551615)) ∧ (L ++ [x.2.2]).length ≤ i + 1) := Lib.hid ⟨by rw [List.append_assoc]; exact hQ.1, by rw [List.length_append, List.length_singleton]; have := hQ.2; omega⟩
       have HLL : Hid (L.length ≤ 1000) := Lib.hid (by have := hQ.2; omega)
       clear hQ HQ2
       go_upto_region 7 with fail
       refine wl <| gz1 (.pointer (some ⟨g5, 1, none⟩)) <| gzl rfl ⟨g5, 1, none⟩ (.int .u64 x.2.1) (hX2.load (i := 1) rfl (by kernel_rfl)) <| gz1 (.int .u64 q) <| gzb (gtr_w rfl x.2.1 q (decide_eq_false hg9)) <| wn ?_
       simp only [pu]
       have hbA : Below V2.heap.size V2 (V2.alloc (.cells #[.int .i64 (x.2.2)] 3)) := (Below.refl _ V2).alloc (Nat.le_refl _) _
       have hXA : Bx (V2.alloc (.cells #[.int .i64 (x.2.2)] 3)) V2.heap.size #[.int .i64 (x.2.2)] 3 := heap_alloc_last V2 _
       obtain ⟨v6, W6, hap6, hrow6, hb6, -, -⟩ := app_int (RowI.below HP2.out hbA) (Nat.le_trans (HR2.out.size) hbA.size) (some ⟨V2.heap.size, 0, none⟩) 1 1 [x.2.2] (Cs.block (cs := icells [x.2.2]) hXA) rfl (by have := HLL.out; omega) (by omega)
       have hbW6 : Below w.heap.size V2 W6 := (hbA.mono (HR2.out.size)).trans hb6
       go_upto_region 8 with fail
       refine wl <| gz2 (v) (.pointer (some ⟨g5, 2, none⟩)) <| gzl rfl ⟨g5, 2, none⟩ (.int .i64 x.2.2) (hX2.load (i := 2) rfl (by kernel_rfl)) ?_
       simp only [pu]
       refine gw_build (by kernel_rfl) (some 37) rfl 22 1 #[(0, .tmp 36)] rfl #[(0, .int .i64 (x.2.2))] (by kernel_rfl) (.slice (some ⟨V2.heap.size, 0, none⟩) 1 1) _ (one_int (x.2.2) V2) ?_
       simp only [pu]
       refine append_step rfl (some 38) rfl 22 rfl (.tmp 34) (.tmp 37) 22 rfl (v) (.slice (some ⟨V2.heap.size, 0, none⟩) 1 1) (v6) W6 (by kernel_rfl) (by kernel_rfl) hap6 ?_
       simp only [pu]
       refine gz1 (v6) <| wn ?_
       simp only [pu]
       have HR6 := Lib.hid (HR2.out.trans hbW6)
       obtain ⟨L9, hL9⟩ : ∃ L9, L ++ [x.2.2] = L9 := ⟨_, rfl⟩
       rw [hL9] at HQ3 hrow6
       have HP6 : Hid (RowI W6 w.heap.size v6 L9) := Lib.hid hrow6
       clear hap6 hrow6 hb6 hbW6 hbA hXA HP2 HR2 hX2 hL9
       go_upto_region 9 with fail
       refine wl <| gz1 (.int .u64 q) <| gzw (.bool (decide (q = 18446744073709551615))) (eql_w rfl q 18446744073709551615 rfl) <| gz1 (.bool (decide (q = 18446744073709551615))) <| wn ?_
       simp only [pu]
       go_upto_region 10 with fail
       refine wl <| gz1 (.int .u64 q) <| gzw (.int .u64 (IntKind.u64.wrap (q + 1))) (add_w rfl q 1) <| gz1 (.int .u64 (IntKind.u64.wrap (q + 1))) <| wn ?_
       simp only [pu]
       go_upto_region 11 with fail
       refine wl <| gzv (.int .i64 (i + 1 : Nat)) (add_one rfl i (by omega) (by kernel_rfl) _) <| gz1 (.int .i64 (i + 1 : Nat)) <| wn ?_
       simp only [pu]
       go_wp2_with fail
       go_roundg (n - (i + 1))
       case measure => have := HGK.out; omega
       case rel => exact ⟨i + 1, v6, _, _, L9, rfl, rfl, rfl, rfl, by omega, by omega, HQ3, HP6, HR6⟩
     ·skip
      go_upto_region 6 with fail
      refine wl <| gz1 (.pointer (some ⟨g5, 0, none⟩)) <| gzl rfl ⟨g5, 0, none⟩ (.string x.1) (hX2.load (i := 0) rfl (by kernel_rfl)) <| gz1 (.string nm) <| gzb (neq_t rfl x.1 nm (decide_eq_false (fun h => h he9))) <|
       gz2 (.bool false) (.pointer (some ⟨g5, 1, none⟩)) <| gzl rfl ⟨g5, 1, none⟩ (.int .u64 x.2.1) (hX2.load (i := 1) rfl (by kernel_rfl)) <| gz1 (.int .u64 q) <| gzb (lss_w rfl x.2.1 q (decide_eq_false hq9)) <|
       gz4 (.bool false) (.bool false) (.bool true) (.bool true) <| wn ?_
      simp only [pu]
      have hQ := HQ2.out
      rw [if_pos (.inr (.inr rfl))] at hQ
      have HQ3 : Hid (R9 = L ++ runF nm (M.drop (i + 1)) q true ∧ L.length ≤ i + 1) := Lib.hid ⟨hQ.1, by have := hQ.2; omega⟩
      clear hQ HQ2 hX2
      go_upto_region 11 with fail
      refine wl <| gzv (.int .i64 (i + 1 : Nat)) (add_one rfl i (by omega) (by kernel_rfl) _) <| gz1 (.int .i64 (i + 1 : Nat)) <| wn ?_
      simp only [pu]
      go_wp2_with fail
      go_roundg (n - (i + 1))
      case measure => have := HGK.out; omega
      case rel => exact ⟨i + 1, v, q, true, L, rfl, rfl, rfl, rfl, by omega, by omega, HQ3, HP2, HR2⟩
   ·skip
    go_upto_region 6 with fail
    refine wl <| gz1 (.pointer (some ⟨g5, 0, none⟩)) <| gzl rfl ⟨g5, 0, none⟩ (.string x.1) (hX2.load (i := 0) rfl (by kernel_rfl)) <| gz1 (.string nm) <| gzb (neq_t rfl x.1 nm (decide_eq_true he9)) <|
     gz6 (.bool true) undef undef undef undef (.bool true) <| gz3 (.bool true) undef (.bool true) <| wn ?_
    simp only [pu]
    have hQ := HQ2.out
    rw [if_pos (.inl he9)] at hQ
    have HQ3 : Hid (R9 = L ++ runF nm (M.drop (i + 1)) q t ∧ L.length ≤ i + 1) := Lib.hid ⟨hQ.1, by have := hQ.2; omega⟩
    clear hQ HQ2 hX2
    go_upto_region 11 with fail
    refine wl <| gzv (.int .i64 (i + 1 : Nat)) (add_one rfl i (by omega) (by kernel_rfl) _) <| gz1 (.int .i64 (i + 1 : Nat)) <| wn ?_
    simp only [pu]
    go_wp2_with fail
    go_roundg (n - (i + 1))
    case measure => have := HGK.out; omega
    case rel => exact ⟨i + 1, v, q, t, L, rfl, rfl, rfl, rfl, by omega, by omega, HQ3, HP2, HR2⟩
  ·skip
   obtain rfl : i = n := by omega
   go_upto_region 4 with fail
   refine wl <| gzb (lss_n rfl (i) (i) dF) <| wn ?_
   simp only [pu]
   have hQ := HQ.out
   rw [HDE.out, runF, List.append_nil] at hQ
   have HE := Lib.hid (HEND.out wr v HR.out (by rw [hQ.1]; exact HP.out))
   clear HP HR HEND HDR HRG hQ HQ
   go_upto_region 12 with fail
   refine wl <| gz2 (v) (v) <| wn ?_
   simp only [pu]
   go_wp2_with fail
   exact HE.out
set_option maxRecDepth 100000 in
set_option maxHeartbeats 8000000 in
theorem same_ints {w : World} {a a2 : Option Addr} {c c2 : Nat} {L : List Int} (h1 : Cs w a (icells L)) (h2 : Cs w a2 (icells L)) (hl : L.length ≤ 100000) : Calls Try.prog 14 #[.slice a L.length c, .slice a2 L.length c2] w fun e w' => e = .returned (.bool true) ∧ Below w.heap.size w w' := by
 have HA : Hid (∀ V, Below w.heap.size w V → ∀ i, i < L.length → ∃ b off b2 off2, a = some ⟨b, off, none⟩ ∧ a2 = some ⟨b2, off2, none⟩ ∧ V.cell? ⟨b, off + i, none⟩ = some (.int .i64 (L.getD i 0)) ∧ V.cell? ⟨b2, off2 + i, none⟩ = some (.int .i64 (L.getD i 0))) := Lib.hid fun V hV i hi => by
  obtain ⟨b, off, e1, -, c1⟩ := int_at (h1.below hV) hi
  obtain ⟨b2, off2, e2, -, c2⟩ := int_at (h2.below hV) hi
  exact ⟨b, off, b2, off2, e1, e2, c1, c2⟩
 obtain ⟨n, hn⟩ : ∃ n, L.length = n := ⟨_, rfl⟩
 rw [hn] at HA hl ⊢
 have HL := Lib.hid hl
 clear h1 h2 hn hl
 go_enter Try.func14, Try.ntmps14
 go_upto_region 1 with fail
 refine wl <| gz4 (.slice a n c) (.int .i64 n) (.slice a2 n c2) (.int .i64 n) <| gzb (neq_n rfl (n) (n) (decide_eq_false (fun h => h rfl))) <| wn ?_
 simp only [pu]
 go_upto_region 3 with fail
 refine wl <| gz3 (.slice a n c) (.int .i64 n) (.int .i64 0) <| wn ?_
 simp only [pu]
 go_wp2_with fail
 go_loopg [13] n (fun gg s13 wx => ∃ (i : Nat), s13 = .int .i64 i ∧ i ≤ n ∧ gg + i = n ∧ Hid (Below w.heap.size w wx))
 case atStart => exact ⟨0, rfl, by omega, by omega, Lib.hid (Below.refl _ _)⟩
 case round =>
  obtain ⟨i, rfl, hin, hg, HR⟩ := hrel
  have HGK : Hid (gk + i = n) := Lib.hid hg
  clear hg
  by_cases hlt : i < n
  ·skip
   obtain ⟨b, off, b2, off2, hq1, hq2, hc1, hc2⟩ := HA.out wr HR.out i hlt
   obtain rfl := hq1
   obtain rfl := hq2
   generalize L.getD i 0 = v at *
   go_upto_region 4 with fail
   refine wl <| gzb (lss_n rfl (i) (n) dT) <| wn ?_
   simp only [pu]
   go_upto_region 5 with fail
   refine wl <| gz2 (.int .i64 i) (.int .i64 i) <| wn ?_
   simp only [pu]
   go_upto_region 6 with fail
   refine wp_region_class (C := fun U => Below wr.heap.size wr U) (by kernel_rfl) (by kernel_rfl) ((Below.refl _ wr).drew) ?_
   refine gy (.slice (some ⟨b, off, none⟩) n c) <| gy (.int .i64 i) <| gyv (.pointer (some ⟨b, off + i, none⟩)) (fun U hU => idx_int b off n c i hlt U _ _ rfl (by kernel_rfl) (by kernel_rfl)) <|
     gyl rfl ⟨b, off + i, none⟩ (.int .i64 v) (fun U hU => load_cell ((hU.cell (p := ⟨b, off + i, none⟩) (World.block_lt_of_cell? wr _ hc1)).trans hc1) (by kernel_rfl)) <| gy (.slice (some ⟨b2, off2, none⟩) n c2) <| gy (.int .i64 i) <|
     gyv (.pointer (some ⟨b2, off2 + i, none⟩)) (fun U hU => idx_int b2 off2 n c2 i hlt U _ _ rfl (by kernel_rfl) (by kernel_rfl)) <|
     gyl rfl ⟨b2, off2 + i, none⟩ (.int .i64 v) (fun U hU => load_cell ((hU.cell (p := ⟨b2, off2 + i, none⟩) (World.block_lt_of_cell? wr _ hc2)).trans hc2) (by kernel_rfl)) <| gyv (.bool false) (fun U hU => neq_n rfl (v) (v) (decide_eq_false (fun h => h rfl)) (by kernel_rfl) (by kernel_rfl) U) ?_
   simp only [pu]
   apply wpQuiet_nil
   intro V3 hV3
   have HR2 := Lib.hid (HR.out.trans (hV3.mono HR.out.size))
   clear hV3 hc1 hc2 HR
   go_upto_region 8 with fail
   refine wl <| gzv (.int .i64 (i + 1 : Nat)) (add_one rfl i (by have := HL.out; omega) (by kernel_rfl) _) <| gz1 (.int .i64 (i + 1 : Nat)) <| wn ?_
   simp only [pu]
   go_wp2_with fail
   go_roundg (n - (i + 1))
   case measure => have := HGK.out; omega
   case rel => exact ⟨i + 1, rfl, by omega, by omega, HR2⟩
  ·skip
   obtain rfl : i = n := by omega
   go_upto_region 4 with fail
   refine wl <| gzb (lss_n rfl (i) (i) dF) <| wn ?_
   simp only [pu]
   go_wp2_with fail
   go_ret
   exact ⟨rfl, HR.out⟩
set_option maxRecDepth 100000 in
set_option maxHeartbeats 8000000 in
theorem same_texts {w : World} {a a2 : Option Addr} {c c2 : Nat} {L : List ByteArray} (h1 : Cs w a (strs L)) (h2 : Cs w a2 (strs L)) (hl : L.length ≤ 100000) : Calls Try.prog 11 #[.slice a L.length c, .slice a2 L.length c2] w fun e w' => e = .returned (.bool true) ∧ Below w.heap.size w w' := by
 have HA : Hid (∀ V, Below w.heap.size w V → ∀ i, i < L.length → ∃ b off b2 off2, a = some ⟨b, off, none⟩ ∧ a2 = some ⟨b2, off2, none⟩ ∧ V.cell? ⟨b, off + i, none⟩ = some (.string (L.getD i ⟨#[]⟩)) ∧ V.cell? ⟨b2, off2 + i, none⟩ = some (.string (L.getD i ⟨#[]⟩))) := Lib.hid fun V hV i hi => by
  obtain ⟨b, off, e1, -, c1⟩ := str_at (h1.below hV) hi
  obtain ⟨b2, off2, e2, -, c2⟩ := str_at (h2.below hV) hi
  exact ⟨b, off, b2, off2, e1, e2, c1, c2⟩
 obtain ⟨n, hn⟩ : ∃ n, L.length = n := ⟨_, rfl⟩
 rw [hn] at HA hl ⊢
 have HL := Lib.hid hl
 clear h1 h2 hn hl
 go_enter Try.func11, Try.ntmps11
 go_upto_region 1 with fail
 refine wl <| gz4 (.slice a n c) (.int .i64 n) (.slice a2 n c2) (.int .i64 n) <| gzb (neq_n rfl (n) (n) (decide_eq_false (fun h => h rfl))) <| wn ?_
 simp only [pu]
 go_upto_region 3 with fail
 refine wl <| gz3 (.slice a n c) (.int .i64 n) (.int .i64 0) <| wn ?_
 simp only [pu]
 go_wp2_with fail
 go_loopg [13] n (fun gg s13 wx => ∃ (i : Nat), s13 = .int .i64 i ∧ i ≤ n ∧ gg + i = n ∧ Hid (Below w.heap.size w wx))
 case atStart => exact ⟨0, rfl, by omega, by omega, Lib.hid (Below.refl _ _)⟩
 case round =>
  obtain ⟨i, rfl, hin, hg, HR⟩ := hrel
  have HGK : Hid (gk + i = n) := Lib.hid hg
  clear hg
  by_cases hlt : i < n
  ·skip
   obtain ⟨b, off, b2, off2, hq1, hq2, hc1, hc2⟩ := HA.out wr HR.out i hlt
   obtain rfl := hq1
   obtain rfl := hq2
   generalize L.getD i ⟨#[]⟩ = v at *
   go_upto_region 4 with fail
   refine wl <| gzb (lss_n rfl (i) (n) dT) <| wn ?_
   simp only [pu]
   go_upto_region 5 with fail
   refine wl <| gz2 (.int .i64 i) (.int .i64 i) <| wn ?_
   simp only [pu]
   go_upto_region 6 with fail
   refine wp_region_class (C := fun U => Below wr.heap.size wr U) (by kernel_rfl) (by kernel_rfl) ((Below.refl _ wr).drew) ?_
   refine gy (.slice (some ⟨b, off, none⟩) n c) <| gy (.int .i64 i) <| gyv (.pointer (some ⟨b, off + i, none⟩)) (fun U hU => idx_str b off n c i hlt U _ _ rfl (by kernel_rfl) (by kernel_rfl)) <|
     gyl rfl ⟨b, off + i, none⟩ (.string v) (fun U hU => load_cell ((hU.cell (p := ⟨b, off + i, none⟩) (World.block_lt_of_cell? wr _ hc1)).trans hc1) (by kernel_rfl)) <| gy (.slice (some ⟨b2, off2, none⟩) n c2) <| gy (.int .i64 i) <|
     gyv (.pointer (some ⟨b2, off2 + i, none⟩)) (fun U hU => idx_str b2 off2 n c2 i hlt U _ _ rfl (by kernel_rfl) (by kernel_rfl)) <| gyl rfl ⟨b2, off2 + i, none⟩ (.string v) (fun U hU => load_cell ((hU.cell (p := ⟨b2, off2 + i, none⟩) (World.block_lt_of_cell? wr _ hc2)).trans hc2) (by kernel_rfl)) <|
     gyv (.bool false) (fun U hU => neq_t rfl (v) (v) (decide_eq_false (fun h => h rfl)) (by kernel_rfl) (by kernel_rfl) U) ?_
   simp only [pu]
   apply wpQuiet_nil
   intro V3 hV3
   have HR2 := Lib.hid (HR.out.trans (hV3.mono HR.out.size))
   clear hV3 hc1 hc2 HR
   go_upto_region 8 with fail
   refine wl <| gzv (.int .i64 (i + 1 : Nat)) (add_one rfl i (by have := HL.out; omega) (by kernel_rfl) _) <| gz1 (.int .i64 (i + 1 : Nat)) <| wn ?_
   simp only [pu]
   go_wp2_with fail
   go_roundg (n - (i + 1))
   case measure => have := HGK.out; omega
   case rel => exact ⟨i + 1, rfl, by omega, by omega, HR2⟩
  ·skip
   obtain rfl : i = n := by omega
   go_upto_region 4 with fail
   refine wl <| gzb (lss_n rfl (i) (i) dF) <| wn ?_
   simp only [pu]
   go_wp2_with fail
   go_ret
   exact ⟨rfl, HR.out⟩
end Go.Proofs.Ytjononjpoeobcaa
