/-
 The program's ids, List, Run: contracts.
-/
import Derived.Test.YtjononjpoeobcaaPD
namespace Go.Proofs.Ytjononjpoeobcaa
attribute [local irreducible] wpList wpQuiet
open Go.RowKit
set_option maxRecDepth 100000
set_option linter.unusedSimpArgs false
set_option linter.unusedVariables false

theorem mk_ints (w : World) (n : Nat) (hn : n ≤ 100000) : ∃ W1, (Instr.makeSlice 22 (.int .i64 0) (.int .i64 (n : Int))).run Try.prog w = .ok (.slice (some ⟨w.heap.size, 0, none⟩) 0 n) W1 ∧ RowI W1 w.heap.size (.slice (some ⟨w.heap.size, 0, none⟩) 0 n) [] ∧ Below w.heap.size w W1 := by
 obtain ⟨i0, hi, hz0, hz1, hz2⟩ := info_parts infoI
 have h := run_make (P := Try.prog) w 22 3 i0 (.int .i64 0) Try.underlying22 hi hz0 .i64 .i64 0 (n : Int) (by omega) (by omega) (by rw [hz2]; omega) (by omega)
 refine ⟨_, h.trans rfl, ?_, (Below.refl _ w).alloc (Nat.le_refl _) _⟩
 have h2 := own_fresh w 3 1 0 n (madeCells (Value.int .i64 0).cells (((n : Int)).toNat * i0.size)) (by rw [size_madeCells, hz1]; simp) (Nat.zero_le _) (by unfold maxLen; omega)
 rw [Nat.zero_mul, List.take_zero] at h2
 exact h2
theorem ex_mk {P : Program} {ρ : Operand → Value} {o : Oper} {x y : Operand} {w w2 : World} {ty : TypeId} {vx vy v : Value} (ho : o.op = .makeSlice ty x y) (hs : (Instr.makeSlice ty vx vy).run P w = .ok v w2) (hx : ρ x = vx) (hy : ρ y = vy) : (execOp ρ o).run P w = .ok (.value v) w2 := by
 unfold execOp
 simp only [ho, hx, hy, Sem.run_bind, hs]
 rfl
theorem sub_off {ρ : Operand → Value} {o : Oper} {x y : Operand} (ho : o.op = .binOp .sub 3 x y 3) (a b : Nat) (h : a + b ≤ 1000000) (hx : ρ x = .int .i64 ((a + b : Nat) : Int)) (hy : ρ y = .int .i64 a) (w : World) : (execOp ρ o).run Try.prog w = .ok (.value (.int .i64 b)) w := by
 have := sub_i ho ((a + b : Nat) : Int) a (by omega) hx hy w
 rwa [show ((a + b : Nat) : Int) - (a : Int) = (b : Int) by omega] at this
theorem cut_off (a : Option Addr) (n c i j : Nat) (w : World) (h2 : i + j ≤ c) : (Instr.slice 67 (.slice a n c) (some (.int .i64 (i : Int))) (some (.int .i64 ((i + j : Nat) : Int))) none).run Try.prog w = .ok (.slice (fromS 2 a c i) j (c - i)) w := by
 have h := cut_en_mid a n c i (i + j) w (by omega) h2
 rwa [Nat.add_sub_cancel_left] at h
theorem ids_step {E : List Eo} {i : Nat} (hi : i < E.length) : idsE (E.take (i + 1)) = idsE (E.take i) ++ [(ena E i).2] := by
 unfold idsE ena
 rw [List.take_add_one, List.getElem?_eq_getElem hi, Option.toList_some, List.map_append, getD_lt E i zen hi]
 rfl
theorem run_asc {E : List Eo} (hs : SrtI E) {q : Int} {ct : Nat} (h : ∀ e ∈ E.drop ct, q ≤ e.1) : ∀ j, ct + j < E.length → q + j ≤ (ena E (ct + j)).1
 | 0, hj => by
  have : ena E (ct + 0) ∈ E.drop ct := by
   unfold ena
   rw [getD_lt E (ct + 0) zen hj]
   exact List.mem_drop_iff_getElem.2 ⟨0, by omega, rfl⟩
  have := h _ this
  simpa using this
 | j + 1, hj => by
  have h1 := run_asc hs h j (by omega)
  have h2 := of_decide_eq_true (hs (ct + j) (ct + (j + 1)) (by omega) hj)
  omega
theorem runL_step {E : List Eo} {i : Nat} {q : Int} (hi : i < E.length) : runL (E.drop i) q = if (ena E i).1 = q then runL (E.drop (i + 1)) (q + 1) + 1 else 0 := by
 unfold ena
 rw [getD_lt E i zen hi, List.drop_eq_getElem_cons hi, runL]
theorem runL_end {E : List Eo} {i : Nat} {q : Int} (hi : E.length ≤ i) : runL (E.drop i) q = 0 := by
 rw [List.drop_of_length_le hi]; rfl
set_option maxRecDepth 100000 in
set_option maxHeartbeats 8000000 in
theorem q_ids {w : World} {a : Option Addr} {c : Nat} {E : List Eo} (hR : Cs w a (encs E)) (hl : E.length ≤ 10000) : Calls Try.prog 30 #[.slice a E.length c] w (IsO w (idsE E)) := by
 have HRG : Hid (∀ V, Below w.heap.size w V → ∀ i, i < E.length → ∃ b off, a = some ⟨b, off, none⟩ ∧ V.rangeAt b (off + i * 2) (enl (ena E i))) := Lib.hid fun V hV i hi => by
  obtain ⟨b, off, h1, -, h2⟩ := en_rga (hR.below hV) hi
  exact ⟨b, off, h1, h2⟩
 have HST : Hid (∀ i, i < E.length → idsE (E.take (i + 1)) = idsE (E.take i) ++ [(ena E i).2]) := Lib.hid fun i hi => ids_step hi
 have HLL : Hid (∀ i, (idsE (E.take i)).length ≤ 10000) := Lib.hid fun i => by
  unfold idsE
  rw [List.length_map, List.length_take]; omega
 have HEND : Hid (∀ V v, Below w.heap.size w V → RowI V w.heap.size v (idsE (E.take E.length)) → IsO w (idsE E) (.returned v) V) := Lib.hid fun V v hV h => ⟨v, rfl, by rw [List.take_length] at h; exact h, hV⟩
 obtain ⟨PO, hPO⟩ : ∃ PO, IsO w (idsE E) = PO := ⟨_, rfl⟩
 rw [hPO] at HEND ⊢
 obtain ⟨n, hn⟩ : ∃ n, E.length = n := ⟨_, rfl⟩
 rw [hn] at HRG HST HEND hl ⊢
 obtain ⟨W1, hmk, hr1, hb1⟩ := mk_ints w n (by omega)
 have HR1 := Lib.hid hr1
 have HB1 := Lib.hid hb1
 clear hR hn hPO hr1 hb1
 go_enter Try.func30, Try.ntmps30
 go_upto_region 1 with fail
 refine wl <| gz2 (.slice a n c) (.int .i64 n) ?_
 simp only [pu]
 refine gw_new (by kernel_rfl) (some 8) rfl (.slice (some ⟨w.heap.size, 0, none⟩) 0 n) W1 (ex_mk rfl hmk (by kernel_rfl) (by kernel_rfl)) ?_
 simp only [pu]
 refine gz1 (.slice (some ⟨w.heap.size, 0, none⟩) 0 n) <| wn ?_
 simp only [pu]
 clear hmk
 go_upto_region 2 with fail
 refine wl <| gz3 (.slice a n c) (.int .i64 n) (.int .i64 0) <| wn ?_
 simp only [pu]
 go_wp2_with fail
 go_loopg [3, 11] n (fun gg s3 s11 wx => ∃ (i : Nat) (v : Value), s11 = .int .i64 i ∧ s3 = v ∧ i ≤ n ∧ gg + i = n ∧ Hid (RowI wx w.heap.size v (idsE (E.take i))) ∧ Hid (Below w.heap.size w wx))
 case atStart => exact ⟨0, _, rfl, rfl, by omega, by omega, HR1, HB1⟩
 case round =>
  obtain ⟨i, v, rfl, hv, hin, hg, HP, HR⟩ := hrel
  obtain rfl := hv.symm
  have HGK : Hid (gk + i = n) := Lib.hid hg
  clear hg HR1 HB1
  by_cases hlt : i < n
  ·skip
   obtain ⟨b, off, hbb, hrg⟩ := HRG.out wr HR.out i hlt
   obtain rfl := hbb
   have hST := HST.out i hlt
   obtain ⟨x, hx⟩ : ∃ x, ena E i = x := ⟨_, rfl⟩
   rw [hx] at hrg hST
   have HST2 := Lib.hid hST
   obtain ⟨V2, hst2, hb2, hX2⟩ := new_bx (c := enA zen) (c' := enA x) (ty := 73) wr rfl (enA_one x) (by kernel_rfl)
   have HR2 : Hid (Below w.heap.size w V2) := Lib.hid (HR.out.trans (hb2.mono HR.out.size))
   have HP2 := Lib.hid (HP.out.below hb2)
   clear hST hx
   go_upto_region 3 with fail
   refine wl <| gzb (lss_n rfl (i) (n) dT) <| wn ?_
   simp only [pu]
   go_upto_region 4 with fail
   refine wl <| gzv (.pointer (some ⟨b, off + i * 2, none⟩)) (idx_en b off n c i hlt _ _ _ rfl (by kernel_rfl) (by kernel_rfl)) <| gzl rfl ⟨b, off + i * 2, none⟩ (.agg (enA x)) (load_en hrg) ?_
   simp only [pu]
   refine run_to rfl (some 5) rfl (.pointer (some ⟨wr.heap.size, 0, none⟩)) (wr.alloc (.cells (enA zen) 73)) (by kernel_rfl) ?_
   simp only [pu]
   refine gzs rfl (hst2) <| wn ?_
   obtain ⟨g5, hg5⟩ : ∃ g, wr.heap.size = g := ⟨_, rfl⟩
   rw [hg5] at hX2 ⊢
   clear hst2 hb2 hg5 hrg HR HP
   have hbA : Below V2.heap.size V2 (V2.alloc (.cells #[.int .i64 (x.2)] 3)) := (Below.refl _ V2).alloc (Nat.le_refl _) _
   have hXA : Bx (V2.alloc (.cells #[.int .i64 (x.2)] 3)) V2.heap.size #[.int .i64 (x.2)] 3 := heap_alloc_last V2 _
   obtain ⟨v6, W6, hap6, hrow6, hb6, -, -⟩ := app_int (RowI.below HP2.out hbA) (Nat.le_trans (HR2.out.size) hbA.size) (some ⟨V2.heap.size, 0, none⟩) 1 1 [x.2] (Cs.block (cs := icells [x.2]) hXA) rfl (by have := HLL.out i; omega) (by omega)
   have hbW6 : Below w.heap.size V2 W6 := (hbA.mono (HR2.out.size)).trans hb6
   go_upto_region 5 with fail
   refine wl <| gz2 (v) (.pointer (some ⟨g5, 1, none⟩)) <| gzl rfl ⟨g5, 1, none⟩ (.int .i64 x.2) (hX2.load (i := 1) rfl (by kernel_rfl)) ?_
   simp only [pu]
   refine gw_build (by kernel_rfl) (some 18) rfl 22 1 #[(0, .tmp 17)] rfl #[(0, .int .i64 (x.2))] (by kernel_rfl) (.slice (some ⟨V2.heap.size, 0, none⟩) 1 1) _ (one_int (x.2) V2) ?_
   simp only [pu]
   refine append_step rfl (some 19) rfl 22 rfl (.tmp 15) (.tmp 18) 22 rfl (v) (.slice (some ⟨V2.heap.size, 0, none⟩) 1 1) (v6) W6 (by kernel_rfl) (by kernel_rfl) hap6 ?_
   simp only [pu]
   refine gz1 (v6) <| wn ?_
   simp only [pu]
   have HR6 := Lib.hid (HR2.out.trans hbW6)
   have HP6 : Hid (RowI W6 w.heap.size v6 (idsE (E.take (i + 1)))) := Lib.hid (by rw [HST2.out]; exact hrow6)
   clear hap6 hrow6 hb6 hbW6 hbA hXA HP2 HR2 hX2 HST2
   go_upto_region 6 with fail
   refine wl <| gzv (.int .i64 (i + 1 : Nat)) (add_one rfl i (by omega) (by kernel_rfl) _) <| gz1 (.int .i64 (i + 1 : Nat)) <| wn ?_
   simp only [pu]
   go_wp2_with fail
   go_roundg (n - (i + 1))
   case measure => have := HGK.out; omega
   case rel => exact ⟨i + 1, v6, rfl, rfl, by omega, by omega, HP6, HR6⟩
  ·skip
   obtain rfl : i = n := by omega
   go_upto_region 3 with fail
   refine wl <| gzb (lss_n rfl (i) (i) dF) <| wn ?_
   simp only [pu]
   have HE := Lib.hid (HEND.out wr v HR.out HP.out)
   clear HP HR HEND HST HRG
   go_upto_region 7 with fail
   refine wl <| gz2 (v) (v) <| wn ?_
   simp only [pu]
   go_wp2_with fail
   exact HE.out
set_option maxRecDepth 100000 in
set_option maxHeartbeats 8000000 in
theorem list_core {w : World} {p v : Value} {n : ByteArray} {E : List Eo} (CL : Calls Try.prog 31 #[p, .string n] w fun e w' => e = .returned v ∧ w = w') (h : Rowen w 0 v E) (hl : E.length ≤ 10000) : Calls Try.prog 15 #[p, .string n] w (IsO w (idsE E)) := by
 obtain ⟨a, c, rfl, hcs, -⟩ := h.cs
 have CI := q_ids (c := c) hcs hl
 obtain ⟨k, hk⟩ : ∃ k, E.length = k := ⟨_, rfl⟩
 rw [hk] at CL CI
 obtain ⟨PO, hPO⟩ : ∃ PO, IsO w (idsE E) = PO := ⟨_, rfl⟩
 have HPO : Hid (∀ e w', PO e w' → ∃ v, e = .returned v ∧ PO (.returned v) w') := Lib.hid (by rw [← hPO]; rintro e w' ⟨v, rfl, h1⟩; exact ⟨v, rfl, v, rfl, h1⟩)
 rw [hPO] at CI ⊢
 clear hPO h hl hcs hk
 go_enter Try.func15, Try.ntmps15
 go_upto_region 1 with fail
 refine wl <| gz2 (p) (.string n) <| gzc (.slice a k c) (fun w' => w = w') (CL) (fun V9 hV9 => ?_)
 subst hV9
 simp only [pu]
 refine gze (fun u w' => PO (.returned u) w') (CI.mono fun e w' z => by obtain ⟨u, h1, h2⟩ := HPO.out e w' z; exact ⟨u, h1, h2⟩) (fun v9 V9 h9 => ?_)
 have HE := Lib.hid h9
 simp only [pu]
 refine gz1 (v9) <| wn ?_
 simp only [pu]
 clear CI h9 HPO CL
 go_wp2_with fail
 exact HE.out
set_option maxRecDepth 100000 in
set_option maxHeartbeats 8000000 in
theorem run_core {w : World} {p v : Value} {n : ByteArray} {E : List Eo} (CL : Calls Try.prog 31 #[p, .string n] w fun e w' => e = .returned v ∧ w = w') (h : Rowen w 0 v E) (hs : SrtE E) (hw : ∀ e ∈ E, W64 e.1) (hl : E.length ≤ 10000) {q : Int} (hq : W64 q) : Calls Try.prog 17 #[p, .string n, .int .u64 q] w (IsO w (runX E q)) := by
 have CP := q_place' h hs (by omega) q
 obtain ⟨a, c, rfl, hcs, hcc⟩ := h.cs
 obtain ⟨-, hdr⟩ := cnt_drop (q := q) hs
 have hcl := cnt_le E q
 have hrl := runL_le (E.drop (cntE E q)) q
 rw [List.length_drop] at hrl
 have HASC : Hid (∀ j, cntE E q + j < E.length → q + j ≤ (ena E (cntE E q + j)).1 ∧ (ena E (cntE E q + j)).1 ≤ 18446744073709551615) := Lib.hid fun j hj => ⟨run_asc (srtI hs) hdr j hj, (hw _ (ena_mem hj)).2⟩
 have HRS : Hid (∀ i r, i < E.length → runL (E.drop i) r = if (ena E i).1 = r then runL (E.drop (i + 1)) (r + 1) + 1 else 0) := Lib.hid fun i r hi => runL_step hi
 have HRE : Hid (∀ i r, E.length ≤ i → runL (E.drop i) r = 0) := Lib.hid fun i r hi => runL_end hi
 have HRG : Hid (∀ V, Below w.heap.size w V → ∀ i, i < E.length → ∃ b off, a = some ⟨b, off, none⟩ ∧ V.rangeAt b (off + i * 2) (enl (ena E i))) := Lib.hid fun V hV i hi => by
  obtain ⟨b, off, h1, -, h2⟩ := en_rga (hcs.below hV) hi
  exact ⟨b, off, h1, h2⟩
 have HID : Hid (∀ V, Below w.heap.size w V → Calls Try.prog 30 #[.slice (fromS 2 a c (cntE E q)) (runL (E.drop (cntE E q)) q) (c - cntE E q)] V (IsO V (runX E q))) := Lib.hid fun V hV => by
  have h1 := ((hcs.below hV).from 2 c (cntE E q) (by rw [encs_len]; omega)).take (runL (E.drop (cntE E q)) q * 2)
  rw [encs_drop, encs_take] at h1
  have h2 := q_ids (c := c - cntE E q) h1 (by rw [List.length_take, List.length_drop]; omega)
  rw [List.length_take, List.length_drop, Nat.min_eq_left hrl] at h2
  exact h2
 have HEND : Hid (∀ V V' e, Below w.heap.size w V → IsO V (runX E q) e V' → ∃ u, e = .returned u ∧ IsO w (runX E q) (.returned u) V') := Lib.hid fun V V' e hV z => by
  obtain ⟨u, rfl, h1, h2⟩ := z
  exact ⟨u, rfl, u, rfl, own_base h1 hV.size, hV.trans (h2.mono hV.size)⟩
 obtain ⟨PO, hPO⟩ : ∃ PO, IsO w (runX E q) = PO := ⟨_, rfl⟩
 rw [hPO] at HEND ⊢
 generalize hasE E q = hb at *
 obtain ⟨ct, hct⟩ : ∃ k, cntE E q = k := ⟨_, rfl⟩
 rw [hct] at CP HASC HID hcl hrl
 obtain ⟨R, hR⟩ : ∃ R, runL (E.drop ct) q = R := ⟨_, rfl⟩
 rw [hR] at HID
 rw [hR] at hrl
 have HR0 : Hid (R = 0 + runL (E.drop (ct + 0)) (q + (0 : Nat))) := Lib.hid (by rw [← hR]; simp)
 generalize runX E q = X at *
 obtain ⟨k, hk⟩ : ∃ k, E.length = k := ⟨_, rfl⟩
 rw [hk] at CL CP HRG HASC HRS HRE hcl hrl hl hcc
 have HQ := Lib.hid hq
 clear hPO h hcs hk hs hw hdr hct hR hq
 go_enter Try.func17, Try.ntmps17
 go_upto_region 1 with fail
 refine wl <| gz2 (p) (.string n) <| gzc (.slice a k c) (fun w' => w = w') (CL) (fun V9 hV9 => ?_)
 subst hV9
 simp only [pu]
 refine gz1 (.slice a k c) <| wn ?_
 simp only [pu]
 clear CL
 go_upto_region 2 with fail
 refine wl <| gz2 (.slice a k c) (.int .u64 q) <| gzc (.tuple #[.int .i64 ct, .bool hb]) (fun w' => Below w.heap.size w w') (CP) (fun W1 hW1 => ?_)
 have HB := Lib.hid hW1
 simp only [pu]
 refine gz5 (.tuple #[.int .i64 ct, .bool hb]) (.int .i64 ct) (.bool hb) (.int .i64 ct) (.bool hb) <| wn ?_
 simp only [pu]
 clear CP hW1
 go_upto_region 3 with fail
 refine wl <| gz2 (.int .i64 ct) (.int .i64 ct) <| wn ?_
 simp only [pu]
 go_wp2_with fail
 go_loopg [10] (k - ct) (fun gg s10 wx => ∃ (j : Nat), s10 = .int .i64 (ct + j : Nat) ∧ ct + j ≤ k ∧ gg + (ct + j) = k ∧ Hid (R = j + runL (E.drop (ct + j)) (q + j)) ∧ Hid (Below w.heap.size w wx))
 case atStart => exact ⟨0, rfl, by omega, by omega, HR0, HB⟩
 case round =>
  obtain ⟨j, rfl, hjn, hg, HRJ, HR⟩ := hrel
  have HGK : Hid (gk + (ct + j) = k) := Lib.hid hg
  clear hg HR0 HB
  by_cases hlt : ct + j < k
  ·skip
   obtain ⟨b, off, hbb, hrg⟩ := HRG.out wr HR.out (ct + j) hlt
   obtain rfl := hbb
   obtain ⟨ha1, ha2⟩ := HASC.out j hlt
   have hrs := HRS.out (ct + j) (q + j) hlt
   have hrj := HRJ.out
   rw [hrs] at hrj
   obtain ⟨y, hy⟩ : ∃ y, ena E (ct + j) = y := ⟨_, rfl⟩
   rw [hy] at hrg ha1 ha2 hrj
   have hq := HQ.out
   have hwr : IntKind.u64.wrap (q + j) = q + j := by rw [IntKind.wrap_u64]; have := hq.1; omega
   have HWR := Lib.hid hwr
   clear hrs hy hwr hq
   by_cases he9 : y.1 = q + j
   ·skip
    go_upto_region 4 with fail
    refine wl <| gz3 (.int .i64 (ct + j : Nat)) (.slice (some ⟨b, off, none⟩) k c) (.int .i64 k) <| gzb (lss_n rfl ((ct + j : Nat)) (k) dT) <|
     gz3 (.bool true) (.slice (some ⟨b, off, none⟩) k c) (.int .i64 (ct + j : Nat)) <| gzv (.pointer (some ⟨b, off + (ct + j) * 2, none⟩)) (idx_en b off k c (ct + j) hlt _ _ _ rfl (by kernel_rfl) (by kernel_rfl)) <| gz1 (.pointer (some ⟨b, off + (ct + j) * 2, none⟩)) <|
     gzl rfl ⟨b, off + (ct + j) * 2, none⟩ (.int .u64 y.1) (rg_cell hrg (j := 0) rfl (by kernel_rfl)) <| gz3 (.int .u64 q) (.int .i64 (ct + j : Nat)) (.int .i64 ct) <| gzw (.int .i64 j) (sub_off rfl ct j (by omega)) <|
     gzv (.int .u64 j) (conv_iu rfl j (by omega) (by omega) (by kernel_rfl) _) <| gzw (.int .u64 (IntKind.u64.wrap (q + j))) (add_w rfl q j) <|
     gzw (.bool true) (eql_w rfl y.1 (IntKind.u64.wrap (q + j)) (by rw [HWR.out]; exact decide_eq_true he9)) <| gz1 (.bool true) <| wn ?_
    simp only [pu]
    rw [if_pos he9] at hrj
    have HR3 : Hid (R = (j + 1) + runL (E.drop (ct + (j + 1))) (q + (j + 1 : Nat))) := Lib.hid (by rw [show ct + (j + 1) = ct + j + 1 by omega, show q + ((j + 1 : Nat) : Int) = q + j + 1 by omega]; omega)
    clear hrj he9 hrg ha1 ha2 HRJ HWR
    go_upto_region 5 with fail
    refine wl <| gz1 (.int .i64 (ct + j : Nat)) <| gzv (.int .i64 (ct + (j + 1) : Nat)) (add_one rfl (ct + j) (by omega) (by kernel_rfl) _) <| gz1 (.int .i64 (ct + (j + 1) : Nat)) <| wn ?_
    simp only [pu]
    go_wp2_with fail
    go_roundg (k - (ct + (j + 1)))
    case measure => have := HGK.out; omega
    case rel => exact ⟨j + 1, rfl, by omega, by omega, HR3, HR⟩
   ·skip
    go_upto_region 4 with fail
    refine wl <| gz3 (.int .i64 (ct + j : Nat)) (.slice (some ⟨b, off, none⟩) k c) (.int .i64 k) <| gzb (lss_n rfl ((ct + j : Nat)) (k) dT) <|
     gz3 (.bool true) (.slice (some ⟨b, off, none⟩) k c) (.int .i64 (ct + j : Nat)) <| gzv (.pointer (some ⟨b, off + (ct + j) * 2, none⟩)) (idx_en b off k c (ct + j) hlt _ _ _ rfl (by kernel_rfl) (by kernel_rfl)) <| gz1 (.pointer (some ⟨b, off + (ct + j) * 2, none⟩)) <|
     gzl rfl ⟨b, off + (ct + j) * 2, none⟩ (.int .u64 y.1) (rg_cell hrg (j := 0) rfl (by kernel_rfl)) <| gz3 (.int .u64 q) (.int .i64 (ct + j : Nat)) (.int .i64 ct) <| gzw (.int .i64 j) (sub_off rfl ct j (by omega)) <|
     gzv (.int .u64 j) (conv_iu rfl j (by omega) (by omega) (by kernel_rfl) _) <| gzw (.int .u64 (IntKind.u64.wrap (q + j))) (add_w rfl q j) <|
     gzw (.bool false) (eql_w rfl y.1 (IntKind.u64.wrap (q + j)) (by rw [HWR.out]; exact decide_eq_false he9)) <| gz1 (.bool false) <| wn ?_
    simp only [pu]
    rw [if_neg he9, Nat.add_zero] at hrj
    have hRj : R = j := hrj
    clear hrj he9 hrg ha1 ha2 HWR
    subst hRj
    have CI := HID.out wr HR.out
    clear HID HASC HRS HRE HRG HRJ
    go_upto_region 6 with fail
    refine wl <| gz3 (.slice (some ⟨b, off, none⟩) k c) (.int .i64 ct) (.int .i64 (ct + R : Nat)) <| gzv (.slice (fromS 2 (some ⟨b, off, none⟩) c ct) R (c - ct)) (ex_sl_mid rfl (cut_off (some ⟨b, off, none⟩) k c ct R _ (by omega)) (by kernel_rfl) (by kernel_rfl) (by kernel_rfl)) <|
     gze (fun u w' => PO (.returned u) w') (CI.mono fun e w' z => by obtain ⟨u, h1, h2⟩ := HEND.out wr w' e HR.out z; exact ⟨u, h1, h2⟩) (fun v9 V9 h9 => ?_)
    have HE := Lib.hid h9
    simp only [pu]
    refine gz1 (v9) <| wn ?_
    simp only [pu]
    clear CI h9 HEND HR
    go_wp2_with fail
    exact HE.out
  ·skip
   go_upto_region 4 with fail
   refine wl <| gz3 (.int .i64 (ct + j : Nat)) (.slice a k c) (.int .i64 k) <| gzb (lss_n rfl ((ct + j : Nat)) (k) dF) <| gz6 (.bool false) undef undef undef undef undef <| gz6 undef undef undef undef undef undef <|
    gz2 undef (.bool false) <| wn ?_
   simp only [pu]
   have hRj : R = j := by have := HRJ.out; rw [HRE.out (ct + j) _ (by omega)] at this; exact this
   subst hRj
   have CI := HID.out wr HR.out
   clear HID HASC HRS HRE HRG HRJ
   go_upto_region 6 with fail
   refine wl <| gz3 (.slice a k c) (.int .i64 ct) (.int .i64 (ct + R : Nat)) <| gzv (.slice (fromS 2 a c ct) R (c - ct)) (ex_sl_mid rfl (cut_off a k c ct R _ (by omega)) (by kernel_rfl) (by kernel_rfl) (by kernel_rfl)) <|
    gze (fun u w' => PO (.returned u) w') (CI.mono fun e w' z => by obtain ⟨u, h1, h2⟩ := HEND.out wr w' e HR.out z; exact ⟨u, h1, h2⟩) (fun v9 V9 h9 => ?_)
   have HE := Lib.hid h9
   simp only [pu]
   refine gz1 (v9) <| wn ?_
   simp only [pu]
   clear CI h9 HEND HR
   go_wp2_with fail
   exact HE.out
theorem q_list {w : World} {g : Nat} {S : Nat → Prop} {m : List Rw} (h : RepI w g S m) (hl : m.length ≤ 1000) (n : ByteArray) : Calls Try.prog 15 #[.pointer (some ⟨g, 0, none⟩), .string n] w (IsO w (idsE (lstE m n))) := by
 obtain ⟨B, f, h, -⟩ := h
 obtain ⟨v, hv, hrow, -⟩ := h.look n
 exact list_core (by rw [← hv]; exact q_lst h n) hrow (by have := lst_len m n; omega)
theorem q_run {w : World} {g : Nat} {S : Nat → Prop} {m : List Rw} (h : RepI w g S m) (hm : Srt m) (hw : RwW m) (hl : m.length ≤ 1000) (n : ByteArray) {q : Int} (hq : W64 q) : Calls Try.prog 17 #[.pointer (some ⟨g, 0, none⟩), .string n, .int .u64 q] w (IsO w (runX (lstE m n) q)) := by
 obtain ⟨B, f, h, -⟩ := h
 obtain ⟨v, hv, hrow, -⟩ := h.look n
 exact run_core (by rw [← hv]; exact q_lst h n) hrow (lst_srt hm n) (fun e he => hw _ (lst_mem.1 he)) (by have := lst_len m n; omega) hq
theorem q_list0 (n : ByteArray) (w : World) : Calls Try.prog 15 #[.pointer none, .string n] w (IsO w []) := list_core (E := []) (q_lst0 n w) (own_no _ _ _ _) (by decide)
theorem q_run0 (n : ByteArray) {q : Int} (hq : W64 q) (w : World) : Calls Try.prog 17 #[.pointer none, .string n, .int .u64 q] w (IsO w []) := run_core (E := []) (q_lst0 n w) (own_no _ _ _ _) List.Pairwise.nil (fun e h => by simp at h) (by decide) hq
end Go.Proofs.Ytjononjpoeobcaa
