/-
  The program's heap: Remove and Pop.
-/
import Derived.Test.YtepdibnbnhkpnaaHP
namespace Go.Proofs.Ytepdibnbnhkpnaa
open Go.RowKit
set_option linter.unusedSimpArgs false
set_option linter.unusedVariables false

/-- An item goes into a new block. -/
theorem new_box (V : World) (x : It) : ∃ V2, (Instr.storeAt 24 (.pointer (some ⟨V.heap.size, 0, none⟩)) (.agg (itA x))).run Try.prog (V.alloc (.cells (itA zIt) 24)) = .ok () V2 ∧ Gd V V2 ∧ Bx V2 V.heap.size (itA x) 24 :=
  ⟨_, (store_box (box_z V).2).1, (box_z V).1.set (Nat.le_refl _) _, (store_box (box_z V).2).2⟩
theorem In9.none {Bd g : Nat} {d : Hd} {f : Int → Option Int} {w : World} (I : In9 Bd g d f w) {k : Int} {M : List It} (hp : d.A.Perm M) (h : f k = none) : hasId k M = false := by rw [← hasId_perm hp]; exact I.px.no.1 h
theorem In9.some {Bd g : Nat} {d : Hd} {f : Int → Option Int} {w : World} (I : In9 Bd g d f w) {k n : Int} (h : f k = some n) : ∃ i : Nat, n = i ∧ i < d.A.length ∧ (ita d.A i).1 = k := (I.px k n).1 h
theorem In9.ou {Bd g : Nat} {d : Hd} {f : Int → Option Int} {w V : World} (I : In9 Bd g d f w) {M : List It} (hp : d.A.Perm M) (hb : Below w.heap.size w V) : Ou9 Bd g d w M V := ⟨d, f, Gh.below I.mem hb I.hw, I.px, I.ho, hp⟩
set_option maxRecDepth 100000 in
set_option maxHeartbeats 4000000 in
theorem q_remove0 {Bd g : Nat} {d : Hd} {f : Int → Option Int} {w : World} (I : In9 Bd g d f w) {k : Int} {M : List It} (hp : d.A.Perm M) (hf : f k = none) : Calls Try.prog 19 #[.pointer (some ⟨g, 0, none⟩), .int .i64 k] w fun e w' => e = .returned (.bool (takM M k).2) ∧ Ou9 Bd g d w (takM M k).1 w' := by
  have hh := I.none hp hf
  rw [tak_none hh, show (takM M k).2 = false from hh]
  have HO := Lib.hid (I.ou hp (Below.refl _ w))
  have HM := Lib.hid (by
    have := I.mem.mp.look k true
    rw [hf] at this
    exact this : (Instr.lookup 56 (.map (some d.B)) (.int .i64 k) true).run Try.prog w = .ok (.tuple #[.int .i64 0, .bool false]) w)
  have HL := Lib.hid I.mem.ld1
  clear I hp hf hh
  go_enter Try.func19, Try.ntmps19
  go_upto_region 1 with fail
  apply wp_region_lit
  refine gw_val (by kernel_rfl) (some 8) rfl (.pointer (some ⟨g, 0, none⟩)) (by kernel_rfl) ?_
  simp only [Act.put, List.setIfInBounds_toArray, List.set_cons_succ, List.set_cons_zero]
  refine gw_val (by kernel_rfl) (some 9) rfl (.bool false) (by kernel_rfl) ?_
  simp only [Act.put, List.setIfInBounds_toArray, List.set_cons_succ, List.set_cons_zero]
  apply wpList_nil
  go_upto_region 3 with fail
  apply wp_region_lit
  refine gw_val (by kernel_rfl) (some 11) rfl (.pointer (some ⟨g, 0, none⟩)) (by kernel_rfl) ?_
  simp only [Act.put, List.setIfInBounds_toArray, List.set_cons_succ, List.set_cons_zero]
  refine gw_val (by kernel_rfl) (some 12) rfl (.pointer (some ⟨g, 0, none⟩)) (by kernel_rfl) ?_
  simp only [Act.put, List.setIfInBounds_toArray, List.set_cons_succ, List.set_cons_zero]
  refine gw_val (by kernel_rfl) (some 13) rfl (.pointer (some ⟨g, 1, none⟩)) (by kernel_rfl) ?_
  simp only [Act.put, List.setIfInBounds_toArray, List.set_cons_succ, List.set_cons_zero]
  refine gw_load (by kernel_rfl) (some 14) rfl 56 (.tmp 13) rfl ⟨g, 1, none⟩ (.map (some d.B)) (by kernel_rfl) (HL.out) ?_
  simp only [Act.put, List.setIfInBounds_toArray, List.set_cons_succ, List.set_cons_zero]
  refine gw_val (by kernel_rfl) (some 15) rfl (.int .i64 k) (by kernel_rfl) ?_
  simp only [Act.put, List.setIfInBounds_toArray, List.set_cons_succ, List.set_cons_zero]
  refine gw_val (by kernel_rfl) (some 16) rfl (.tuple #[.int .i64 0, .bool false]) (ex_look 56 (.tmp 14) (.tmp 15) true rfl (.map (some d.B)) (.int .i64 k) _ (by kernel_rfl) (by kernel_rfl) HM.out) ?_
  simp only [Act.put, List.setIfInBounds_toArray, List.set_cons_succ, List.set_cons_zero]
  refine gw_val (by kernel_rfl) (some 10) rfl (.tuple #[.int .i64 0, .bool false]) (by kernel_rfl) ?_
  simp only [Act.put, List.setIfInBounds_toArray, List.set_cons_succ, List.set_cons_zero]
  refine gw_val (by kernel_rfl) (some 17) rfl (.int .i64 0) (by kernel_rfl) ?_
  simp only [Act.put, List.setIfInBounds_toArray, List.set_cons_succ, List.set_cons_zero]
  refine gw_val (by kernel_rfl) (some 18) rfl (.bool false) (by kernel_rfl) ?_
  simp only [Act.put, List.setIfInBounds_toArray, List.set_cons_succ, List.set_cons_zero]
  refine gw_val (by kernel_rfl) (some 5) rfl (.int .i64 0) (by kernel_rfl) ?_
  simp only [Act.put, List.setIfInBounds_toArray, List.set_cons_succ, List.set_cons_zero]
  refine gw_val (by kernel_rfl) (some 6) rfl (.bool false) (by kernel_rfl) ?_
  simp only [Act.put, List.setIfInBounds_toArray, List.set_cons_succ, List.set_cons_zero]
  apply wpList_nil
  go_upto_region 4 with fail
  apply wp_region_lit
  refine gw_val (by kernel_rfl) (some 19) rfl (.bool false) (by kernel_rfl) ?_
  simp only [Act.put, List.setIfInBounds_toArray, List.set_cons_succ, List.set_cons_zero]
  refine gw_val (by kernel_rfl) (some 20) rfl (.bool true) (by kernel_rfl) ?_
  simp only [Act.put, List.setIfInBounds_toArray, List.set_cons_succ, List.set_cons_zero]
  apply wpList_nil
  go_upto_region 5 with fail
  apply wp_region_lit
  refine gw_val (by kernel_rfl) (some 4) rfl (.bool false) (by kernel_rfl) ?_
  simp only [Act.put, List.setIfInBounds_toArray, List.set_cons_succ, List.set_cons_zero]
  apply wpList_nil
  go_wp2_with fail
  go_ret
  exact ⟨rfl, HO.out⟩
set_option maxRecDepth 100000 in
set_option maxHeartbeats 4000000 in
theorem n_remove (w : World) (k : Int) : Calls Try.prog 19 #[.pointer none, .int .i64 k] w fun e w' => e = .returned (.bool false) ∧ Gd w w' := by
  go_enter Try.func19, Try.ntmps19
  go_upto_region 1 with fail
  apply wp_region_lit
  refine gw_val (by kernel_rfl) (some 8) rfl (.pointer none) (by kernel_rfl) ?_
  simp only [Act.put, List.setIfInBounds_toArray, List.set_cons_succ, List.set_cons_zero]
  refine gw_val (by kernel_rfl) (some 9) rfl (.bool true) (by kernel_rfl) ?_
  simp only [Act.put, List.setIfInBounds_toArray, List.set_cons_succ, List.set_cons_zero]
  apply wpList_nil
  go_upto_region 2 with fail
  apply wp_region_lit
  refine gw_val (by kernel_rfl) (some 4) rfl (.bool false) (by kernel_rfl) ?_
  simp only [Act.put, List.setIfInBounds_toArray, List.set_cons_succ, List.set_cons_zero]
  apply wpList_nil
  go_wp2_with fail
  go_ret
  exact ⟨rfl, Gd.refl _⟩
set_option maxRecDepth 100000 in
set_option maxHeartbeats 4000000 in
theorem q_remove1a {Bd g : Nat} {d : Hd} {f : Int → Option Int} {w : World} (I : In9 Bd g d f w) {k : Int} {M : List It} (hp : d.A.Perm M) {i : Nat} (hf : f k = some (i : Int)) (hi : i < d.A.length) (hk : (ita d.A i).1 = k) (hc : d.A.length = i + 1) : Calls Try.prog 19 #[.pointer (some ⟨g, 0, none⟩), .int .i64 k] w fun e w' => e = .returned (.bool (takM M k).2) ∧ Ou9 Bd g d w (takM M k).1 w' := by
  obtain ⟨n, hn⟩ : ∃ n, d.A.length = n := ⟨_, rfl⟩
  obtain ⟨l, hl⟩ : ∃ l, n = l + 1 := ⟨n - 1, by omega⟩
  have hl2 : l < d.A.length := by omega
  have hids := I.ids
  have hMn : (M.map (·.1)).Nodup := (hp.map (·.1)).nodup_iff.1 I.ids
  have hn9 := I.len
  have hcut := sw_cut (A := d.A) (i := i) (n := l) (by omega) hi
  have hTM := tak_perm (hcut.trans hp) hk hMn
  have htk : (takM M k).2 = true := hasId_true.2 ⟨ita d.A i, hp.mem_iff.1 (ita_mem hi), hk⟩
  rw [htk]
  generalize (takM M k).1 = M2 at *
  have hpx0 : Px (swL d.A i l) (exF d.A f i l) := I.px.sw (inj_of hids) hi hl2
  have hpx := hpx0.cut (inj_of (((sw_perm d.A i l hi hl2).map (·.1)).nodup_iff.2 hids)) (n := l) (by rw [swL_len]; omega)
  rw [ita_sw2 hi hl2, hk] at hpx
  have hnd2 : (((swL d.A i l).take l).map (·.1)).Nodup := by
    have h1 := ((sw_perm d.A i l hi hl2).map (·.1)).nodup_iff.2 hids
    exact h1.sublist ((List.take_sublist l _).map _)
  have hlen2 : ((swL d.A i l).take l).length = l := by rw [List.length_take, swL_len]; omega
  have HM := Lib.hid (by
    have := I.mem.mp.look k true
    rw [hf] at this
    exact this : (Instr.lookup 56 (.map (some d.B)) (.int .i64 k) true).run Try.prog w = .ok (.tuple #[.int .i64 i, .bool true]) w)
  have HL := Lib.hid I.mem.ld1
  have HL0 := Lib.hid (by
    have := I.mem.ld0
    rw [hn] at this
    exact this : (Instr.loadAt 35 (.pointer (some ⟨g, 0, none⟩))).run Try.prog w = .ok (.slice d.ka n d.kc) w)
  have hcap := I.mem.cap
  have HEX := Lib.hid (q_ex (Bd := Bd) I.mem I.hB I.hw hi hl2)
  have HHB := Lib.hid I.hB
  have HHW := Lib.hid I.hw
  have hho : HO ((swL d.A i l).take l) := by
    rw [show l = i by omega, sw_same _ _ hi]
    exact ho_cut I.ho
  have HD : Hid (decide (i < l) = false) := Lib.hid (decide_eq_false (by omega))
  have hsl : (swL d.A i l).length = n := by rw [swL_len]; exact hn
  rw [hn] at hcap hl2 hn9
  obtain ⟨A1, hA1⟩ : ∃ A1, swL d.A i l = A1 := ⟨_, rfl⟩
  obtain ⟨f1, hf1⟩ : ∃ f1, exF d.A f i l = f1 := ⟨_, rfl⟩
  clear hpx0
  rw [hf1] at hpx HEX
  rw [hA1] at hTM hpx hnd2 hlen2 hsl HEX hho
  have HLN : Hid (n - 1 = l) := Lib.hid (by omega)
  have HI := Lib.hid hi
  clear I hp hf hi hk hc hids hMn hcut htk hf1 hl hn hA1
  go_enter Try.func19, Try.ntmps19
  go_upto_region 1 with fail
  apply wp_region_lit
  refine gw_val (by kernel_rfl) (some 8) rfl (.pointer (some ⟨g, 0, none⟩)) (by kernel_rfl) ?_
  simp only [Act.put, List.setIfInBounds_toArray, List.set_cons_succ, List.set_cons_zero]
  refine gw_val (by kernel_rfl) (some 9) rfl (.bool false) (by kernel_rfl) ?_
  simp only [Act.put, List.setIfInBounds_toArray, List.set_cons_succ, List.set_cons_zero]
  apply wpList_nil
  go_upto_region 3 with fail
  apply wp_region_lit
  refine gw_val (by kernel_rfl) (some 11) rfl (.pointer (some ⟨g, 0, none⟩)) (by kernel_rfl) ?_
  simp only [Act.put, List.setIfInBounds_toArray, List.set_cons_succ, List.set_cons_zero]
  refine gw_val (by kernel_rfl) (some 12) rfl (.pointer (some ⟨g, 0, none⟩)) (by kernel_rfl) ?_
  simp only [Act.put, List.setIfInBounds_toArray, List.set_cons_succ, List.set_cons_zero]
  refine gw_val (by kernel_rfl) (some 13) rfl (.pointer (some ⟨g, 1, none⟩)) (by kernel_rfl) ?_
  simp only [Act.put, List.setIfInBounds_toArray, List.set_cons_succ, List.set_cons_zero]
  refine gw_load (by kernel_rfl) (some 14) rfl 56 (.tmp 13) rfl ⟨g, 1, none⟩ (.map (some d.B)) (by kernel_rfl) (HL.out) ?_
  simp only [Act.put, List.setIfInBounds_toArray, List.set_cons_succ, List.set_cons_zero]
  refine gw_val (by kernel_rfl) (some 15) rfl (.int .i64 k) (by kernel_rfl) ?_
  simp only [Act.put, List.setIfInBounds_toArray, List.set_cons_succ, List.set_cons_zero]
  refine gw_val (by kernel_rfl) (some 16) rfl (.tuple #[.int .i64 i, .bool true]) (ex_look 56 (.tmp 14) (.tmp 15) true rfl (.map (some d.B)) (.int .i64 k) _ (by kernel_rfl) (by kernel_rfl) HM.out) ?_
  simp only [Act.put, List.setIfInBounds_toArray, List.set_cons_succ, List.set_cons_zero]
  refine gw_val (by kernel_rfl) (some 10) rfl (.tuple #[.int .i64 i, .bool true]) (by kernel_rfl) ?_
  simp only [Act.put, List.setIfInBounds_toArray, List.set_cons_succ, List.set_cons_zero]
  refine gw_val (by kernel_rfl) (some 17) rfl (.int .i64 i) (by kernel_rfl) ?_
  simp only [Act.put, List.setIfInBounds_toArray, List.set_cons_succ, List.set_cons_zero]
  refine gw_val (by kernel_rfl) (some 18) rfl (.bool true) (by kernel_rfl) ?_
  simp only [Act.put, List.setIfInBounds_toArray, List.set_cons_succ, List.set_cons_zero]
  refine gw_val (by kernel_rfl) (some 5) rfl (.int .i64 i) (by kernel_rfl) ?_
  simp only [Act.put, List.setIfInBounds_toArray, List.set_cons_succ, List.set_cons_zero]
  refine gw_val (by kernel_rfl) (some 6) rfl (.bool true) (by kernel_rfl) ?_
  simp only [Act.put, List.setIfInBounds_toArray, List.set_cons_succ, List.set_cons_zero]
  apply wpList_nil
  go_upto_region 4 with fail
  apply wp_region_lit
  refine gw_val (by kernel_rfl) (some 19) rfl (.bool true) (by kernel_rfl) ?_
  simp only [Act.put, List.setIfInBounds_toArray, List.set_cons_succ, List.set_cons_zero]
  refine gw_val (by kernel_rfl) (some 20) rfl (.bool false) (by kernel_rfl) ?_
  simp only [Act.put, List.setIfInBounds_toArray, List.set_cons_succ, List.set_cons_zero]
  apply wpList_nil
  go_upto_region 6 with fail
  apply wp_region_lit
  refine gw_val (by kernel_rfl) (some 21) rfl (.pointer (some ⟨g, 0, none⟩)) (by kernel_rfl) ?_
  simp only [Act.put, List.setIfInBounds_toArray, List.set_cons_succ, List.set_cons_zero]
  refine gw_val (by kernel_rfl) (some 22) rfl (.pointer (some ⟨g, 0, none⟩)) (by kernel_rfl) ?_
  simp only [Act.put, List.setIfInBounds_toArray, List.set_cons_succ, List.set_cons_zero]
  refine gw_val (by kernel_rfl) (some 23) rfl (.pointer (some ⟨g, 0, none⟩)) (by kernel_rfl) ?_
  simp only [Act.put, List.setIfInBounds_toArray, List.set_cons_succ, List.set_cons_zero]
  refine gw_load (by kernel_rfl) (some 24) rfl 35 (.tmp 23) rfl ⟨g, 0, none⟩ (.slice d.ka n d.kc) (by kernel_rfl) (HL0.out) ?_
  simp only [Act.put, List.setIfInBounds_toArray, List.set_cons_succ, List.set_cons_zero]
  refine gw_val (by kernel_rfl) (some 25) rfl (.int .i64 n) (by kernel_rfl) ?_
  simp only [Act.put, List.setIfInBounds_toArray, List.set_cons_succ, List.set_cons_zero]
  refine gw_val (by kernel_rfl) (some 26) rfl (.int .i64 l) (by rw [← HLN.out]; exact sub_k rfl n 1 (by omega) (by omega) (by kernel_rfl) (by kernel_rfl) _) ?_
  simp only [Act.put, List.setIfInBounds_toArray, List.set_cons_succ, List.set_cons_zero]
  refine gw_val (by kernel_rfl) (some 7) rfl (.int .i64 l) (by kernel_rfl) ?_
  simp only [Act.put, List.setIfInBounds_toArray, List.set_cons_succ, List.set_cons_zero]
  apply wpList_nil
  go_upto_region 7 with fail
  apply wp_region_lit
  refine gw_val (by kernel_rfl) (some 27) rfl (.pointer (some ⟨g, 0, none⟩)) (by kernel_rfl) ?_
  simp only [Act.put, List.setIfInBounds_toArray, List.set_cons_succ, List.set_cons_zero]
  refine gw_val (by kernel_rfl) (some 28) rfl (.int .i64 i) (by kernel_rfl) ?_
  simp only [Act.put, List.setIfInBounds_toArray, List.set_cons_succ, List.set_cons_zero]
  refine gw_val (by kernel_rfl) (some 29) rfl (.int .i64 l) (by kernel_rfl) ?_
  simp only [Act.put, List.setIfInBounds_toArray, List.set_cons_succ, List.set_cons_zero]
  refine gw_call (by kernel_rfl) (some 30) rfl 27 #[.pointer (some ⟨g, 0, none⟩), .int .i64 i, .int .i64 l] (.tuple #[]) (fun w9 => Gh Bd g d w { d with A := A1 } f1 w9) (by kernel_rfl) HEX.out (fun V1 hV1 => ?_)
  simp only [Act.put, List.setIfInBounds_toArray, List.set_cons_succ, List.set_cons_zero]
  apply wpList_nil
  have HLD := Lib.hid (by
    have := hV1.mem.ld0
    rw [show ({ d with A := A1 } : Hd).A.length = n from hsl] at this
    exact this : (Instr.loadAt 35 (.pointer (some ⟨g, 0, none⟩))).run Try.prog V1 = .ok (.slice d.ka n d.kc) V1)
  have HST := Lib.hid (run_store_cell (ty := 35) (v := .slice d.ka l d.kc) hV1.mem.bx (i := 0) (by simp [hdh]) rfl (by kernel_rfl))
  have HG2 := Lib.hid (hV1.trans (Gh.cut (Bd := Bd) hV1.mem (hV1.base HHB.out HHW.out) l (by show l ≤ A1.length; omega)))
  clear hV1
  go_upto_region 8 with fail
  apply wp_region_lit
  refine gw_val (by kernel_rfl) (some 31) rfl (.pointer (some ⟨g, 0, none⟩)) (by kernel_rfl) ?_
  simp only [Act.put, List.setIfInBounds_toArray, List.set_cons_succ, List.set_cons_zero]
  refine gw_val (by kernel_rfl) (some 32) rfl (.pointer (some ⟨g, 0, none⟩)) (by kernel_rfl) ?_
  simp only [Act.put, List.setIfInBounds_toArray, List.set_cons_succ, List.set_cons_zero]
  refine gw_val (by kernel_rfl) (some 33) rfl (.pointer (some ⟨g, 0, none⟩)) (by kernel_rfl) ?_
  simp only [Act.put, List.setIfInBounds_toArray, List.set_cons_succ, List.set_cons_zero]
  refine gw_val (by kernel_rfl) (some 34) rfl (.pointer (some ⟨g, 0, none⟩)) (by kernel_rfl) ?_
  simp only [Act.put, List.setIfInBounds_toArray, List.set_cons_succ, List.set_cons_zero]
  refine gw_load (by kernel_rfl) (some 35) rfl 35 (.tmp 34) rfl ⟨g, 0, none⟩ (.slice d.ka n d.kc) (by kernel_rfl) (HLD.out) ?_
  simp only [Act.put, List.setIfInBounds_toArray, List.set_cons_succ, List.set_cons_zero]
  refine gw_val (by kernel_rfl) (some 36) rfl (.int .i64 l) (by kernel_rfl) ?_
  simp only [Act.put, List.setIfInBounds_toArray, List.set_cons_succ, List.set_cons_zero]
  refine gw_slice_to (by kernel_rfl) (some 37) rfl 35 (.tmp 35) (.tmp 36) rfl (.slice d.ka n d.kc) (.int .i64 l) (.slice d.ka l d.kc) (by kernel_rfl) (by kernel_rfl) (cut_it_to d.ka n d.kc l _ (by omega)) ?_
  simp only [Act.put, List.setIfInBounds_toArray, List.set_cons_succ, List.set_cons_zero]
  refine gw_val (by kernel_rfl) (some 38) rfl (.pointer (some ⟨g, 0, none⟩)) (by kernel_rfl) ?_
  simp only [Act.put, List.setIfInBounds_toArray, List.set_cons_succ, List.set_cons_zero]
  refine gw_val (by kernel_rfl) (some 39) rfl (.pointer (some ⟨g, 0, none⟩)) (by kernel_rfl) ?_
  simp only [Act.put, List.setIfInBounds_toArray, List.set_cons_succ, List.set_cons_zero]
  refine gw_store (by kernel_rfl) rfl 35 (.tmp 39) (.tmp 37) rfl (.pointer (some ⟨g, 0, none⟩)) (.slice d.ka l d.kc) (by kernel_rfl) (by kernel_rfl) (V1.setCell ⟨g, 0, none⟩ (.slice d.ka l d.kc)) (HST.out) ?_
  apply wpList_nil
  generalize V1.setCell ⟨g, 0, none⟩ (.slice d.ka l d.kc) = V2 at *
  have HLM := Lib.hid HG2.out.mem.ld1
  clear HST HLD
  go_upto_region 9 with fail
  apply wp_region_lit
  refine gw_val (by kernel_rfl) (some 40) rfl (.pointer (some ⟨g, 0, none⟩)) (by kernel_rfl) ?_
  simp only [Act.put, List.setIfInBounds_toArray, List.set_cons_succ, List.set_cons_zero]
  refine gw_val (by kernel_rfl) (some 41) rfl (.pointer (some ⟨g, 0, none⟩)) (by kernel_rfl) ?_
  simp only [Act.put, List.setIfInBounds_toArray, List.set_cons_succ, List.set_cons_zero]
  refine gw_val (by kernel_rfl) (some 42) rfl (.pointer (some ⟨g, 1, none⟩)) (by kernel_rfl) ?_
  simp only [Act.put, List.setIfInBounds_toArray, List.set_cons_succ, List.set_cons_zero]
  refine gw_load (by kernel_rfl) (some 43) rfl 56 (.tmp 42) rfl ⟨g, 1, none⟩ (.map (some d.B)) (by kernel_rfl) (HLM.out) ?_
  simp only [Act.put, List.setIfInBounds_toArray, List.set_cons_succ, List.set_cons_zero]
  refine gw_val (by kernel_rfl) (some 44) rfl (.int .i64 k) (by kernel_rfl) ?_
  simp only [Act.put, List.setIfInBounds_toArray, List.set_cons_succ, List.set_cons_zero]
  obtain ⟨V3, hdl, hmf, -, hgr⟩ := HG2.out.mem.mp.del k _
  refine gw_new (by kernel_rfl) none rfl (.tuple #[]) V3 (ex_del (.tmp 43) (.tmp 44) 56 3 rfl (.map (some d.B)) (.int .i64 k) (.tuple #[]) (by kernel_rfl) (by kernel_rfl) hdl) ?_
  simp only [Act.put]
  apply wpList_nil
  have HG3 := Lib.hid (HG2.out.trans (Gh.map HG2.out.mem (HHB.out d.B ⟨1, rfl⟩) hmf hgr))
  clear hdl HLM hmf hgr HG2
  have HO : Hid (Ou9 Bd g d w M2 V3) := Lib.hid ⟨_, _, HG3.out, hpx, hho, hTM⟩
  clear HG3 hpx hho hTM
  go_upto_region 10 with fail
  apply wp_region_lit
  refine gw_val (by kernel_rfl) (some 45) rfl (.int .i64 i) (by kernel_rfl) ?_
  simp only [Act.put, List.setIfInBounds_toArray, List.set_cons_succ, List.set_cons_zero]
  refine gw_val (by kernel_rfl) (some 46) rfl (.int .i64 l) (by kernel_rfl) ?_
  simp only [Act.put, List.setIfInBounds_toArray, List.set_cons_succ, List.set_cons_zero]
  refine gw_val (by kernel_rfl) (some 47) rfl (.bool false) (by rw [← HD.out]; exact lt_nat rfl i l (by kernel_rfl) (by kernel_rfl) _) ?_
  simp only [Act.put, List.setIfInBounds_toArray, List.set_cons_succ, List.set_cons_zero]
  apply wpList_nil
  go_upto_region 13 with fail
  apply wp_region_lit
  refine gw_val (by kernel_rfl) (some 4) rfl (.bool true) (by kernel_rfl) ?_
  simp only [Act.put, List.setIfInBounds_toArray, List.set_cons_succ, List.set_cons_zero]
  apply wpList_nil
  go_wp2_with fail
  go_ret
  exact ⟨rfl, HO.out⟩
set_option maxRecDepth 100000 in
set_option maxHeartbeats 4000000 in
theorem q_remove1b {Bd g : Nat} {d : Hd} {f : Int → Option Int} {w : World} (I : In9 Bd g d f w) {k : Int} {M : List It} (hp : d.A.Perm M) {i : Nat} (hf : f k = some (i : Int)) (hi : i < d.A.length) (hk : (ita d.A i).1 = k) (hc : i + 1 < d.A.length) : Calls Try.prog 19 #[.pointer (some ⟨g, 0, none⟩), .int .i64 k] w fun e w' => e = .returned (.bool (takM M k).2) ∧ Ou9 Bd g d w (takM M k).1 w' := by
  obtain ⟨n, hn⟩ : ∃ n, d.A.length = n := ⟨_, rfl⟩
  obtain ⟨l, hl⟩ : ∃ l, n = l + 1 := ⟨n - 1, by omega⟩
  have hl2 : l < d.A.length := by omega
  have hids := I.ids
  have hMn : (M.map (·.1)).Nodup := (hp.map (·.1)).nodup_iff.1 I.ids
  have hn9 := I.len
  have hcut := sw_cut (A := d.A) (i := i) (n := l) (by omega) hi
  have hTM := tak_perm (hcut.trans hp) hk hMn
  have htk : (takM M k).2 = true := hasId_true.2 ⟨ita d.A i, hp.mem_iff.1 (ita_mem hi), hk⟩
  rw [htk]
  generalize (takM M k).1 = M2 at *
  have hpx0 : Px (swL d.A i l) (exF d.A f i l) := I.px.sw (inj_of hids) hi hl2
  have hpx := hpx0.cut (inj_of (((sw_perm d.A i l hi hl2).map (·.1)).nodup_iff.2 hids)) (n := l) (by rw [swL_len]; omega)
  rw [ita_sw2 hi hl2, hk] at hpx
  have hnd2 : (((swL d.A i l).take l).map (·.1)).Nodup := by
    have h1 := ((sw_perm d.A i l hi hl2).map (·.1)).nodup_iff.2 hids
    exact h1.sublist ((List.take_sublist l _).map _)
  have hlen2 : ((swL d.A i l).take l).length = l := by rw [List.length_take, swL_len]; omega
  have HM := Lib.hid (by
    have := I.mem.mp.look k true
    rw [hf] at this
    exact this : (Instr.lookup 56 (.map (some d.B)) (.int .i64 k) true).run Try.prog w = .ok (.tuple #[.int .i64 i, .bool true]) w)
  have HL := Lib.hid I.mem.ld1
  have HL0 := Lib.hid (by
    have := I.mem.ld0
    rw [hn] at this
    exact this : (Instr.loadAt 35 (.pointer (some ⟨g, 0, none⟩))).run Try.prog w = .ok (.slice d.ka n d.kc) w)
  have hcap := I.mem.cap
  have HEX := Lib.hid (q_ex (Bd := Bd) I.mem I.hB I.hw hi hl2)
  have HHB := Lib.hid I.hB
  have HHW := Lib.hid I.hw
  have hgen := gen_cut (A := d.A) (i := i) (n := l) I.ho (by omega) (by omega)
  have HD : Hid (decide (i < l) = true) := Lib.hid (decide_eq_true (by omega))
  have hil : i < l := by omega
  have hsl : (swL d.A i l).length = n := by rw [swL_len]; exact hn
  rw [hn] at hcap hl2 hn9
  obtain ⟨A1, hA1⟩ : ∃ A1, swL d.A i l = A1 := ⟨_, rfl⟩
  obtain ⟨f1, hf1⟩ : ∃ f1, exF d.A f i l = f1 := ⟨_, rfl⟩
  clear hpx0
  rw [hf1] at hpx HEX
  rw [hA1] at hTM hpx hnd2 hlen2 hsl HEX hgen
  have HLN : Hid (n - 1 = l) := Lib.hid (by omega)
  have HI := Lib.hid hi
  clear I hp hf hi hk hc hids hMn hcut htk hf1 hl hn hA1
  go_enter Try.func19, Try.ntmps19
  go_upto_region 1 with fail
  apply wp_region_lit
  refine gw_val (by kernel_rfl) (some 8) rfl (.pointer (some ⟨g, 0, none⟩)) (by kernel_rfl) ?_
  simp only [Act.put, List.setIfInBounds_toArray, List.set_cons_succ, List.set_cons_zero]
  refine gw_val (by kernel_rfl) (some 9) rfl (.bool false) (by kernel_rfl) ?_
  simp only [Act.put, List.setIfInBounds_toArray, List.set_cons_succ, List.set_cons_zero]
  apply wpList_nil
  go_upto_region 3 with fail
  apply wp_region_lit
  refine gw_val (by kernel_rfl) (some 11) rfl (.pointer (some ⟨g, 0, none⟩)) (by kernel_rfl) ?_
  simp only [Act.put, List.setIfInBounds_toArray, List.set_cons_succ, List.set_cons_zero]
  refine gw_val (by kernel_rfl) (some 12) rfl (.pointer (some ⟨g, 0, none⟩)) (by kernel_rfl) ?_
  simp only [Act.put, List.setIfInBounds_toArray, List.set_cons_succ, List.set_cons_zero]
  refine gw_val (by kernel_rfl) (some 13) rfl (.pointer (some ⟨g, 1, none⟩)) (by kernel_rfl) ?_
  simp only [Act.put, List.setIfInBounds_toArray, List.set_cons_succ, List.set_cons_zero]
  refine gw_load (by kernel_rfl) (some 14) rfl 56 (.tmp 13) rfl ⟨g, 1, none⟩ (.map (some d.B)) (by kernel_rfl) (HL.out) ?_
  simp only [Act.put, List.setIfInBounds_toArray, List.set_cons_succ, List.set_cons_zero]
  refine gw_val (by kernel_rfl) (some 15) rfl (.int .i64 k) (by kernel_rfl) ?_
  simp only [Act.put, List.setIfInBounds_toArray, List.set_cons_succ, List.set_cons_zero]
  refine gw_val (by kernel_rfl) (some 16) rfl (.tuple #[.int .i64 i, .bool true]) (ex_look 56 (.tmp 14) (.tmp 15) true rfl (.map (some d.B)) (.int .i64 k) _ (by kernel_rfl) (by kernel_rfl) HM.out) ?_
  simp only [Act.put, List.setIfInBounds_toArray, List.set_cons_succ, List.set_cons_zero]
  refine gw_val (by kernel_rfl) (some 10) rfl (.tuple #[.int .i64 i, .bool true]) (by kernel_rfl) ?_
  simp only [Act.put, List.setIfInBounds_toArray, List.set_cons_succ, List.set_cons_zero]
  refine gw_val (by kernel_rfl) (some 17) rfl (.int .i64 i) (by kernel_rfl) ?_
  simp only [Act.put, List.setIfInBounds_toArray, List.set_cons_succ, List.set_cons_zero]
  refine gw_val (by kernel_rfl) (some 18) rfl (.bool true) (by kernel_rfl) ?_
  simp only [Act.put, List.setIfInBounds_toArray, List.set_cons_succ, List.set_cons_zero]
  refine gw_val (by kernel_rfl) (some 5) rfl (.int .i64 i) (by kernel_rfl) ?_
  simp only [Act.put, List.setIfInBounds_toArray, List.set_cons_succ, List.set_cons_zero]
  refine gw_val (by kernel_rfl) (some 6) rfl (.bool true) (by kernel_rfl) ?_
  simp only [Act.put, List.setIfInBounds_toArray, List.set_cons_succ, List.set_cons_zero]
  apply wpList_nil
  go_upto_region 4 with fail
  apply wp_region_lit
  refine gw_val (by kernel_rfl) (some 19) rfl (.bool true) (by kernel_rfl) ?_
  simp only [Act.put, List.setIfInBounds_toArray, List.set_cons_succ, List.set_cons_zero]
  refine gw_val (by kernel_rfl) (some 20) rfl (.bool false) (by kernel_rfl) ?_
  simp only [Act.put, List.setIfInBounds_toArray, List.set_cons_succ, List.set_cons_zero]
  apply wpList_nil
  go_upto_region 6 with fail
  apply wp_region_lit
  refine gw_val (by kernel_rfl) (some 21) rfl (.pointer (some ⟨g, 0, none⟩)) (by kernel_rfl) ?_
  simp only [Act.put, List.setIfInBounds_toArray, List.set_cons_succ, List.set_cons_zero]
  refine gw_val (by kernel_rfl) (some 22) rfl (.pointer (some ⟨g, 0, none⟩)) (by kernel_rfl) ?_
  simp only [Act.put, List.setIfInBounds_toArray, List.set_cons_succ, List.set_cons_zero]
  refine gw_val (by kernel_rfl) (some 23) rfl (.pointer (some ⟨g, 0, none⟩)) (by kernel_rfl) ?_
  simp only [Act.put, List.setIfInBounds_toArray, List.set_cons_succ, List.set_cons_zero]
  refine gw_load (by kernel_rfl) (some 24) rfl 35 (.tmp 23) rfl ⟨g, 0, none⟩ (.slice d.ka n d.kc) (by kernel_rfl) (HL0.out) ?_
  simp only [Act.put, List.setIfInBounds_toArray, List.set_cons_succ, List.set_cons_zero]
  refine gw_val (by kernel_rfl) (some 25) rfl (.int .i64 n) (by kernel_rfl) ?_
  simp only [Act.put, List.setIfInBounds_toArray, List.set_cons_succ, List.set_cons_zero]
  refine gw_val (by kernel_rfl) (some 26) rfl (.int .i64 l) (by rw [← HLN.out]; exact sub_k rfl n 1 (by omega) (by omega) (by kernel_rfl) (by kernel_rfl) _) ?_
  simp only [Act.put, List.setIfInBounds_toArray, List.set_cons_succ, List.set_cons_zero]
  refine gw_val (by kernel_rfl) (some 7) rfl (.int .i64 l) (by kernel_rfl) ?_
  simp only [Act.put, List.setIfInBounds_toArray, List.set_cons_succ, List.set_cons_zero]
  apply wpList_nil
  go_upto_region 7 with fail
  apply wp_region_lit
  refine gw_val (by kernel_rfl) (some 27) rfl (.pointer (some ⟨g, 0, none⟩)) (by kernel_rfl) ?_
  simp only [Act.put, List.setIfInBounds_toArray, List.set_cons_succ, List.set_cons_zero]
  refine gw_val (by kernel_rfl) (some 28) rfl (.int .i64 i) (by kernel_rfl) ?_
  simp only [Act.put, List.setIfInBounds_toArray, List.set_cons_succ, List.set_cons_zero]
  refine gw_val (by kernel_rfl) (some 29) rfl (.int .i64 l) (by kernel_rfl) ?_
  simp only [Act.put, List.setIfInBounds_toArray, List.set_cons_succ, List.set_cons_zero]
  refine gw_call (by kernel_rfl) (some 30) rfl 27 #[.pointer (some ⟨g, 0, none⟩), .int .i64 i, .int .i64 l] (.tuple #[]) (fun w9 => Gh Bd g d w { d with A := A1 } f1 w9) (by kernel_rfl) HEX.out (fun V1 hV1 => ?_)
  simp only [Act.put, List.setIfInBounds_toArray, List.set_cons_succ, List.set_cons_zero]
  apply wpList_nil
  have HLD := Lib.hid (by
    have := hV1.mem.ld0
    rw [show ({ d with A := A1 } : Hd).A.length = n from hsl] at this
    exact this : (Instr.loadAt 35 (.pointer (some ⟨g, 0, none⟩))).run Try.prog V1 = .ok (.slice d.ka n d.kc) V1)
  have HST := Lib.hid (run_store_cell (ty := 35) (v := .slice d.ka l d.kc) hV1.mem.bx (i := 0) (by simp [hdh]) rfl (by kernel_rfl))
  have HG2 := Lib.hid (hV1.trans (Gh.cut (Bd := Bd) hV1.mem (hV1.base HHB.out HHW.out) l (by show l ≤ A1.length; omega)))
  clear hV1
  go_upto_region 8 with fail
  apply wp_region_lit
  refine gw_val (by kernel_rfl) (some 31) rfl (.pointer (some ⟨g, 0, none⟩)) (by kernel_rfl) ?_
  simp only [Act.put, List.setIfInBounds_toArray, List.set_cons_succ, List.set_cons_zero]
  refine gw_val (by kernel_rfl) (some 32) rfl (.pointer (some ⟨g, 0, none⟩)) (by kernel_rfl) ?_
  simp only [Act.put, List.setIfInBounds_toArray, List.set_cons_succ, List.set_cons_zero]
  refine gw_val (by kernel_rfl) (some 33) rfl (.pointer (some ⟨g, 0, none⟩)) (by kernel_rfl) ?_
  simp only [Act.put, List.setIfInBounds_toArray, List.set_cons_succ, List.set_cons_zero]
  refine gw_val (by kernel_rfl) (some 34) rfl (.pointer (some ⟨g, 0, none⟩)) (by kernel_rfl) ?_
  simp only [Act.put, List.setIfInBounds_toArray, List.set_cons_succ, List.set_cons_zero]
  refine gw_load (by kernel_rfl) (some 35) rfl 35 (.tmp 34) rfl ⟨g, 0, none⟩ (.slice d.ka n d.kc) (by kernel_rfl) (HLD.out) ?_
  simp only [Act.put, List.setIfInBounds_toArray, List.set_cons_succ, List.set_cons_zero]
  refine gw_val (by kernel_rfl) (some 36) rfl (.int .i64 l) (by kernel_rfl) ?_
  simp only [Act.put, List.setIfInBounds_toArray, List.set_cons_succ, List.set_cons_zero]
  refine gw_slice_to (by kernel_rfl) (some 37) rfl 35 (.tmp 35) (.tmp 36) rfl (.slice d.ka n d.kc) (.int .i64 l) (.slice d.ka l d.kc) (by kernel_rfl) (by kernel_rfl) (cut_it_to d.ka n d.kc l _ (by omega)) ?_
  simp only [Act.put, List.setIfInBounds_toArray, List.set_cons_succ, List.set_cons_zero]
  refine gw_val (by kernel_rfl) (some 38) rfl (.pointer (some ⟨g, 0, none⟩)) (by kernel_rfl) ?_
  simp only [Act.put, List.setIfInBounds_toArray, List.set_cons_succ, List.set_cons_zero]
  refine gw_val (by kernel_rfl) (some 39) rfl (.pointer (some ⟨g, 0, none⟩)) (by kernel_rfl) ?_
  simp only [Act.put, List.setIfInBounds_toArray, List.set_cons_succ, List.set_cons_zero]
  refine gw_store (by kernel_rfl) rfl 35 (.tmp 39) (.tmp 37) rfl (.pointer (some ⟨g, 0, none⟩)) (.slice d.ka l d.kc) (by kernel_rfl) (by kernel_rfl) (V1.setCell ⟨g, 0, none⟩ (.slice d.ka l d.kc)) (HST.out) ?_
  apply wpList_nil
  generalize V1.setCell ⟨g, 0, none⟩ (.slice d.ka l d.kc) = V2 at *
  have HLM := Lib.hid HG2.out.mem.ld1
  clear HST HLD
  go_upto_region 9 with fail
  apply wp_region_lit
  refine gw_val (by kernel_rfl) (some 40) rfl (.pointer (some ⟨g, 0, none⟩)) (by kernel_rfl) ?_
  simp only [Act.put, List.setIfInBounds_toArray, List.set_cons_succ, List.set_cons_zero]
  refine gw_val (by kernel_rfl) (some 41) rfl (.pointer (some ⟨g, 0, none⟩)) (by kernel_rfl) ?_
  simp only [Act.put, List.setIfInBounds_toArray, List.set_cons_succ, List.set_cons_zero]
  refine gw_val (by kernel_rfl) (some 42) rfl (.pointer (some ⟨g, 1, none⟩)) (by kernel_rfl) ?_
  simp only [Act.put, List.setIfInBounds_toArray, List.set_cons_succ, List.set_cons_zero]
  refine gw_load (by kernel_rfl) (some 43) rfl 56 (.tmp 42) rfl ⟨g, 1, none⟩ (.map (some d.B)) (by kernel_rfl) (HLM.out) ?_
  simp only [Act.put, List.setIfInBounds_toArray, List.set_cons_succ, List.set_cons_zero]
  refine gw_val (by kernel_rfl) (some 44) rfl (.int .i64 k) (by kernel_rfl) ?_
  simp only [Act.put, List.setIfInBounds_toArray, List.set_cons_succ, List.set_cons_zero]
  obtain ⟨V3, hdl, hmf, -, hgr⟩ := HG2.out.mem.mp.del k _
  refine gw_new (by kernel_rfl) none rfl (.tuple #[]) V3 (ex_del (.tmp 43) (.tmp 44) 56 3 rfl (.map (some d.B)) (.int .i64 k) (.tuple #[]) (by kernel_rfl) (by kernel_rfl) hdl) ?_
  simp only [Act.put]
  apply wpList_nil
  have HG3 := Lib.hid (HG2.out.trans (Gh.map HG2.out.mem (HHB.out d.B ⟨1, rfl⟩) hmf hgr))
  clear hdl HLM hmf hgr HG2
  go_upto_region 10 with fail
  apply wp_region_lit
  refine gw_val (by kernel_rfl) (some 45) rfl (.int .i64 i) (by kernel_rfl) ?_
  simp only [Act.put, List.setIfInBounds_toArray, List.set_cons_succ, List.set_cons_zero]
  refine gw_val (by kernel_rfl) (some 46) rfl (.int .i64 l) (by kernel_rfl) ?_
  simp only [Act.put, List.setIfInBounds_toArray, List.set_cons_succ, List.set_cons_zero]
  refine gw_val (by kernel_rfl) (some 47) rfl (.bool true) (by rw [← HD.out]; exact lt_nat rfl i l (by kernel_rfl) (by kernel_rfl) _) ?_
  simp only [Act.put, List.setIfInBounds_toArray, List.set_cons_succ, List.set_cons_zero]
  apply wpList_nil
  have HUP := Lib.hid (q_up (Bd := Bd) HG3.out.mem hpx (HG3.out.base HHB.out HHW.out) (HG3.out.size HHW.out) hnd2 (by show (A1.take l).length ≤ 100000; omega) (by show i < (A1.take l).length; omega) hgen)
  have HND := Lib.hid hnd2
  have HL2 := Lib.hid hlen2
  have HTM := Lib.hid hTM
  clear hpx hgen hnd2 hlen2 hTM
  go_upto_region 11 with fail
  apply wp_region_lit
  refine gw_val (by kernel_rfl) (some 48) rfl (.pointer (some ⟨g, 0, none⟩)) (by kernel_rfl) ?_
  simp only [Act.put, List.setIfInBounds_toArray, List.set_cons_succ, List.set_cons_zero]
  refine gw_val (by kernel_rfl) (some 49) rfl (.int .i64 i) (by kernel_rfl) ?_
  simp only [Act.put, List.setIfInBounds_toArray, List.set_cons_succ, List.set_cons_zero]
  refine gw_call (by kernel_rfl) (some 50) rfl 26 #[.pointer (some ⟨g, 0, none⟩), .int .i64 i] (.tuple #[]) (fun w9 => ∃ T, Hm Bd g { d with A := A1.take l } V3 T w9 ∧ DnI T i) (by kernel_rfl) HUP.out (fun V4 hV4 => ?_)
  simp only [Act.put, List.setIfInBounds_toArray, List.set_cons_succ, List.set_cons_zero]
  apply wpList_nil
  obtain ⟨T, hT, hDn⟩ := hV4
  have hpm := hT.pm
  have hTl : T.length = l := by rw [hpm.length_eq]; exact HL2.out
  have hTn : (T.map (·.1)).Nodup := ((hpm.map (·.1)).nodup_iff).2 HND.out
  obtain ⟨-, f4, hG4, hp4⟩ := hT
  have HG4 := Lib.hid (HG3.out.trans hG4)
  have HDN := Lib.hid (q_down (Bd := Bd) HG4.out.mem hp4 (HG4.out.base HHB.out HHW.out) (HG4.out.size HHW.out) hTn (by show T.length ≤ 100000; omega) (by show i < T.length; omega) hDn)
  have HPM := Lib.hid hpm
  clear hG4 hp4 hpm hTl hTn hDn HUP HG3
  go_upto_region 12 with fail
  apply wp_region_lit
  refine gw_val (by kernel_rfl) (some 51) rfl (.pointer (some ⟨g, 0, none⟩)) (by kernel_rfl) ?_
  simp only [Act.put, List.setIfInBounds_toArray, List.set_cons_succ, List.set_cons_zero]
  refine gw_val (by kernel_rfl) (some 52) rfl (.int .i64 i) (by kernel_rfl) ?_
  simp only [Act.put, List.setIfInBounds_toArray, List.set_cons_succ, List.set_cons_zero]
  refine gw_call (by kernel_rfl) (some 53) rfl 28 #[.pointer (some ⟨g, 0, none⟩), .int .i64 i] (.tuple #[]) (fun w9 => ∃ T2, Hm Bd g { d with A := T } V4 T2 w9 ∧ HO T2) (by kernel_rfl) HDN.out (fun V5 hV5 => ?_)
  simp only [Act.put, List.setIfInBounds_toArray, List.set_cons_succ, List.set_cons_zero]
  apply wpList_nil
  obtain ⟨T2, ⟨hp2, f5, hG5, hx5⟩, hho⟩ := hV5
  have HO : Hid (Ou9 Bd g d w M2 V5) := Lib.hid ⟨_, _, HG4.out.trans hG5, hx5, hho, (hp2.trans HPM.out).trans HTM.out⟩
  clear hp2 hG5 hx5 hho HDN HG4
  go_upto_region 13 with fail
  apply wp_region_lit
  refine gw_val (by kernel_rfl) (some 4) rfl (.bool true) (by kernel_rfl) ?_
  simp only [Act.put, List.setIfInBounds_toArray, List.set_cons_succ, List.set_cons_zero]
  apply wpList_nil
  go_wp2_with fail
  go_ret
  exact ⟨rfl, HO.out⟩
theorem q_remove {Bd g : Nat} {d : Hd} {f : Int → Option Int} {w : World} (I : In9 Bd g d f w) (k : Int) {M : List It} (hp : d.A.Perm M) : Calls Try.prog 19 #[.pointer (some ⟨g, 0, none⟩), .int .i64 k] w fun e w' => e = .returned (.bool (takM M k).2) ∧ Ou9 Bd g d w (takM M k).1 w' := by
  cases hf : f k with
  | none => exact q_remove0 I hp hf
  | some n =>
    obtain ⟨i, rfl, hi, hk⟩ := I.some hf
    by_cases hc : d.A.length = i + 1
    · exact q_remove1a I hp hf hi hk hc
    · exact q_remove1b I hp hf hi hk (by omega)
end Go.Proofs.Ytepdibnbnhkpnaa
