/-
  The program's cache: a key is removed.
-/
import Derived.Test.YtjblfpifhbmfoaaQG
namespace Go.Proofs.Ytjblfpifhbmfoaa
open Go.RowKit
set_option linter.unusedSimpArgs false
set_option linter.unusedVariables false

/-- A cache's keys are now Ks'. -/
def Out (Bd g z : Nat) (d : Cd) (Sl : Nat → Prop) (w : World) (Ks' : List (List Int)) (w' : World) : Prop := ∃ d' L' m' Sl', Gt Bd g z d Sl w d' L' m' Sl' w' ∧ Inv z d' Ks' L' m'
section
variable {Bd g z : Nat} {d : Cd} {Sl : Nat → Prop} {L : List (List Int × Int)} {m : LM} {w : World}
/-- A free index is appended and the slice stored. -/
theorem step_free (h : Mem w g z d L m Sl) (hB : ∀ k, Sc g d Sl k → Bd ≤ k) (hw : Bd ≤ w.heap.size) (hn : d.F.length ≤ 100000) (v : Int) : ∃ u W2 W3, (Builtin.append_ #[22, 22] 22 #[.slice d.fa d.F.length d.fc, .slice (some ⟨w.heap.size, 0, none⟩) 1 1]).run Try.prog (w.alloc (.cells #[.int .i64 v] 3)) = .ok u W2 ∧
    (Instr.storeAt 22 (.pointer (some ⟨g, 4, none⟩)) u).run Try.prog W2 = .ok () W3 ∧ ∃ a c, Gt Bd g z d Sl w { d with fa := a, fc := c, F := d.F ++ [v] } L m Sl W3 := by
  have hb : Below w.heap.size w (w.alloc (.cells #[.int .i64 v] 3)) := (Below.refl _ w).alloc (Nat.le_refl _) _
  have hM1 := h.below hb
  have hC3 : Cs (w.alloc (.cells #[.int .i64 v] 3)) (some ⟨w.heap.size, 0, none⟩) (icells [v]) := Cs.block (t := 3) (fr := (0, 0)) (heap_alloc_last w _)
  obtain ⟨u, W2, hap, hO, hg, ha⟩ := app_one (P := Try.prog) (t := 22) Try.underlying22 infoI (by kernel_rfl) (by omega) (by omega) hM1.rf w.heap.size (icells [v]) hC3 rfl (icells_one _) (Nat.zero_le _) hn
  rw [← icells_app] at hO
  obtain ⟨a, c, rfl, hG⟩ := Gt.pushF h hB hw hb hO hg ha
  have hgB := (Gt.grown h hB hw hb 4 (fun k e => own_some e) hg).2 0 g (by omega) rfl
  exact ⟨_, W2, _, hap, run_store_cell (i := 4) (ty := 22) (hgB.trans h.bx : Bx W2 g (hdc z d) 55) (by simp [hdc]) rfl (by kernel_rfl), a, c, hG⟩
theorem Gt.notin {g0 : Nat} (h : Mem w g z d L m Sl) (h0 : w.heap.size ≤ g0) : ¬ Sc g d Sl g0 := fun ⟨i, hi⟩ => by
  have := h.inn i g0 hi
  omega
end
set_option maxRecDepth 100000 in
set_option maxHeartbeats 4000000 in
theorem q_remove0 {Bd g z : Nat} {d : Cd} {Sl : Nat → Prop} {Ks : List (List Int)} {L : List (List Int × Int)} {m : LM} {w : World} (h : Mem w g z d L m Sl) (hi : Inv z d Ks L m) (hB : ∀ k, Sc g d Sl k → Bd ≤ k) (hw : Bd ≤ w.heap.size) (hc : Wc z Ks) {x : List Int} (hx : x.length = 32) (hn : idxL x Ks 0 = -1) (hf : foundK x L 0 = none) : Calls Try.prog 14 #[.pointer (some ⟨g, 0, none⟩), .agg (w8s x)] w fun e w' => e = .returned (.bool (dropM Ks x).2) ∧ Out Bd g z d Sl w (dropM Ks x).1 w' := by
  have hd : dropM Ks x = (Ks, false) := by unfold dropM; rw [hn, if_pos (by omega)]
  have hk := hi.ct.keys32 hc.kc
  have HH := Lib.hid (fun U (hU : Below w.heap.size w U) => q_has (h.below hU) hk hx false (by rw [hf]; rfl))
  have HO := Lib.hid (fun U (hU : Below w.heap.size w U) => (⟨d, L, m, Sl, Gt.below h hU hw, hi⟩ : Out Bd g z d Sl w Ks U))
  rw [hd]
  obtain ⟨hb0, hX0⟩ := box_start x w
  clear h hi hB hw hc hn hf hd hk
  go_enter Try.func14, Try.ntmps14
  go_upto_region 1 with fail
  change Code.wp _ _ _ _ (w.alloc (.cells (w8s x) 34))
  generalize w.alloc (.cells (w8s x) 34) = W at *
  generalize hg0 : w.heap.size = g0 at hX0 ⊢
  have HG0 := Lib.hid hg0
  have HB0 := Lib.hid hb0
  have HLK := Lib.hid (load_key hX0 hx)
  clear hg0
  apply wp_region_lit
  refine gw_val (by kernel_rfl) (some 8) rfl (.pointer (some ⟨g, 0, none⟩)) (by kernel_rfl) ?_
  simp only [Act.put, List.setIfInBounds_toArray, List.set_cons_succ, List.set_cons_zero]
  refine gw_load (by kernel_rfl) (some 9) rfl 34 (.tmp 3) rfl ⟨g0, 0, none⟩ (.agg (w8s x)) (by kernel_rfl) (HLK.out) ?_
  simp only [Act.put, List.setIfInBounds_toArray, List.set_cons_succ, List.set_cons_zero]
  refine gw_call (by kernel_rfl) (some 10) rfl 21 #[.pointer (some ⟨g, 0, none⟩), .agg (w8s x)] (.bool false) (fun w9 => Below W.heap.size W w9) (by kernel_rfl) (HH.out W HB0.out) (fun W1 hW1 => ?_)
  simp only [Act.put, List.setIfInBounds_toArray, List.set_cons_succ, List.set_cons_zero]
  refine gw_val (by kernel_rfl) (some 11) rfl (.bool true) (by kernel_rfl) ?_
  simp only [Act.put, List.setIfInBounds_toArray, List.set_cons_succ, List.set_cons_zero]
  apply wpList_nil
  have HV := Lib.hid (HO.out W1 (HB0.out.trans (hW1.mono HB0.out.size)))
  clear hW1 HH HO hX0 hb0
  go_wp2_with fail
  go_ret
  exact ⟨rfl, HV.out⟩
set_option maxRecDepth 100000 in
set_option maxHeartbeats 4000000 in
theorem q_remove1 {Bd g z : Nat} {d : Cd} {Sl : Nat → Prop} {Ks : List (List Int)} {L : List (List Int × Int)} {m : LM} {w : World} (h : Mem w g z d L m Sl) (hi : Inv z d Ks L m) (hB : ∀ k, Sc g d Sl k → Bd ≤ k) (hw : Bd ≤ w.heap.size) (hc : Wc z Ks) {x : List Int} (hx : x.length = 32) {i j : Nat} (hie : idxL x Ks 0 = (i : Int)) (hil : i < m.E.length) (hkf : kfA d.A (m.E.getD i (0, 0)) = x) (hf : foundK x L 0 = some (j, (m.E.getD i (0, 0)).1)) (hg : L[j]? = some (x, (m.E.getD i (0, 0)).1)) (hp : placeM m (m.E.getD i (0, 0)).1 = (i : Int)) : Calls Try.prog 14 #[.pointer (some ⟨g, 0, none⟩), .agg (w8s x)] w fun e w' => e = .returned (.bool (dropM Ks x).2) ∧ Out Bd g z d Sl w (dropM Ks x).1 w' := by
  have hk := hi.ct.keys32 hc.kc
  have hrm := fun fa fc => hi.remove hie hil hkf hg hp fa fc
  have hd2 := (hi.ct.remove hie hil hkf hg hp).2.2
  have hs64 := hi.slot hil
  have hval := hi.ct.wm.value hil
  have hfl : d.F.length ≤ 100000 := by
    have := hi.count
    have := hi.al
    have := hi.zm
    omega
  rw [hd2]
  generalize (m.E.getD i (0, 0)).1 = s at *
  generalize (m.E.getD i (0, 0)).2 = v at *
  have HH := Lib.hid (fun U (hU : Below w.heap.size w U) => q_has (h.below hU) hk hx true (by rw [hf]; rfl))
  have HL1 := Lib.hid (fun U (hU : Below w.heap.size w U) => (h.below hU).ld1)
  have HL2 := Lib.hid (fun U (hU : Below w.heap.size w U) => (h.below hU).ld2)
  have HL4 := Lib.hid (fun U (hU : Below w.heap.size w U) => (h.below hU).ld4)
  have HM := Lib.hid (fun U (hU : Below w.heap.size w U) => (by
    have := map_look (h.below hU).mp hk x hx false
    unfold lookV at this
    rw [hf] at this
    exact this : (Instr.lookup 51 (.map (some d.B)) (.agg (w8s x)) false).run Try.prog U = .ok (.int .i64 s) U))
  have HV := Lib.hid (fun U (hU : Below w.heap.size w U) => (by
    have := list_value U d.gl Sl m s (h.below hU).ls hi.ct.wm hi.ok hs64
    rw [hval] at this
    exact this : Calls Try.prog 27 #[.pointer (some ⟨d.gl, 0, none⟩), .int .i64 s] U fun e w' => e = .returned (.tuple #[.int .i64 v, .bool true]) ∧ Below U.heap.size U w'))
  have HSF := Lib.hid (fun U (hU : Below w.heap.size w U) => step_free (h.below hU) hB (Nat.le_trans hw hU.size) hfl v)
  have HG1 := Lib.hid (fun U (hU : Below w.heap.size w U) d1 L1 m1 Sl1 W3 (hG : Gt Bd g z d Sl U d1 L1 m1 Sl1 W3) => (Gt.below h hU hw).trans hG)
  have HLR := Lib.hid (fun W (hl : RepP W d.gl Sl m) (hs : Bd ≤ W.heap.size) => list_remove W d.gl Sl m s Bd hl hi.ct.wm hi.ok hs64 (fun k hk => hB k ⟨2, hk⟩) hs)
  have HDL := Lib.hid (fun U (hm : Mk U d.B L) ty => (by
    have := map_del hm hk x hx ty
    rw [hf] at this
    exact this : ∃ w', (Builtin.delete_ #[51, 34] ty #[.map (some d.B), .agg (w8s x)]).run Try.prog U = .ok (.tuple #[]) w' ∧ Mk w' d.B (L.eraseIdx j) ∧ w'.heap.size = U.heap.size ∧ U.grownBy w' (some d.B)))
  have HdB := Lib.hid (hB d.B ⟨1, rfl⟩)
  have HRM := Lib.hid hrm
  have HBW := Lib.hid hw
  have HNI := Lib.hid (Gt.notin h (Nat.le_refl _))
  obtain ⟨hb0, hX0⟩ := box_start x w
  clear h hi hB hw hc hie hil hkf hf hg hp hk hrm hd2 hs64 hval hfl
  go_enter Try.func14, Try.ntmps14
  go_upto_region 1 with fail
  change Code.wp _ _ _ _ (w.alloc (.cells (w8s x) 34))
  generalize w.alloc (.cells (w8s x) 34) = W at *
  generalize hg0 : w.heap.size = g0 at hX0 ⊢
  have HG0 := Lib.hid hg0
  have HB0 := Lib.hid hb0
  have HLK := Lib.hid (load_key hX0 hx)
  clear hg0
  apply wp_region_lit
  refine gw_val (by kernel_rfl) (some 8) rfl (.pointer (some ⟨g, 0, none⟩)) (by kernel_rfl) ?_
  simp only [Act.put, List.setIfInBounds_toArray, List.set_cons_succ, List.set_cons_zero]
  refine gw_load (by kernel_rfl) (some 9) rfl 34 (.tmp 3) rfl ⟨g0, 0, none⟩ (.agg (w8s x)) (by kernel_rfl) (HLK.out) ?_
  simp only [Act.put, List.setIfInBounds_toArray, List.set_cons_succ, List.set_cons_zero]
  refine gw_call (by kernel_rfl) (some 10) rfl 21 #[.pointer (some ⟨g, 0, none⟩), .agg (w8s x)] (.bool true) (fun w9 => Below W.heap.size W w9) (by kernel_rfl) (HH.out W HB0.out) (fun W1 hW1 => ?_)
  simp only [Act.put, List.setIfInBounds_toArray, List.set_cons_succ, List.set_cons_zero]
  refine gw_val (by kernel_rfl) (some 11) rfl (.bool false) (by kernel_rfl) ?_
  simp only [Act.put, List.setIfInBounds_toArray, List.set_cons_succ, List.set_cons_zero]
  apply wpList_nil
  have HB1 := Lib.hid (HB0.out.trans (hW1.mono HB0.out.size))
  have HX1 := Lib.hid (hX0.below hX0.lt hW1)
  clear hW1 hX0 hb0
  go_upto_region 3 with fail
  refine wp_region_class (C := fun U => Below w.heap.size w U ∧ Bx U g0 (w8s x) 34) (by kernel_rfl) (by kernel_rfl) (⟨HB1.out.drew, HX1.out⟩) ?_
  refine gq_val (by kernel_rfl) (some 12) rfl (.pointer (some ⟨g, 0, none⟩)) (fun U hU => by kernel_rfl) ?_
  simp only [Act.put, List.setIfInBounds_toArray, List.set_cons_succ, List.set_cons_zero]
  refine gq_val (by kernel_rfl) (some 13) rfl (.pointer (some ⟨g, 0, none⟩)) (fun U hU => by kernel_rfl) ?_
  simp only [Act.put, List.setIfInBounds_toArray, List.set_cons_succ, List.set_cons_zero]
  refine gq_val (by kernel_rfl) (some 14) rfl (.pointer (some ⟨g, 1, none⟩)) (fun U hU => by kernel_rfl) ?_
  simp only [Act.put, List.setIfInBounds_toArray, List.set_cons_succ, List.set_cons_zero]
  refine gq_load (by kernel_rfl) (some 15) rfl 51 (.tmp 14) rfl ⟨g, 1, none⟩ (.map (some d.B)) (by kernel_rfl) (fun U hU => HL1.out U hU.1) ?_
  simp only [Act.put, List.setIfInBounds_toArray, List.set_cons_succ, List.set_cons_zero]
  refine gq_load (by kernel_rfl) (some 16) rfl 34 (.tmp 3) rfl ⟨g0, 0, none⟩ (.agg (w8s x)) (by kernel_rfl) (fun U hU => load_key hU.2 hx) ?_
  simp only [Act.put, List.setIfInBounds_toArray, List.set_cons_succ, List.set_cons_zero]
  refine gq_val (by kernel_rfl) (some 17) rfl (.int .i64 s) (fun U hU => ex_look 51 (.tmp 15) (.tmp 16) false rfl (.map (some d.B)) (.agg (w8s x)) _ (by kernel_rfl) (by kernel_rfl) (HM.out U hU.1)) ?_
  simp only [Act.put, List.setIfInBounds_toArray, List.set_cons_succ, List.set_cons_zero]
  refine gq_val (by kernel_rfl) (some 5) rfl (.int .i64 s) (fun U hU => by kernel_rfl) ?_
  simp only [Act.put, List.setIfInBounds_toArray, List.set_cons_succ, List.set_cons_zero]
  apply wpQuiet_nil
  intro V hV
  have HV1 := Lib.hid hV
  clear hV HM HL1
  go_upto_region 4 with fail
  apply wp_region_lit
  refine gw_val (by kernel_rfl) (some 19) rfl (.pointer (some ⟨g, 0, none⟩)) (by kernel_rfl) ?_
  simp only [Act.put, List.setIfInBounds_toArray, List.set_cons_succ, List.set_cons_zero]
  refine gw_val (by kernel_rfl) (some 20) rfl (.pointer (some ⟨g, 0, none⟩)) (by kernel_rfl) ?_
  simp only [Act.put, List.setIfInBounds_toArray, List.set_cons_succ, List.set_cons_zero]
  refine gw_val (by kernel_rfl) (some 21) rfl (.pointer (some ⟨g, 2, none⟩)) (by kernel_rfl) ?_
  simp only [Act.put, List.setIfInBounds_toArray, List.set_cons_succ, List.set_cons_zero]
  refine gw_load (by kernel_rfl) (some 22) rfl 52 (.tmp 21) rfl ⟨g, 2, none⟩ (.pointer (some ⟨d.gl, 0, none⟩)) (by kernel_rfl) (HL2.out V HV1.out.1) ?_
  simp only [Act.put, List.setIfInBounds_toArray, List.set_cons_succ, List.set_cons_zero]
  refine gw_val (by kernel_rfl) (some 23) rfl (.int .i64 s) (by kernel_rfl) ?_
  simp only [Act.put, List.setIfInBounds_toArray, List.set_cons_succ, List.set_cons_zero]
  refine gw_call (by kernel_rfl) (some 24) rfl 27 #[.pointer (some ⟨d.gl, 0, none⟩), .int .i64 s] (.tuple #[.int .i64 v, .bool true]) (fun w9 => Below V.heap.size V w9) (by kernel_rfl) (HV.out V HV1.out.1) (fun V2 hV2 => ?_)
  simp only [Act.put, List.setIfInBounds_toArray, List.set_cons_succ, List.set_cons_zero]
  refine gw_val (by kernel_rfl) (some 18) rfl (.tuple #[.int .i64 v, .bool true]) (by kernel_rfl) ?_
  simp only [Act.put, List.setIfInBounds_toArray, List.set_cons_succ, List.set_cons_zero]
  refine gw_val (by kernel_rfl) (some 25) rfl (.int .i64 v) (by kernel_rfl) ?_
  simp only [Act.put, List.setIfInBounds_toArray, List.set_cons_succ, List.set_cons_zero]
  refine gw_val (by kernel_rfl) (some 26) rfl (.bool true) (by kernel_rfl) ?_
  simp only [Act.put, List.setIfInBounds_toArray, List.set_cons_succ, List.set_cons_zero]
  refine gw_val (by kernel_rfl) (some 6) rfl (.int .i64 v) (by kernel_rfl) ?_
  simp only [Act.put, List.setIfInBounds_toArray, List.set_cons_succ, List.set_cons_zero]
  refine gw_val (by kernel_rfl) (some 7) rfl (.bool true) (by kernel_rfl) ?_
  simp only [Act.put, List.setIfInBounds_toArray, List.set_cons_succ, List.set_cons_zero]
  apply wpList_nil
  have HB2 := Lib.hid (HV1.out.1.trans (hV2.mono HV1.out.1.size))
  have HX2 := Lib.hid (HV1.out.2.below HV1.out.2.lt hV2)
  clear hV2 HV HL2
  go_upto_region 5 with fail
  obtain ⟨u, W2, W3, hap, hst, a, c, hG⟩ := HSF.out V2 HB2.out
  have HG3 := Lib.hid (HG1.out V2 HB2.out _ _ _ _ _ hG)
  have HX3 := Lib.hid (HX2.out.buts hG.but (fun h2 => HNI.out (HG0.out ▸ h2)))
  have HN3 := Lib.hid (fun h2 => (hG.sub g0 h2).elim (fun h3 => HNI.out (HG0.out ▸ h3)) (fun h3 => absurd HX2.out.lt (Nat.not_lt.2 h3)))
  clear hG HSF HG1
  apply wp_region_lit
  refine gw_val (by kernel_rfl) (some 27) rfl (.pointer (some ⟨g, 0, none⟩)) (by kernel_rfl) ?_
  simp only [Act.put, List.setIfInBounds_toArray, List.set_cons_succ, List.set_cons_zero]
  refine gw_val (by kernel_rfl) (some 28) rfl (.pointer (some ⟨g, 0, none⟩)) (by kernel_rfl) ?_
  simp only [Act.put, List.setIfInBounds_toArray, List.set_cons_succ, List.set_cons_zero]
  refine gw_val (by kernel_rfl) (some 29) rfl (.pointer (some ⟨g, 0, none⟩)) (by kernel_rfl) ?_
  simp only [Act.put, List.setIfInBounds_toArray, List.set_cons_succ, List.set_cons_zero]
  refine gw_val (by kernel_rfl) (some 30) rfl (.pointer (some ⟨g, 4, none⟩)) (by kernel_rfl) ?_
  simp only [Act.put, List.setIfInBounds_toArray, List.set_cons_succ, List.set_cons_zero]
  refine gw_load (by kernel_rfl) (some 31) rfl 22 (.tmp 30) rfl ⟨g, 4, none⟩ (.slice d.fa d.F.length d.fc) (by kernel_rfl) (HL4.out V2 HB2.out) ?_
  simp only [Act.put, List.setIfInBounds_toArray, List.set_cons_succ, List.set_cons_zero]
  refine gw_val (by kernel_rfl) (some 32) rfl (.int .i64 v) (by kernel_rfl) ?_
  simp only [Act.put, List.setIfInBounds_toArray, List.set_cons_succ, List.set_cons_zero]
  refine gw_build (by kernel_rfl) (some 33) rfl 22 1 #[(0, .tmp 32)] rfl #[(0, .int .i64 v)] (by kernel_rfl) (.slice (some ⟨V2.heap.size, 0, none⟩) 1 1) _ (one_int v V2) ?_
  simp only [Act.put, List.setIfInBounds_toArray, List.set_cons_succ, List.set_cons_zero]
  refine append_step rfl (some 34) rfl 22 rfl (.tmp 31) (.tmp 33) 22 rfl (.slice d.fa d.F.length d.fc) (.slice (some ⟨V2.heap.size, 0, none⟩) 1 1) u W2 (by kernel_rfl) (by kernel_rfl) hap ?_
  simp only [Act.put, List.setIfInBounds_toArray, List.set_cons_succ, List.set_cons_zero]
  refine gw_val (by kernel_rfl) (some 35) rfl (.pointer (some ⟨g, 0, none⟩)) (by kernel_rfl) ?_
  simp only [Act.put, List.setIfInBounds_toArray, List.set_cons_succ, List.set_cons_zero]
  refine gw_val (by kernel_rfl) (some 36) rfl (.pointer (some ⟨g, 4, none⟩)) (by kernel_rfl) ?_
  simp only [Act.put, List.setIfInBounds_toArray, List.set_cons_succ, List.set_cons_zero]
  refine gw_store (by kernel_rfl) rfl 22 (.tmp 36) (.tmp 34) rfl (.pointer (some ⟨g, 4, none⟩)) (u) (by kernel_rfl) (by kernel_rfl) (W3) (hst) ?_
  apply wpList_nil
  clear hap hst HB2 HX2 HL4
  go_upto_region 6 with fail
  have CL := HLR.out W3 HG3.out.mem.ls (HG3.out.size HBW.out)
  apply wp_region_lit
  refine gw_val (by kernel_rfl) (some 37) rfl (.pointer (some ⟨g, 0, none⟩)) (by kernel_rfl) ?_
  simp only [Act.put, List.setIfInBounds_toArray, List.set_cons_succ, List.set_cons_zero]
  refine gw_val (by kernel_rfl) (some 38) rfl (.pointer (some ⟨g, 0, none⟩)) (by kernel_rfl) ?_
  simp only [Act.put, List.setIfInBounds_toArray, List.set_cons_succ, List.set_cons_zero]
  refine gw_val (by kernel_rfl) (some 39) rfl (.pointer (some ⟨g, 2, none⟩)) (by kernel_rfl) ?_
  simp only [Act.put, List.setIfInBounds_toArray, List.set_cons_succ, List.set_cons_zero]
  refine gw_load (by kernel_rfl) (some 40) rfl 52 (.tmp 39) rfl ⟨g, 2, none⟩ (.pointer (some ⟨d.gl, 0, none⟩)) (by kernel_rfl) (HG3.out.mem.ld2) ?_
  simp only [Act.put, List.setIfInBounds_toArray, List.set_cons_succ, List.set_cons_zero]
  refine gw_val (by kernel_rfl) (some 41) rfl (.int .i64 s) (by kernel_rfl) ?_
  simp only [Act.put, List.setIfInBounds_toArray, List.set_cons_succ, List.set_cons_zero]
  refine gw_call (by kernel_rfl) (some 42) rfl 28 #[.pointer (some ⟨d.gl, 0, none⟩), .int .i64 s] (.bool (removeM m s).2) (Upd RepP d.gl Bd Sl (removeM m s).1 W3) (by kernel_rfl) CL (fun W4 hW4 => ?_)
  simp only [Act.put, List.setIfInBounds_toArray, List.set_cons_succ, List.set_cons_zero]
  apply wpList_nil
  obtain ⟨Sl1, hG4⟩ := Gt.list HG3.out.mem hW4
  have HG4 := Lib.hid (HG3.out.trans hG4)
  have HX4 : Hid (Bx W4 g0 (w8s x) 34) := Lib.hid (HX3.out.buts hG4.but HN3.out)
  clear hW4 hG4 CL HLR HG3 HX3
  generalize (removeM m s).2 = rr at *
  go_upto_region 7 with fail
  refine wp_region_class_tail (C := fun U => Below W4.heap.size W4 U ∧ Bx U g0 (w8s x) 34) 5 (by kernel_rfl) (by kernel_rfl) (⟨(Below.refl _ W4).drew, HX4.out⟩) ?_
  simp only [List.take_succ_cons, List.take_zero, List.drop_succ_cons, List.drop_zero]
  refine gq_val (by kernel_rfl) (some 43) rfl (.pointer (some ⟨g, 0, none⟩)) (fun U hU => by kernel_rfl) ?_
  simp only [Act.put, List.setIfInBounds_toArray, List.set_cons_succ, List.set_cons_zero]
  refine gq_val (by kernel_rfl) (some 44) rfl (.pointer (some ⟨g, 0, none⟩)) (fun U hU => by kernel_rfl) ?_
  simp only [Act.put, List.setIfInBounds_toArray, List.set_cons_succ, List.set_cons_zero]
  refine gq_val (by kernel_rfl) (some 45) rfl (.pointer (some ⟨g, 1, none⟩)) (fun U hU => by kernel_rfl) ?_
  simp only [Act.put, List.setIfInBounds_toArray, List.set_cons_succ, List.set_cons_zero]
  refine gq_load (by kernel_rfl) (some 46) rfl 51 (.tmp 45) rfl ⟨g, 1, none⟩ (.map (some d.B)) (by kernel_rfl) (fun U hU => (HG4.out.mem.below hU.1).ld1) ?_
  simp only [Act.put, List.setIfInBounds_toArray, List.set_cons_succ, List.set_cons_zero]
  refine gq_load (by kernel_rfl) (some 47) rfl 34 (.tmp 3) rfl ⟨g0, 0, none⟩ (.agg (w8s x)) (by kernel_rfl) (fun U hU => load_key hU.2 hx) ?_
  simp only [Act.put, List.setIfInBounds_toArray, List.set_cons_succ, List.set_cons_zero]
  apply wpQuiet_nil
  intro V5 hV5
  have HM5 := Lib.hid (HG4.out.mem.below hV5.1)
  obtain ⟨V6, hrun, hmk, hsz, hgr⟩ := HDL.out V5 HM5.out.mp _
  refine gw_new (by kernel_rfl) none rfl (.tuple #[]) V6 (ex_del (.tmp 46) (.tmp 47) 51 34 rfl (.map (some d.B)) (.agg (w8s x)) (.tuple #[]) (by kernel_rfl) (by kernel_rfl) hrun) ?_
  simp only [Act.put]
  apply wpList_nil
  have HE : Hid (Out Bd g z d Sl w (dropM Ks x).1 V6) := Lib.hid ⟨_, _, _, _, (HG4.out.trans (Gt.below HG4.out.mem hV5.1 (HG4.out.size HBW.out))).trans (Gt.map HM5.out HdB.out hmk hgr), HRM.out a c⟩
  clear hV5 hrun hmk hsz hgr HM5 HG4 HX4 HDL
  go_upto_region 8 with fail
  apply wp_region_lit
  refine gw_val (by kernel_rfl) (some 4) rfl (.bool true) (by kernel_rfl) ?_
  simp only [Act.put, List.setIfInBounds_toArray, List.set_cons_succ, List.set_cons_zero]
  apply wpList_nil
  go_wp2_with fail
  go_ret
  exact ⟨rfl, HE.out⟩
theorem q_remove {Bd g z : Nat} {d : Cd} {Sl : Nat → Prop} {Ks : List (List Int)} {L : List (List Int × Int)} {m : LM} {w : World} (h : Mem w g z d L m Sl) (hi : Inv z d Ks L m) (hB : ∀ k, Sc g d Sl k → Bd ≤ k) (hw : Bd ≤ w.heap.size) (hc : Wc z Ks) {x : List Int} (hx : x.length = 32) : Calls Try.prog 14 #[.pointer (some ⟨g, 0, none⟩), .agg (w8s x)] w fun e w' => e = .returned (.bool (dropM Ks x).2) ∧ Out Bd g z d Sl w (dropM Ks x).1 w' := by
  rcases hi.ct.look hc.nd x with ⟨h1, -, h2⟩ | ⟨i, j, h1, h2, -, h3, h4, -, h5, h6⟩
  · exact q_remove0 h hi hB hw hc hx h1 h2
  · exact q_remove1 h hi hB hw hc hx h1 h2 h3 h4 h5 h6
end Go.Proofs.Ytjblfpifhbmfoaa
