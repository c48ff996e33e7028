/-
  The program's heap: Pop.
-/
import Derived.Test.YtepdibnbnhkpnaaHS
namespace Go.Proofs.Ytepdibnbnhkpnaa
open Go.RowKit
set_option linter.unusedSimpArgs false
set_option linter.unusedVariables false

theorem Ou9.len {Bd g : Nat} {d : Hd} {w V : World} {M : List It} (h : Ou9 Bd g d w M V) : w.heap.size ≤ V.heap.size := by
  obtain ⟨d', f', hG, -⟩ := h
  exact hG.but.1.size
theorem Ou9.keep {Bd g : Nat} {d : Hd} {w V : World} {M : List It} (h : Ou9 Bd g d w M V) {k t : Nat} {cs : Array Value} (hX : Bx w k cs t) (hn : ¬ Sh g d k) : Bx V k cs t := by
  obtain ⟨d', f', hG, -⟩ := h
  exact hX.buts hG.but hn
theorem Ou9.from {Bd g : Nat} {d : Hd} {f : Int → Option Int} {w W V : World} {M : List It} (I : In9 Bd g d f w) (hb : Below w.heap.size w W) (h : Ou9 Bd g d W M V) : Ou9 Bd g d w M V := by
  obtain ⟨d', f', hG, hr⟩ := h
  exact ⟨d', f', (Gh.below I.mem hb I.hw).trans hG, hr⟩
theorem Ou9.more {Bd g : Nat} {d : Hd} {w V V2 : World} {M : List It} (h : Ou9 Bd g d w M V) (hw : Bd ≤ w.heap.size) (hb : Below V.heap.size V V2) : Ou9 Bd g d w M V2 := by
  obtain ⟨d', f', hG, hr⟩ := h
  exact ⟨d', f', hG.trans (Gh.below hG.mem hb (hG.size hw)), hr⟩
/-- A block made before the call, not the heap's, is written behind it. -/
theorem Ou9.res {Bd g : Nat} {d : Hd} {f : Int → Option Int} {w V2 V3 : World} {M : List It} (I : In9 Bd g d f w) (hb : Below w.heap.size w V2) (h : Ou9 Bd g d V2 M V3) {k : Nat} (hk : w.heap.size ≤ k) (hk2 : k < V2.heap.size) (cs : Array Value) : Ou9 Bd g d w M (V3.setRow k cs) := by
  obtain ⟨d', f', hG, h1, h2, h3⟩ := h
  have hn2 : ¬ Sh g d' k := fun h => (hG.sub k h).elim (Gh.notin I.mem hk) (by omega)
  have hG2 := (Gh.below I.mem hb I.hw).trans hG
  have hset : ∀ j, j ≠ k → (V3.setRow k cs).heap[j]? = V3.heap[j]? := fun j hj => setRow_other V3 k j cs hj
  have hw := I.hw
  refine ⟨d', f', ⟨hG2.mem.same fun i j hj => hset j fun e => hn2 ⟨i, by rw [← e]; exact hj⟩, hG2.sub, ⟨belowRow hG2.but.1 (Nat.le_trans hw hk) cs, fun j hj hnj => ?_⟩⟩, h1, h2, h3⟩
  rw [hset j (by omega)]
  exact hG2.but.2 j hj hnj
theorem In9.below {Bd g : Nat} {d : Hd} {f : Int → Option Int} {w W : World} (I : In9 Bd g d f w) (hb : Below w.heap.size w W) : In9 Bd g d f W := ⟨I.mem.below hb, I.px, I.ho, I.hB, Nat.le_trans I.hw hb.size, I.ids, I.len⟩
set_option maxRecDepth 100000 in
set_option maxHeartbeats 4000000 in
theorem n_pop (w : World) : Calls Try.prog 17 #[.pointer none] w fun e w' => e = .returned (.tuple #[.agg (itA zIt), .bool false]) ∧ Gd w w' := by
  obtain ⟨hb, hX⟩ := box_z w
  have HPK := Lib.hid (n_peek (w.alloc (.cells (itA zIt) 24)))
  go_enter Try.func17, Try.ntmps17
  go_upto_region 1 with fail
  change Code.wp _ _ _ _ (w.alloc (.cells (itA zIt) 24))
  generalize w.alloc (.cells (itA zIt) 24) = W at *
  obtain ⟨g0, hg0⟩ : ∃ g0, w.heap.size = g0 := ⟨_, rfl⟩
  rw [hg0] at hX ⊢
  have HG0 := Lib.hid hg0
  have HB := Lib.hid hb
  clear hg0 hb
  apply wp_region_lit
  refine gw_val (by kernel_rfl) (some 7) rfl (.pointer none) (by kernel_rfl) ?_
  simp only [Act.put, List.setIfInBounds_toArray, List.set_cons_succ, List.set_cons_zero]
  refine gw_call (by kernel_rfl) (some 8) rfl 20 #[.pointer none] (.tuple #[.agg (itA zIt), .bool false]) (fun w9 => Gd W w9) (by kernel_rfl) HPK.out (fun V hV => ?_)
  simp only [Act.put, List.setIfInBounds_toArray, List.set_cons_succ, List.set_cons_zero]
  obtain ⟨V2, hst, hgd, hbx⟩ := new_box V zIt
  have HX0 := Lib.hid (hX.below hX.lt (hV.trans hgd).1)
  have HGV := Lib.hid (hV.trans hgd)
  have HBX := Lib.hid hbx
  have HLT : Hid (W.heap.size ≤ V.heap.size ∧ V.heap.size < V2.heap.size) := Lib.hid ⟨hV.1.size, hbx.lt⟩
  clear hX hV hgd hbx HPK
  refine gw_val (by kernel_rfl) (some 6) rfl (.tuple #[.agg (itA zIt), .bool false]) (by kernel_rfl) ?_
  simp only [Act.put, List.setIfInBounds_toArray, List.set_cons_succ, List.set_cons_zero]
  refine gw_val (by kernel_rfl) (some 9) rfl (.agg (itA zIt)) (by kernel_rfl) ?_
  simp only [Act.put, List.setIfInBounds_toArray, List.set_cons_succ, List.set_cons_zero]
  refine gw_val (by kernel_rfl) (some 10) rfl (.bool false) (by kernel_rfl) ?_
  simp only [Act.put, List.setIfInBounds_toArray, List.set_cons_succ, List.set_cons_zero]
  refine run_to rfl (some 4) rfl (.pointer (some ⟨V.heap.size, 0, none⟩)) (V.alloc (.cells (itA zIt) 24)) (by kernel_rfl) ?_
  simp only [Act.put, List.setIfInBounds_toArray, List.set_cons_succ, List.set_cons_zero]
  refine gw_store (by kernel_rfl) rfl 24 (.tmp 4) (.tmp 9) rfl (.pointer (some ⟨V.heap.size, 0, none⟩)) (.agg (itA zIt)) (by kernel_rfl) (by kernel_rfl) V2 hst ?_
  refine gw_val (by kernel_rfl) (some 5) rfl (.bool false) (by kernel_rfl) ?_
  simp only [Act.put, List.setIfInBounds_toArray, List.set_cons_succ, List.set_cons_zero]
  apply wpList_nil
  obtain ⟨g1, hg1⟩ : ∃ g1, V.heap.size = g1 := ⟨_, rfl⟩
  rw [hg1] at HBX HLT ⊢
  clear hst hg1
  go_upto_region 2 with fail
  apply wp_region_lit
  refine gw_val (by kernel_rfl) (some 11) rfl (.bool false) (by kernel_rfl) ?_
  simp only [Act.put, List.setIfInBounds_toArray, List.set_cons_succ, List.set_cons_zero]
  apply wpList_nil
  go_upto_region 4 with fail
  obtain ⟨hs, hX2⟩ := store_box (y := zIt) HX0.out
  have HE := Lib.hid ((HB.out.trans HGV.out).set (Nat.le_of_eq HG0.out) (itA zIt))
  have HX2 := Lib.hid hX2
  clear hX2
  apply wp_region_lit
  refine gw_load (by kernel_rfl) (some 16) rfl 24 (.tmp 4) rfl ⟨g1, 0, none⟩ (.agg (itA zIt)) (by kernel_rfl) (load_box HBX.out) ?_
  simp only [Act.put, List.setIfInBounds_toArray, List.set_cons_succ, List.set_cons_zero]
  refine gw_val (by kernel_rfl) (some 17) rfl (.bool false) (by kernel_rfl) ?_
  simp only [Act.put, List.setIfInBounds_toArray, List.set_cons_succ, List.set_cons_zero]
  refine gw_store (by kernel_rfl) rfl 24 (.tmp 2) (.tmp 16) rfl (.pointer (some ⟨g0, 0, none⟩)) (.agg (itA zIt)) (by kernel_rfl) (by kernel_rfl) (V2.setRow g0 (itA zIt)) (hs) ?_
  refine gw_val (by kernel_rfl) (some 3) rfl (.bool false) (by kernel_rfl) ?_
  simp only [Act.put, List.setIfInBounds_toArray, List.set_cons_succ, List.set_cons_zero]
  apply wpList_nil
  generalize V2.setRow g0 (itA zIt) = V3 at *
  clear hs HB HGV HX0 HBX
  go_wp2_with fail
  exact bodyPost_ret (results_ib (p := 2) (q := 3) rfl (by kernel_rfl) (load_box HX2.out) rfl) rfl ⟨rfl, HE.out⟩
set_option maxRecDepth 100000 in
set_option maxHeartbeats 4000000 in
theorem q_pop0 {Bd g : Nat} {d : Hd} {f : Int → Option Int} {w : World} (I : In9 Bd g d f w) (h0 : d.A.length = 0) : Calls Try.prog 17 #[.pointer (some ⟨g, 0, none⟩)] w fun e w' => e = .returned (.tuple #[.agg (itA zIt), .bool false]) ∧ Ou9 Bd g d w [] w' := by
  obtain ⟨hb, hX⟩ := box_z w
  have HPK := Lib.hid (q_peek0 (I.mem.below hb.1) h0)
  have HO := Lib.hid (fun V (hV : Below w.heap.size w V) => I.ou (M := []) (by rw [List.eq_nil_of_length_eq_zero h0]) hV)
  clear I h0
  go_enter Try.func17, Try.ntmps17
  go_upto_region 1 with fail
  change Code.wp _ _ _ _ (w.alloc (.cells (itA zIt) 24))
  generalize w.alloc (.cells (itA zIt) 24) = W at *
  obtain ⟨g0, hg0⟩ : ∃ g0, w.heap.size = g0 := ⟨_, rfl⟩
  rw [hg0] at hX ⊢
  have HG0 := Lib.hid hg0
  have HB := Lib.hid hb
  clear hg0 hb
  apply wp_region_lit
  refine gw_val (by kernel_rfl) (some 7) rfl (.pointer (some ⟨g, 0, none⟩)) (by kernel_rfl) ?_
  simp only [Act.put, List.setIfInBounds_toArray, List.set_cons_succ, List.set_cons_zero]
  refine gw_call (by kernel_rfl) (some 8) rfl 20 #[.pointer (some ⟨g, 0, none⟩)] (.tuple #[.agg (itA zIt), .bool false]) (fun w9 => Gd W w9) (by kernel_rfl) HPK.out (fun V hV => ?_)
  simp only [Act.put, List.setIfInBounds_toArray, List.set_cons_succ, List.set_cons_zero]
  obtain ⟨V2, hst, hgd, hbx⟩ := new_box V zIt
  have HX0 := Lib.hid (hX.below hX.lt (hV.trans hgd).1)
  have HGV := Lib.hid (hV.trans hgd)
  have HBX := Lib.hid hbx
  have HLT : Hid (W.heap.size ≤ V.heap.size ∧ V.heap.size < V2.heap.size) := Lib.hid ⟨hV.1.size, hbx.lt⟩
  clear hX hV hgd hbx HPK
  refine gw_val (by kernel_rfl) (some 6) rfl (.tuple #[.agg (itA zIt), .bool false]) (by kernel_rfl) ?_
  simp only [Act.put, List.setIfInBounds_toArray, List.set_cons_succ, List.set_cons_zero]
  refine gw_val (by kernel_rfl) (some 9) rfl (.agg (itA zIt)) (by kernel_rfl) ?_
  simp only [Act.put, List.setIfInBounds_toArray, List.set_cons_succ, List.set_cons_zero]
  refine gw_val (by kernel_rfl) (some 10) rfl (.bool false) (by kernel_rfl) ?_
  simp only [Act.put, List.setIfInBounds_toArray, List.set_cons_succ, List.set_cons_zero]
  refine run_to rfl (some 4) rfl (.pointer (some ⟨V.heap.size, 0, none⟩)) (V.alloc (.cells (itA zIt) 24)) (by kernel_rfl) ?_
  simp only [Act.put, List.setIfInBounds_toArray, List.set_cons_succ, List.set_cons_zero]
  refine gw_store (by kernel_rfl) rfl 24 (.tmp 4) (.tmp 9) rfl (.pointer (some ⟨V.heap.size, 0, none⟩)) (.agg (itA zIt)) (by kernel_rfl) (by kernel_rfl) V2 hst ?_
  refine gw_val (by kernel_rfl) (some 5) rfl (.bool false) (by kernel_rfl) ?_
  simp only [Act.put, List.setIfInBounds_toArray, List.set_cons_succ, List.set_cons_zero]
  apply wpList_nil
  obtain ⟨g1, hg1⟩ : ∃ g1, V.heap.size = g1 := ⟨_, rfl⟩
  rw [hg1] at HBX HLT ⊢
  clear hst hg1
  go_upto_region 2 with fail
  apply wp_region_lit
  refine gw_val (by kernel_rfl) (some 11) rfl (.bool false) (by kernel_rfl) ?_
  simp only [Act.put, List.setIfInBounds_toArray, List.set_cons_succ, List.set_cons_zero]
  apply wpList_nil
  go_upto_region 4 with fail
  obtain ⟨hs, hX2⟩ := store_box (y := zIt) HX0.out
  have HE := Lib.hid ((HB.out.trans HGV.out).set (Nat.le_of_eq HG0.out) (itA zIt))
  have HX2 := Lib.hid hX2
  clear hX2
  apply wp_region_lit
  refine gw_load (by kernel_rfl) (some 16) rfl 24 (.tmp 4) rfl ⟨g1, 0, none⟩ (.agg (itA zIt)) (by kernel_rfl) (load_box HBX.out) ?_
  simp only [Act.put, List.setIfInBounds_toArray, List.set_cons_succ, List.set_cons_zero]
  refine gw_val (by kernel_rfl) (some 17) rfl (.bool false) (by kernel_rfl) ?_
  simp only [Act.put, List.setIfInBounds_toArray, List.set_cons_succ, List.set_cons_zero]
  refine gw_store (by kernel_rfl) rfl 24 (.tmp 2) (.tmp 16) rfl (.pointer (some ⟨g0, 0, none⟩)) (.agg (itA zIt)) (by kernel_rfl) (by kernel_rfl) (V2.setRow g0 (itA zIt)) (hs) ?_
  refine gw_val (by kernel_rfl) (some 3) rfl (.bool false) (by kernel_rfl) ?_
  simp only [Act.put, List.setIfInBounds_toArray, List.set_cons_succ, List.set_cons_zero]
  apply wpList_nil
  generalize V2.setRow g0 (itA zIt) = V3 at *
  clear hs HB HGV HX0 HBX
  go_wp2_with fail
  exact bodyPost_ret (results_ib (p := 2) (q := 3) rfl (by kernel_rfl) (load_box HX2.out) rfl) rfl ⟨rfl, HO.out _ HE.out.1⟩
set_option maxRecDepth 100000 in
set_option maxHeartbeats 4000000 in
theorem q_pop1 {Bd g : Nat} {d : Hd} {f : Int → Option Int} {w : World} (I : In9 Bd g d f w) {M : List It} (hp : d.A.Perm M) (hs : M.Pairwise fun a b => bf a b = true) (h0 : 0 < d.A.length) : Calls Try.prog 17 #[.pointer (some ⟨g, 0, none⟩)] w fun e w' => e = .returned (.tuple #[.agg (itA (ita M 0)), .bool true]) ∧ Ou9 Bd g d w M.tail w' := by
  obtain ⟨hb, hX⟩ := box_z w
  have HPK := Lib.hid (q_peek1 (I.mem.below hb.1) h0)
  have e0 : ita d.A 0 = ita M 0 := root_head hp I.ho hs
  rw [e0] at HPK
  have HRM := Lib.hid (fun V (hV : Below w.heap.size w V) => (by
    have := q_remove (I.below hV) (ita M 0).1 hp
    rw [tak_head (by rw [← hp.length_eq]; exact h0)] at this
    exact this : Calls Try.prog 19 #[.pointer (some ⟨g, 0, none⟩), .int .i64 (ita M 0).1] V fun e w' => e = .returned (.bool true) ∧ Ou9 Bd g d V M.tail w'))
  have HNI := Lib.hid (fun k (hk : w.heap.size ≤ k) => Gh.notin I.mem hk)
  have HRS := Lib.hid (fun V2 (hV : Below w.heap.size w V2) M V3 (h : Ou9 Bd g d V2 M V3) k (hk : w.heap.size ≤ k) (hk2 : k < V2.heap.size) cs => Ou9.res I hV h hk hk2 cs)
  generalize ita M 0 = x at *
  generalize M.tail = M2 at *
  clear I hp hs h0 e0
  go_enter Try.func17, Try.ntmps17
  go_upto_region 1 with fail
  change Code.wp _ _ _ _ (w.alloc (.cells (itA zIt) 24))
  generalize w.alloc (.cells (itA zIt) 24) = W at *
  obtain ⟨g0, hg0⟩ : ∃ g0, w.heap.size = g0 := ⟨_, rfl⟩
  rw [hg0] at hX ⊢
  have HG0 := Lib.hid hg0
  have HB := Lib.hid hb
  clear hg0 hb
  apply wp_region_lit
  refine gw_val (by kernel_rfl) (some 7) rfl (.pointer (some ⟨g, 0, none⟩)) (by kernel_rfl) ?_
  simp only [Act.put, List.setIfInBounds_toArray, List.set_cons_succ, List.set_cons_zero]
  refine gw_call (by kernel_rfl) (some 8) rfl 20 #[.pointer (some ⟨g, 0, none⟩)] (.tuple #[.agg (itA x), .bool true]) (fun w9 => Gd W w9) (by kernel_rfl) HPK.out (fun V hV => ?_)
  simp only [Act.put, List.setIfInBounds_toArray, List.set_cons_succ, List.set_cons_zero]
  obtain ⟨V2, hst, hgd, hbx⟩ := new_box V x
  have HX0 := Lib.hid (hX.below hX.lt (hV.trans hgd).1)
  have HGV := Lib.hid (hV.trans hgd)
  have HBX := Lib.hid hbx
  have HLT : Hid (W.heap.size ≤ V.heap.size ∧ V.heap.size < V2.heap.size) := Lib.hid ⟨hV.1.size, hbx.lt⟩
  clear hX hV hgd hbx HPK
  refine gw_val (by kernel_rfl) (some 6) rfl (.tuple #[.agg (itA x), .bool true]) (by kernel_rfl) ?_
  simp only [Act.put, List.setIfInBounds_toArray, List.set_cons_succ, List.set_cons_zero]
  refine gw_val (by kernel_rfl) (some 9) rfl (.agg (itA x)) (by kernel_rfl) ?_
  simp only [Act.put, List.setIfInBounds_toArray, List.set_cons_succ, List.set_cons_zero]
  refine gw_val (by kernel_rfl) (some 10) rfl (.bool true) (by kernel_rfl) ?_
  simp only [Act.put, List.setIfInBounds_toArray, List.set_cons_succ, List.set_cons_zero]
  refine run_to rfl (some 4) rfl (.pointer (some ⟨V.heap.size, 0, none⟩)) (V.alloc (.cells (itA zIt) 24)) (by kernel_rfl) ?_
  simp only [Act.put, List.setIfInBounds_toArray, List.set_cons_succ, List.set_cons_zero]
  refine gw_store (by kernel_rfl) rfl 24 (.tmp 4) (.tmp 9) rfl (.pointer (some ⟨V.heap.size, 0, none⟩)) (.agg (itA x)) (by kernel_rfl) (by kernel_rfl) V2 hst ?_
  refine gw_val (by kernel_rfl) (some 5) rfl (.bool true) (by kernel_rfl) ?_
  simp only [Act.put, List.setIfInBounds_toArray, List.set_cons_succ, List.set_cons_zero]
  apply wpList_nil
  obtain ⟨g1, hg1⟩ : ∃ g1, V.heap.size = g1 := ⟨_, rfl⟩
  rw [hg1] at HBX HLT ⊢
  clear hst hg1
  go_upto_region 2 with fail
  apply wp_region_lit
  refine gw_val (by kernel_rfl) (some 11) rfl (.bool true) (by kernel_rfl) ?_
  simp only [Act.put, List.setIfInBounds_toArray, List.set_cons_succ, List.set_cons_zero]
  apply wpList_nil
  have HB2 := Lib.hid (HB.out.trans HGV.out)
  have HRV := Lib.hid (HRM.out V2 HB2.out.1)
  have HLT0 := Lib.hid HX0.out.lt
  clear HRM
  go_upto_region 3 with fail
  apply wp_region_lit
  refine gw_val (by kernel_rfl) (some 12) rfl (.pointer (some ⟨g, 0, none⟩)) (by kernel_rfl) ?_
  simp only [Act.put, List.setIfInBounds_toArray, List.set_cons_succ, List.set_cons_zero]
  refine gw_val (by kernel_rfl) (some 13) rfl (.pointer (some ⟨g1, 0, none⟩)) (by kernel_rfl) ?_
  simp only [Act.put, List.setIfInBounds_toArray, List.set_cons_succ, List.set_cons_zero]
  refine gw_load (by kernel_rfl) (some 14) rfl 3 (.tmp 13) rfl ⟨g1, 0, none⟩ (.int .i64 x.1) (by kernel_rfl) (ld_f0 HBX.out) ?_
  simp only [Act.put, List.setIfInBounds_toArray, List.set_cons_succ, List.set_cons_zero]
  refine gw_call (by kernel_rfl) (some 15) rfl 19 #[.pointer (some ⟨g, 0, none⟩), .int .i64 x.1] (.bool true) (fun w9 => Ou9 Bd g d V2 M2 w9) (by kernel_rfl) HRV.out (fun V3 hV3 => ?_)
  simp only [Act.put, List.setIfInBounds_toArray, List.set_cons_succ, List.set_cons_zero]
  apply wpList_nil
  have HX3 := Lib.hid (hV3.keep HX0.out (HNI.out g0 (Nat.le_of_eq HG0.out)))
  have HY3 := Lib.hid (hV3.keep HBX.out (HNI.out g1 (by have := HB.out.1.size; have := HLT.out.1; omega)))
  have HE : Hid (Ou9 Bd g d w M2 (V3.setRow g0 (itA x))) := Lib.hid (HRS.out V2 HB2.out.1 M2 V3 hV3 g0 (Nat.le_of_eq HG0.out) HLT0.out (itA x))
  clear hV3 HRV HX0 HBX HRS
  go_upto_region 4 with fail
  obtain ⟨hs, hX2⟩ := store_box (y := x) HX3.out
  have HX2 := Lib.hid hX2
  clear hX2
  apply wp_region_lit
  refine gw_load (by kernel_rfl) (some 16) rfl 24 (.tmp 4) rfl ⟨g1, 0, none⟩ (.agg (itA x)) (by kernel_rfl) (load_box HY3.out) ?_
  simp only [Act.put, List.setIfInBounds_toArray, List.set_cons_succ, List.set_cons_zero]
  refine gw_val (by kernel_rfl) (some 17) rfl (.bool true) (by kernel_rfl) ?_
  simp only [Act.put, List.setIfInBounds_toArray, List.set_cons_succ, List.set_cons_zero]
  refine gw_store (by kernel_rfl) rfl 24 (.tmp 2) (.tmp 16) rfl (.pointer (some ⟨g0, 0, none⟩)) (.agg (itA x)) (by kernel_rfl) (by kernel_rfl) (V3.setRow g0 (itA x)) (hs) ?_
  refine gw_val (by kernel_rfl) (some 3) rfl (.bool true) (by kernel_rfl) ?_
  simp only [Act.put, List.setIfInBounds_toArray, List.set_cons_succ, List.set_cons_zero]
  apply wpList_nil
  generalize V3.setRow g0 (itA x) = V4 at *
  clear hs HB HGV HX3 HY3
  go_wp2_with fail
  exact bodyPost_ret (results_ib (p := 2) (q := 3) rfl (by kernel_rfl) (load_box HX2.out) rfl) rfl ⟨rfl, HE.out⟩
end Go.Proofs.Ytepdibnbnhkpnaa
