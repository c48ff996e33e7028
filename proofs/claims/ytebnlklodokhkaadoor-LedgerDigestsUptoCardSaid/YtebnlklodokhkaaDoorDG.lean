/-
  The digest of a ledger, the program's and the reference's: the walks.
-/
import Derived.Test.YtebnlklodokhkaaDoorDD
namespace Go.Proofs.YtebnlklodokhkaaDoor.Lg
open Go.RowKit
set_option linter.unusedSimpArgs false
set_option linter.unusedVariables false

theorem encI_ok {num kind val : Int} {B : List Int} (h0 : 0 ≤ 8 * num + kind) (h1 : 8 * num + kind ≤ 1000) (hv : W64 val) (hb : ∀ x, x ∈ B → W8 x) (hl : B.length ≤ 1000000) : (∀ x, x ∈ encI num kind val B → W8 x) ∧ (encI num kind val B).length ≤ 20 + B.length := by
  have hs := sec_b kind val B.length hv hl
  refine ⟨fun x hx => ?_, ?_⟩
  · unfold encI at hx
    rcases List.mem_append.1 hx with h | h
    · exact Enc_bytes _ h0 (by omega) x h
    · rcases List.mem_append.1 h with h | h
      · exact Enc_bytes _ hs.1 hs.2 x h
      · exact hb x h
  · unfold encI
    have e1 := (Enc_len (8 * num + kind)).2
    have e2 := (Enc_len (secI kind val B.length)).2
    rw [List.length_append, List.length_append]
    omega
theorem leaf_ok {x : Ac} (hw : W64 x.2.1 ∧ W64 x.2.2) (hz : x.1.size ≤ 200000) : (∀ y, y ∈ msg (leafF x) → W8 y) ∧ (msg (leafF x)).length ≤ 300000 := by
  have e : msg (leafF x) = encI 1 2 0 (nums x.1) ++ (encI 2 0 x.2.1 [] ++ (encI 3 0 x.2.2 [] ++ [])) := rfl
  have hn := nums_len x.1
  obtain ⟨a1, a2⟩ := encI_ok (num := 1) (kind := 2) (val := 0) (B := nums x.1) (by decide) (by decide) w64_0 (nums_byte x.1) (by omega)
  obtain ⟨b1, b2⟩ := encI_ok (num := 2) (kind := 0) (val := x.2.1) (B := []) (by decide) (by decide) hw.1 (fun _ h => by cases h) (by simp)
  obtain ⟨c1, c2⟩ := encI_ok (num := 3) (kind := 0) (val := x.2.2) (B := []) (by decide) (by decide) hw.2 (fun _ h => by cases h) (by simp)
  rw [e]
  refine ⟨fun y hy => ?_, ?_⟩
  · rcases List.mem_append.1 hy with h | h
    · exact a1 y h
    · rcases List.mem_append.1 h with h | h
      · exact b1 y h
      · rcases List.mem_append.1 h with h | h
        · exact c1 y h
        · cases h
  · simp only [List.length_append, List.length_nil] at *
    omega
theorem last_ok {c : Int} (hc : W64 c) : (∀ y, y ∈ msg (lastF c) → W8 y) ∧ (msg (lastF c)).length ≤ 300000 := by
  have e : msg (lastF c) = encI 4 0 c [] ++ [] := rfl
  obtain ⟨b1, b2⟩ := encI_ok (num := 4) (kind := 0) (val := c) (B := []) (by decide) (by decide) hc (fun _ h => by cases h) (by simp)
  rw [e, List.append_nil]
  exact ⟨b1, by simp only [List.length_nil] at b2; omega⟩
theorem leaf_valid {x : Ac} {g cp : Nat} (hw : W64 x.2.1 ∧ W64 x.2.2) : ∀ p, p ∈ ([((⟨1, 2, 0, nums x.1⟩ : Fld), some ⟨g, 0, none⟩, cp), (⟨2, 0, x.2.1, []⟩, none, 0), (⟨3, 0, x.2.2, []⟩, none, 0)] : List Fp) → Vfi p.1.num p.1.kind p.1.val p.1.bytes.length ∧ W64 p.1.val := fun p hp => by
  simp only [List.mem_cons, List.not_mem_nil, or_false] at hp
  rcases hp with rfl | rfl | rfl
  · exact ⟨⟨(by decide : (1 : Int) ≤ 1), (by decide : (1 : Int) ≤ 536870911), .inr ⟨rfl, rfl⟩⟩, w64_0⟩
  · exact ⟨⟨(by decide : (1 : Int) ≤ 2), (by decide : (2 : Int) ≤ 536870911), .inl ⟨rfl, rfl⟩⟩, hw.1⟩
  · exact ⟨⟨(by decide : (1 : Int) ≤ 3), (by decide : (3 : Int) ≤ 536870911), .inl ⟨rfl, rfl⟩⟩, hw.2⟩
theorem last_valid {c : Int} (hc : W64 c) : ∀ p, p ∈ ([((⟨4, 0, c, []⟩ : Fld), none, 0)] : List Fp) → Vfi p.1.num p.1.kind p.1.val p.1.bytes.length ∧ W64 p.1.val := fun p hp => by
  simp only [List.mem_cons, List.not_mem_nil, or_false] at hp
  subst hp
  exact ⟨⟨(by decide : (1 : Int) ≤ 4), (by decide : (4 : Int) ≤ 536870911), .inl ⟨rfl, rfl⟩⟩, hc⟩
theorem own_far {w V : World} {B g : Nat} {v u : Value} {n : Nat} {xs : List Value} {L : List Int} {e s : Nat} (hv : w.ownsRow B e s v n xs) (hO : Own V g u L) (hg : w.heap.size ≤ g) (hs : V.heap.size ≤ V.heap.size) : ∀ x : Addr, (∃ n2 c2, u = .slice (some x) n2 c2) → v.ownBlock ≠ some x.block ∧ x.block < V.heap.size := fun x hx => by
  obtain ⟨n2, c2, rfl⟩ := hx
  obtain ⟨h1, h2⟩ := World.ownsRow.lt hO x.block rfl
  exact ⟨fun e2 => by have := (World.ownsRow.lt hv _ e2).2; omega, h2⟩
set_option maxRecDepth 100000 in
set_option maxHeartbeats 8000000 in
theorem q_digest (la : Option Addr) (lk : Nat) (A : List Ac) (c : Int) (w : World) (hR : Cs w la (acc A)) (hn : A.length ≤ 900) (hw : AcW A) (hz : ∀ x, x ∈ A → x.1.size ≤ 200000) (hc : W64 c) (hG : Glob w) :
    Calls Tryd.prog 8 #[.agg (lgA la A.length lk c)] w fun e w' => e = .returned (.agg (w8s (rootL (leavesL A c)))) ∧ Below w.heap.size w w' := by
  obtain ⟨hb0, hX0, hY0⟩ := two_boxes w (lgA la A.length lk c) (w8s (List.replicate 32 0)) 25 32
  have HA := Lib.hid (hR.below hb0)
  have HG := Lib.hid hG
  have HAL := Lib.hid hn
  have HAW := Lib.hid (acw_mem hw)
  have HAZ := Lib.hid hz
  have HCW := Lib.hid hc
  obtain ⟨S, hS⟩ : ∃ S, rootL (leavesL A c) = S := ⟨_, rfl⟩
  have hS32 : S.length = 32 := by rw [← hS]; exact (root_byte _).1
  have HS := Lib.hid hS
  have HS32 : Hid ((w8s S).size = 32) := Lib.hid (by rw [size_w8s]; exact hS32)
  rw [hS]
  clear hR hn hw hz hc hG hS hS32
  go_enter Tryd.func8, Tryd.ntmps8
  go_upto_region 1 with fail
  change Code.wp _ _ _ _ ((w.alloc (.cells (lgA la A.length lk c) 25)).alloc (.cells (w8s (List.replicate 32 0)) 32))
  generalize (w.alloc (.cells (lgA la A.length lk c) 25)).alloc (.cells (w8s (List.replicate 32 0)) 32) = W at *
  obtain ⟨g1, hg1⟩ : ∃ g, w.heap.size = g := ⟨_, rfl⟩
  obtain ⟨g2, hg2⟩ : ∃ g, g1 + 1 = g := ⟨_, rfl⟩
  have HB0 := Lib.hid hb0
  have HGE : Hid (w.heap.size ≤ g2) := Lib.hid (by omega)
  rw [hg1] at hX0 hY0
  simp only [hg1]
  rw [hg2] at hY0
  simp only [hg2]
  have HX := Lib.hid hX0
  have HY := Lib.hid hY0
  clear hb0 hX0 hY0 hg1 hg2
  apply wp_region_lit
  refine gw_val (by kernel_rfl) (some 3) rfl (.slice none 0 0) (by kernel_rfl) ?_
  simp only [pu1, pu2, pu3, pu4]
  apply wpList_nil
  go_upto_region 2 with fail
  apply wp_region_lit
  refine gw_val (by kernel_rfl) (some 7) rfl (.pointer (some ⟨g1, 0, none⟩)) (by kernel_rfl) ?_
  simp only [pu1, pu2, pu3, pu4]
  refine gw_load (by kernel_rfl) (some 8) rfl 22 (.tmp 7) rfl ⟨g1, 0, none⟩ (.slice la A.length lk) (by kernel_rfl) (HX.out.load (i := 0) rfl (by kernel_rfl)) ?_
  simp only [pu1, pu2, pu3, pu4]
  refine gw_val (by kernel_rfl) (some 9) rfl (.int .i64 A.length) (by kernel_rfl) ?_
  simp only [pu1, pu2, pu3, pu4]
  refine gw_val (by kernel_rfl) (some 10) rfl (.int .i64 0) (by kernel_rfl) ?_
  simp only [pu1, pu2, pu3, pu4]
  apply wpList_nil
  go_wp2_with fail
  go_loopg [3, 10] A.length (fun gg s3 sc wx => ∃ (j : Nat) (v3 : Value) (Q : List Lq), s3 = v3 ∧ sc = .int .i64 j ∧ j ≤ A.length ∧ Hid (Q.map (fun q => q.2.2) = (A.take j).map fun x => msg (leafF x)) ∧ Hid (LvQ wx W.heap.size v3 Q) ∧ Hid (Below W.heap.size W wx) ∧ A.length - j = gg)
  case atStart => exact ⟨0, _, [], rfl, rfl, by omega, Lib.hid rfl, Lib.hid (LvQ.nil _ _), Lib.hid (Below.refl _ _), by omega⟩
  case round =>
    obtain ⟨j, v3, Q, rfl, rfl, hj, HQ, HV, HB, hg⟩ := hrel
    have HGM := Lib.hid hg
    clear hg
    by_cases hlt : j < A.length
    · skip
      obtain ⟨b, off, rfl, -, hrx⟩ := ac_range (HA.out.below HB.out) (k := j) hlt
      have HLD := Lib.hid (load_ac hrx)
      have hxw := HAW.out _ (aca_mem hlt)
      have hxz := HAZ.out _ (aca_mem hlt)
      have htk : (A.take (j + 1)).map (fun x => msg (leafF x)) = (A.take j).map (fun x => msg (leafF x)) ++ [msg (leafF (aca A j))] := by
        rw [List.take_succ_eq_append_getElem hlt, List.map_append, ← aca_get hlt]
        rfl
      have hql : Q.length = j := by
        have := congrArg List.length HQ.out
        rw [List.length_map, List.length_map, List.length_take] at this
        omega
      rw [← HQ.out] at htk
      generalize aca A j = x at *
      obtain ⟨V5, hst5, hb5, hbx5⟩ := new_ac wr x
      obtain ⟨cap, hcap⟩ : ∃ cap, grownCap V5 x.1.size 0 5 = cap := ⟨_, rfl⟩
      have hcv : ∀ (ρ : Operand → Value) (o : Oper) (x9 : Operand), o.op = .convert 9 53 x9 → ρ x9 = .string x.1 → (execOp ρ o).run Tryd.prog V5 = .ok (.value (.slice (some ⟨V5.heap.size, 0, none⟩) (nums x.1).length cap)) (Lib.bytesWorld V5 5 x.1) := fun ρ o x9 ho hx => by rw [nums_len, ← hcap]; exact conv_s ho x.1 hx V5
      obtain ⟨hb6, hs6, -⟩ := conv_world V5 x.1 cap
      generalize Lib.bytesWorld V5 5 x.1 = V6 at *
      have hbu := build_f3 ⟨1, 2, 0, nums x.1⟩ ⟨2, 0, x.2.1, []⟩ ⟨3, 0, x.2.2, []⟩ (some ⟨V5.heap.size, 0, none⟩) none none cap 0 0 V6
      have hb7 : Below V6.heap.size V6 (V6.alloc (.cells (fdA ⟨1, 2, 0, nums x.1⟩ (some ⟨V5.heap.size, 0, none⟩) cap ++ fdA ⟨2, 0, x.2.1, []⟩ none 0 ++ fdA ⟨3, 0, x.2.2, []⟩ none 0) 56)) := (Below.refl _ V6).alloc (Nat.le_refl _) _
      have hx7 : Bx (V6.alloc (.cells (fdA ⟨1, 2, 0, nums x.1⟩ (some ⟨V5.heap.size, 0, none⟩) cap ++ fdA ⟨2, 0, x.2.1, []⟩ none 0 ++ fdA ⟨3, 0, x.2.2, []⟩ none 0) 56)) V6.heap.size (fdA ⟨1, 2, 0, nums x.1⟩ (some ⟨V5.heap.size, 0, none⟩) cap ++ fdA ⟨2, 0, x.2.1, []⟩ none 0 ++ fdA ⟨3, 0, x.2.2, []⟩ none 0) 56 := heap_alloc_last V6 _
      generalize V6.alloc (.cells (fdA ⟨1, 2, 0, nums x.1⟩ (some ⟨V5.heap.size, 0, none⟩) cap ++ fdA ⟨2, 0, x.2.1, []⟩ none 0 ++ fdA ⟨3, 0, x.2.2, []⟩ none 0) 56) = V7 at *
      have hfs := fsd_3 hx7 (sl_below hs6 hb7) (sl_none V7) (sl_none V7)
      obtain ⟨hl8, hll⟩ := leaf_ok hxw hxz
      have CM : Calls Tryd.prog 21 #[.slice (some ⟨V6.heap.size, 0, none⟩) 3 3] V7 fun e w' => ∃ v, e = .returned v ∧ Own w' V7.heap.size v (msg (leafF x)) ∧ Below V7.heap.size V7 w' := q_message V6.heap.size 3 [((⟨1, 2, 0, nums x.1⟩ : Fld), some ⟨V5.heap.size, 0, none⟩, cap), (⟨2, 0, x.2.1, []⟩, none, 0), (⟨3, 0, x.2.2, []⟩, none, 0)] V7 hfs (leaf_valid hxw) (Nat.le_trans hll (by decide)) (by simp)
      generalize msg (leafF x) = ML at *
      have hb57 := hb6.trans (hb7.mono hb6.size)
      have hbw7 := HB.out.trans ((hb5.trans (hb57.mono hb5.size)).mono HB.out.size)
      have hs57 : wr.heap.size ≤ V7.heap.size := by have := hb5.size; have := hb57.size; omega
      have HS57 := Lib.hid hs57
      have HB7 := Lib.hid hbw7
      have HV7 := Lib.hid (HV.out.below (hb5.trans (hb57.mono hb5.size)))
      have HTK := Lib.hid htk
      have HQJ := Lib.hid hql
      have HL8 := Lib.hid hl8
      have HLL := Lib.hid hll
      have HLT := Lib.hid hlt
      have HVR := Lib.hid HV.out.row
      obtain ⟨g17, hg17⟩ : ∃ g, V5.heap.size = g := ⟨_, rfl⟩
      obtain ⟨g25, hg25⟩ : ∃ g, V6.heap.size = g := ⟨_, rfl⟩
      rw [hg17] at hbu hcv
      rw [hg25] at hbu CM
      have HCV := Lib.hid hcv
      have HB56 := Lib.hid hb6
      clear hrx hxw hxz htk hql hlt hb5 hcap hb6 hs6 hb7 hx7 hfs hl8 hll hb57 hbw7 hs57 hg17 hg25 hcv HQ HV HB
      go_upto_region 3 with fail
      apply wp_region_lit
      refine gw_val (by kernel_rfl) (some 11) rfl (.bool true) (lss_n rfl (j) (A.length) (decide_eq_true (by have := HLT.out; omega)) (by kernel_rfl) (by kernel_rfl) _) ?_
      simp only [pu1, pu2, pu3, pu4]
      apply wpList_nil
      go_upto_region 4 with fail
      apply wp_region_lit
      refine gw_val (by kernel_rfl) (some 12) rfl (.pointer (some ⟨b, off + j * 3, none⟩)) (idx_ac b off A.length lk j HLT.out _ _ _ rfl (by kernel_rfl) (by kernel_rfl)) ?_
      simp only [pu1, pu2, pu3, pu4]
      refine gw_load (by kernel_rfl) (some 13) rfl 37 (.tmp 12) rfl ⟨b, off + j * 3, none⟩ (.agg (acA x)) (by kernel_rfl) (HLD.out) ?_
      simp only [pu1, pu2, pu3, pu4]
      refine run_to rfl (some 5) rfl (.pointer (some ⟨wr.heap.size, 0, none⟩)) (wr.alloc (.cells (acA zAc) 37)) (by kernel_rfl) ?_
      simp only [pu1, pu2, pu3, pu4]
      refine gw_store (by kernel_rfl) rfl 37 (.tmp 5) (.tmp 13) rfl (.pointer (some ⟨wr.heap.size, 0, none⟩)) (.agg (acA x)) (by kernel_rfl) (by kernel_rfl) (V5) (hst5) ?_
      apply wpList_nil
      obtain ⟨g5, hg5⟩ : ∃ g, wr.heap.size = g := ⟨_, rfl⟩
      rw [hg5] at hbx5 ⊢
      clear hst5 hg5 HLD
      go_upto_region 5 with fail
      have hbx6 := hbx5
      apply wp_region_lit
      refine gw_val (by kernel_rfl) (some 14) rfl (u3) (by kernel_rfl) ?_
      simp only [pu1, pu2, pu3, pu4]
      refine gw_val (by kernel_rfl) (some 15) rfl (.pointer (some ⟨g5, 0, none⟩)) (by kernel_rfl) ?_
      simp only [pu1, pu2, pu3, pu4]
      refine gw_load (by kernel_rfl) (some 16) rfl 9 (.tmp 15) rfl ⟨g5, 0, none⟩ (.string x.1) (by kernel_rfl) (hbx6.load (i := 0) rfl (by kernel_rfl)) ?_
      simp only [pu1, pu2, pu3, pu4]
      refine run_to rfl (some 17) rfl (.slice (some ⟨g17, 0, none⟩) (nums x.1).length cap) V6 (HCV.out _ _ _ rfl (by kernel_rfl)) ?_
      replace hbx6 := hbx5.below hbx5.lt HB56.out
      simp only [pu1, pu2, pu3, pu4]
      refine gw_val (by kernel_rfl) (some 18) rfl (.agg (fdA ⟨1, 2, 0, nums x.1⟩ (some ⟨g17, 0, none⟩) cap)) (by kernel_rfl) ?_
      simp only [pu1, pu2, pu3, pu4]
      refine gw_val (by kernel_rfl) (some 19) rfl (.pointer (some ⟨g5, 1, none⟩)) (by kernel_rfl) ?_
      simp only [pu1, pu2, pu3, pu4]
      refine gw_load (by kernel_rfl) (some 20) rfl 23 (.tmp 19) rfl ⟨g5, 1, none⟩ (.int .u64 x.2.1) (by kernel_rfl) (hbx6.load (i := 1) rfl (by kernel_rfl)) ?_
      simp only [pu1, pu2, pu3, pu4]
      refine gw_val (by kernel_rfl) (some 21) rfl (.agg (fdA ⟨2, 0, x.2.1, []⟩ none 0)) (by kernel_rfl) ?_
      simp only [pu1, pu2, pu3, pu4]
      refine gw_val (by kernel_rfl) (some 22) rfl (.pointer (some ⟨g5, 2, none⟩)) (by kernel_rfl) ?_
      simp only [pu1, pu2, pu3, pu4]
      refine gw_load (by kernel_rfl) (some 23) rfl 23 (.tmp 22) rfl ⟨g5, 2, none⟩ (.int .u64 x.2.2) (by kernel_rfl) (hbx6.load (i := 2) rfl (by kernel_rfl)) ?_
      simp only [pu1, pu2, pu3, pu4]
      refine gw_val (by kernel_rfl) (some 24) rfl (.agg (fdA ⟨3, 0, x.2.2, []⟩ none 0)) (by kernel_rfl) ?_
      simp only [pu1, pu2, pu3, pu4]
      refine gw_build (by kernel_rfl) (some 25) rfl 59 3 #[(0, .tmp 18), (1, .tmp 21), (2, .tmp 24)] rfl #[(0, .agg (fdA ⟨1, 2, 0, nums x.1⟩ (some ⟨g17, 0, none⟩) cap)), (1, .agg (fdA ⟨2, 0, x.2.1, []⟩ none 0)), (2, .agg (fdA ⟨3, 0, x.2.2, []⟩ none 0))] (by kernel_rfl) (.slice (some ⟨g25, 0, none⟩) 3 3) _ hbu ?_
      simp only [pu1, pu2, pu3, pu4]
      refine gw_callE (by kernel_rfl) (some 26) rfl 21 #[.slice (some ⟨g25, 0, none⟩) 3 3] (fun v w' => Own w' V7.heap.size v ML ∧ Below V7.heap.size V7 w') (by kernel_rfl) (CM.mono fun e w' q => by obtain ⟨u, he, h⟩ := q; exact ⟨_, he, h⟩) (fun u8 V8 hq => ?_)
      obtain ⟨hO8, hb8⟩ := hq
      obtain ⟨b8, d8, rfl, hs8, hc8⟩ := hO8.sl
      have hb9 : Below V8.heap.size V8 (V8.alloc (.cells #[.slice b8 ML.length d8] 53)) := (Below.refl _ V8).alloc (Nat.le_refl _) _
      have hx9 : Bx (V8.alloc (.cells #[.slice b8 ML.length d8] 53)) V8.heap.size #[lqv (b8, d8, ML)] 53 := heap_alloc_last V8 _
      have hbu9 := build_b1 b8 ML.length d8 V8
      generalize V8.alloc (.cells #[.slice b8 ML.length d8] 53) = V9 at *
      obtain ⟨v2, V10, hap, hv2, hb10⟩ := ((HV7.out.below hb8).below hb9).add (by have := HB7.out.size; have := hb8.size; have := hb9.size; omega) (b8, d8, ML) ⟨sl_below hs8 hb9, hc8, HL8.out, HLL.out⟩ (fun y hy => by have hh := own_far HVR.out hO8 HS57.out (Nat.le_refl _) y ⟨ML.length, d8, by rw [show b8 = some y from hy]⟩; exact ⟨hh.1, Nat.lt_of_lt_of_le hh.2 hb9.size⟩) V8.heap.size hx9 (by have := HQJ.out; have := HAL.out; have := HLT.out; omega)
      obtain ⟨g27, hg27⟩ : ∃ g, V8.heap.size = g := ⟨_, rfl⟩
      rw [hg27] at hbu9 hap
      simp only [pu1, pu2, pu3, pu4]
      refine gw_build (by kernel_rfl) (some 27) rfl 52 1 #[(0, .tmp 26)] rfl #[(0, .slice b8 ML.length d8)] (by kernel_rfl) (.slice (some ⟨g27, 0, none⟩) 1 1) _ hbu9 ?_
      simp only [pu1, pu2, pu3, pu4]
      refine append_step rfl (some 28) rfl 52 rfl (.tmp 14) (.tmp 27) 52 rfl (u3) (.slice (some ⟨g27, 0, none⟩) 1 1) (v2) V10 (by kernel_rfl) (by kernel_rfl) hap ?_
      simp only [pu1, pu2, pu3, pu4]
      refine gw_val (by kernel_rfl) (some 3) rfl (v2) (by kernel_rfl) ?_
      simp only [pu1, pu2, pu3, pu4]
      apply wpList_nil
      have HV10 := Lib.hid hv2
      have HQ10 : Hid ((Q ++ [(b8, d8, ML)]).map (fun q => q.2.2) = (A.take (j + 1)).map fun x => msg (leafF x)) := Lib.hid (by rw [HTK.out, List.map_append]; rfl)
      have HB10 : Hid (Below W.heap.size W V10) := Lib.hid ((HB7.out.trans ((hb8.trans (hb9.mono hb8.size)).mono HB7.out.size)).trans hb10)
      clear hap hv2 hb10 hx9 hb9 hbu9 hO8 hb8 hs8 hc8 CM hbu hbx6 hbx5 hg27
      go_upto_region 6 with fail
      apply wp_region_lit
      refine gw_val (by kernel_rfl) (some 29) rfl (.int .i64 (j + 1 : Nat)) (add_nat rfl j 1 (by have := HLT.out; have := HAL.out; omega) (by kernel_rfl) (by kernel_rfl) _) ?_
      simp only [pu1, pu2, pu3, pu4]
      refine gw_val (by kernel_rfl) (some 10) rfl (.int .i64 (j + 1 : Nat)) (by kernel_rfl) ?_
      simp only [pu1, pu2, pu3, pu4]
      apply wpList_nil
      go_wp2_with fail
      go_roundg (A.length - (j + 1))
      case measure => have := HGM.out; have := HLT.out; omega
      case rel => exact ⟨j + 1, _, _, rfl, rfl, HLT.out, HQ10, HV10, HB10, rfl⟩
    · skip
      obtain rfl : j = A.length := by omega
      have hql : Q.length = A.length := by
        have := congrArg List.length HQ.out
        rw [List.length_map, List.length_map, List.length_take] at this
        omega
      have hbu := build_f1 ⟨4, 0, c, []⟩ none 0 wr
      have hb7 : Below wr.heap.size wr (wr.alloc (.cells (fdA ⟨4, 0, c, []⟩ none 0) 56)) := (Below.refl _ wr).alloc (Nat.le_refl _) _
      have hx7 : Bx (wr.alloc (.cells (fdA ⟨4, 0, c, []⟩ none 0) 56)) wr.heap.size (fdA ⟨4, 0, c, []⟩ none 0) 56 := heap_alloc_last wr _
      generalize wr.alloc (.cells (fdA ⟨4, 0, c, []⟩ none 0) 56) = V7 at *
      have hfs := fsd_1 hx7 (sl_none V7)
      obtain ⟨hl8, hll⟩ := last_ok HCW.out
      have CM : Calls Tryd.prog 21 #[.slice (some ⟨wr.heap.size, 0, none⟩) 1 1] V7 fun e w' => ∃ v, e = .returned v ∧ Own w' V7.heap.size v (msg (lastF c)) ∧ Below V7.heap.size V7 w' := q_message wr.heap.size 1 [(⟨4, 0, c, []⟩, none, 0)] V7 hfs (last_valid HCW.out) (Nat.le_trans hll (by decide)) (by simp)
      have HLS : Hid ((Q.map fun q => q.2.2) ++ [msg (lastF c)] = leavesL A c) := Lib.hid (by rw [HQ.out, List.take_length]; rfl)
      generalize msg (lastF c) = ML at *
      have HB7 := Lib.hid (HB.out.trans (hb7.mono HB.out.size))
      have HV7 := Lib.hid (HV.out.below hb7)
      have HS57 : Hid (wr.heap.size ≤ V7.heap.size) := Lib.hid hb7.size
      have HVR := Lib.hid HV.out.row
      have HQJ := Lib.hid hql
      have HL8 := Lib.hid hl8
      have HLL := Lib.hid hll
      have HX3 := Lib.hid (HX.out.below HX.out.lt HB.out)
      obtain ⟨g33, hg33⟩ : ∃ g, wr.heap.size = g := ⟨_, rfl⟩
      rw [hg33] at hbu CM
      clear hql hb7 hx7 hfs hl8 hll hg33 HQ HV HB hlt hj HGM
      go_upto_region 3 with fail
      apply wp_region_lit
      refine gw_val (by kernel_rfl) (some 11) rfl (.bool false) (lss_n rfl (A.length) (A.length) (decide_eq_false (by omega)) (by kernel_rfl) (by kernel_rfl) _) ?_
      simp only [pu1, pu2, pu3, pu4]
      apply wpList_nil
      go_upto_region 7 with fail
      apply wp_region_lit
      refine gw_val (by kernel_rfl) (some 30) rfl (.pointer (some ⟨g1, 1, none⟩)) (by kernel_rfl) ?_
      simp only [pu1, pu2, pu3, pu4]
      refine gw_load (by kernel_rfl) (some 31) rfl 23 (.tmp 30) rfl ⟨g1, 1, none⟩ (.int .u64 c) (by kernel_rfl) (HX3.out.load (i := 1) rfl (by kernel_rfl)) ?_
      simp only [pu1, pu2, pu3, pu4]
      refine gw_val (by kernel_rfl) (some 32) rfl (.agg (fdA ⟨4, 0, c, []⟩ none 0)) (by kernel_rfl) ?_
      simp only [pu1, pu2, pu3, pu4]
      refine gw_build (by kernel_rfl) (some 33) rfl 59 1 #[(0, .tmp 32)] rfl #[(0, .agg (fdA ⟨4, 0, c, []⟩ none 0))] (by kernel_rfl) (.slice (some ⟨g33, 0, none⟩) 1 1) _ hbu ?_
      simp only [pu1, pu2, pu3, pu4]
      refine gw_callE (by kernel_rfl) (some 34) rfl 21 #[.slice (some ⟨g33, 0, none⟩) 1 1] (fun v w' => Own w' V7.heap.size v ML ∧ Below V7.heap.size V7 w') (by kernel_rfl) (CM.mono fun e w' q => by obtain ⟨u, he, h⟩ := q; exact ⟨_, he, h⟩) (fun u8 V8 hq => ?_)
      obtain ⟨hO8, hb8⟩ := hq
      obtain ⟨b8, d8, rfl, hs8, hc8⟩ := hO8.sl
      have hb9 : Below V8.heap.size V8 (V8.alloc (.cells #[.slice b8 ML.length d8] 53)) := (Below.refl _ V8).alloc (Nat.le_refl _) _
      have hx9 : Bx (V8.alloc (.cells #[.slice b8 ML.length d8] 53)) V8.heap.size #[lqv (b8, d8, ML)] 53 := heap_alloc_last V8 _
      have hbu9 := build_b1 b8 ML.length d8 V8
      generalize V8.alloc (.cells #[.slice b8 ML.length d8] 53) = V9 at *
      obtain ⟨v2, V10, hap, hv2, hb10⟩ := ((HV7.out.below hb8).below hb9).add (by have := HB7.out.size; have := hb8.size; have := hb9.size; omega) (b8, d8, ML) ⟨sl_below hs8 hb9, hc8, HL8.out, HLL.out⟩ (fun y hy => by have hh := own_far HVR.out hO8 HS57.out (Nat.le_refl _) y ⟨ML.length, d8, by rw [show b8 = some y from hy]⟩; exact ⟨hh.1, Nat.lt_of_lt_of_le hh.2 hb9.size⟩) V8.heap.size hx9 (by have := HQJ.out; have := HAL.out; omega)
      obtain ⟨al, c9, rfl, hk9, hrb⟩ := hv2.rb
      have hls : (Q ++ [(b8, d8, ML)]).map (fun q => q.2.2) = leavesL A c := by rw [List.map_append]; exact HLS.out
      have hln : (Q ++ [(b8, d8, ML)]).length = (leavesL A c).length := by rw [← hls, List.length_map]
      rw [hls] at hrb
      rw [hln] at hap hk9
      have hl9 : (leavesL A c).length ≤ 1000 := by rw [← hln, List.length_append, HQJ.out]; have := HAL.out; simp only [List.length_cons, List.length_nil]; omega
      have hbw : Below W.heap.size W V10 := (HB7.out.trans ((hb8.trans (hb9.mono hb8.size)).mono HB7.out.size)).trans hb10
      have hbw0 := HB0.out.trans (hbw.mono HB0.out.size)
      have CR := proot_any (leavesL A c) al c9 V10 (HG.out.below HG.out.size hbw0) hl9 hk9 hrb
      rw [HS.out] at CR
      have HBW := Lib.hid hbw
      have HBW0 := Lib.hid hbw0
      have hY10 := HY.out.below HY.out.lt hbw
      have HY10 := Lib.hid hY10
      obtain ⟨nl, hnl⟩ : ∃ nl, (leavesL A c).length = nl := ⟨_, rfl⟩
      rw [hnl] at hap CR
      obtain ⟨g27, hg27⟩ : ∃ g, V8.heap.size = g := ⟨_, rfl⟩
      rw [hg27] at hbu9 hap
      clear hv2 hb10 hx9 hb9 hO8 hb8 hs8 hc8 hrb hls hln hl9 hk9 hbw hbw0 hY10 hnl hg27
      simp only [pu1, pu2, pu3, pu4]
      refine gw_val (by kernel_rfl) (some 6) rfl (.slice b8 ML.length d8) (by kernel_rfl) ?_
      simp only [pu1, pu2, pu3, pu4]
      apply wpList_nil
      go_upto_region 8 with fail
      apply wp_region_lit
      refine gw_val (by kernel_rfl) (some 35) rfl (u3) (by kernel_rfl) ?_
      simp only [pu1, pu2, pu3, pu4]
      refine gw_val (by kernel_rfl) (some 36) rfl (.slice b8 ML.length d8) (by kernel_rfl) ?_
      simp only [pu1, pu2, pu3, pu4]
      refine gw_build (by kernel_rfl) (some 37) rfl 52 1 #[(0, .tmp 36)] rfl #[(0, .slice b8 ML.length d8)] (by kernel_rfl) (.slice (some ⟨g27, 0, none⟩) 1 1) _ hbu9 ?_
      simp only [pu1, pu2, pu3, pu4]
      refine append_step rfl (some 38) rfl 52 rfl (.tmp 35) (.tmp 37) 52 rfl (u3) (.slice (some ⟨g27, 0, none⟩) 1 1) (.slice al nl c9) V10 (by kernel_rfl) (by kernel_rfl) hap ?_
      simp only [pu1, pu2, pu3, pu4]
      refine gw_call (by kernel_rfl) (some 39) rfl 22 #[.slice al nl c9] (.agg (w8s S)) (fun w' => Below V10.heap.size V10 w') (by kernel_rfl) CR (fun V11 h11 => ?_)
      have hst := run_store_all (cs' := w8s S) (ty := 32) (HY10.out.below HY10.out.lt h11) (by rw [HS32.out]; rfl) (by unfold w8s; simp [Value.oneCell']) (by rw [HS32.out]; kernel_rfl)
      have hy12 : Bx (V11.setRow g2 (w8s S)) g2 (w8s S) 32 := (HY10.out.below HY10.out.lt h11).set
      have hb12 : Below w.heap.size w (V11.setRow g2 (w8s S)) := belowRow (HBW0.out.trans (h11.mono HBW0.out.size)) HGE.out _
      generalize V11.setRow g2 (w8s S) = V12 at *
      simp only [pu1, pu2, pu3, pu4]
      refine gw_store (by kernel_rfl) rfl 32 (.tmp 2) (.tmp 39) rfl (.pointer (some ⟨g2, 0, none⟩)) (.agg (w8s S)) (by kernel_rfl) (by kernel_rfl) (V12) (hst) ?_
      apply wpList_nil
      have HY12 := Lib.hid hy12
      have HB12 := Lib.hid hb12
      clear hst hy12 hb12 h11 CR hap hbu9 hbu CM
      go_wp2_with fail
      refine bodyPost_ret (v := .agg (w8s S)) ?_ rfl ⟨rfl, HB12.out⟩
      refine results_cell_row (fn := Tryd.f8) (p := 2) (ty := 32) rfl _ _ g2 32 (w8s S) (0, 0) (.array 32 5) rfl HY12.out ?_ rfl ?_
      · kernel_rfl
      · rw [HS32.out]; kernel_rfl
set_option maxRecDepth 100000 in
set_option maxHeartbeats 8000000 in
theorem ref_digest (la : Option Addr) (lk : Nat) (A : List Ac) (c : Int) (w : World) (hR : Cs w la (acc A)) (hn : A.length ≤ 900) (hw : AcW A) (hz : ∀ x, x ∈ A → x.1.size ≤ 200000) (hc : W64 c) (hG : Glob w) :
    Calls Tryd.prog 9 #[.agg (lgA la A.length lk c)] w fun e w' => e = .returned (.agg (w8s (rootL (leavesL A c)))) ∧ Below w.heap.size w w' := by
  obtain ⟨hb0, hX0, hY0⟩ := two_boxes w (lgA la A.length lk c) (w8s (List.replicate 32 0)) 25 32
  have HA := Lib.hid (hR.below hb0)
  have HG := Lib.hid hG
  have HAL := Lib.hid hn
  have HAW := Lib.hid (acw_mem hw)
  have HAZ := Lib.hid hz
  have HCW := Lib.hid hc
  obtain ⟨S, hS⟩ : ∃ S, rootL (leavesL A c) = S := ⟨_, rfl⟩
  have hS32 : S.length = 32 := by rw [← hS]; exact (root_byte _).1
  have HS := Lib.hid hS
  have HS32 : Hid ((w8s S).size = 32) := Lib.hid (by rw [size_w8s]; exact hS32)
  rw [hS]
  clear hR hn hw hz hc hG hS hS32
  go_enter Tryd.func9, Tryd.ntmps9
  go_upto_region 1 with fail
  change Code.wp _ _ _ _ ((w.alloc (.cells (lgA la A.length lk c) 25)).alloc (.cells (w8s (List.replicate 32 0)) 32))
  generalize (w.alloc (.cells (lgA la A.length lk c) 25)).alloc (.cells (w8s (List.replicate 32 0)) 32) = W at *
  obtain ⟨g1, hg1⟩ : ∃ g, w.heap.size = g := ⟨_, rfl⟩
  obtain ⟨g2, hg2⟩ : ∃ g, g1 + 1 = g := ⟨_, rfl⟩
  have HB0 := Lib.hid hb0
  have HGE : Hid (w.heap.size ≤ g2) := Lib.hid (by omega)
  rw [hg1] at hX0 hY0
  simp only [hg1]
  rw [hg2] at hY0
  simp only [hg2]
  have HX := Lib.hid hX0
  have HY := Lib.hid hY0
  clear hb0 hX0 hY0 hg1 hg2
  apply wp_region_lit
  refine gw_val (by kernel_rfl) (some 3) rfl (.slice none 0 0) (by kernel_rfl) ?_
  simp only [pu1, pu2, pu3, pu4]
  apply wpList_nil
  go_upto_region 2 with fail
  apply wp_region_lit
  refine gw_val (by kernel_rfl) (some 6) rfl (.pointer (some ⟨g1, 0, none⟩)) (by kernel_rfl) ?_
  simp only [pu1, pu2, pu3, pu4]
  refine gw_load (by kernel_rfl) (some 7) rfl 22 (.tmp 6) rfl ⟨g1, 0, none⟩ (.slice la A.length lk) (by kernel_rfl) (HX.out.load (i := 0) rfl (by kernel_rfl)) ?_
  simp only [pu1, pu2, pu3, pu4]
  refine gw_val (by kernel_rfl) (some 8) rfl (.int .i64 A.length) (by kernel_rfl) ?_
  simp only [pu1, pu2, pu3, pu4]
  refine gw_val (by kernel_rfl) (some 9) rfl (.int .i64 0) (by kernel_rfl) ?_
  simp only [pu1, pu2, pu3, pu4]
  apply wpList_nil
  go_wp2_with fail
  go_loopg [3, 9] A.length (fun gg s3 sc wx => ∃ (j : Nat) (v3 : Value) (Q : List Lq), s3 = v3 ∧ sc = .int .i64 j ∧ j ≤ A.length ∧ Hid (Q.map (fun q => q.2.2) = (A.take j).map fun x => msg (leafF x)) ∧ Hid (LvQ wx W.heap.size v3 Q) ∧ Hid (Below W.heap.size W wx) ∧ A.length - j = gg)
  case atStart => exact ⟨0, _, [], rfl, rfl, by omega, Lib.hid rfl, Lib.hid (LvQ.nil _ _), Lib.hid (Below.refl _ _), by omega⟩
  case round =>
    obtain ⟨j, v3, Q, rfl, rfl, hj, HQ, HV, HB, hg⟩ := hrel
    have HGM := Lib.hid hg
    clear hg
    by_cases hlt : j < A.length
    · skip
      obtain ⟨b, off, rfl, -, hrx⟩ := ac_range (HA.out.below HB.out) (k := j) hlt
      have HLD := Lib.hid (load_ac hrx)
      have hxw := HAW.out _ (aca_mem hlt)
      have hxz := HAZ.out _ (aca_mem hlt)
      have htk : (A.take (j + 1)).map (fun x => msg (leafF x)) = (A.take j).map (fun x => msg (leafF x)) ++ [msg (leafF (aca A j))] := by
        rw [List.take_succ_eq_append_getElem hlt, List.map_append, ← aca_get hlt]
        rfl
      have hql : Q.length = j := by
        have := congrArg List.length HQ.out
        rw [List.length_map, List.length_map, List.length_take] at this
        omega
      rw [← HQ.out] at htk
      generalize aca A j = x at *
      obtain ⟨V5, hst5, hb5, hbx5⟩ := new_ac wr x
      obtain ⟨cap, hcap⟩ : ∃ cap, grownCap V5 x.1.size 0 5 = cap := ⟨_, rfl⟩
      have hcv : ∀ (ρ : Operand → Value) (o : Oper) (x9 : Operand), o.op = .convert 9 53 x9 → ρ x9 = .string x.1 → (execOp ρ o).run Tryd.prog V5 = .ok (.value (.slice (some ⟨V5.heap.size, 0, none⟩) (nums x.1).length cap)) (Lib.bytesWorld V5 5 x.1) := fun ρ o x9 ho hx => by rw [nums_len, ← hcap]; exact conv_s ho x.1 hx V5
      obtain ⟨hb6, hs6, -⟩ := conv_world V5 x.1 cap
      generalize Lib.bytesWorld V5 5 x.1 = V6 at *
      have hbu := build_f3 ⟨1, 2, 0, nums x.1⟩ ⟨2, 0, x.2.1, []⟩ ⟨3, 0, x.2.2, []⟩ (some ⟨V5.heap.size, 0, none⟩) none none cap 0 0 V6
      have hb7 : Below V6.heap.size V6 (V6.alloc (.cells (fdA ⟨1, 2, 0, nums x.1⟩ (some ⟨V5.heap.size, 0, none⟩) cap ++ fdA ⟨2, 0, x.2.1, []⟩ none 0 ++ fdA ⟨3, 0, x.2.2, []⟩ none 0) 56)) := (Below.refl _ V6).alloc (Nat.le_refl _) _
      have hx7 : Bx (V6.alloc (.cells (fdA ⟨1, 2, 0, nums x.1⟩ (some ⟨V5.heap.size, 0, none⟩) cap ++ fdA ⟨2, 0, x.2.1, []⟩ none 0 ++ fdA ⟨3, 0, x.2.2, []⟩ none 0) 56)) V6.heap.size (fdA ⟨1, 2, 0, nums x.1⟩ (some ⟨V5.heap.size, 0, none⟩) cap ++ fdA ⟨2, 0, x.2.1, []⟩ none 0 ++ fdA ⟨3, 0, x.2.2, []⟩ none 0) 56 := heap_alloc_last V6 _
      generalize V6.alloc (.cells (fdA ⟨1, 2, 0, nums x.1⟩ (some ⟨V5.heap.size, 0, none⟩) cap ++ fdA ⟨2, 0, x.2.1, []⟩ none 0 ++ fdA ⟨3, 0, x.2.2, []⟩ none 0) 56) = V7 at *
      have hfs := fsd_3 hx7 (sl_below hs6 hb7) (sl_none V7) (sl_none V7)
      obtain ⟨hl8, hll⟩ := leaf_ok hxw hxz
      have CM : Calls Tryd.prog 23 #[.slice (some ⟨V6.heap.size, 0, none⟩) 3 3] V7 fun e w' => ∃ v, e = .returned v ∧ Own w' V7.heap.size v (msg (leafF x)) ∧ Below V7.heap.size V7 w' := ref_message V6.heap.size 3 [((⟨1, 2, 0, nums x.1⟩ : Fld), some ⟨V5.heap.size, 0, none⟩, cap), (⟨2, 0, x.2.1, []⟩, none, 0), (⟨3, 0, x.2.2, []⟩, none, 0)] V7 hfs (leaf_valid hxw) (Nat.le_trans hll (by decide)) (by simp)
      generalize msg (leafF x) = ML at *
      have hb57 := hb6.trans (hb7.mono hb6.size)
      have hbw7 := HB.out.trans ((hb5.trans (hb57.mono hb5.size)).mono HB.out.size)
      have hs57 : wr.heap.size ≤ V7.heap.size := by have := hb5.size; have := hb57.size; omega
      have HS57 := Lib.hid hs57
      have HB7 := Lib.hid hbw7
      have HV7 := Lib.hid (HV.out.below (hb5.trans (hb57.mono hb5.size)))
      have HTK := Lib.hid htk
      have HQJ := Lib.hid hql
      have HL8 := Lib.hid hl8
      have HLL := Lib.hid hll
      have HLT := Lib.hid hlt
      have HVR := Lib.hid HV.out.row
      obtain ⟨g17, hg17⟩ : ∃ g, V5.heap.size = g := ⟨_, rfl⟩
      obtain ⟨g25, hg25⟩ : ∃ g, V6.heap.size = g := ⟨_, rfl⟩
      rw [hg17] at hbu hcv
      rw [hg25] at hbu CM
      have HCV := Lib.hid hcv
      have HB56 := Lib.hid hb6
      clear hrx hxw hxz htk hql hlt hb5 hcap hb6 hs6 hb7 hx7 hfs hl8 hll hb57 hbw7 hs57 hg17 hg25 hcv HQ HV HB
      go_upto_region 3 with fail
      apply wp_region_lit
      refine gw_val (by kernel_rfl) (some 10) rfl (.bool true) (lss_n rfl (j) (A.length) (decide_eq_true (by have := HLT.out; omega)) (by kernel_rfl) (by kernel_rfl) _) ?_
      simp only [pu1, pu2, pu3, pu4]
      apply wpList_nil
      go_upto_region 4 with fail
      apply wp_region_lit
      refine gw_val (by kernel_rfl) (some 11) rfl (.pointer (some ⟨b, off + j * 3, none⟩)) (idx_ac b off A.length lk j HLT.out _ _ _ rfl (by kernel_rfl) (by kernel_rfl)) ?_
      simp only [pu1, pu2, pu3, pu4]
      refine gw_load (by kernel_rfl) (some 12) rfl 37 (.tmp 11) rfl ⟨b, off + j * 3, none⟩ (.agg (acA x)) (by kernel_rfl) (HLD.out) ?_
      simp only [pu1, pu2, pu3, pu4]
      refine run_to rfl (some 5) rfl (.pointer (some ⟨wr.heap.size, 0, none⟩)) (wr.alloc (.cells (acA zAc) 37)) (by kernel_rfl) ?_
      simp only [pu1, pu2, pu3, pu4]
      refine gw_store (by kernel_rfl) rfl 37 (.tmp 5) (.tmp 12) rfl (.pointer (some ⟨wr.heap.size, 0, none⟩)) (.agg (acA x)) (by kernel_rfl) (by kernel_rfl) (V5) (hst5) ?_
      apply wpList_nil
      obtain ⟨g5, hg5⟩ : ∃ g, wr.heap.size = g := ⟨_, rfl⟩
      rw [hg5] at hbx5 ⊢
      clear hst5 hg5 HLD
      go_upto_region 5 with fail
      have hbx6 := hbx5
      apply wp_region_lit
      refine gw_val (by kernel_rfl) (some 13) rfl (u3) (by kernel_rfl) ?_
      simp only [pu1, pu2, pu3, pu4]
      refine gw_val (by kernel_rfl) (some 14) rfl (.pointer (some ⟨g5, 0, none⟩)) (by kernel_rfl) ?_
      simp only [pu1, pu2, pu3, pu4]
      refine gw_load (by kernel_rfl) (some 15) rfl 9 (.tmp 14) rfl ⟨g5, 0, none⟩ (.string x.1) (by kernel_rfl) (hbx6.load (i := 0) rfl (by kernel_rfl)) ?_
      simp only [pu1, pu2, pu3, pu4]
      refine run_to rfl (some 16) rfl (.slice (some ⟨g17, 0, none⟩) (nums x.1).length cap) V6 (HCV.out _ _ _ rfl (by kernel_rfl)) ?_
      replace hbx6 := hbx5.below hbx5.lt HB56.out
      simp only [pu1, pu2, pu3, pu4]
      refine gw_val (by kernel_rfl) (some 17) rfl (.agg (fdA ⟨1, 2, 0, nums x.1⟩ (some ⟨g17, 0, none⟩) cap)) (by kernel_rfl) ?_
      simp only [pu1, pu2, pu3, pu4]
      refine gw_val (by kernel_rfl) (some 18) rfl (.pointer (some ⟨g5, 1, none⟩)) (by kernel_rfl) ?_
      simp only [pu1, pu2, pu3, pu4]
      refine gw_load (by kernel_rfl) (some 19) rfl 23 (.tmp 18) rfl ⟨g5, 1, none⟩ (.int .u64 x.2.1) (by kernel_rfl) (hbx6.load (i := 1) rfl (by kernel_rfl)) ?_
      simp only [pu1, pu2, pu3, pu4]
      refine gw_val (by kernel_rfl) (some 20) rfl (.agg (fdA ⟨2, 0, x.2.1, []⟩ none 0)) (by kernel_rfl) ?_
      simp only [pu1, pu2, pu3, pu4]
      refine gw_val (by kernel_rfl) (some 21) rfl (.pointer (some ⟨g5, 2, none⟩)) (by kernel_rfl) ?_
      simp only [pu1, pu2, pu3, pu4]
      refine gw_load (by kernel_rfl) (some 22) rfl 23 (.tmp 21) rfl ⟨g5, 2, none⟩ (.int .u64 x.2.2) (by kernel_rfl) (hbx6.load (i := 2) rfl (by kernel_rfl)) ?_
      simp only [pu1, pu2, pu3, pu4]
      refine gw_val (by kernel_rfl) (some 23) rfl (.agg (fdA ⟨3, 0, x.2.2, []⟩ none 0)) (by kernel_rfl) ?_
      simp only [pu1, pu2, pu3, pu4]
      refine gw_build (by kernel_rfl) (some 24) rfl 59 3 #[(0, .tmp 17), (1, .tmp 20), (2, .tmp 23)] rfl #[(0, .agg (fdA ⟨1, 2, 0, nums x.1⟩ (some ⟨g17, 0, none⟩) cap)), (1, .agg (fdA ⟨2, 0, x.2.1, []⟩ none 0)), (2, .agg (fdA ⟨3, 0, x.2.2, []⟩ none 0))] (by kernel_rfl) (.slice (some ⟨g25, 0, none⟩) 3 3) _ hbu ?_
      simp only [pu1, pu2, pu3, pu4]
      refine gw_callE (by kernel_rfl) (some 25) rfl 23 #[.slice (some ⟨g25, 0, none⟩) 3 3] (fun v w' => Own w' V7.heap.size v ML ∧ Below V7.heap.size V7 w') (by kernel_rfl) (CM.mono fun e w' q => by obtain ⟨u, he, h⟩ := q; exact ⟨_, he, h⟩) (fun u8 V8 hq => ?_)
      obtain ⟨hO8, hb8⟩ := hq
      obtain ⟨b8, d8, rfl, hs8, hc8⟩ := hO8.sl
      have hb9 : Below V8.heap.size V8 (V8.alloc (.cells #[.slice b8 ML.length d8] 53)) := (Below.refl _ V8).alloc (Nat.le_refl _) _
      have hx9 : Bx (V8.alloc (.cells #[.slice b8 ML.length d8] 53)) V8.heap.size #[lqv (b8, d8, ML)] 53 := heap_alloc_last V8 _
      have hbu9 := build_b1 b8 ML.length d8 V8
      generalize V8.alloc (.cells #[.slice b8 ML.length d8] 53) = V9 at *
      obtain ⟨v2, V10, hap, hv2, hb10⟩ := ((HV7.out.below hb8).below hb9).add (by have := HB7.out.size; have := hb8.size; have := hb9.size; omega) (b8, d8, ML) ⟨sl_below hs8 hb9, hc8, HL8.out, HLL.out⟩ (fun y hy => by have hh := own_far HVR.out hO8 HS57.out (Nat.le_refl _) y ⟨ML.length, d8, by rw [show b8 = some y from hy]⟩; exact ⟨hh.1, Nat.lt_of_lt_of_le hh.2 hb9.size⟩) V8.heap.size hx9 (by have := HQJ.out; have := HAL.out; have := HLT.out; omega)
      obtain ⟨g27, hg27⟩ : ∃ g, V8.heap.size = g := ⟨_, rfl⟩
      rw [hg27] at hbu9 hap
      simp only [pu1, pu2, pu3, pu4]
      refine gw_build (by kernel_rfl) (some 26) rfl 52 1 #[(0, .tmp 25)] rfl #[(0, .slice b8 ML.length d8)] (by kernel_rfl) (.slice (some ⟨g27, 0, none⟩) 1 1) _ hbu9 ?_
      simp only [pu1, pu2, pu3, pu4]
      refine append_step rfl (some 27) rfl 52 rfl (.tmp 13) (.tmp 26) 52 rfl (u3) (.slice (some ⟨g27, 0, none⟩) 1 1) (v2) V10 (by kernel_rfl) (by kernel_rfl) hap ?_
      simp only [pu1, pu2, pu3, pu4]
      refine gw_val (by kernel_rfl) (some 3) rfl (v2) (by kernel_rfl) ?_
      simp only [pu1, pu2, pu3, pu4]
      apply wpList_nil
      have HV10 := Lib.hid hv2
      have HQ10 : Hid ((Q ++ [(b8, d8, ML)]).map (fun q => q.2.2) = (A.take (j + 1)).map fun x => msg (leafF x)) := Lib.hid (by rw [HTK.out, List.map_append]; rfl)
      have HB10 : Hid (Below W.heap.size W V10) := Lib.hid ((HB7.out.trans ((hb8.trans (hb9.mono hb8.size)).mono HB7.out.size)).trans hb10)
      clear hap hv2 hb10 hx9 hb9 hbu9 hO8 hb8 hs8 hc8 CM hbu hbx6 hbx5 hg27
      go_upto_region 6 with fail
      apply wp_region_lit
      refine gw_val (by kernel_rfl) (some 28) rfl (.int .i64 (j + 1 : Nat)) (add_nat rfl j 1 (by have := HLT.out; have := HAL.out; omega) (by kernel_rfl) (by kernel_rfl) _) ?_
      simp only [pu1, pu2, pu3, pu4]
      refine gw_val (by kernel_rfl) (some 9) rfl (.int .i64 (j + 1 : Nat)) (by kernel_rfl) ?_
      simp only [pu1, pu2, pu3, pu4]
      apply wpList_nil
      go_wp2_with fail
      go_roundg (A.length - (j + 1))
      case measure => have := HGM.out; have := HLT.out; omega
      case rel => exact ⟨j + 1, _, _, rfl, rfl, HLT.out, HQ10, HV10, HB10, rfl⟩
    · skip
      obtain rfl : j = A.length := by omega
      have hql : Q.length = A.length := by
        have := congrArg List.length HQ.out
        rw [List.length_map, List.length_map, List.length_take] at this
        omega
      have hbu := build_f1 ⟨4, 0, c, []⟩ none 0 wr
      have hb7 : Below wr.heap.size wr (wr.alloc (.cells (fdA ⟨4, 0, c, []⟩ none 0) 56)) := (Below.refl _ wr).alloc (Nat.le_refl _) _
      have hx7 : Bx (wr.alloc (.cells (fdA ⟨4, 0, c, []⟩ none 0) 56)) wr.heap.size (fdA ⟨4, 0, c, []⟩ none 0) 56 := heap_alloc_last wr _
      generalize wr.alloc (.cells (fdA ⟨4, 0, c, []⟩ none 0) 56) = V7 at *
      have hfs := fsd_1 hx7 (sl_none V7)
      obtain ⟨hl8, hll⟩ := last_ok HCW.out
      have CM : Calls Tryd.prog 23 #[.slice (some ⟨wr.heap.size, 0, none⟩) 1 1] V7 fun e w' => ∃ v, e = .returned v ∧ Own w' V7.heap.size v (msg (lastF c)) ∧ Below V7.heap.size V7 w' := ref_message wr.heap.size 1 [(⟨4, 0, c, []⟩, none, 0)] V7 hfs (last_valid HCW.out) (Nat.le_trans hll (by decide)) (by simp)
      have HLS : Hid ((Q.map fun q => q.2.2) ++ [msg (lastF c)] = leavesL A c) := Lib.hid (by rw [HQ.out, List.take_length]; rfl)
      generalize msg (lastF c) = ML at *
      have HB7 := Lib.hid (HB.out.trans (hb7.mono HB.out.size))
      have HV7 := Lib.hid (HV.out.below hb7)
      have HS57 : Hid (wr.heap.size ≤ V7.heap.size) := Lib.hid hb7.size
      have HVR := Lib.hid HV.out.row
      have HQJ := Lib.hid hql
      have HL8 := Lib.hid hl8
      have HLL := Lib.hid hll
      have HX3 := Lib.hid (HX.out.below HX.out.lt HB.out)
      obtain ⟨g33, hg33⟩ : ∃ g, wr.heap.size = g := ⟨_, rfl⟩
      rw [hg33] at hbu CM
      clear hql hb7 hx7 hfs hl8 hll hg33 HQ HV HB hlt hj HGM
      go_upto_region 3 with fail
      apply wp_region_lit
      refine gw_val (by kernel_rfl) (some 10) rfl (.bool false) (lss_n rfl (A.length) (A.length) (decide_eq_false (by omega)) (by kernel_rfl) (by kernel_rfl) _) ?_
      simp only [pu1, pu2, pu3, pu4]
      apply wpList_nil
      go_upto_region 7 with fail
      apply wp_region_lit
      refine gw_val (by kernel_rfl) (some 29) rfl (u3) (by kernel_rfl) ?_
      simp only [pu1, pu2, pu3, pu4]
      refine gw_val (by kernel_rfl) (some 30) rfl (.pointer (some ⟨g1, 1, none⟩)) (by kernel_rfl) ?_
      simp only [pu1, pu2, pu3, pu4]
      refine gw_load (by kernel_rfl) (some 31) rfl 23 (.tmp 30) rfl ⟨g1, 1, none⟩ (.int .u64 c) (by kernel_rfl) (HX3.out.load (i := 1) rfl (by kernel_rfl)) ?_
      simp only [pu1, pu2, pu3, pu4]
      refine gw_val (by kernel_rfl) (some 32) rfl (.agg (fdA ⟨4, 0, c, []⟩ none 0)) (by kernel_rfl) ?_
      simp only [pu1, pu2, pu3, pu4]
      refine gw_build (by kernel_rfl) (some 33) rfl 59 1 #[(0, .tmp 32)] rfl #[(0, .agg (fdA ⟨4, 0, c, []⟩ none 0))] (by kernel_rfl) (.slice (some ⟨g33, 0, none⟩) 1 1) _ hbu ?_
      simp only [pu1, pu2, pu3, pu4]
      refine gw_callE (by kernel_rfl) (some 34) rfl 23 #[.slice (some ⟨g33, 0, none⟩) 1 1] (fun v w' => Own w' V7.heap.size v ML ∧ Below V7.heap.size V7 w') (by kernel_rfl) (CM.mono fun e w' q => by obtain ⟨u, he, h⟩ := q; exact ⟨_, he, h⟩) (fun u8 V8 hq => ?_)
      obtain ⟨hO8, hb8⟩ := hq
      obtain ⟨b8, d8, rfl, hs8, hc8⟩ := hO8.sl
      have hb9 : Below V8.heap.size V8 (V8.alloc (.cells #[.slice b8 ML.length d8] 53)) := (Below.refl _ V8).alloc (Nat.le_refl _) _
      have hx9 : Bx (V8.alloc (.cells #[.slice b8 ML.length d8] 53)) V8.heap.size #[lqv (b8, d8, ML)] 53 := heap_alloc_last V8 _
      have hbu9 := build_b1 b8 ML.length d8 V8
      generalize V8.alloc (.cells #[.slice b8 ML.length d8] 53) = V9 at *
      obtain ⟨v2, V10, hap, hv2, hb10⟩ := ((HV7.out.below hb8).below hb9).add (by have := HB7.out.size; have := hb8.size; have := hb9.size; omega) (b8, d8, ML) ⟨sl_below hs8 hb9, hc8, HL8.out, HLL.out⟩ (fun y hy => by have hh := own_far HVR.out hO8 HS57.out (Nat.le_refl _) y ⟨ML.length, d8, by rw [show b8 = some y from hy]⟩; exact ⟨hh.1, Nat.lt_of_lt_of_le hh.2 hb9.size⟩) V8.heap.size hx9 (by have := HQJ.out; have := HAL.out; omega)
      obtain ⟨al, c9, rfl, hk9, hrb⟩ := hv2.rb
      have hls : (Q ++ [(b8, d8, ML)]).map (fun q => q.2.2) = leavesL A c := by rw [List.map_append]; exact HLS.out
      have hln : (Q ++ [(b8, d8, ML)]).length = (leavesL A c).length := by rw [← hls, List.length_map]
      rw [hls] at hrb
      rw [hln] at hap hk9
      have hl9 : (leavesL A c).length ≤ 1000 := by rw [← hln, List.length_append, HQJ.out]; have := HAL.out; simp only [List.length_cons, List.length_nil]; omega
      have hbw : Below W.heap.size W V10 := (HB7.out.trans ((hb8.trans (hb9.mono hb8.size)).mono HB7.out.size)).trans hb10
      have hbw0 := HB0.out.trans (hbw.mono HB0.out.size)
      have CR := refroot_any (leavesL A c) al c9 V10 hl9 hk9 hrb
      rw [HS.out] at CR
      have HBW := Lib.hid hbw
      have HBW0 := Lib.hid hbw0
      have hY10 := HY.out.below HY.out.lt hbw
      have HY10 := Lib.hid hY10
      obtain ⟨nl, hnl⟩ : ∃ nl, (leavesL A c).length = nl := ⟨_, rfl⟩
      rw [hnl] at hap CR
      obtain ⟨g27, hg27⟩ : ∃ g, V8.heap.size = g := ⟨_, rfl⟩
      rw [hg27] at hbu9 hap
      clear hv2 hb10 hx9 hb9 hO8 hb8 hs8 hc8 hrb hls hln hl9 hk9 hbw hbw0 hY10 hnl hg27
      simp only [pu1, pu2, pu3, pu4]
      refine gw_build (by kernel_rfl) (some 35) rfl 52 1 #[(0, .tmp 34)] rfl #[(0, .slice b8 ML.length d8)] (by kernel_rfl) (.slice (some ⟨g27, 0, none⟩) 1 1) _ hbu9 ?_
      simp only [pu1, pu2, pu3, pu4]
      refine append_step rfl (some 36) rfl 52 rfl (.tmp 29) (.tmp 35) 52 rfl (u3) (.slice (some ⟨g27, 0, none⟩) 1 1) (.slice al nl c9) V10 (by kernel_rfl) (by kernel_rfl) hap ?_
      simp only [pu1, pu2, pu3, pu4]
      refine gw_call (by kernel_rfl) (some 37) rfl 24 #[.slice al nl c9] (.agg (w8s S)) (fun w' => Below V10.heap.size V10 w') (by kernel_rfl) CR (fun V11 h11 => ?_)
      have hst := run_store_all (cs' := w8s S) (ty := 32) (HY10.out.below HY10.out.lt h11) (by rw [HS32.out]; rfl) (by unfold w8s; simp [Value.oneCell']) (by rw [HS32.out]; kernel_rfl)
      have hy12 : Bx (V11.setRow g2 (w8s S)) g2 (w8s S) 32 := (HY10.out.below HY10.out.lt h11).set
      have hb12 : Below w.heap.size w (V11.setRow g2 (w8s S)) := belowRow (HBW0.out.trans (h11.mono HBW0.out.size)) HGE.out _
      generalize V11.setRow g2 (w8s S) = V12 at *
      simp only [pu1, pu2, pu3, pu4]
      refine gw_store (by kernel_rfl) rfl 32 (.tmp 2) (.tmp 37) rfl (.pointer (some ⟨g2, 0, none⟩)) (.agg (w8s S)) (by kernel_rfl) (by kernel_rfl) (V12) (hst) ?_
      apply wpList_nil
      have HY12 := Lib.hid hy12
      have HB12 := Lib.hid hb12
      clear hst hy12 hb12 h11 CR hap hbu9 hbu CM
      go_wp2_with fail
      refine bodyPost_ret (v := .agg (w8s S)) ?_ rfl ⟨rfl, HB12.out⟩
      refine results_cell_row (fn := Tryd.f9) (p := 2) (ty := 32) rfl _ _ g2 32 (w8s S) (0, 0) (.array 32 5) rfl HY12.out ?_ rfl ?_
      · kernel_rfl
      · rw [HS32.out]; kernel_rfl
end Go.Proofs.YtebnlklodokhkaaDoor.Lg
