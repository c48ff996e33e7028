/-
  The walk of TxEncodes.
-/
import Derived.Test.YtaaeepanelmgnaaOL
namespace Go.Proofs.Ytaaeepanelmgnaa
open Go.RowKit
set_option linter.unusedSimpArgs false
set_option linter.unusedVariables false

/-- The bytes of an encoding are bytes. -/
theorem encx_w8 (t : Txd) (h : TxB t) : ∀ x, x ∈ (encX t).1 → W8 x := fun x hx => by
  unfold encX at hx
  by_cases hv : valX t = 0
  · rw [if_neg (by rw [hv]; decide)] at hx
    split at hx
    · cases hx
    · exact msg_bytes (val_ok hv h.sq h.gas h.fee h.am).1.vf x hx
  · rw [if_pos hv] at hx
    cases hx
theorem encx_dec {X : Txd} {E : List Int} (hb : TxB X) (h : encX X = (E, 0)) : decX E = (X, 0) ∧ X.tr.length ≤ 16 := by
  unfold encX at h
  by_cases hv : valX X = 0
  · rw [if_neg (by rw [hv]; decide)] at h
    have hk := val_ok hv hb.sq hb.gas hb.fee hb.am
    split at h
    · simp at h
    · rename_i hl
      simp only [Prod.mk.injEq, and_true] at h
      rw [← h]
      exact ⟨dec_enc hk.1 hv (by omega) (by have := hk.2.2; omega), hk.2.2⟩
  · rw [if_pos hv] at h
    simp only [Prod.mk.injEq] at h
    exact absurd h.2 hv
theorem idx_tx (b off n c k : Nat) (hk : k < n) (V : World) (ρ : Operand → Value) (o : Oper) {x y : Operand} (ho : o.op = .indexAddr 38 x y) (hx : ρ x = .slice (some ⟨b, off, none⟩) n c) (hy : ρ y = .int .i64 k) : (execOp ρ o).run Try.prog V = .ok (.value (.pointer (some ⟨b, off + k * 6, none⟩))) V := by
  have hs : (sizeOf (Try.prog.elem 38)).run Try.prog V = .ok 6 V := by kernel_rfl
  have hlm : (k : Int) < (n : Int) := by omega
  unfold execOp
  simp only [ho, hx, hy]
  go_simp
theorem infoTx : (Try.prog.info? 29).map (fun i => (i.zero, i.size, i.bytes)) = some (some (.agg #[.string ByteArray.empty, .int .u64 0, .int .u64 0, .int .u64 0, .string ByteArray.empty, .slice none 0 0]), 6, 80) := by kernel_rfl
theorem build_three (x y z : Txd) (a b d : Option Addr) (c e g : Nat) (V : World) : (Instr.buildSlice 38 3 #[(0, .agg (txA x a c)), (1, .agg (txA y b e)), (2, .agg (txA z d g))]).run Try.prog V = .ok (.slice (some ⟨V.heap.size, 0, none⟩) 3 3) (V.alloc (.cells (txA x a c ++ txA y b e ++ txA z d g) 29)) := by
  obtain ⟨i0, hi, hz0, hz1, hz2⟩ := info_parts infoTx
  refine run_buildSlice V 38 29 3 _ (txA x a c ++ txA y b e ++ txA z d g) i0 _ Try.underlying38 hi hz0 (by rw [hz1]; omega) (by rw [hz1]; omega) ?_
  rw [hz1]
  kernel_rfl
theorem load_txo {w : World} {g k off : Nat} {cs : Array Value} {x : Txd} {a : Option Addr} {c : Nat} (h : Bx w g cs k) (hc : ∀ j v, (txA x a c).toList[j]? = some v → cs[off + j]? = some v) : (Instr.loadAt 29 (.pointer (some ⟨g, off, none⟩))).run Try.prog w = .ok (.agg (txA x a c)) w :=
  run_loadAt_mid w g off 29 _ _ (fun j v hv => by
    rw [cell_of_row w g _ _ _ (0, 0) h]
    exact hc j v hv) Try.underlying29 rfl (by kernel_rfl)
/-- The memory while the three are gone through. -/
structure Te (w : World) (gr : Nat) (t : Txd) (a : Option Addr) (c : Nat) (xa : Txd) (a1 : Option Addr) (c1 : Nat) (xb : Txd) (a2 : Option Addr) (c2 : Nat) (V : World) : Prop where
  bel : Below w.heap.size w V
  br : Bx V gr (txA t a c ++ txA xa a1 c1 ++ txA xb a2 c2) 29
  r2 : Cs V a (tfc t.tr)
  r5 : Cs V a1 (tfc xa.tr)
  r6 : Cs V a2 (tfc xb.tr)
section
variable {w : World} {gr : Nat} {t : Txd} {a : Option Addr} {c : Nat} {xa : Txd} {a1 : Option Addr} {c1 : Nat} {xb : Txd} {a2 : Option Addr} {c2 : Nat} {V V2 : World}
theorem Te.below (h : Te w gr t a c xa a1 c1 xb a2 c2 V) (hb : Below V.heap.size V V2) : Te w gr t a c xa a1 c1 xb a2 c2 V2 :=
  ⟨h.bel.trans (hb.mono h.bel.size), h.br.below h.br.lt hb, h.r2.below hb, h.r5.below hb, h.r6.below hb⟩
theorem Te.at (h : Te w gr t a c xa a1 c1 xb a2 c2 V) (h1 : TxB t) (h2 : TxB xa) (h3 : TxB xb) {j : Nat} (hj : j < 3) : ∃ X A C, (Instr.loadAt 29 (.pointer (some ⟨gr, 0 + j * 6, none⟩))).run Try.prog V = .ok (.agg (txA X A C)) V ∧ Cs V A (tfc X.tr) ∧ TxB X := by
  have six : ∀ (x : Txd) (a : Option Addr) (c j : Nat) v, (txA x a c).toList[j]? = some v → j = 0 ∨ j = 1 ∨ j = 2 ∨ j = 3 ∨ j = 4 ∨ j = 5 := fun x a c j v hv => by
    have h9 := (List.getElem?_eq_some_iff.1 hv).1
    have h8 : j < 6 := h9
    omega
  rcases (show j = 0 ∨ j = 1 ∨ j = 2 by omega) with rfl | rfl | rfl
  · exact ⟨t, a, c, load_txo h.br (fun j v hv => by rcases six _ _ _ _ _ hv with rfl | rfl | rfl | rfl | rfl | rfl <;> simpa [txA] using hv), h.r2, h1⟩
  · exact ⟨xa, a1, c1, load_txo h.br (fun j v hv => by rcases six _ _ _ _ _ hv with rfl | rfl | rfl | rfl | rfl | rfl <;> simpa [txA] using hv), h.r5, h2⟩
  · exact ⟨xb, a2, c2, load_txo h.br (fun j v hv => by rcases six _ _ _ _ _ hv with rfl | rfl | rfl | rfl | rfl | rfl <;> simpa [txA] using hv), h.r6, h3⟩
end
set_option maxRecDepth 100000 in
set_option maxHeartbeats 8000000 in
theorem encodes_core (t : Txd) (a : Option Addr) (c : Nat) (ak : Option Addr) (ck : Nat) (L : List Int) (w : World) (hz : t.tr.length * 24 ≤ 140737488351232) (hR : Cs w a (tfc t.tr)) (hB : TxB t) (hl : L.length ≤ 9223372036854775807) (hk : Cs w ak (icells L)) :
    Calls Try.prog 5 #[.agg (txA t a c), .slice ak L.length ck] w fun e w' => e = .returned (.bool true) ∧ Below w.heap.size w w' := by
  have HK := Lib.hid (fun (V : World) (h : Below w.heap.size w V) => (known_true V).mono fun e w' (q : e = .returned (.bool true) ∧ Below V.heap.size V w') => (⟨q.1, h.trans (q.2.mono h.size)⟩ : e = .returned (.bool true) ∧ Below w.heap.size w w'))
  have HTB := Lib.hid hB
  have HTZ := Lib.hid hz
  have HNL := Lib.hid hl
  have hb1 : Below w.heap.size w (w.alloc (.cells (txA t a c) 29)) := (Below.refl _ w).alloc (Nat.le_refl _) _
  have hX1 : Bx (w.alloc (.cells (txA t a c) 29)) w.heap.size (txA t a c) 29 := heap_alloc_last w _
  have HCT := hR.below hb1
  have HCK := hk.below hb1
  clear hB hz hl hR hk
  go_enter Try.func5, Try.ntmps5
  go_upto_region 1 with fail
  change Code.wp _ _ _ _ (w.alloc (.cells (txA t a c) 29))
  generalize w.alloc (.cells (txA t a c) 29) = W at *
  obtain ⟨g2, hg2⟩ : ∃ g2, w.heap.size = g2 := ⟨_, rfl⟩
  rw [hg2] at hX1
  try rw [hg2]
  have hX2 := hX1.below hX1.lt ((Below.refl _ W).alloc (Nat.le_refl _) (.cells #[.slice ak L.length ck] 30))
  have hbl : Below w.heap.size w (W.alloc (.cells #[.slice ak L.length ck] 30)) := hb1.alloc hb1.size _
  have HCT2 := HCT.below ((Below.refl _ W).alloc (Nat.le_refl _) (.cells #[.slice ak L.length ck] 30))
  have HCK2 := HCK.below ((Below.refl _ W).alloc (Nat.le_refl _) (.cells #[.slice ak L.length ck] 30))
  have CLn := long_one W.heap.size ak L.length ck (W.alloc (.cells #[.slice ak L.length ck] 30)) (heap_alloc_last W _) HNL.out
  have hor := one_row ak L.length ck W
  generalize W.alloc (.cells #[.slice ak L.length ck] 30) = W1 at *
  have CB := big_any t a c W1 HCT2 (by have := HTZ.out; omega)
  clear HCT HCK hX1 hb1 hg2
  by_cases hL : 160 < L.length
  · skip
    rw [decide_eq_true (by omega)] at CLn
    apply wp_region_lit
    refine gw_val (by kernel_rfl) (some 15) rfl (.slice ak L.length ck) (by kernel_rfl) ?_
    simp only [pu1, pu2, pu3, pu4]
    refine gw_build (by kernel_rfl) (some 16) rfl 64 1 #[(0, .tmp 15)] rfl #[(0, .slice ak L.length ck)] (by kernel_rfl) (.slice (some ⟨W.heap.size, 0, none⟩) 1 1) _ hor ?_
    simp only [pu1, pu2, pu3, pu4]
    refine gw_call (by kernel_rfl) (some 17) rfl 14 #[.slice (some ⟨W.heap.size, 0, none⟩) 1 1] (.bool true) (fun w' => W1 = w') (by kernel_rfl) CLn (fun W2 hW => ?_)
    subst hW
    simp only [pu1, pu2, pu3, pu4]
    refine gw_val (by kernel_rfl) (some 18) rfl (.bool true) (by kernel_rfl) ?_
    simp only [pu1, pu2, pu3, pu4]
    with_reducible refine gw_not (by kernel_rfl) (some 19) rfl ?_
    simp only [pu1, pu2, pu3, pu4]
    with_reducible refine gw_not (by kernel_rfl) (some 20) rfl ?_
    simp only [pu1, pu2, pu3, pu4]
    refine gw_val (by kernel_rfl) (some 21) rfl (.bool true) (by kernel_rfl) ?_
    simp only [pu1, pu2, pu3, pu4]
    apply wpList_nil
    clear CLn CB hor hX2 HCT2 HCK2
    go_upto_region 2 with fail
    apply wp_region_lit
    refine gw_call (by kernel_rfl) (some 22) rfl 9 #[] (.bool true) (fun w' => Below w.heap.size w w') (by kernel_rfl) (HK.out W1 (hbl)) (fun V9 hV9 => ?_)
    simp only [pu1, pu2, pu3, pu4]
    refine gw_val (by kernel_rfl) (some 4) rfl (.bool true) (by kernel_rfl) ?_
    simp only [pu1, pu2, pu3, pu4]
    apply wpList_nil
    have HE := Lib.hid hV9
    clear hV9
    go_wp2_with fail
    go_ret
    exact ⟨rfl, HE.out⟩
  · skip
    rw [decide_eq_false (by omega)] at CLn
    apply wp_region_lit
    refine gw_val (by kernel_rfl) (some 15) rfl (.slice ak L.length ck) (by kernel_rfl) ?_
    simp only [pu1, pu2, pu3, pu4]
    refine gw_build (by kernel_rfl) (some 16) rfl 64 1 #[(0, .tmp 15)] rfl #[(0, .slice ak L.length ck)] (by kernel_rfl) (.slice (some ⟨W.heap.size, 0, none⟩) 1 1) _ hor ?_
    simp only [pu1, pu2, pu3, pu4]
    refine gw_call (by kernel_rfl) (some 17) rfl 14 #[.slice (some ⟨W.heap.size, 0, none⟩) 1 1] (.bool false) (fun w' => W1 = w') (by kernel_rfl) CLn (fun W2 hW => ?_)
    subst hW
    simp only [pu1, pu2, pu3, pu4]
    refine gw_val (by kernel_rfl) (some 18) rfl (.bool false) (by kernel_rfl) ?_
    simp only [pu1, pu2, pu3, pu4]
    refine gw_load (by kernel_rfl) (some 19) rfl 29 (.tmp 2) rfl ⟨g2, 0, none⟩ (.agg (txA t a c)) (by kernel_rfl) (load_txb hX2) ?_
    simp only [pu1, pu2, pu3, pu4]
    refine gw_callE (by kernel_rfl) (some 20) rfl 15 #[.agg (txA t a c)] (fun v w' => ∃ b, v = .bool b ∧ Below W1.heap.size W1 w') (by kernel_rfl) (CB.mono fun e w' q => by obtain ⟨⟨b, h1⟩, h2⟩ := q; exact ⟨_, h1, b, rfl, h2⟩) (fun vv W3 hq => ?_)
    obtain ⟨bb, rfl, hbb⟩ := hq
    simp only [pu1, pu2, pu3, pu4]
    refine gw_val (by kernel_rfl) (some 21) rfl (.bool bb) (by kernel_rfl) ?_
    simp only [pu1, pu2, pu3, pu4]
    apply wpList_nil
    have hX3 := hX2.below hX2.lt hbb
    have hb3 := hbl.trans (hbb.mono hbl.size)
    have CM := made_any ak ck L t a c W3 (HCK2.below hbb) (by omega) (HCT2.below hbb) HTB.out HTZ.out
    have HCT3 := HCT2.below hbb
    clear CLn CB hor hX2 HCT2 HCK2 hbb hbl
    cases bb
    · skip
      go_upto_region 3 with fail
      apply wp_region_lit
      refine gw_val (by kernel_rfl) (some 24) rfl (.slice ak L.length ck) (by kernel_rfl) ?_
      simp only [pu1, pu2, pu3, pu4]
      refine gw_load (by kernel_rfl) (some 25) rfl 29 (.tmp 2) rfl ⟨g2, 0, none⟩ (.agg (txA t a c)) (by kernel_rfl) (load_txb hX3) ?_
      simp only [pu1, pu2, pu3, pu4]
      refine gw_callE (by kernel_rfl) (some 26) rfl 16 #[.slice ak L.length ck, .agg (txA t a c)] (fun v w' => ∃ xa xb a1 c1 a2 c2, v = .tuple #[.agg (txA xa a1 c1), .agg (txA xb a2 c2)] ∧ Cs w' a1 (tfc xa.tr) ∧ Cs w' a2 (tfc xb.tr) ∧ GQ xa ∧ 1 ≤ xa.tr.length ∧ xa.tr.length ≤ 3 ∧ TxB xb ∧ wtX xb ≤ 1000 + wtX t ∧ Below W3.heap.size W3 w') (by kernel_rfl) (CM.mono fun e w' q => by obtain ⟨xa, xb, a1, c1, a2, c2, h1, h2⟩ := q; exact ⟨_, h1, xa, xb, a1, c1, a2, c2, rfl, h2⟩) (fun vv V4 hq => ?_)
      obtain ⟨xa, xb, a1, c1, a2, c2, rfl, hca, hcb, hgq, hm1, hm3, htb, hwt, hbm⟩ := hq
      obtain ⟨Va, V5, V6, hVa, hlt, hst5, hst6, hbn, hx5, hx6⟩ := new_two V4 xa xb a1 a2 c1 c2
      simp only [pu1, pu2, pu3, pu4]
      refine gw_val (by kernel_rfl) (some 23) rfl (.tuple #[.agg (txA xa a1 c1), .agg (txA xb a2 c2)]) (by kernel_rfl) ?_
      simp only [pu1, pu2, pu3, pu4]
      refine gw_val (by kernel_rfl) (some 27) rfl (.agg (txA xa a1 c1)) (by kernel_rfl) ?_
      simp only [pu1, pu2, pu3, pu4]
      refine gw_val (by kernel_rfl) (some 28) rfl (.agg (txA xb a2 c2)) (by kernel_rfl) ?_
      simp only [pu1, pu2, pu3, pu4]
      refine run_to rfl (some 5) rfl (.pointer (some ⟨V4.heap.size, 0, none⟩)) (V4.alloc (.cells (txA zX none 0) 29)) (by kernel_rfl) ?_
      simp only [pu1, pu2, pu3, pu4]
      rw [hVa]
      refine run_to rfl (some 6) rfl (.pointer (some ⟨Va.heap.size, 0, none⟩)) (Va.alloc (.cells (txA zX none 0) 29)) (by kernel_rfl) ?_
      simp only [pu1, pu2, pu3, pu4]
      refine gw_store (by kernel_rfl) rfl 29 (.tmp 5) (.tmp 27) rfl (.pointer (some ⟨V4.heap.size, 0, none⟩)) (.agg (txA xa a1 c1)) (by kernel_rfl) (by kernel_rfl) (V5) (hst5) ?_
      refine gw_store (by kernel_rfl) rfl 29 (.tmp 6) (.tmp 28) rfl (.pointer (some ⟨Va.heap.size, 0, none⟩)) (.agg (txA xb a2 c2)) (by kernel_rfl) (by kernel_rfl) (V6) (hst6) ?_
      apply wpList_nil
      obtain ⟨g5, hg5⟩ : ∃ g5, V4.heap.size = g5 := ⟨_, rfl⟩
      obtain ⟨g6, hg6⟩ : ∃ g6, Va.heap.size = g6 := ⟨_, rfl⟩
      have hb4 := hb3.trans (hbm.mono hb3.size)
      have hX4 := hX3.below hX3.lt hbm
      have HV : Hid (Vd w g2 g5 g6 t a c xa a1 c1 xb a2 c2 V6) := Lib.hid ⟨hb4.trans (hbn.mono hb4.size), hX4.below hX4.lt hbn, by rw [← hg5]; exact hx5, by rw [← hg6]; exact hx6, (HCT3.below hbm).below hbn, hca.below hbn, hcb.below hbn⟩
      have HGQ := Lib.hid hgq
      have HM13 : Hid (1 ≤ xa.tr.length ∧ xa.tr.length ≤ 3) := Lib.hid ⟨hm1, hm3⟩
      have HXB := Lib.hid htb
      have HWT := Lib.hid hwt
      rw [hg5, hg6]
      clear hVa hlt hst5 hst6 hbn hx5 hx6 hg5 hg6 hb4 hX4 hX3 hb3 CM HCT3 hbm hca hcb hgq hm1 hm3 htb hwt hL
      have hbd := build_three t xa xb a a1 a2 c c1 c2 V6
      have hb7 : Below V6.heap.size V6 (V6.alloc (.cells (txA t a c ++ txA xa a1 c1 ++ txA xb a2 c2) 29)) := (Below.refl _ V6).alloc (Nat.le_refl _) _
      have hx7 : Bx (V6.alloc (.cells (txA t a c ++ txA xa a1 c1 ++ txA xb a2 c2) 29)) V6.heap.size (txA t a c ++ txA xa a1 c1 ++ txA xb a2 c2) 29 := heap_alloc_last V6 _
      generalize V6.alloc (.cells (txA t a c ++ txA xa a1 c1 ++ txA xb a2 c2) 29) = V7 at *
      have hv7 := HV.out.below hb7
      go_upto_region 4 with fail
      apply wp_region_lit
      refine gw_load (by kernel_rfl) (some 29) rfl 29 (.tmp 2) rfl ⟨g2, 0, none⟩ (.agg (txA t a c)) (by kernel_rfl) (load_txb HV.out.b2) ?_
      simp only [pu1, pu2, pu3, pu4]
      refine gw_load (by kernel_rfl) (some 30) rfl 29 (.tmp 5) rfl ⟨g5, 0, none⟩ (.agg (txA xa a1 c1)) (by kernel_rfl) (load_txb HV.out.b5) ?_
      simp only [pu1, pu2, pu3, pu4]
      refine gw_load (by kernel_rfl) (some 31) rfl 29 (.tmp 6) rfl ⟨g6, 0, none⟩ (.agg (txA xb a2 c2)) (by kernel_rfl) (load_txb HV.out.b6) ?_
      simp only [pu1, pu2, pu3, pu4]
      refine gw_build (by kernel_rfl) (some 32) rfl 38 3 #[(0, .tmp 29), (1, .tmp 30), (2, .tmp 31)] rfl #[(0, .agg (txA t a c)), (1, .agg (txA xa a1 c1)), (2, .agg (txA xb a2 c2))] (by kernel_rfl) (.slice (some ⟨V6.heap.size, 0, none⟩) 3 3) _ hbd ?_
      simp only [pu1, pu2, pu3, pu4]
      refine gw_val (by kernel_rfl) (some 33) rfl (.int .i64 3) (by kernel_rfl) ?_
      simp only [pu1, pu2, pu3, pu4]
      refine gw_val (by kernel_rfl) (some 34) rfl (.int .i64 0) (by kernel_rfl) ?_
      simp only [pu1, pu2, pu3, pu4]
      apply wpList_nil
      obtain ⟨gr, hgr⟩ : ∃ gr, V6.heap.size = gr := ⟨_, rfl⟩
      have HT0 : Hid (Te w gr t a c xa a1 c1 xb a2 c2 V7) := Lib.hid ⟨hv7.bel, by rw [← hgr]; exact hx7, hv7.r2, hv7.r5, hv7.r6⟩
      have HXA := Lib.hid HGQ.out.b
      rw [hgr]
      clear hbd hb7 hx7 hv7 hgr HV HGQ HM13 HWT HTZ HNL
      go_wp2_with fail
      go_loopg [34] 3 (fun gg s34 wx => ∃ j : Nat, s34 = .int .i64 j ∧ j ≤ 3 ∧ Hid (Te w gr t a c xa a1 c1 xb a2 c2 wx) ∧ 3 - j = gg)
      case atStart => exact ⟨0, rfl, by omega, HT0, by omega⟩
      case round =>
        obtain ⟨j, rfl, hj, HS, hg⟩ := hrel
        clear HT0
        by_cases hlt : j < 3
        · skip
          have HG : Hid (3 - (j + 1) = gk - 1 ∧ 0 < gk ∧ j + 1 ≤ 3) := Lib.hid ⟨by omega, by omega, by omega⟩
          obtain ⟨X, A, C, hld, hcs, htb⟩ := HS.out.at HTB.out HXA.out HXB.out hlt
          obtain ⟨V2, hst2, hb2, hbx⟩ := new_txv wr X A C
          have HW8 := Lib.hid (encx_w8 X htb)
          have hdc := fun E (h : encX X = (E, 0)) => encx_dec htb h
          have CE := q_encode X A C V2 (hcs.below hb2) htb
          have CR := fun V h => ref_encode X A C V h htb
          obtain ⟨E, ee, hEX⟩ : ∃ E ee, encX X = (E, ee) := ⟨_, _, rfl⟩
          rw [hEX] at HW8
          dsimp only at HW8
          have hdc2 : ee = 0 → decX E = (X, 0) ∧ X.tr.length ≤ 16 := fun h0 => hdc E (by rw [hEX, h0])
          have HDC := Lib.hid hdc2
          have HEX := Lib.hid hEX
          clear hdc hdc2 hEX hg htb
          go_upto_region 5 with fail
          apply wp_region_lit
          refine gw_val (by kernel_rfl) (some 35) rfl (.bool true) (lss_n rfl (j) (3) (decide_eq_true (by omega)) (by kernel_rfl) (by kernel_rfl) _) ?_
          simp only [pu1, pu2, pu3, pu4]
          apply wpList_nil
          go_upto_region 6 with fail
          apply wp_region_lit
          refine gw_val (by kernel_rfl) (some 36) rfl (.pointer (some ⟨gr, 0 + j * 6, none⟩)) (idx_tx gr 0 3 3 j hlt _ _ _ rfl (by kernel_rfl) (by kernel_rfl)) ?_
          simp only [pu1, pu2, pu3, pu4]
          refine gw_load (by kernel_rfl) (some 37) rfl 29 (.tmp 36) rfl ⟨gr, 0 + j * 6, none⟩ (.agg (txA X A C)) (by kernel_rfl) (hld) ?_
          simp only [pu1, pu2, pu3, pu4]
          refine run_to rfl (some 8) rfl (.pointer (some ⟨wr.heap.size, 0, none⟩)) (wr.alloc (.cells (txA zX none 0) 29)) (by kernel_rfl) ?_
          simp only [pu1, pu2, pu3, pu4]
          refine gw_store (by kernel_rfl) rfl 29 (.tmp 8) (.tmp 37) rfl (.pointer (some ⟨wr.heap.size, 0, none⟩)) (.agg (txA X A C)) (by kernel_rfl) (by kernel_rfl) (V2) (hst2) ?_
          apply wpList_nil
          obtain ⟨g8, hg8⟩ : ∃ g8, wr.heap.size = g8 := ⟨_, rfl⟩
          have HS2 := HS.out.below hb2
          have hc2 := hcs.below hb2
          rw [hg8] at hbx ⊢
          clear hld hst2 hcs hb2 hg8 HS
          go_upto_region 7 with fail
          apply wp_region_lit
          refine gw_load (by kernel_rfl) (some 39) rfl 29 (.tmp 8) rfl ⟨g8, 0, none⟩ (.agg (txA X A C)) (by kernel_rfl) (load_txb hbx) ?_
          simp only [pu1, pu2, pu3, pu4]
          refine gw_callE (by kernel_rfl) (some 40) rfl 19 #[.agg (txA X A C)] (fun v w' => ∃ u, v = .tuple #[u, .int .i64 ee] ∧ Own w' V2.heap.size u E ∧ Below V2.heap.size V2 w') (by kernel_rfl) ((CE).mono fun e w' q => by obtain ⟨u, h1, h2, h3⟩ := q; rw [HEX.out] at h1 h2; exact ⟨_, h1, u, rfl, h2, h3⟩) (fun vv V3 hq => ?_)
          obtain ⟨u1, rfl, hO1, hb1⟩ := hq
          obtain ⟨b1, d1, rfl, hs1, hd1⟩ := hO1.sl
          simp only [pu1, pu2, pu3, pu4]
          refine gw_val (by kernel_rfl) (some 38) rfl (.tuple #[.slice b1 E.length d1, .int .i64 ee]) (by kernel_rfl) ?_
          simp only [pu1, pu2, pu3, pu4]
          refine gw_val (by kernel_rfl) (some 41) rfl (.slice b1 E.length d1) (by kernel_rfl) ?_
          simp only [pu1, pu2, pu3, pu4]
          refine gw_val (by kernel_rfl) (some 42) rfl (.int .i64 ee) (by kernel_rfl) ?_
          simp only [pu1, pu2, pu3, pu4]
          refine gw_val (by kernel_rfl) (some 9) rfl (.slice b1 E.length d1) (by kernel_rfl) ?_
          simp only [pu1, pu2, pu3, pu4]
          refine gw_val (by kernel_rfl) (some 10) rfl (.int .i64 ee) (by kernel_rfl) ?_
          simp only [pu1, pu2, pu3, pu4]
          apply wpList_nil
          have HS3 := HS2.below hb1
          have hc3 := hc2.below hb1
          have hbx3 := hbx.below hbx.lt hb1
          have CR3 := CR V3 hc3
          clear HS2 hc2 hbx hO1 CE hb1 CR
          go_upto_region 8 with fail
          apply wp_region_lit
          refine gw_load (by kernel_rfl) (some 44) rfl 29 (.tmp 8) rfl ⟨g8, 0, none⟩ (.agg (txA X A C)) (by kernel_rfl) (load_txb hbx3) ?_
          simp only [pu1, pu2, pu3, pu4]
          refine gw_callE (by kernel_rfl) (some 45) rfl 20 #[.agg (txA X A C)] (fun v w' => ∃ u, v = .tuple #[u, .int .i64 ee] ∧ Own w' V3.heap.size u E ∧ Below V3.heap.size V3 w') (by kernel_rfl) ((CR3).mono fun e w' q => by obtain ⟨u, h1, h2, h3⟩ := q; rw [HEX.out] at h1 h2; exact ⟨_, h1, u, rfl, h2, h3⟩) (fun vv V4 hq => ?_)
          obtain ⟨u2, rfl, hO2, hb2⟩ := hq
          obtain ⟨b2, d2, rfl, hs2, hd2⟩ := hO2.sl
          simp only [pu1, pu2, pu3, pu4]
          refine gw_val (by kernel_rfl) (some 43) rfl (.tuple #[.slice b2 E.length d2, .int .i64 ee]) (by kernel_rfl) ?_
          simp only [pu1, pu2, pu3, pu4]
          refine gw_val (by kernel_rfl) (some 46) rfl (.slice b2 E.length d2) (by kernel_rfl) ?_
          simp only [pu1, pu2, pu3, pu4]
          refine gw_val (by kernel_rfl) (some 47) rfl (.int .i64 ee) (by kernel_rfl) ?_
          simp only [pu1, pu2, pu3, pu4]
          refine gw_val (by kernel_rfl) (some 11) rfl (.slice b2 E.length d2) (by kernel_rfl) ?_
          simp only [pu1, pu2, pu3, pu4]
          refine gw_val (by kernel_rfl) (some 12) rfl (.int .i64 ee) (by kernel_rfl) ?_
          simp only [pu1, pu2, pu3, pu4]
          apply wpList_nil
          have HS4 := Lib.hid (HS3.below hb2)
          have hc4 := Lib.hid (hc3.below hb2)
          have hbx4 := Lib.hid (hbx3.below hbx3.lt hb2)
          have hs14 := sl_below hs1 hb2
          have CS := ref_same b1 d1 E b2 d2 E V4 hs14 hs2 HW8.out HW8.out
          rw [show decide (E = E) = true from decide_eq_true rfl] at CS
          clear HS3 hc3 hbx3 hO2 hd2 CR3 hb2 hs1 hs2
          go_upto_region 9 with fail
          apply wp_region_lit
          refine gw_val (by kernel_rfl) (some 48) rfl (.int .i64 ee) (by kernel_rfl) ?_
          simp only [pu1, pu2, pu3, pu4]
          refine gw_val (by kernel_rfl) (some 49) rfl (.int .i64 ee) (by kernel_rfl) ?_
          simp only [pu1, pu2, pu3, pu4]
          refine gw_val (by kernel_rfl) (some 50) rfl (.bool false) (neq_e rfl ee ee (decide_eq_true rfl) (by kernel_rfl) (by kernel_rfl) _) ?_
          simp only [pu1, pu2, pu3, pu4]
          refine gw_val (by kernel_rfl) (some 51) rfl (.bool false) (by kernel_rfl) ?_
          simp only [pu1, pu2, pu3, pu4]
          refine gw_val (by kernel_rfl) (some 52) rfl (.slice b1 E.length d1) (by kernel_rfl) ?_
          simp only [pu1, pu2, pu3, pu4]
          refine gw_val (by kernel_rfl) (some 53) rfl (.slice b2 E.length d2) (by kernel_rfl) ?_
          simp only [pu1, pu2, pu3, pu4]
          refine gw_call (by kernel_rfl) (some 54) rfl 21 #[.slice b1 E.length d1, .slice b2 E.length d2] (.bool true) (fun w' => V4 = w') (by kernel_rfl) (CS) (fun V9 hV9 => ?_)
          subst hV9
          simp only [pu1, pu2, pu3, pu4]
          refine gw_val (by kernel_rfl) (some 55) rfl (.bool false) (by kernel_rfl) ?_
          simp only [pu1, pu2, pu3, pu4]
          refine gw_val (by kernel_rfl) (some 56) rfl (.bool false) (by kernel_rfl) ?_
          simp only [pu1, pu2, pu3, pu4]
          apply wpList_nil
          clear CS
          go_upto_region 11 with fail
          by_cases h0 : ee = 0
          · skip
            subst h0
            obtain ⟨hD, h16⟩ := HDC.out rfl
            have CD := q_decode b1 d1 E V4 hs14 hd1 HW8.out
            rw [hD] at CD
            apply wp_region_lit
            refine gw_val (by kernel_rfl) (some 57) rfl (.int .i64 0) (by kernel_rfl) ?_
            simp only [pu1, pu2, pu3, pu4]
            refine gw_val (by kernel_rfl) (some 58) rfl (.bool true) (eql_e rfl (0) (0) (decide_eq_true (rfl)) (by kernel_rfl) (by kernel_rfl) _) ?_
            simp only [pu1, pu2, pu3, pu4]
            apply wpList_nil
            go_upto_region 12 with fail
            apply wp_region_lit
            refine gw_val (by kernel_rfl) (some 60) rfl (.slice b1 E.length d1) (by kernel_rfl) ?_
            simp only [pu1, pu2, pu3, pu4]
            refine gw_callE (by kernel_rfl) (some 61) rfl 22 #[.slice b1 E.length d1] (fun v w' => ∃ a c, v = .tuple #[.agg (txA X a c), .int .i64 0] ∧ RowT w' V4.heap.size (.slice a X.tr.length c) X.tr ∧ Below V4.heap.size V4 w') (by kernel_rfl) (CD.mono fun e w' q => by obtain ⟨a, c, h1, h2, h3⟩ := q; exact ⟨_, h1, a, c, rfl, h2, h3⟩) (fun vv V5 hq => ?_)
            obtain ⟨a3, c3, rfl, hr5, hb5⟩ := hq
            obtain ⟨W6, hst6, hb6, hbx6⟩ := new_txv V5 X a3 c3
            simp only [pu1, pu2, pu3, pu4]
            refine gw_val (by kernel_rfl) (some 59) rfl (.tuple #[.agg (txA X a3 c3), .int .i64 0]) (by kernel_rfl) ?_
            simp only [pu1, pu2, pu3, pu4]
            refine gw_val (by kernel_rfl) (some 62) rfl (.agg (txA X a3 c3)) (by kernel_rfl) ?_
            simp only [pu1, pu2, pu3, pu4]
            refine gw_val (by kernel_rfl) (some 63) rfl (.int .i64 0) (by kernel_rfl) ?_
            simp only [pu1, pu2, pu3, pu4]
            refine run_to rfl (some 13) rfl (.pointer (some ⟨V5.heap.size, 0, none⟩)) (V5.alloc (.cells (txA zX none 0) 29)) (by kernel_rfl) ?_
            simp only [pu1, pu2, pu3, pu4]
            refine gw_store (by kernel_rfl) rfl 29 (.tmp 13) (.tmp 62) rfl (.pointer (some ⟨V5.heap.size, 0, none⟩)) (.agg (txA X a3 c3)) (by kernel_rfl) (by kernel_rfl) (W6) (hst6) ?_
            refine gw_val (by kernel_rfl) (some 14) rfl (.int .i64 0) (by kernel_rfl) ?_
            simp only [pu1, pu2, pu3, pu4]
            apply wpList_nil
            obtain ⟨g13, hg13⟩ : ∃ g13, V5.heap.size = g13 := ⟨_, rfl⟩
            have hb56 := hb5.trans (hb6.mono hb5.size)
            obtain ⟨ar, cr, er, hcr, -⟩ := (hr5.below hb6).cs
            simp only [Value.slice.injEq, true_and] at er
            obtain ⟨rfl, rfl⟩ := er
            have HS6 := HS4.out.below hb56
            have hx6 := hbx4.out.below hbx4.out.lt hb56
            have CSX := ref_sametx X A a3 C c3 W6 (hc4.out.below hb56) hcr (by omega)
            rw [hg13] at hbx6 ⊢
            clear hst6 hb6 hb5 hb56 hr5 hcr hg13 CD hD HS4 hbx4 hc4 hs14 hd1
            go_upto_region 13 with fail
            apply wp_region_lit
            refine gw_val (by kernel_rfl) (some 64) rfl (.int .i64 0) (by kernel_rfl) ?_
            simp only [pu1, pu2, pu3, pu4]
            refine gw_val (by kernel_rfl) (some 65) rfl (.bool false) (neq_e rfl 0 0 (decide_eq_true rfl) (by kernel_rfl) (by kernel_rfl) _) ?_
            simp only [pu1, pu2, pu3, pu4]
            refine gw_val (by kernel_rfl) (some 66) rfl (.bool false) (by kernel_rfl) ?_
            simp only [pu1, pu2, pu3, pu4]
            refine gw_load (by kernel_rfl) (some 67) rfl 29 (.tmp 8) rfl ⟨g8, 0, none⟩ (.agg (txA X A C)) (by kernel_rfl) (load_txb hx6) ?_
            simp only [pu1, pu2, pu3, pu4]
            refine gw_load (by kernel_rfl) (some 68) rfl 29 (.tmp 13) rfl ⟨g13, 0, none⟩ (.agg (txA X a3 c3)) (by kernel_rfl) (load_txb hbx6) ?_
            simp only [pu1, pu2, pu3, pu4]
            refine gw_call (by kernel_rfl) (some 69) rfl 23 #[.agg (txA X A C), .agg (txA X a3 c3)] (.bool true) (fun w' => Below W6.heap.size W6 w') (by kernel_rfl) CSX (fun W7 hb7 => ?_)
            simp only [pu1, pu2, pu3, pu4]
            refine gw_val (by kernel_rfl) (some 70) rfl (.bool false) (by kernel_rfl) ?_
            simp only [pu1, pu2, pu3, pu4]
            refine gw_val (by kernel_rfl) (some 71) rfl (.bool false) (by kernel_rfl) ?_
            simp only [pu1, pu2, pu3, pu4]
            apply wpList_nil
            have HS7 := Lib.hid (HS6.below hb7)
            clear HS6 hx6 hbx6 CSX hb7
            go_upto_region 15 with fail
            apply wp_region_lit
            refine gw_val (by kernel_rfl) (some 72) rfl (.int .i64 (j + 1 : Nat)) (add_one rfl j (by omega) (by kernel_rfl) _) ?_
            simp only [pu1, pu2, pu3, pu4]
            refine gw_val (by kernel_rfl) (some 34) rfl (.int .i64 (j + 1 : Nat)) (by kernel_rfl) ?_
            simp only [pu1, pu2, pu3, pu4]
            apply wpList_nil
            go_wp2_with fail
            go_roundg (gk - 1)
            case measure => have := HG.out; omega
            case rel => exact ⟨j + 1, rfl, HG.out.2.2, HS7, HG.out.1⟩
          · skip
            apply wp_region_lit
            refine gw_val (by kernel_rfl) (some 57) rfl (.int .i64 ee) (by kernel_rfl) ?_
            simp only [pu1, pu2, pu3, pu4]
            refine gw_val (by kernel_rfl) (some 58) rfl (.bool false) (eql_e rfl (ee) (0) (decide_eq_false (h0)) (by kernel_rfl) (by kernel_rfl) _) ?_
            simp only [pu1, pu2, pu3, pu4]
            apply wpList_nil
            go_upto_region 15 with fail
            apply wp_region_lit
            refine gw_val (by kernel_rfl) (some 72) rfl (.int .i64 (j + 1 : Nat)) (add_one rfl j (by omega) (by kernel_rfl) _) ?_
            simp only [pu1, pu2, pu3, pu4]
            refine gw_val (by kernel_rfl) (some 34) rfl (.int .i64 (j + 1 : Nat)) (by kernel_rfl) ?_
            simp only [pu1, pu2, pu3, pu4]
            apply wpList_nil
            go_wp2_with fail
            go_roundg (gk - 1)
            case measure => have := HG.out; omega
            case rel => exact ⟨j + 1, rfl, HG.out.2.2, HS4, HG.out.1⟩
        · skip
          go_upto_region 5 with fail
          apply wp_region_lit
          refine gw_val (by kernel_rfl) (some 35) rfl (.bool false) (lss_n rfl (j) (3) (decide_eq_false (by omega)) (by kernel_rfl) (by kernel_rfl) _) ?_
          simp only [pu1, pu2, pu3, pu4]
          apply wpList_nil
          have hbw := HS.out.bel
          go_upto_region 16 with fail
          apply wp_region_lit
          refine gw_call (by kernel_rfl) (some 73) rfl 9 #[] (.bool true) (fun w' => Below w.heap.size w w') (by kernel_rfl) (HK.out wr hbw) (fun V9 hV9 => ?_)
          simp only [pu1, pu2, pu3, pu4]
          refine gw_val (by kernel_rfl) (some 4) rfl (.bool true) (by kernel_rfl) ?_
          simp only [pu1, pu2, pu3, pu4]
          apply wpList_nil
          have HE := Lib.hid hV9
          clear hV9 hbw
          go_wp2_with fail
          go_ret
          exact ⟨rfl, HE.out⟩
    · skip
      clear CM HCT3 hX3
      go_upto_region 2 with fail
      apply wp_region_lit
      refine gw_call (by kernel_rfl) (some 22) rfl 9 #[] (.bool true) (fun w' => Below w.heap.size w w') (by kernel_rfl) (HK.out W3 (hb3)) (fun V9 hV9 => ?_)
      simp only [pu1, pu2, pu3, pu4]
      refine gw_val (by kernel_rfl) (some 4) rfl (.bool true) (by kernel_rfl) ?_
      simp only [pu1, pu2, pu3, pu4]
      apply wpList_nil
      have HE := Lib.hid hV9
      clear hV9
      go_wp2_with fail
      go_ret
      exact ⟨rfl, HE.out⟩
end Go.Proofs.Ytaaeepanelmgnaa
