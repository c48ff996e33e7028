/-
  The program's write, Encode: contracts.
-/
import Derived.Test.YtaaeepanelmgnaaPW
namespace Go.Proofs.Ytaaeepanelmgnaa
open Go.RowKit
set_option linter.unusedSimpArgs false
set_option linter.unusedVariables false

/-- What comes ahead of the transfers. -/
def hdF (t : Txd) : List Int := msg (tF 1 t.snd) ++ msg (nF 2 t.sq) ++ msg (nF 3 t.gas) ++ msg (nF 4 t.fee) ++ msg (tF 5 t.memo)
theorem form_hd (t : Txd) : form t = hdF t ++ msg (t.tr.map tfF) := by
  unfold form txF hdF
  simp only [msg_app, List.append_assoc]
def toJ (t : Txd) (j : Nat) : List Int := hdF t ++ msg ((t.tr.take j).map tfF)
theorem toJ_len (t : Txd) (j : Nat) : (toJ t j).length ≤ (form t).length := by
  rw [form_hd]
  unfold toJ
  rw [List.length_append, List.length_append]
  have : (t.tr.take j).map tfF = (t.tr.map tfF).take j := by rw [List.map_take]
  rw [this]
  have := msg_take (t.tr.map tfF) j
  omega
theorem toJ_step (t : Txd) (j : Nat) (h : j < t.tr.length) : toJ t (j + 1) = toJ t j ++ encF (tfF (tfa t.tr j)) := by
  unfold toJ
  rw [List.take_succ_eq_append_getElem h, List.map_append, msg_app, ← List.append_assoc, List.map_cons, List.map_nil, msg_cons, msg_nil, List.append_nil, tfa_get h]
theorem toJ_zero (t : Txd) : toJ t 0 = hdF t := by unfold toJ; rw [List.take_zero, List.map_nil, msg_nil, List.append_nil]
theorem toJ_all (t : Txd) (j : Nat) (h : t.tr.length ≤ j) : toJ t j = form t := by unfold toJ; rw [form_hd, List.take_of_length_le h]
theorem load_tfb {w : World} {g k : Nat} {x : Tf} (h : Bx w g (tfA x) k) : (Instr.loadAt 58 (.pointer (some ⟨g, 0, none⟩))).run Try.prog w = .ok (.agg (tfA x)) w :=
  load_tf fun j v hv => by
    rw [cell_of_row w g _ _ _ (0, 0) h]
    simpa [tfl] using hv
set_option maxRecDepth 100000 in
set_option maxHeartbeats 8000000 in
theorem q_write (x : Txd) (a : Option Addr) (c : Nat) (w : World) (hR : Cs w a (tfc x.tr)) (hok : OkX x) :
    Calls Try.prog 35 #[.agg (txA x a c)] w (OwnO w w.heap.size (form x)) := by
  have hb0 : Below w.heap.size w (w.alloc (.cells (txA x a c) 29)) := (Below.refl _ w).alloc (Nat.le_refl _) _
  have hX0 : Bx (w.alloc (.cells (txA x a c) 29)) w.heap.size (txA x a c) 29 := heap_alloc_last w _
  have HA := Lib.hid (hR.below hb0)
  have hlen := form_len x
  have hwt := hok.wt
  have hh : (hdF x).length ≤ (form x).length := by rw [form_hd, List.length_append]; omega
  unfold hdF at hh
  simp only [List.length_append] at hh
  have hs1 : x.snd.size ≤ 800000 ∧ x.memo.size ≤ 800000 := by unfold wtX at hwt; omega
  have HT1 := Lib.hid (fun V (u : Value) B (hu : Own V B u []) (hB : B ≤ V.heap.size) => q_addText u [] B 1 x.snd V hu hB (Nat.zero_le _) (by omega) (by decide) (by decide))
  have HN2 := Lib.hid (fun V (u : Value) B (hu : Own V B u (msg (tF 1 x.snd))) (hB : B ≤ V.heap.size) => q_addNumber u _ B 2 x.sq V hu hB (by omega) (by decide) (by decide) hok.sq)
  have HN3 := Lib.hid (fun V (u : Value) B (hu : Own V B u (msg (tF 1 x.snd) ++ msg (nF 2 x.sq))) (hB : B ≤ V.heap.size) => q_addNumber u _ B 3 x.gas V hu hB (by rw [List.length_append]; omega) (by decide) (by decide) hok.gas)
  have HN4 := Lib.hid (fun V (u : Value) B (hu : Own V B u (msg (tF 1 x.snd) ++ msg (nF 2 x.sq) ++ msg (nF 3 x.gas))) (hB : B ≤ V.heap.size) => q_addNumber u _ B 4 x.fee V hu hB (by simp only [List.length_append]; omega) (by decide) (by decide) hok.fee)
  have HT5 := Lib.hid (fun V (u : Value) B (hu : Own V B u (msg (tF 1 x.snd) ++ msg (nF 2 x.sq) ++ msg (nF 3 x.gas) ++ msg (nF 4 x.fee))) (hB : B ≤ V.heap.size) => q_addText u _ B 5 x.memo V hu hB (by simp only [List.length_append]; omega) (by omega) (by decide) (by decide))
  have HWT := Lib.hid (fun j (hj : j < x.tr.length) V => q_writeTransfer (tfa x.tr j) V (by have := hok.tr (x := tfa x.tr j) (by rw [tfa_get hj]; exact List.getElem_mem hj); exact this.1) (by have := hok.tr (x := tfa x.tr j) (by rw [tfa_get hj]; exact List.getElem_mem hj); exact this.2))
  have HAD := Lib.hid (fun j (hj : j < x.tr.length) V a1 c1 a2 c2 (h1 : Sl V a1 c1 (toJ x j)) (h2 : Sl V a2 c2 (tfF (tfa x.tr j)).bytes) => q_add a1 c1 (toJ x j) (tfF (tfa x.tr j)) a2 c2 V (by have := toJ_len x j; omega) h1 h2 (by
    have q1 := hok.tr (x := tfa x.tr j) (by rw [tfa_get hj]; exact List.getElem_mem hj)
    have q2 := msg_trF (tfa x.tr j)
    show (msg (trF _)).length ≤ _
    omega) ⟨by show (1 : Int) ≤ 6; decide, by show (6 : Int) ≤ 536870911; decide, .inr ⟨rfl, rfl⟩⟩ w64_0)
  have HST := Lib.hid (fun j hj => toJ_step x j hj)
  have HHD : Hid (hdF x = msg (tF 1 x.snd) ++ msg (nF 2 x.sq) ++ msg (nF 3 x.gas) ++ msg (nF 4 x.fee) ++ msg (tF 5 x.memo)) := Lib.hid rfl
  have HZ := Lib.hid (toJ_zero x)
  have HALL := Lib.hid (fun j h => toJ_all x j h)
  have HJL : Hid (∀ j, (tfF (tfa x.tr j)).bytes = msg (trF (tfa x.tr j))) := Lib.hid fun j => rfl
  generalize hdF x = HD at *
  generalize form x = FO at *
  generalize toJ x = TJ at *
  obtain ⟨snd, sq, gas, fee, memo, M⟩ := x
  simp only [txA] at hb0 hX0 HA ⊢
  dsimp only at *
  generalize msg (tF 1 snd) = l1 at *
  generalize msg (nF 2 sq) = l2 at *
  generalize msg (nF 3 gas) = l3 at *
  generalize msg (nF 4 fee) = l4 at *
  generalize msg (tF 5 memo) = l5 at *
  obtain ⟨n, hn⟩ : ∃ n, M.length = n := ⟨_, rfl⟩
  have HN := Lib.hid hn
  have HN4L : Hid (60 * M.length ≤ trW M ∧ trW M ≤ 800000) := Lib.hid ⟨trW_len M, by unfold wtX at hwt; simp only at hwt; omega⟩
  rw [hn] at hb0 hX0 HA ⊢
  clear hR hok hlen hwt hh hs1
  go_enter Try.func35, Try.ntmps35
  go_upto_region 1 with fail
  change Code.wp _ _ _ _ (w.alloc (.cells #[.string snd, .int .u64 sq, .int .u64 gas, .int .u64 fee, .string memo, .slice a n c] 29))
  generalize w.alloc (.cells #[.string snd, .int .u64 sq, .int .u64 gas, .int .u64 fee, .string memo, .slice a n c] 29) = W at *
  obtain ⟨g0, hg0⟩ : ∃ g0, w.heap.size = g0 := ⟨_, rfl⟩
  have HB0 := Lib.hid hb0
  rw [hg0] at hX0
  simp only [hg0]
  clear hb0 hg0 hn
  go_upto_region 1 with fail
  apply wp_region_lit
  refine gw_val (by kernel_rfl) (some 6) rfl (.pointer (some ⟨g0, 0, none⟩)) (by kernel_rfl) ?_
  simp only [pu1, pu2, pu3, pu4]
  refine gw_load (by kernel_rfl) (some 7) rfl 9 (.tmp 6) rfl ⟨g0, 0, none⟩ (.string snd) (by kernel_rfl) (hX0.load (i := 0) rfl (by kernel_rfl)) ?_
  simp only [pu1, pu2, pu3, pu4]
  refine gw_callE (by kernel_rfl) (some 8) rfl 47 #[.slice none 0 0, .int .i64 1, .string snd] (fun v w' => Own w' W.heap.size v ([] ++ l1) ∧ Below W.heap.size W w') (by kernel_rfl) (HT1.out W (.slice none 0 0) W.heap.size (Own.nil W W.heap.size) (Below.refl W.heap.size W).size) (fun u1 V1 hq => ?_)
  simp only [pu1, pu2, pu3, pu4]
  refine gw_val (by kernel_rfl) (some 3) rfl (u1) (by kernel_rfl) ?_
  simp only [pu1, pu2, pu3, pu4]
  apply wpList_nil
  obtain ⟨hO0, hb0⟩ := hq
  have hB0 := (Below.refl W.heap.size W).trans (hb0.mono (Below.refl W.heap.size W).size)
  have hX1 := hX0.below hX0.lt hb0
  rw [List.nil_append] at hO0
  clear hb0 hX0
  go_upto_region 2 with fail
  apply wp_region_lit
  refine gw_val (by kernel_rfl) (some 9) rfl (u1) (by kernel_rfl) ?_
  simp only [pu1, pu2, pu3, pu4]
  refine gw_val (by kernel_rfl) (some 10) rfl (.pointer (some ⟨g0, 1, none⟩)) (by kernel_rfl) ?_
  simp only [pu1, pu2, pu3, pu4]
  refine gw_load (by kernel_rfl) (some 11) rfl 26 (.tmp 10) rfl ⟨g0, 1, none⟩ (.int .u64 sq) (by kernel_rfl) (hX1.load (i := 1) rfl (by kernel_rfl)) ?_
  simp only [pu1, pu2, pu3, pu4]
  refine gw_callE (by kernel_rfl) (some 12) rfl 48 #[u1, .int .i64 2, .int .u64 sq] (fun v w' => Own w' W.heap.size v (l1 ++ l2) ∧ Below V1.heap.size V1 w') (by kernel_rfl) (HN2.out V1 (u1) W.heap.size hO0 hB0.size) (fun u2 V2 hq => ?_)
  simp only [pu1, pu2, pu3, pu4]
  refine gw_val (by kernel_rfl) (some 3) rfl (u2) (by kernel_rfl) ?_
  simp only [pu1, pu2, pu3, pu4]
  apply wpList_nil
  obtain ⟨hO1, hb1⟩ := hq
  have hB1 := hB0.trans (hb1.mono hB0.size)
  have hX2 := hX1.below hX1.lt hb1
  clear hb1 hX1 hO0 hB0
  go_upto_region 3 with fail
  apply wp_region_lit
  refine gw_val (by kernel_rfl) (some 13) rfl (u2) (by kernel_rfl) ?_
  simp only [pu1, pu2, pu3, pu4]
  refine gw_val (by kernel_rfl) (some 14) rfl (.pointer (some ⟨g0, 2, none⟩)) (by kernel_rfl) ?_
  simp only [pu1, pu2, pu3, pu4]
  refine gw_load (by kernel_rfl) (some 15) rfl 26 (.tmp 14) rfl ⟨g0, 2, none⟩ (.int .u64 gas) (by kernel_rfl) (hX2.load (i := 2) rfl (by kernel_rfl)) ?_
  simp only [pu1, pu2, pu3, pu4]
  refine gw_callE (by kernel_rfl) (some 16) rfl 48 #[u2, .int .i64 3, .int .u64 gas] (fun v w' => Own w' W.heap.size v (l1 ++ l2 ++ l3) ∧ Below V2.heap.size V2 w') (by kernel_rfl) (HN3.out V2 (u2) W.heap.size hO1 hB1.size) (fun u3 V3 hq => ?_)
  simp only [pu1, pu2, pu3, pu4]
  refine gw_val (by kernel_rfl) (some 3) rfl (u3) (by kernel_rfl) ?_
  simp only [pu1, pu2, pu3, pu4]
  apply wpList_nil
  obtain ⟨hO2, hb2⟩ := hq
  have hB2 := hB1.trans (hb2.mono hB1.size)
  have hX3 := hX2.below hX2.lt hb2
  clear hb2 hX2 hO1 hB1
  go_upto_region 4 with fail
  apply wp_region_lit
  refine gw_val (by kernel_rfl) (some 17) rfl (u3) (by kernel_rfl) ?_
  simp only [pu1, pu2, pu3, pu4]
  refine gw_val (by kernel_rfl) (some 18) rfl (.pointer (some ⟨g0, 3, none⟩)) (by kernel_rfl) ?_
  simp only [pu1, pu2, pu3, pu4]
  refine gw_load (by kernel_rfl) (some 19) rfl 26 (.tmp 18) rfl ⟨g0, 3, none⟩ (.int .u64 fee) (by kernel_rfl) (hX3.load (i := 3) rfl (by kernel_rfl)) ?_
  simp only [pu1, pu2, pu3, pu4]
  refine gw_callE (by kernel_rfl) (some 20) rfl 48 #[u3, .int .i64 4, .int .u64 fee] (fun v w' => Own w' W.heap.size v (l1 ++ l2 ++ l3 ++ l4) ∧ Below V3.heap.size V3 w') (by kernel_rfl) (HN4.out V3 (u3) W.heap.size hO2 hB2.size) (fun u4 V4 hq => ?_)
  simp only [pu1, pu2, pu3, pu4]
  refine gw_val (by kernel_rfl) (some 3) rfl (u4) (by kernel_rfl) ?_
  simp only [pu1, pu2, pu3, pu4]
  apply wpList_nil
  obtain ⟨hO3, hb3⟩ := hq
  have hB3 := hB2.trans (hb3.mono hB2.size)
  have hX4 := hX3.below hX3.lt hb3
  clear hb3 hX3 hO2 hB2
  go_upto_region 5 with fail
  apply wp_region_lit
  refine gw_val (by kernel_rfl) (some 21) rfl (u4) (by kernel_rfl) ?_
  simp only [pu1, pu2, pu3, pu4]
  refine gw_val (by kernel_rfl) (some 22) rfl (.pointer (some ⟨g0, 4, none⟩)) (by kernel_rfl) ?_
  simp only [pu1, pu2, pu3, pu4]
  refine gw_load (by kernel_rfl) (some 23) rfl 9 (.tmp 22) rfl ⟨g0, 4, none⟩ (.string memo) (by kernel_rfl) (hX4.load (i := 4) rfl (by kernel_rfl)) ?_
  simp only [pu1, pu2, pu3, pu4]
  refine gw_callE (by kernel_rfl) (some 24) rfl 47 #[u4, .int .i64 5, .string memo] (fun v w' => Own w' W.heap.size v (l1 ++ l2 ++ l3 ++ l4 ++ l5) ∧ Below V4.heap.size V4 w') (by kernel_rfl) (HT5.out V4 (u4) W.heap.size hO3 hB3.size) (fun u5 V5 hq => ?_)
  simp only [pu1, pu2, pu3, pu4]
  refine gw_val (by kernel_rfl) (some 3) rfl (u5) (by kernel_rfl) ?_
  simp only [pu1, pu2, pu3, pu4]
  apply wpList_nil
  obtain ⟨hO4, hb4⟩ := hq
  have hB4 := hB3.trans (hb4.mono hB3.size)
  have hX5 := hX4.below hX4.lt hb4
  clear hb4 hX4 hO3 hB3
  go_upto_region 6 with fail
  apply wp_region_lit
  refine gw_val (by kernel_rfl) (some 25) rfl (.pointer (some ⟨g0, 5, none⟩)) (by kernel_rfl) ?_
  simp only [pu1, pu2, pu3, pu4]
  refine gw_load (by kernel_rfl) (some 26) rfl 27 (.tmp 25) rfl ⟨g0, 5, none⟩ (.slice a n c) (by kernel_rfl) (hX5.load (i := 5) rfl (by kernel_rfl)) ?_
  simp only [pu1, pu2, pu3, pu4]
  refine gw_val (by kernel_rfl) (some 27) rfl (.int .i64 n) (by kernel_rfl) ?_
  simp only [pu1, pu2, pu3, pu4]
  refine gw_val (by kernel_rfl) (some 28) rfl (.int .i64 0) (by kernel_rfl) ?_
  simp only [pu1, pu2, pu3, pu4]
  apply wpList_nil
  have HA5 := Lib.hid (HA.out.below hB4)
  have HB5 := Lib.hid (HB0.out.trans (hB4.mono HB0.out.size))
  have HO5 : Hid (Own V5 w.heap.size u5 (TJ 0)) := Lib.hid (by rw [HZ.out, HHD.out]; exact hO4.base HB0.out.size)
  obtain ⟨b5, d5, rfl, -, -⟩ := HO5.out.sl
  clear hO4 hB4 hX5 HT1 HN2 HN3 HN4 HT5 HHD HZ HA
  go_wp2_with fail
  go_loopg [3, 28] n (fun gg s3 s28 wx => ∃ (j : Nat) (b3 : Option Addr) (k3 d3 : Nat), s3 = .slice b3 k3 d3 ∧ s28 = .int .i64 j ∧ j ≤ n ∧ Hid (Own wx w.heap.size (.slice b3 k3 d3) (TJ j)) ∧ Hid (Below V5.heap.size V5 wx) ∧ n - j = gg)
  case atStart => exact ⟨0, b5, _, d5, rfl, rfl, by omega, HO5, Lib.hid (Below.refl _ _), by omega⟩
  case round =>
    obtain ⟨j, b3, k3, d3, rfl, rfl, hj, HO, HB, hg⟩ := hrel
    clear HO5
    by_cases hlt : j < n
    · skip
      have HG : Hid (n - (j + 1) = gk - 1 ∧ 0 < gk ∧ j + 1 ≤ n ∧ j + 1 ≤ 100000) := Lib.hid ⟨by omega, by omega, by omega, by have := HN4L.out; rw [HN.out] at this; omega⟩
      have hjm : j < M.length := by rw [HN.out]; exact hlt
      obtain ⟨b, off, rfl, -, hrx⟩ := tf_range (HA5.out.below HB.out) (k := j) hjm
      have HLD := Lib.hid (load_tf hrx)
      have CWT := HWT.out j hjm
      have CAD := HAD.out j hjm
      have HSTJ := Lib.hid (HST.out j hjm)
      have hjl := HJL.out j
      generalize tfa M j = y at *
      obtain ⟨V6, hst, hb6, hbx⟩ := new_tf wr y
      have HB6 := Lib.hid (HB.out.trans (hb6.mono HB.out.size))
      have HO6 := Lib.hid (HO.out.below hb6)
      clear hrx hb6 hjm hg HO HB HWT HAD HST HJL
      go_upto_region 7 with fail
      apply wp_region_lit
      refine gw_val (by kernel_rfl) (some 29) rfl (.bool true) (lss_n rfl (j) (n) (decide_eq_true (by omega)) (by kernel_rfl) (by kernel_rfl) _) ?_
      simp only [pu1, pu2, pu3, pu4]
      apply wpList_nil
      go_upto_region 8 with fail
      apply wp_region_lit
      refine gw_val (by kernel_rfl) (some 30) rfl (.pointer (some ⟨b, off + j * 2, none⟩)) (idx_tf b off n c j hlt _ _ _ rfl (by kernel_rfl) (by kernel_rfl)) ?_
      simp only [pu1, pu2, pu3, pu4]
      refine gw_load (by kernel_rfl) (some 31) rfl 58 (.tmp 30) rfl ⟨b, off + j * 2, none⟩ (.agg (tfA y)) (by kernel_rfl) (HLD.out) ?_
      simp only [pu1, pu2, pu3, pu4]
      refine run_to rfl (some 5) rfl (.pointer (some ⟨wr.heap.size, 0, none⟩)) (wr.alloc (.cells (tfA zTf) 58)) (by kernel_rfl) ?_
      simp only [pu1, pu2, pu3, pu4]
      refine gw_store (by kernel_rfl) rfl 58 (.tmp 5) (.tmp 31) rfl (.pointer (some ⟨wr.heap.size, 0, none⟩)) (.agg (tfA y)) (by kernel_rfl) (by kernel_rfl) (V6) (hst) ?_
      apply wpList_nil
      obtain ⟨g4, hg4⟩ : ∃ g4, wr.heap.size = g4 := ⟨_, rfl⟩
      rw [hg4] at hbx ⊢
      clear hst hg4 HLD
      have CW6 := CWT V6
      clear CWT
      go_upto_region 9 with fail
      apply wp_region_lit
      refine gw_val (by kernel_rfl) (some 32) rfl (.slice b3 k3 d3) (by kernel_rfl) ?_
      simp only [pu1, pu2, pu3, pu4]
      refine gw_load (by kernel_rfl) (some 33) rfl 58 (.tmp 5) rfl ⟨g4, 0, none⟩ (.agg (tfA y)) (by kernel_rfl) (load_tfb hbx) ?_
      simp only [pu1, pu2, pu3, pu4]
      refine gw_callE (by kernel_rfl) (some 34) rfl 50 #[.agg (tfA y)] (fun v w' => Own w' V6.heap.size v (msg (trF y)) ∧ Below V6.heap.size V6 w') (by kernel_rfl) CW6 (fun u6 V7 hq => ?_)
      obtain ⟨hO7, hb7⟩ := hq
      simp only [pu1, pu2, pu3, pu4]
      have HO7 := HO6.out.below hb7
      have HB7 := Lib.hid (HB6.out.trans (hb7.mono HB6.out.size))
      obtain ⟨a3, c3, e3, hs3, -⟩ := HO7.sl
      obtain ⟨a6, c6, rfl, hs6, -⟩ := hO7.sl
      rw [← hjl] at hs6
      have CA7 := CAD V7 a3 c3 a6 c6 hs3 hs6
      rw [← hjl]
      simp only [Value.slice.injEq] at e3
      obtain ⟨rfl, rfl, rfl⟩ := e3
      clear CAD HO7 hO7 hs6 HO6 HB6 hbx hb7 hs3
      obtain ⟨z, hz⟩ : ∃ z, tfF y = z := ⟨_, rfl⟩
      have HZ6 : Hid (z.num = 6 ∧ z.kind = 2 ∧ z.val = 0) := Lib.hid (by rw [← hz]; exact ⟨rfl, rfl, rfl⟩)
      rw [hz] at CA7 HSTJ ⊢
      clear hz hjl
      obtain ⟨zn, zk, zv, Z⟩ := z
      obtain ⟨e1, e2, e3⟩ := HZ6.out
      simp only at e1 e2 e3
      subst e1 e2 e3
      dsimp only at *
      clear HZ6
      refine gw_val (by kernel_rfl) (some 35) rfl (.agg (fdA ⟨6, 2, 0, Z⟩ a6 c6)) (by kernel_rfl) ?_
      simp only [pu1, pu2, pu3, pu4]
      refine gw_callE (by kernel_rfl) (some 36) rfl 49 #[.slice b3 (TJ j).length d3, .agg (fdA ⟨6, 2, 0, Z⟩ a6 c6)] (fun v w' => Own w' V7.heap.size v (TJ j ++ encF ⟨6, 2, 0, Z⟩) ∧ Below V7.heap.size V7 w') (by kernel_rfl) CA7 (fun u8 V8 hq => ?_)
      obtain ⟨hO8, hb8⟩ := hq
      simp only [pu1, pu2, pu3, pu4]
      refine gw_val (by kernel_rfl) (some 3) rfl (u8) (by kernel_rfl) ?_
      simp only [pu1, pu2, pu3, pu4]
      apply wpList_nil
      have HB8 := Lib.hid (HB7.out.trans (hb8.mono HB7.out.size))
      have HO8 : Hid (Own V8 w.heap.size u8 (TJ (j + 1))) := Lib.hid (by rw [HSTJ.out]; exact hO8.base (Nat.le_trans HB5.out.size HB7.out.size))
      obtain ⟨b8, d8, rfl, -, -⟩ := HO8.out.sl
      clear hO8 hb8 CA7 HB7 HSTJ
      go_upto_region 10 with fail
      apply wp_region_lit
      refine gw_val (by kernel_rfl) (some 37) rfl (.int .i64 (j + 1 : Nat)) (add_one rfl j (by have := HG.out; omega) (by kernel_rfl) _) ?_
      simp only [pu1, pu2, pu3, pu4]
      refine gw_val (by kernel_rfl) (some 28) rfl (.int .i64 (j + 1 : Nat)) (by kernel_rfl) ?_
      simp only [pu1, pu2, pu3, pu4]
      apply wpList_nil
      go_wp2_with fail
      go_roundg (gk - 1)
      case measure => have := HG.out; omega
      case rel => exact ⟨j + 1, b8, _, d8, rfl, rfl, HG.out.2.2.1, HO8, HB8, HG.out.1⟩
    · skip
      have HE := Lib.hid (⟨_, rfl, by rw [← HALL.out j (by rw [HN.out]; omega)]; exact HO.out, HB5.out.trans (HB.out.mono HB5.out.size)⟩ : OwnO w w.heap.size FO (.returned (.slice b3 k3 d3)) wr)
      clear HO HB hg HALL HWT HAD HST HJL
      go_upto_region 7 with fail
      apply wp_region_lit
      refine gw_val (by kernel_rfl) (some 29) rfl (.bool false) (lss_n rfl (j) (n) (decide_eq_false (by omega)) (by kernel_rfl) (by kernel_rfl) _) ?_
      simp only [pu1, pu2, pu3, pu4]
      apply wpList_nil
      go_upto_region 11 with fail
      apply wp_region_lit
      refine gw_val (by kernel_rfl) (some 38) rfl (.slice b3 k3 d3) (by kernel_rfl) ?_
      simp only [pu1, pu2, pu3, pu4]
      refine gw_val (by kernel_rfl) (some 2) rfl (.slice b3 k3 d3) (by kernel_rfl) ?_
      simp only [pu1, pu2, pu3, pu4]
      apply wpList_nil
      go_wp2_with fail
      go_ret
      exact HE.out
end Go.Proofs.Ytaaeepanelmgnaa
