/-
  The walk of TxDecodes.
-/
import Derived.Test.YtaaeepanelmgnaaDL
import Derived.Deep.DeepCutAuto
namespace Go.Proofs.Ytaaeepanelmgnaa
open Go.RowKit
set_option linter.unusedSimpArgs false
set_option linter.unusedVariables false

set_option maxRecDepth 100000 in
set_option maxHeartbeats 8000000 in
theorem decodes_core (ar : Option Addr) (cr : Nat) (R : List Int) (ak : Option Addr) (ck : Nat) (L : List Int) (p n h : Nat) (w : World) (hRs : Sl w ar cr R) (hRc : R.length ≤ cr) (hR8 : ∀ x, x ∈ R → W8 x) (hl : L.length ≤ 9223372036854775807) (hk : Cs w ak (icells L)) (hp : p ≤ 65535) (hn : n ≤ 255) (hh : h ≤ 255) :
    Calls Try.prog 6 #[.slice ar R.length cr, .slice ak L.length ck, .int .u16 p, .int .u8 n, .int .u8 h] w fun e w' => e = .returned (.bool true) ∧ Below w.heap.size w w' := by
  have HK := Lib.hid (fun (V : World) (h : Below w.heap.size w V) => (known_true V).mono fun e w' (q : e = .returned (.bool true) ∧ Below V.heap.size V w') => (⟨q.1, h.trans (q.2.mono h.size)⟩ : e = .returned (.bool true) ∧ Below w.heap.size w w'))
  have HNL := Lib.hid hl
  have HR8 := Lib.hid hR8
  have HRC := Lib.hid hRc
  have HP := Lib.hid hp
  have HN := Lib.hid hn
  have HH := Lib.hid hh
  have hbl : Below w.heap.size w (w.alloc (.cells #[.slice ak L.length ck] 30)) := (Below.refl _ w).alloc (Nat.le_refl _) _
  have HRS := sl_below hRs hbl
  have HCK := hk.below hbl
  have CLn := long_one w.heap.size ak L.length ck (w.alloc (.cells #[.slice ak L.length ck] 30)) (heap_alloc_last w _) HNL.out
  have hor := one_row ak L.length ck w
  generalize w.alloc (.cells #[.slice ak L.length ck] 30) = W1 at *
  clear hl hk hRs hR8 hRc hp hn hh
  go_enter Try.func6, Try.ntmps6
  go_upto_region 1 with fail
  by_cases hL : 160 < L.length
  · skip
    rw [decide_eq_true (by omega)] at CLn
    apply wp_region_lit
    refine gw_val (by kernel_rfl) (some 25) rfl (.slice ak L.length ck) (by kernel_rfl) ?_
    simp only [pu1, pu2, pu3, pu4]
    refine gw_build (by kernel_rfl) (some 26) rfl 64 1 #[(0, .tmp 25)] rfl #[(0, .slice ak L.length ck)] (by kernel_rfl) (.slice (some ⟨w.heap.size, 0, none⟩) 1 1) _ hor ?_
    simp only [pu1, pu2, pu3, pu4]
    refine gw_call (by kernel_rfl) (some 27) rfl 14 #[.slice (some ⟨w.heap.size, 0, none⟩) 1 1] (.bool true) (fun w' => W1 = w') (by kernel_rfl) CLn (fun W2 hW => ?_)
    subst hW
    simp only [pu1, pu2, pu3, pu4]
    refine gw_val (by kernel_rfl) (some 28) rfl (.bool true) (by kernel_rfl) ?_
    simp only [pu1, pu2, pu3, pu4]
    with_reducible refine gw_not (by kernel_rfl) (some 29) rfl ?_
    simp only [pu1, pu2, pu3, pu4]
    with_reducible refine gw_not (by kernel_rfl) (some 30) rfl ?_
    simp only [pu1, pu2, pu3, pu4]
    with_reducible refine gw_not (by kernel_rfl) (some 31) rfl ?_
    simp only [pu1, pu2, pu3, pu4]
    refine gw_val (by kernel_rfl) (some 32) rfl (.bool true) (by kernel_rfl) ?_
    simp only [pu1, pu2, pu3, pu4]
    apply wpList_nil
    clear CLn hor HRS HCK
    go_upto_region 2 with fail
    apply wp_region_lit
    refine gw_call (by kernel_rfl) (some 33) rfl 9 #[] (.bool true) (fun w' => Below w.heap.size w w') (by kernel_rfl) (HK.out W1 (hbl)) (fun V9 hV9 => ?_)
    simp only [pu1, pu2, pu3, pu4]
    refine gw_val (by kernel_rfl) (some 10) rfl (.bool true) (by kernel_rfl) ?_
    simp only [pu1, pu2, pu3, pu4]
    apply wpList_nil
    have HE := Lib.hid hV9
    clear hV9
    go_wp2_with fail
    go_ret
    exact ⟨rfl, HE.out⟩
  · skip
    rw [decide_eq_false (by omega)] at CLn
    by_cases hG : 300 < R.length
    · skip
      apply wp_region_lit
      refine gw_val (by kernel_rfl) (some 25) rfl (.slice ak L.length ck) (by kernel_rfl) ?_
      simp only [pu1, pu2, pu3, pu4]
      refine gw_build (by kernel_rfl) (some 26) rfl 64 1 #[(0, .tmp 25)] rfl #[(0, .slice ak L.length ck)] (by kernel_rfl) (.slice (some ⟨w.heap.size, 0, none⟩) 1 1) _ hor ?_
      simp only [pu1, pu2, pu3, pu4]
      refine gw_call (by kernel_rfl) (some 27) rfl 14 #[.slice (some ⟨w.heap.size, 0, none⟩) 1 1] (.bool false) (fun w' => W1 = w') (by kernel_rfl) CLn (fun W2 hW => ?_)
      subst hW
      simp only [pu1, pu2, pu3, pu4]
      refine gw_val (by kernel_rfl) (some 28) rfl (.bool false) (by kernel_rfl) ?_
      simp only [pu1, pu2, pu3, pu4]
      refine gw_val (by kernel_rfl) (some 29) rfl (.slice ar R.length cr) (by kernel_rfl) ?_
      simp only [pu1, pu2, pu3, pu4]
      refine gw_val (by kernel_rfl) (some 30) rfl (.int .i64 R.length) (by kernel_rfl) ?_
      simp only [pu1, pu2, pu3, pu4]
      refine gw_val (by kernel_rfl) (some 31) rfl (.bool true) (gtr_n rfl (R.length) (300) (decide_eq_true (by omega)) (by kernel_rfl) (by kernel_rfl) _) ?_
      simp only [pu1, pu2, pu3, pu4]
      refine gw_val (by kernel_rfl) (some 32) rfl (.bool true) (by kernel_rfl) ?_
      simp only [pu1, pu2, pu3, pu4]
      apply wpList_nil
      clear CLn hor HRS HCK
      go_upto_region 2 with fail
      apply wp_region_lit
      refine gw_call (by kernel_rfl) (some 33) rfl 9 #[] (.bool true) (fun w' => Below w.heap.size w w') (by kernel_rfl) (HK.out W1 (hbl)) (fun V9 hV9 => ?_)
      simp only [pu1, pu2, pu3, pu4]
      refine gw_val (by kernel_rfl) (some 10) rfl (.bool true) (by kernel_rfl) ?_
      simp only [pu1, pu2, pu3, pu4]
      apply wpList_nil
      have HE := Lib.hid hV9
      clear hV9
      go_wp2_with fail
      go_ret
      exact ⟨rfl, HE.out⟩
    · skip
      apply wp_region_lit
      refine gw_val (by kernel_rfl) (some 25) rfl (.slice ak L.length ck) (by kernel_rfl) ?_
      simp only [pu1, pu2, pu3, pu4]
      refine gw_build (by kernel_rfl) (some 26) rfl 64 1 #[(0, .tmp 25)] rfl #[(0, .slice ak L.length ck)] (by kernel_rfl) (.slice (some ⟨w.heap.size, 0, none⟩) 1 1) _ hor ?_
      simp only [pu1, pu2, pu3, pu4]
      refine gw_call (by kernel_rfl) (some 27) rfl 14 #[.slice (some ⟨w.heap.size, 0, none⟩) 1 1] (.bool false) (fun w' => W1 = w') (by kernel_rfl) CLn (fun W2 hW => ?_)
      subst hW
      simp only [pu1, pu2, pu3, pu4]
      refine gw_val (by kernel_rfl) (some 28) rfl (.bool false) (by kernel_rfl) ?_
      simp only [pu1, pu2, pu3, pu4]
      refine gw_val (by kernel_rfl) (some 29) rfl (.slice ar R.length cr) (by kernel_rfl) ?_
      simp only [pu1, pu2, pu3, pu4]
      refine gw_val (by kernel_rfl) (some 30) rfl (.int .i64 R.length) (by kernel_rfl) ?_
      simp only [pu1, pu2, pu3, pu4]
      refine gw_val (by kernel_rfl) (some 31) rfl (.bool false) (gtr_n rfl (R.length) (300) (decide_eq_false (by omega)) (by kernel_rfl) (by kernel_rfl) _) ?_
      simp only [pu1, pu2, pu3, pu4]
      refine gw_val (by kernel_rfl) (some 32) rfl (.bool false) (by kernel_rfl) ?_
      simp only [pu1, pu2, pu3, pu4]
      apply wpList_nil
      have HRL : Hid (R.length ≤ 300) := Lib.hid (by omega)
      have CM := made_any ak ck L ⟨mtS, 0, 0, 7, mtS, []⟩ none 0 W1 HCK (by omega) (Cs.nil _ _) ⟨w64_0, w64_0, ⟨by decide, by decide⟩, (fun x hx => by cases hx), (by decide), (by decide), (fun x hx => by cases hx)⟩ (by decide)
      clear CLn hor HCK hL hG
      go_upto_region 3 with fail
      apply wp_region_lit
      refine gw_val (by kernel_rfl) (some 35) rfl (.slice ak L.length ck) (by kernel_rfl) ?_
      simp only [pu1, pu2, pu3, pu4]
      refine gw_val (by kernel_rfl) (some 36) rfl (.agg (txA ⟨mtS, 0, 0, 7, mtS, []⟩ none 0)) (by kernel_rfl) ?_
      simp only [pu1, pu2, pu3, pu4]
      refine gw_callE (by kernel_rfl) (some 37) rfl 16 #[.slice ak L.length ck, .agg (txA ⟨mtS, 0, 0, 7, mtS, []⟩ none 0)] (fun v w' => ∃ xa xb a1 c1 a2 c2, v = .tuple #[.agg (txA xa a1 c1), .agg (txA xb a2 c2)] ∧ Cs w' a1 (tfc xa.tr) ∧ Cs w' a2 (tfc xb.tr) ∧ GQ xa ∧ 1 ≤ xa.tr.length ∧ xa.tr.length ≤ 3 ∧ TxB xb ∧ wtX xb ≤ 1000 + wtX ⟨mtS, 0, 0, 7, mtS, []⟩ ∧ Below W1.heap.size W1 w') (by kernel_rfl) (CM.mono fun e w' q => by obtain ⟨xa, xb, a1, c1, a2, c2, h1, h2⟩ := q; exact ⟨_, h1, xa, xb, a1, c1, a2, c2, rfl, h2⟩) (fun vv V4 hq => ?_)
      obtain ⟨xa, xb, a1, c1, a2, c2, rfl, hca, hcb, hgq, hm1, hm3, htb, hwt, hbm⟩ := hq
      obtain ⟨Va, V5, V6, hVa, hlt, hst5, hst6, hbn, hx5, hx6⟩ := new_two V4 xa xb a1 a2 c1 c2
      simp only [pu1, pu2, pu3, pu4]
      refine gw_val (by kernel_rfl) (some 34) rfl (.tuple #[.agg (txA xa a1 c1), .agg (txA xb a2 c2)]) (by kernel_rfl) ?_
      simp only [pu1, pu2, pu3, pu4]
      refine gw_val (by kernel_rfl) (some 38) rfl (.agg (txA xa a1 c1)) (by kernel_rfl) ?_
      simp only [pu1, pu2, pu3, pu4]
      refine gw_val (by kernel_rfl) (some 39) rfl (.agg (txA xb a2 c2)) (by kernel_rfl) ?_
      simp only [pu1, pu2, pu3, pu4]
      refine run_to rfl (some 11) rfl (.pointer (some ⟨V4.heap.size, 0, none⟩)) (V4.alloc (.cells (txA zX none 0) 29)) (by kernel_rfl) ?_
      simp only [pu1, pu2, pu3, pu4]
      rw [hVa]
      refine run_to rfl (some 12) rfl (.pointer (some ⟨Va.heap.size, 0, none⟩)) (Va.alloc (.cells (txA zX none 0) 29)) (by kernel_rfl) ?_
      simp only [pu1, pu2, pu3, pu4]
      refine gw_store (by kernel_rfl) rfl 29 (.tmp 11) (.tmp 38) rfl (.pointer (some ⟨V4.heap.size, 0, none⟩)) (.agg (txA xa a1 c1)) (by kernel_rfl) (by kernel_rfl) (V5) (hst5) ?_
      refine gw_store (by kernel_rfl) rfl 29 (.tmp 12) (.tmp 39) rfl (.pointer (some ⟨Va.heap.size, 0, none⟩)) (.agg (txA xb a2 c2)) (by kernel_rfl) (by kernel_rfl) (V6) (hst6) ?_
      apply wpList_nil
      obtain ⟨g5, hg5⟩ : ∃ g5, V4.heap.size = g5 := ⟨_, rfl⟩
      obtain ⟨g6, hg6⟩ : ∃ g6, Va.heap.size = g6 := ⟨_, rfl⟩
      have hb46 := hbm.trans (hbn.mono hbm.size)
      have hb6 := hbl.trans (hb46.mono hbl.size)
      have hrs6 := sl_below HRS hb46
      have hokA : OkX xa := (val_ok (hgq.val hm1 (by omega)) hgq.b.sq hgq.b.gas hgq.b.fee hgq.b.am).1
      have hw100 : wtX ⟨mtS, 0, 0, 7, mtS, []⟩ = 100 := rfl
      have hokB : OkX xb := ⟨htb.sq, htb.gas, htb.fee, htb.am, by omega⟩
      have HFA : Hid ((form xa).length ≤ 10000) := Lib.hid (by have h1 := (form_len xa).1; have h2 := hgq.wt hm3; omega)
      have HFB : Hid ((form xb).length ≤ 10000) := Lib.hid (by have h1 := (form_len xb).1; omega)
      have HFA8 : Hid (∀ x, x ∈ form xa → W8 x) := Lib.hid (msg_bytes hokA.vf)
      have HFB8 : Hid (∀ x, x ∈ form xb → W8 x) := Lib.hid (msg_bytes hokB.vf)
      have CF1 := Lib.hid (fun V h => ref_form xa a1 c1 V h hokA)
      have CF2 := Lib.hid (fun V h => ref_form xb a2 c2 V h hokB)
      rw [hg5, hg6]
      have hca6 := hca.below hbn
      have hcb6 := hcb.below hbn
      have h0 : Fd g5 g6 xa a1 c1 xb a2 c2 false false false false undef undef V6.drew V6 := ⟨(Below.refl _ _).drew, by rw [← hg5]; exact hx5, by rw [← hg6]; exact hx6, hca6, hcb6, (fun e => nomatch e), (fun e => nomatch e), (fun e => nomatch e), (fun e => nomatch e)⟩
      obtain ⟨W0, hW0⟩ : ∃ W0, V6 = W0 := ⟨_, rfl⟩
      subst hW0
      clear hca6 hcb6 hVa hlt hst5 hst6 hbn hx5 hx6 hg5 hg6 CM hb46 hbm hca hcb hgq hm1 hm3 htb hwt hokA hokB hw100 HRS hbl
      go_upto_region 4 with fail
      refine wp_region_inv (fun listed act9 V => ∃ b0 b1 b2 b3 b4 b5 : Bool, ∃ x41 x43 : Value, listed = #[b0, b1, b2, b3, b4, b5] ∧ act9 = { tmps := #[.slice ar R.length cr, .slice ak L.length ck, .int .u16 p, .int .u8 n, .int .u8 h, undef, undef, undef, undef, undef, .bool false, .pointer (some ⟨g5, 0, none⟩), .pointer (some ⟨g6, 0, none⟩), (cond b4 (x41) undef), (cond b5 (x43) undef), undef, undef, undef, undef, undef, undef, undef, undef, undef, undef, .slice ak L.length ck, .slice (some ⟨w.heap.size, 0, none⟩) 1 1, .bool false, .bool false, .slice ar R.length cr, .int .i64 R.length, .bool false, .bool false, undef, .tuple #[.agg (txA xa a1 c1), .agg (txA xb a2 c2)], .slice ak L.length ck, .agg (txA ⟨mtS, 0, 0, 7, mtS, []⟩ none 0), .tuple #[.agg (txA xa a1 c1), .agg (txA xb a2 c2)], .agg (txA xa a1 c1), .agg (txA xb a2 c2), (cond b0 (.agg (txA xa a1 c1)) undef), x41, (cond b2 (.agg (txA xb a2 c2)) undef), x43, undef, undef, undef, undef, undef, undef, undef, undef, undef, undef, undef, undef, undef, undef, undef, undef, undef, undef, undef, undef, undef, undef, undef, undef, undef, undef, undef, undef, undef, undef, undef, undef, undef, undef, undef, undef, undef, undef, undef, undef, undef, undef, undef, undef, undef, undef, undef, undef, undef, undef, undef, undef, undef, undef, undef, undef, undef, undef, undef, undef, undef, undef, undef, undef, undef, undef, undef, undef, undef, undef, undef, undef, undef, undef, undef, undef, undef, undef, undef, undef, undef, undef, undef, undef], defers := [] } ∧ Fd g5 g6 xa a1 c1 xb a2 c2 b1 b3 b4 b5 x41 x43 V V6) (by kernel_rfl) (by kernel_rfl) ?_ ?_ ?_
      · exact ⟨false, false, false, false, false, false, undef, undef, rfl, rfl, h0⟩
      · intro i9 listed act9 V hi9 hr hJ
        obtain ⟨b0, b1, b2, b3, b4, b5, x41, x43, rfl, rfl, hF⟩ := hJ
        have hi2 : i9 < 6 := hi9
        have hi3 : i9 = 0 ∨ i9 = 1 ∨ i9 = 2 ∨ i9 = 3 ∨ i9 = 4 ∨ i9 = 5 := by omega
        rcases hi3 with rfl | rfl | rfl | rfl | rfl | rfl
        · obtain rfl : b0 = false := ready_self hr
          refine st_load rfl (by kernel_rfl) (some 40) rfl 29 (.tmp 11) rfl ⟨g5, 0, none⟩ (.agg (txA xa a1 c1)) (by kernel_rfl) (load_txb hF.k5) ?_
          exact ⟨true, b1, b2, b3, b4, b5, x41, x43, rfl, rfl, hF⟩
        · obtain rfl : b1 = false := ready_self hr
          obtain rfl : b0 = true := ready_dep hr 0 (by kernel_rfl)
          obtain rfl : b4 = false := ff hF.o4 rfl
          refine st_call rfl (by kernel_rfl) (some 41) rfl 24 #[.agg (txA xa a1 c1)] (by kernel_rfl) ((CF1.out V hF.r5).mono ?_)
          rintro e V2 ⟨v, rfl, hO, hb⟩
          exact ⟨_, rfl, true, true, b2, b3, false, b5, v, x43, rfl, rfl, hF.s1 hO hb⟩
        · obtain rfl : b2 = false := ready_self hr
          refine st_load rfl (by kernel_rfl) (some 42) rfl 29 (.tmp 12) rfl ⟨g6, 0, none⟩ (.agg (txA xb a2 c2)) (by kernel_rfl) (load_txb hF.k6) ?_
          exact ⟨b0, b1, true, b3, b4, b5, x41, x43, rfl, rfl, hF⟩
        · obtain rfl : b3 = false := ready_self hr
          obtain rfl : b2 = true := ready_dep hr 2 (by kernel_rfl)
          obtain rfl : b5 = false := ff hF.o5 rfl
          refine st_call rfl (by kernel_rfl) (some 43) rfl 24 #[.agg (txA xb a2 c2)] (by kernel_rfl) ((CF2.out V hF.r6).mono ?_)
          rintro e V2 ⟨v, rfl, hO, hb⟩
          exact ⟨_, rfl, b0, b1, true, true, b4, false, x41, v, rfl, rfl, hF.s3 hO hb⟩
        · obtain rfl : b4 = false := ready_self hr
          obtain rfl : b1 = true := ready_dep hr 1 (by kernel_rfl)
          refine st_val rfl (by kernel_rfl) (some 13) rfl x41 V (by kernel_rfl) ?_
          exact ⟨b0, true, b2, b3, true, b5, x41, x43, rfl, rfl, { hF with o4 := fun _ => rfl }⟩
        · obtain rfl : b5 = false := ready_self hr
          obtain rfl : b3 = true := ready_dep hr 3 (by kernel_rfl)
          refine st_val rfl (by kernel_rfl) (some 14) rfl x43 V (by kernel_rfl) ?_
          exact ⟨b0, b1, b2, true, b4, true, x41, x43, rfl, rfl, { hF with o5 := fun _ => rfl }⟩
      · intro act9 V hJ
        obtain ⟨b0, b1, b2, b3, b4, b5, x41, x43, he, rfl, hF⟩ := hJ
        have he : (#[true, true, true, true, true, true] : Array Bool) = #[b0, b1, b2, b3, b4, b5] := he
        simp only [Array.mk.injEq, List.cons.injEq, and_true] at he
        obtain ⟨rfl, rfl, rfl, rfl, rfl, rfl⟩ := he
        simp only [cond_true]
        obtain ⟨bm, dm, rfl, hsm, hdm⟩ := hF.f1 rfl
        obtain ⟨bn, dn, rfl, hsn, hdn⟩ := hF.f3 rfl
        have hrs := sl_below hrs6 hF.bel
        have hbw := hb6.trans (hF.bel.mono hb6.size)
        generalize form xa = M at *
        generalize form xb = N at *
        have HDM := Lib.hid hdm
        have HSM := Lib.hid hsm
        have HSN := Lib.hid hsn
        have HSR := Lib.hid hrs
        have HBW := Lib.hid hbw
        have HDN := Lib.hid hdn
        obtain ⟨i, hi⟩ : ∃ i, p % (M.length + 1) = i := ⟨_, rfl⟩
        have hil : i ≤ M.length := by have := Nat.mod_lt p (show 0 < M.length + 1 by omega); omega
        have HI := Lib.hid hi
        have HIL := Lib.hid hil
        clear hF h0 CF1 CF2 hrs6 hb6 hsm hsn hrs hbw hdm hdn hi
        go_upto_region 5 with fail
        apply wp_region_lit
        refine gw_val (by kernel_rfl) (some 44) rfl (.int .u16 p) (by kernel_rfl) ?_
        simp only [pu1, pu2, pu3, pu4]
        refine gw_val (by kernel_rfl) (some 45) rfl (.int .i64 p) (conv_u16 rfl p (by omega) (by have := HP.out; omega) (by kernel_rfl) _) ?_
        simp only [pu1, pu2, pu3, pu4]
        refine gw_val (by kernel_rfl) (some 46) rfl (.slice bm M.length dm) (by kernel_rfl) ?_
        simp only [pu1, pu2, pu3, pu4]
        refine gw_val (by kernel_rfl) (some 47) rfl (.int .i64 M.length) (by kernel_rfl) ?_
        simp only [pu1, pu2, pu3, pu4]
        refine gw_val (by kernel_rfl) (some 48) rfl (.int .i64 (M.length + 1 : Nat)) (add_nat rfl M.length 1 (by have := HFA.out; omega) (by kernel_rfl) (by kernel_rfl) _) ?_
        simp only [pu1, pu2, pu3, pu4]
        refine gw_val (by kernel_rfl) (some 49) rfl (.int .i64 i) (by rw [← HI.out]; exact rem_nat rfl p (M.length + 1) (by omega) (by kernel_rfl) (by kernel_rfl) _) ?_
        simp only [pu1, pu2, pu3, pu4]
        refine gw_val (by kernel_rfl) (some 15) rfl (.int .i64 i) (by kernel_rfl) ?_
        simp only [pu1, pu2, pu3, pu4]
        apply wpList_nil
        have hb1 : Below V.heap.size V (V.alloc (.cells #[] 5)) := (Below.refl _ V).alloc (Nat.le_refl _) _
        have hnl := nil_by V
        have ho1 := nil_own V
        have hs1 : V.heap.size ≤ (V.alloc (.cells #[] 5)).heap.size := hb1.size
        have hm1 := sl_take (sl_below HSM.out hb1) i
        generalize V.alloc (.cells #[] 5) = U1 at *
        have hti : (M.take i).length = i := by rw [List.length_take]; omega
        obtain ⟨a6, c6, U2, hap, ho2, hb2⟩ := grow_by ho1 hs1 bm dm hm1 (by have := HFA.out; rw [hti]; simp only [List.length_nil]; omega)
        rw [List.nil_append] at hap ho2
        rw [hti] at hap
        have hcut := at_to bm M.length dm i U1 (by have := HDM.out; omega)
        go_upto_region 6 with fail
        apply wp_region_lit
        refine gw_build (by kernel_rfl) (some 50) rfl 39 0 #[] rfl #[] (by kernel_rfl) (.slice (some ⟨V.heap.size, 0, none⟩) 0 0) _ hnl ?_
        simp only [pu1, pu2, pu3, pu4]
        refine gw_val (by kernel_rfl) (some 51) rfl (.slice bm M.length dm) (by kernel_rfl) ?_
        simp only [pu1, pu2, pu3, pu4]
        refine gw_val (by kernel_rfl) (some 52) rfl (.int .i64 i) (by kernel_rfl) ?_
        simp only [pu1, pu2, pu3, pu4]
        refine gw_slice_to (by kernel_rfl) (some 53) rfl 39 (.tmp 51) (.tmp 52) rfl (.slice bm M.length dm) (.int .i64 i) (.slice bm i dm) (by kernel_rfl) (by kernel_rfl) hcut ?_
        simp only [pu1, pu2, pu3, pu4]
        refine append_step rfl (some 54) rfl 39 rfl (.tmp 50) (.tmp 53) 39 rfl (.slice (some ⟨V.heap.size, 0, none⟩) 0 0) (.slice bm i dm) (.slice a6 i c6) U2 (by kernel_rfl) (by kernel_rfl) hap ?_
        simp only [pu1, pu2, pu3, pu4]
        refine gw_val (by kernel_rfl) (some 16) rfl (.slice a6 i c6) (by kernel_rfl) ?_
        simp only [pu1, pu2, pu3, pu4]
        apply wpList_nil
        have HC0 : Hid (Own U2 V.heap.size (.slice a6 (M.take i).length c6) (M.take i) ∧ (M.take i).length ≤ 10000 ∧ (∀ x, x ∈ M.take i → W8 x) ∧ Below V.heap.size V U2) := Lib.hid ⟨ho2, by rw [hti]; have := HFA.out; omega, fun x hx => HFA8.out x (List.mem_of_mem_take hx), hb1.trans hb2⟩
        have HZ1 := Lib.hid (bits1 h (by have := HH.out; omega))
        have HZ2 := Lib.hid (bits2 h (by have := HH.out; omega))
        obtain ⟨z1, hz1⟩ : ∃ z1, h % 2 = z1 := ⟨_, rfl⟩
        obtain ⟨z2, hz2⟩ : ∃ z2, h / 2 % 2 * 2 = z2 := ⟨_, rfl⟩
        have HZL : Hid (z1 ≤ 1 ∧ z2 ≤ 2) := Lib.hid ⟨by omega, by omega⟩
        rw [hz1] at HZ1
        rw [hz2] at HZ2
        obtain ⟨tb, htb⟩ : ∃ tb, decide ((z1 : Int) = 1) = tb := ⟨_, rfl⟩
        obtain ⟨td, htd⟩ : ∃ td, decide ((z2 : Int) = 2) = td := ⟨_, rfl⟩
        have HTB := Lib.hid htb
        have HTD := Lib.hid htd
        obtain ⟨C0, hC0⟩ : ∃ C0, M.take i = C0 := ⟨_, rfl⟩
        rw [hC0] at HC0 hti
        have HCL := Lib.hid hti
        clear hb1 hnl ho1 hs1 hm1 hap ho2 hb2 hcut hz1 hz2 htb htd hC0 hti
        go_upto_region 7 with fail
        apply wp_region_lit
        refine gw_val (by kernel_rfl) (some 55) rfl (.int .u8 h) (by kernel_rfl) ?_
        simp only [pu1, pu2, pu3, pu4]
        refine gw_val (by kernel_rfl) (some 56) rfl (.int .u8 z1) (and_8 rfl h 1 HZ1.out (by kernel_rfl) (by kernel_rfl) _) ?_
        simp only [pu1, pu2, pu3, pu4]
        refine gw_val (by kernel_rfl) (some 57) rfl (.bool tb) (eql_8 rfl z1 1 HTB.out (by kernel_rfl) (by kernel_rfl) _) ?_
        simp only [pu1, pu2, pu3, pu4]
        apply wpList_nil
        go_upto_if 57 with fail
        go_cut [16] (fun s16 wx => ∃ (a9 : Option Addr) (c9 : Nat) (C : List Int), s16 = .slice a9 C.length c9 ∧ Hid (Own wx V.heap.size (.slice a9 C.length c9) C ∧ C.length ≤ 30000 ∧ (∀ x, x ∈ C → W8 x) ∧ Below V.heap.size V wx))
        case first =>
          cases tb
          · skip
            go_wp2_with fail
            go_meet
            exact ⟨a6, c6, C0, by rw [HCL.out], Lib.hid ⟨HC0.out.1, by have := HC0.out.2.1; omega, HC0.out.2.2⟩⟩
          · skip
            have hbe : Below U2.heap.size U2 (U2.alloc (.cells #[.int .u8 n] 5)) := (Below.refl _ U2).alloc (Nat.le_refl _) _
            have hon := one_by n U2
            have hos := one_sl n U2
            have ho3 := owns_below HC0.out.1 hbe (Nat.le_refl _)
            have hsz3 := Nat.le_trans HC0.out.2.2.2.size hbe.size
            generalize U2.alloc (.cells #[.int .u8 n] 5) = U3 at *
            obtain ⟨a7, c7, U4, hap, ho4, hb4⟩ := grow_by ho3 hsz3 (some ⟨U2.heap.size, 0, none⟩) 1 hos (by have := HC0.out.2.1; simp only [List.length_cons, List.length_nil]; omega)
            rw [HCL.out] at hap
            have HC1 : Hid (Own U4 V.heap.size (.slice a7 (C0 ++ [(n : Int)]).length c7) (C0 ++ [(n : Int)]) ∧ (C0 ++ [(n : Int)]).length ≤ 30000 ∧ (∀ x, x ∈ C0 ++ [(n : Int)] → W8 x) ∧ Below V.heap.size V U4) := Lib.hid ⟨ho4, by have := HC0.out.2.1; rw [List.length_append]; simp only [List.length_cons, List.length_nil]; omega, fun x hx => by
              rcases List.mem_append.1 hx with h9 | h9
              · exact HC0.out.2.2.1 x h9
              · rw [List.mem_singleton] at h9
                subst h9
                exact ⟨by omega, by have := HN.out; omega⟩, (HC0.out.2.2.2.trans (hbe.mono HC0.out.2.2.2.size)).trans hb4⟩
            clear hbe hos ho3 hsz3 ho4 hb4
            go_upto_region 8 with fail
            apply wp_region_lit
            refine gw_val (by kernel_rfl) (some 58) rfl (.slice a6 i c6) (by kernel_rfl) ?_
            simp only [pu1, pu2, pu3, pu4]
            refine gw_val (by kernel_rfl) (some 59) rfl (.int .u8 n) (by kernel_rfl) ?_
            simp only [pu1, pu2, pu3, pu4]
            refine gw_build (by kernel_rfl) (some 60) rfl 39 1 #[(0, .tmp 59)] rfl #[(0, .int .u8 n)] (by kernel_rfl) (.slice (some ⟨U2.heap.size, 0, none⟩) 1 1) _ hon ?_
            simp only [pu1, pu2, pu3, pu4]
            refine append_step rfl (some 61) rfl 39 rfl (.tmp 58) (.tmp 60) 39 rfl (.slice a6 i c6) (.slice (some ⟨U2.heap.size, 0, none⟩) 1 1) (.slice a7 (C0 ++ [(n : Int)]).length c7) U4 (by kernel_rfl) (by kernel_rfl) hap ?_
            simp only [pu1, pu2, pu3, pu4]
            refine gw_val (by kernel_rfl) (some 16) rfl (.slice a7 (C0 ++ [(n : Int)]).length c7) (by kernel_rfl) ?_
            simp only [pu1, pu2, pu3, pu4]
            apply wpList_nil
            clear hap hon
            go_wp2_with fail
            go_meet
            exact ⟨a7, c7, C0 ++ [(n : Int)], rfl, HC1⟩
        case rest =>
          obtain ⟨a7, c7, C1, rfl, HC1⟩ := hcut
          clear HC0
          generalize wc = U4 at *
          go_upto_region 9 with fail
          apply wp_region_lit
          refine gw_val (by kernel_rfl) (some 62) rfl (.int .u8 h) (by kernel_rfl) ?_
          simp only [pu1, pu2, pu3, pu4]
          refine gw_val (by kernel_rfl) (some 63) rfl (.int .u8 z2) (and_8 rfl h 2 HZ2.out (by kernel_rfl) (by kernel_rfl) _) ?_
          simp only [pu1, pu2, pu3, pu4]
          refine gw_val (by kernel_rfl) (some 64) rfl (.bool td) (eql_8 rfl z2 2 HTD.out (by kernel_rfl) (by kernel_rfl) _) ?_
          simp only [pu1, pu2, pu3, pu4]
          apply wpList_nil
          go_upto_if 64 with fail
          go_cut [16] (fun s16 wx => ∃ (a9 : Option Addr) (c9 : Nat) (C : List Int), s16 = .slice a9 C.length c9 ∧ Hid (Own wx V.heap.size (.slice a9 C.length c9) C ∧ C.length ≤ 60000 ∧ (∀ x, x ∈ C → W8 x) ∧ Below V.heap.size V wx))
          case first =>
            cases td
            · skip
              go_wp2_with fail
              go_meet
              exact ⟨a7, c7, C1, rfl, Lib.hid ⟨HC1.out.1, by have := HC1.out.2.1; omega, HC1.out.2.2⟩⟩
            · skip
              obtain ⟨lo, hlo, hle⟩ : ∃ lo : Nat, min ((i + z1 : Nat) : Int) (M.length : Int) = (lo : Int) ∧ lo ≤ M.length := ⟨min (i + z1) M.length, by omega, Nat.min_le_right _ _⟩
              have HLO := Lib.hid hlo
              have hsm := sl_from (sl_below HSM.out HC1.out.2.2.2) lo HDM.out
              have hdl : (M.drop lo).length = M.length - lo := List.length_drop
              obtain ⟨a8, c8, U5, hap, ho5, hb5⟩ := grow_by HC1.out.1 HC1.out.2.2.2.size (fromA bm dm lo) (dm - lo) hsm (by have := HC1.out.2.1; have := HFA.out; rw [hdl]; omega)
              rw [hdl] at hap
              have hcut := at_from bm M.length dm lo U4 hle
              have HC2 : Hid (Own U5 V.heap.size (.slice a8 (C1 ++ M.drop lo).length c8) (C1 ++ M.drop lo) ∧ (C1 ++ M.drop lo).length ≤ 60000 ∧ (∀ x, x ∈ C1 ++ M.drop lo → W8 x) ∧ Below V.heap.size V U5) := Lib.hid ⟨ho5, by have := HC1.out.2.1; have := HFA.out; rw [List.length_append, hdl]; omega, fun x hx => by
                rcases List.mem_append.1 hx with h9 | h9
                · exact HC1.out.2.2.1 x h9
                · exact HFA8.out x (List.mem_of_mem_drop h9), HC1.out.2.2.2.trans hb5⟩
              clear hlo hsm hdl ho5 hb5
              go_upto_region 10 with fail
              apply wp_region_lit
              refine gw_val (by kernel_rfl) (some 65) rfl (.slice a7 C1.length c7) (by kernel_rfl) ?_
              simp only [pu1, pu2, pu3, pu4]
              refine gw_val (by kernel_rfl) (some 66) rfl (.slice bm M.length dm) (by kernel_rfl) ?_
              simp only [pu1, pu2, pu3, pu4]
              refine gw_val (by kernel_rfl) (some 67) rfl (.int .i64 i) (by kernel_rfl) ?_
              simp only [pu1, pu2, pu3, pu4]
              refine gw_val (by kernel_rfl) (some 68) rfl (.int .u8 h) (by kernel_rfl) ?_
              simp only [pu1, pu2, pu3, pu4]
              refine gw_val (by kernel_rfl) (some 69) rfl (.int .u8 z1) (and_8 rfl h 1 HZ1.out (by kernel_rfl) (by kernel_rfl) _) ?_
              simp only [pu1, pu2, pu3, pu4]
              refine gw_val (by kernel_rfl) (some 70) rfl (.int .i64 z1) (conv_u8 rfl z1 (by omega) (by have := HZL.out; omega) (by kernel_rfl) _) ?_
              simp only [pu1, pu2, pu3, pu4]
              refine gw_val (by kernel_rfl) (some 71) rfl (.int .i64 (i + z1 : Nat)) (add_nat rfl i z1 (by have := HZL.out; have := HIL.out; have := HFA.out; omega) (by kernel_rfl) (by kernel_rfl) _) ?_
              simp only [pu1, pu2, pu3, pu4]
              refine gw_val (by kernel_rfl) (some 72) rfl (.slice bm M.length dm) (by kernel_rfl) ?_
              simp only [pu1, pu2, pu3, pu4]
              refine gw_val (by kernel_rfl) (some 73) rfl (.int .i64 M.length) (by kernel_rfl) ?_
              simp only [pu1, pu2, pu3, pu4]
              refine gw_val (by kernel_rfl) (some 74) rfl (.int .i64 lo) (by rw [← HLO.out]; exact min_int rfl _ _ (by kernel_rfl) (by kernel_rfl) _) ?_
              simp only [pu1, pu2, pu3, pu4]
              refine gw_slice_hi (by kernel_rfl) (some 75) rfl 39 (.tmp 66) (.tmp 74) rfl (.slice bm M.length dm) (.int .i64 lo) (.slice (fromA bm dm lo) (M.length - lo) (dm - lo)) (by kernel_rfl) (by kernel_rfl) hcut ?_
              simp only [pu1, pu2, pu3, pu4]
              refine append_step rfl (some 76) rfl 39 rfl (.tmp 65) (.tmp 75) 39 rfl (.slice a7 C1.length c7) (.slice (fromA bm dm lo) (M.length - lo) (dm - lo)) (.slice a8 (C1 ++ M.drop lo).length c8) U5 (by kernel_rfl) (by kernel_rfl) hap ?_
              simp only [pu1, pu2, pu3, pu4]
              refine gw_val (by kernel_rfl) (some 16) rfl (.slice a8 (C1 ++ M.drop lo).length c8) (by kernel_rfl) ?_
              simp only [pu1, pu2, pu3, pu4]
              apply wpList_nil
              clear hap hcut hle
              go_wp2_with fail
              go_meet
              exact ⟨a8, c8, C1 ++ M.drop lo, rfl, HC2⟩
          case rest =>
            obtain ⟨a8, c8, C2, rfl, HC2⟩ := hcut
            clear HC1
            generalize wc = U5 at *
            obtain ⟨ax, cx, ex, hsC, hdC⟩ := HC2.out.1.sl
            simp only [Value.slice.injEq, true_and] at ex
            obtain ⟨rfl, rfl⟩ := ex
            have hb50 := HC2.out.2.2.2
            have hbn1 : Below U5.heap.size U5 (U5.alloc (.cells #[] 5)) := (Below.refl _ U5).alloc (Nat.le_refl _) _
            have hnl := nil_by U5
            have ho1 := nil_own U5
            have hs1 : U5.heap.size ≤ (U5.alloc (.cells #[] 5)).heap.size := hbn1.size
            generalize U5.alloc (.cells #[] 5) = U6 at *
            have hb60 := hb50.trans (hbn1.mono hb50.size)
            obtain ⟨a9, c9, U7, hap1, ho2, hb7⟩ := grow_by ho1 hs1 bm dm (sl_below HSM.out hb60) (by have := HFA.out; simp only [List.length_nil]; omega)
            rw [List.nil_append] at hap1 ho2
            have hb70 := hb60.trans (hb7.mono hb50.size)
            obtain ⟨ad, cd, U8, hap2, ho3, hb8⟩ := grow_by ho2 (Nat.le_trans hs1 hb7.size) ar cr (sl_below HSR.out hb70) (by have := HFA.out; have := HRL.out; omega)
            obtain ⟨ax, cx, ex, hsD, hdD⟩ := ho3.sl
            simp only [Value.slice.injEq, true_and] at ex
            obtain ⟨rfl, rfl⟩ := ex
            have hb58 := (hbn1.trans hb7).trans hb8
            have hb80 := hb50.trans (hb58.mono hb50.size)
            have hbd := build_five (ar, cr, R) (bm, dm, M) (bn, dn, N) (a8, c8, C2) (ad, cd, M ++ R) U8
            have hx9 : Bx (U8.alloc (.cells (bsc [(ar, cr, R), (bm, dm, M), (bn, dn, N), (a8, c8, C2), (ad, cd, M ++ R)]).toArray 39)) U8.heap.size (bsc [(ar, cr, R), (bm, dm, M), (bn, dn, N), (a8, c8, C2), (ad, cd, M ++ R)]).toArray 39 := heap_alloc_last U8 _
            have hb9 : Below U8.heap.size U8 (U8.alloc (.cells (bsc [(ar, cr, R), (bm, dm, M), (bn, dn, N), (a8, c8, C2), (ad, cd, M ++ R)]).toArray 39)) := (Below.refl _ U8).alloc (Nat.le_refl _) _
            generalize U8.alloc (.cells (bsc [(ar, cr, R), (bm, dm, M), (bn, dn, N), (a8, c8, C2), (ad, cd, M ++ R)]).toArray 39) = U9 at *
            have hb90 := hb80.trans (hb9.mono hb80.size)
            have HGOOD : Hid (∀ (j : Nat) (x : Bs), ([(ar, cr, R), (bm, dm, M), (bn, dn, N), (a8, c8, C2), (ad, cd, M ++ R)] : List Bs)[j]? = some x → Good U9 x) := Lib.hid (fun j x hx => by
              have hj : j < 5 := (List.getElem?_eq_some_iff.1 hx).1
              rcases (show j = 0 ∨ j = 1 ∨ j = 2 ∨ j = 3 ∨ j = 4 by omega) with rfl | rfl | rfl | rfl | rfl
              · cases hx; exact ⟨sl_below HSR.out hb90, HRC.out, HR8.out⟩
              · cases hx; exact ⟨sl_below HSM.out hb90, HDM.out, HFA8.out⟩
              · cases hx; exact ⟨sl_below HSN.out hb90, HDN.out, HFB8.out⟩
              · cases hx; exact ⟨sl_below (sl_below hsC hb58) hb9, hdC, HC2.out.2.2.1⟩
              · cases hx; exact ⟨sl_below hsD hb9, hdD, fun y hy => by
                  rcases List.mem_append.1 hy with h9 | h9
                  · exact HFA8.out y h9
                  · exact HR8.out y h9⟩)
            have HLEN : Hid (([(ar, cr, R), (bm, dm, M), (bn, dn, N), (a8, c8, C2), (ad, cd, M ++ R)] : List Bs).length = 5) := Lib.hid rfl
            have HBW9 := Lib.hid (HBW.out.trans (hb90.mono HBW.out.size))
            go_upto_region 11 with fail
            apply wp_region_lit
            refine gw_val (by kernel_rfl) (some 77) rfl (.slice ar R.length cr) (by kernel_rfl) ?_
            simp only [pu1, pu2, pu3, pu4]
            refine gw_val (by kernel_rfl) (some 78) rfl (.slice bm M.length dm) (by kernel_rfl) ?_
            simp only [pu1, pu2, pu3, pu4]
            refine gw_val (by kernel_rfl) (some 79) rfl (.slice bn N.length dn) (by kernel_rfl) ?_
            simp only [pu1, pu2, pu3, pu4]
            refine gw_val (by kernel_rfl) (some 80) rfl (.slice a8 C2.length c8) (by kernel_rfl) ?_
            simp only [pu1, pu2, pu3, pu4]
            refine gw_build (by kernel_rfl) (some 81) rfl 39 0 #[] rfl #[] (by kernel_rfl) (.slice (some ⟨U5.heap.size, 0, none⟩) 0 0) _ hnl ?_
            simp only [pu1, pu2, pu3, pu4]
            refine gw_val (by kernel_rfl) (some 82) rfl (.slice bm M.length dm) (by kernel_rfl) ?_
            simp only [pu1, pu2, pu3, pu4]
            refine append_step rfl (some 83) rfl 39 rfl (.tmp 81) (.tmp 82) 39 rfl (.slice (some ⟨U5.heap.size, 0, none⟩) 0 0) (.slice bm M.length dm) (.slice a9 M.length c9) U7 (by kernel_rfl) (by kernel_rfl) hap1 ?_
            simp only [pu1, pu2, pu3, pu4]
            refine gw_val (by kernel_rfl) (some 84) rfl (.slice ar R.length cr) (by kernel_rfl) ?_
            simp only [pu1, pu2, pu3, pu4]
            refine append_step rfl (some 85) rfl 39 rfl (.tmp 83) (.tmp 84) 39 rfl (.slice a9 M.length c9) (.slice ar R.length cr) (.slice ad (M ++ R).length cd) U8 (by kernel_rfl) (by kernel_rfl) hap2 ?_
            simp only [pu1, pu2, pu3, pu4]
            refine gw_build (by kernel_rfl) (some 86) rfl 48 5 #[(0, .tmp 77), (1, .tmp 78), (2, .tmp 79), (3, .tmp 80), (4, .tmp 85)] rfl #[(0, .slice ar R.length cr), (1, .slice bm M.length dm), (2, .slice bn N.length dn), (3, .slice a8 C2.length c8), (4, .slice ad (M ++ R).length cd)] (by kernel_rfl) (.slice (some ⟨U8.heap.size, 0, none⟩) 5 5) _ hbd ?_
            simp only [pu1, pu2, pu3, pu4]
            refine gw_val (by kernel_rfl) (some 87) rfl (.int .i64 5) (by kernel_rfl) ?_
            simp only [pu1, pu2, pu3, pu4]
            refine gw_val (by kernel_rfl) (some 88) rfl (.int .i64 0) (by kernel_rfl) ?_
            simp only [pu1, pu2, pu3, pu4]
            apply wpList_nil
            obtain ⟨gr, hgr⟩ : ∃ gr, U8.heap.size = gr := ⟨_, rfl⟩
            rw [hgr] at hx9 ⊢
            have HX9 := Lib.hid hx9
            generalize M ++ R = Q at *
            generalize ([(ar, cr, R), (bm, dm, M), (bn, dn, N), (a8, c8, C2), (ad, cd, Q)] : List Bs) = S at *
            obtain ⟨gu, hgu⟩ : ∃ gu, U5.heap.size = gu := ⟨_, rfl⟩
            rw [hgu]
            clear hsC hdC hb50 hbn1 hnl ho1 hs1 hb60 hap1 ho2 hb7 hb70 hap2 ho3 hb8 hsD hdD hb58 hb80 hbd hx9 hb9 hb90 hgr hgu HC2
            go_wp2_with fail
            go_loopg [88] 5 (fun gg s88 wx => ∃ j : Nat, s88 = .int .i64 j ∧ j ≤ 5 ∧ Hid (Below U9.heap.size U9 wx) ∧ 5 - j = gg)
            case atStart => exact ⟨0, rfl, by omega, Lib.hid (Below.refl _ _), by omega⟩
            case round =>
              obtain ⟨j, rfl, hj, HS, hg⟩ := hrel
              by_cases hlt : j < 5
              · skip
                have HG : Hid (5 - (j + 1) = gk - 1 ∧ 0 < gk ∧ j + 1 ≤ 5) := Lib.hid ⟨by omega, by omega, by omega⟩
                obtain ⟨x, hxj⟩ : ∃ x, S[j]? = some x := ⟨_, List.getElem?_eq_getElem (by rw [HLEN.out]; exact hlt)⟩
                have hgd := (HGOOD.out j x hxj).below HS.out
                have hld := load_bs (HX9.out.below HX9.out.lt HS.out) hxj
                have hbx := HBW9.out.trans (HS.out.mono HBW9.out.size)
                obtain ⟨A, C, X⟩ := x
                obtain ⟨hsX, hcX, h8X⟩ := hgd
                dsimp only at hsX hcX h8X
                have H8X := Lib.hid h8X
                have HCX := Lib.hid hcX
                have hdl := dec_len X h8X
                have CD := q_decode A C X wr hsX hcX h8X
                have CR := fun V h => ref_decode A C X V h hcX h8X
                obtain ⟨D, ee, hEX⟩ : ∃ D ee, decX X = (D, ee) := ⟨_, _, rfl⟩
                have hdb : ee = 0 → encX D = (X, 0) ∧ TxB D := fun h0 => dec_back h8X (by rw [hEX, h0])
                rw [hEX] at hdl CD
                simp only [hEX] at CR
                dsimp only at hdl
                have HDB := Lib.hid hdb
                have HDL := Lib.hid hdl
                clear hdb hdl hEX hg h8X hcX hxj
                have hld : (Instr.loadAt 39 (.pointer (some ⟨gr, 0 + j, none⟩))).run Try.prog wr = .ok (.slice A X.length C) wr := hld
                go_upto_region 12 with fail
                apply wp_region_lit
                refine gw_val (by kernel_rfl) (some 89) rfl (.bool true) (lss_n rfl (j) (5) (decide_eq_true (by omega)) (by kernel_rfl) (by kernel_rfl) _) ?_
                simp only [pu1, pu2, pu3, pu4]
                apply wpList_nil
                go_upto_region 13 with fail
                apply wp_region_lit
                refine gw_val (by kernel_rfl) (some 90) rfl (.pointer (some ⟨gr, 0 + j, none⟩)) (idx_bs gr 0 5 5 j hlt _ rfl (by kernel_rfl) (by kernel_rfl)) ?_
                simp only [pu1, pu2, pu3, pu4]
                refine gw_load (by kernel_rfl) (some 91) rfl 39 (.tmp 90) rfl ⟨gr, 0 + j, none⟩ (.slice A X.length C) (by kernel_rfl) (hld) ?_
                simp only [pu1, pu2, pu3, pu4]
                refine gw_val (by kernel_rfl) (some 18) rfl (.slice A X.length C) (by kernel_rfl) ?_
                simp only [pu1, pu2, pu3, pu4]
                apply wpList_nil
                clear hld
                go_upto_region 14 with fail
                apply wp_region_lit
                refine gw_val (by kernel_rfl) (some 93) rfl (.slice A X.length C) (by kernel_rfl) ?_
                simp only [pu1, pu2, pu3, pu4]
                refine gw_callE (by kernel_rfl) (some 94) rfl 22 #[.slice A X.length C] (fun v w' => ∃ a c, v = .tuple #[.agg (txA D a c), .int .i64 ee] ∧ RowT w' wr.heap.size (.slice a D.tr.length c) D.tr ∧ Below wr.heap.size wr w') (by kernel_rfl) ((CD).mono fun e w' q => by obtain ⟨a, c, h1, h2, h3⟩ := q; exact ⟨_, h1, a, c, rfl, h2, h3⟩) (fun vv Y6 hq => ?_)
                obtain ⟨a3, c3, rfl, hr3, hb3⟩ := hq
                obtain ⟨Y7, hst3, hbs3, hbx3⟩ := new_txv Y6 D a3 c3
                simp only [pu1, pu2, pu3, pu4]
                refine gw_val (by kernel_rfl) (some 92) rfl (.tuple #[.agg (txA D a3 c3), .int .i64 ee]) (by kernel_rfl) ?_
                simp only [pu1, pu2, pu3, pu4]
                refine gw_val (by kernel_rfl) (some 95) rfl (.agg (txA D a3 c3)) (by kernel_rfl) ?_
                simp only [pu1, pu2, pu3, pu4]
                refine gw_val (by kernel_rfl) (some 96) rfl (.int .i64 ee) (by kernel_rfl) ?_
                simp only [pu1, pu2, pu3, pu4]
                refine run_to rfl (some 19) rfl (.pointer (some ⟨Y6.heap.size, 0, none⟩)) (Y6.alloc (.cells (txA zX none 0) 29)) (by kernel_rfl) ?_
                simp only [pu1, pu2, pu3, pu4]
                refine gw_store (by kernel_rfl) rfl 29 (.tmp 19) (.tmp 95) rfl (.pointer (some ⟨Y6.heap.size, 0, none⟩)) (.agg (txA D a3 c3)) (by kernel_rfl) (by kernel_rfl) (Y7) (hst3) ?_
                refine gw_val (by kernel_rfl) (some 20) rfl (.int .i64 ee) (by kernel_rfl) ?_
                simp only [pu1, pu2, pu3, pu4]
                apply wpList_nil
                obtain ⟨g19, hg19⟩ : ∃ g19, Y6.heap.size = g19 := ⟨_, rfl⟩
                have hb7 := hb3.trans (hbs3.mono hb3.size)
                obtain ⟨ax, cx, ex, hc3, -⟩ := (hr3.below hbs3).cs
                simp only [Value.slice.injEq, true_and] at ex
                obtain ⟨rfl, rfl⟩ := ex
                have CR7 := CR Y7 (sl_below hsX hb7)
                have hsX7 := sl_below hsX hb7
                have HS7 := HS.out.trans (hb7.mono HS.out.size)
                have hbw7 := hbx.trans (hb7.mono hbx.size)
                rw [hg19] at hbx3 ⊢
                clear hst3 hbs3 hb3 hr3 hb7 hsX CD CR HS hbx hg19
                go_upto_region 15 with fail
                apply wp_region_lit
                refine gw_val (by kernel_rfl) (some 98) rfl (.slice A X.length C) (by kernel_rfl) ?_
                simp only [pu1, pu2, pu3, pu4]
                refine gw_callE (by kernel_rfl) (some 99) rfl 25 #[.slice A X.length C] (fun v w' => ∃ a c, v = .tuple #[.agg (txA D a c), .int .i64 ee] ∧ RowT w' Y7.heap.size (.slice a D.tr.length c) D.tr ∧ Below Y7.heap.size Y7 w') (by kernel_rfl) ((CR7).mono fun e w' q => by obtain ⟨a, c, h1, h2, h3⟩ := q; exact ⟨_, h1, a, c, rfl, h2, h3⟩) (fun vv Y8 hq => ?_)
                obtain ⟨a4, c4, rfl, hr4, hb4⟩ := hq
                obtain ⟨Y9, hst4, hbs4, hbx4⟩ := new_txv Y8 D a4 c4
                simp only [pu1, pu2, pu3, pu4]
                refine gw_val (by kernel_rfl) (some 97) rfl (.tuple #[.agg (txA D a4 c4), .int .i64 ee]) (by kernel_rfl) ?_
                simp only [pu1, pu2, pu3, pu4]
                refine gw_val (by kernel_rfl) (some 100) rfl (.agg (txA D a4 c4)) (by kernel_rfl) ?_
                simp only [pu1, pu2, pu3, pu4]
                refine gw_val (by kernel_rfl) (some 101) rfl (.int .i64 ee) (by kernel_rfl) ?_
                simp only [pu1, pu2, pu3, pu4]
                refine run_to rfl (some 21) rfl (.pointer (some ⟨Y8.heap.size, 0, none⟩)) (Y8.alloc (.cells (txA zX none 0) 29)) (by kernel_rfl) ?_
                simp only [pu1, pu2, pu3, pu4]
                refine gw_store (by kernel_rfl) rfl 29 (.tmp 21) (.tmp 100) rfl (.pointer (some ⟨Y8.heap.size, 0, none⟩)) (.agg (txA D a4 c4)) (by kernel_rfl) (by kernel_rfl) (Y9) (hst4) ?_
                refine gw_val (by kernel_rfl) (some 22) rfl (.int .i64 ee) (by kernel_rfl) ?_
                simp only [pu1, pu2, pu3, pu4]
                apply wpList_nil
                obtain ⟨g21, hg21⟩ : ∃ g21, Y8.heap.size = g21 := ⟨_, rfl⟩
                have hb9 := hb4.trans (hbs4.mono hb4.size)
                obtain ⟨ax, cx, ex, hc4, -⟩ := (hr4.below hbs4).cs
                simp only [Value.slice.injEq, true_and] at ex
                obtain ⟨rfl, rfl⟩ := ex
                have hc39 := hc3.below hb9
                have hx3 := hbx3.below hbx3.lt hb9
                have hsX9 := sl_below hsX7 hb9
                have HS9 := HS7.trans (hb9.mono HS7.size)
                have CSX := ref_sametx D a3 a4 c3 c4 Y9 hc39 hc4 (by have := HDL.out; omega)
                rw [hg21] at hbx4 ⊢
                clear hst4 hbs4 hb4 hr4 hsX7 CR7 HS7 hc3 hbx3 hg21 hc4 hb9
                go_upto_region 16 with fail
                apply wp_region_lit
                refine gw_val (by kernel_rfl) (some 102) rfl (.int .i64 ee) (by kernel_rfl) ?_
                simp only [pu1, pu2, pu3, pu4]
                refine gw_val (by kernel_rfl) (some 103) rfl (.int .i64 ee) (by kernel_rfl) ?_
                simp only [pu1, pu2, pu3, pu4]
                refine gw_val (by kernel_rfl) (some 104) rfl (.bool false) (neq_e rfl ee ee (decide_eq_true rfl) (by kernel_rfl) (by kernel_rfl) _) ?_
                simp only [pu1, pu2, pu3, pu4]
                refine gw_val (by kernel_rfl) (some 105) rfl (.bool false) (by kernel_rfl) ?_
                simp only [pu1, pu2, pu3, pu4]
                refine gw_load (by kernel_rfl) (some 106) rfl 29 (.tmp 19) rfl ⟨g19, 0, none⟩ (.agg (txA D a3 c3)) (by kernel_rfl) (load_txb hx3) ?_
                simp only [pu1, pu2, pu3, pu4]
                refine gw_load (by kernel_rfl) (some 107) rfl 29 (.tmp 21) rfl ⟨g21, 0, none⟩ (.agg (txA D a4 c4)) (by kernel_rfl) (load_txb hbx4) ?_
                simp only [pu1, pu2, pu3, pu4]
                refine gw_call (by kernel_rfl) (some 108) rfl 23 #[.agg (txA D a3 c3), .agg (txA D a4 c4)] (.bool true) (fun w' => Below Y9.heap.size Y9 w') (by kernel_rfl) CSX (fun Z1 hz1 => ?_)
                simp only [pu1, pu2, pu3, pu4]
                refine gw_val (by kernel_rfl) (some 109) rfl (.bool false) (by kernel_rfl) ?_
                simp only [pu1, pu2, pu3, pu4]
                refine gw_val (by kernel_rfl) (some 110) rfl (.bool false) (by kernel_rfl) ?_
                simp only [pu1, pu2, pu3, pu4]
                apply wpList_nil
                have HSZ := Lib.hid (HS9.trans (hz1.mono HS9.size))
                have hcZ := hc39.below hz1
                have hxZ := hx3.below hx3.lt hz1
                have hsZ := sl_below hsX9 hz1
                clear HS9 hc39 hx3 hsX9 hz1 CSX hbx4
                go_upto_region 18 with fail
                by_cases h0 : ee = 0
                · skip
                  subst h0
                  obtain ⟨hE, htb⟩ := HDB.out rfl
                  have CE := q_encode D a3 c3 Z1 hcZ htb
                  unfold EncO at CE
                  rw [hE] at CE
                  dsimp only at CE
                  apply wp_region_lit
                  refine gw_val (by kernel_rfl) (some 111) rfl (.int .i64 0) (by kernel_rfl) ?_
                  simp only [pu1, pu2, pu3, pu4]
                  refine gw_val (by kernel_rfl) (some 112) rfl (.bool true) (eql_e rfl (0) (0) (decide_eq_true (rfl)) (by kernel_rfl) (by kernel_rfl) _) ?_
                  simp only [pu1, pu2, pu3, pu4]
                  apply wpList_nil
                  go_upto_region 19 with fail
                  apply wp_region_lit
                  refine gw_load (by kernel_rfl) (some 114) rfl 29 (.tmp 19) rfl ⟨g19, 0, none⟩ (.agg (txA D a3 c3)) (by kernel_rfl) (load_txb hxZ) ?_
                  simp only [pu1, pu2, pu3, pu4]
                  refine gw_callE (by kernel_rfl) (some 115) rfl 19 #[.agg (txA D a3 c3)] (fun v w' => ∃ u, v = .tuple #[u, .int .i64 0] ∧ Own w' Z1.heap.size u X ∧ Below Z1.heap.size Z1 w') (by kernel_rfl) (CE.mono fun e w' q => by obtain ⟨u, h1, h2, h3⟩ := q; exact ⟨_, h1, u, rfl, h2, h3⟩) (fun vv Z2 hq => ?_)
                  obtain ⟨u9, rfl, hO9, hb9⟩ := hq
                  obtain ⟨b9, d9, rfl, hs9, hd9⟩ := hO9.sl
                  have CS := ref_same b9 d9 X A C X Z2 hs9 (sl_below hsZ hb9) H8X.out H8X.out
                  rw [show decide (X = X) = true from decide_eq_true rfl] at CS
                  simp only [pu1, pu2, pu3, pu4]
                  refine gw_val (by kernel_rfl) (some 113) rfl (.tuple #[.slice b9 X.length d9, .int .i64 0]) (by kernel_rfl) ?_
                  simp only [pu1, pu2, pu3, pu4]
                  refine gw_val (by kernel_rfl) (some 116) rfl (.slice b9 X.length d9) (by kernel_rfl) ?_
                  simp only [pu1, pu2, pu3, pu4]
                  refine gw_val (by kernel_rfl) (some 117) rfl (.int .i64 0) (by kernel_rfl) ?_
                  simp only [pu1, pu2, pu3, pu4]
                  refine gw_val (by kernel_rfl) (some 23) rfl (.slice b9 X.length d9) (by kernel_rfl) ?_
                  simp only [pu1, pu2, pu3, pu4]
                  refine gw_val (by kernel_rfl) (some 24) rfl (.int .i64 0) (by kernel_rfl) ?_
                  simp only [pu1, pu2, pu3, pu4]
                  apply wpList_nil
                  have HSY := Lib.hid (HSZ.out.trans (hb9.mono HSZ.out.size))
                  clear hb9 hO9 hs9 hd9 CE hE hcZ hxZ hsZ HSZ
                  go_upto_region 20 with fail
                  apply wp_region_lit
                  refine gw_val (by kernel_rfl) (some 118) rfl (.int .i64 0) (by kernel_rfl) ?_
                  simp only [pu1, pu2, pu3, pu4]
                  refine gw_val (by kernel_rfl) (some 119) rfl (.bool false) (neq_e rfl 0 0 (decide_eq_true rfl) (by kernel_rfl) (by kernel_rfl) _) ?_
                  simp only [pu1, pu2, pu3, pu4]
                  refine gw_val (by kernel_rfl) (some 120) rfl (.bool false) (by kernel_rfl) ?_
                  simp only [pu1, pu2, pu3, pu4]
                  refine gw_val (by kernel_rfl) (some 121) rfl (.slice b9 X.length d9) (by kernel_rfl) ?_
                  simp only [pu1, pu2, pu3, pu4]
                  refine gw_val (by kernel_rfl) (some 122) rfl (.slice A X.length C) (by kernel_rfl) ?_
                  simp only [pu1, pu2, pu3, pu4]
                  refine gw_call (by kernel_rfl) (some 123) rfl 21 #[.slice b9 X.length d9, .slice A X.length C] (.bool true) (fun w' => Z2 = w') (by kernel_rfl) (CS) (fun V9 hV9 => ?_)
                  subst hV9
                  simp only [pu1, pu2, pu3, pu4]
                  refine gw_val (by kernel_rfl) (some 124) rfl (.bool false) (by kernel_rfl) ?_
                  simp only [pu1, pu2, pu3, pu4]
                  refine gw_val (by kernel_rfl) (some 125) rfl (.bool false) (by kernel_rfl) ?_
                  simp only [pu1, pu2, pu3, pu4]
                  apply wpList_nil
                  clear CS
                  go_upto_region 22 with fail
                  apply wp_region_lit
                  refine gw_val (by kernel_rfl) (some 126) rfl (.int .i64 (j + 1 : Nat)) (add_one rfl j (by omega) (by kernel_rfl) _) ?_
                  simp only [pu1, pu2, pu3, pu4]
                  refine gw_val (by kernel_rfl) (some 88) rfl (.int .i64 (j + 1 : Nat)) (by kernel_rfl) ?_
                  simp only [pu1, pu2, pu3, pu4]
                  apply wpList_nil
                  go_wp2_with fail
                  go_roundg (gk - 1)
                  case measure => have := HG.out; omega
                  case rel => exact ⟨j + 1, rfl, HG.out.2.2, HSY, HG.out.1⟩
                · skip
                  apply wp_region_lit
                  refine gw_val (by kernel_rfl) (some 111) rfl (.int .i64 ee) (by kernel_rfl) ?_
                  simp only [pu1, pu2, pu3, pu4]
                  refine gw_val (by kernel_rfl) (some 112) rfl (.bool false) (eql_e rfl (ee) (0) (decide_eq_false (h0)) (by kernel_rfl) (by kernel_rfl) _) ?_
                  simp only [pu1, pu2, pu3, pu4]
                  apply wpList_nil
                  go_upto_region 22 with fail
                  apply wp_region_lit
                  refine gw_val (by kernel_rfl) (some 126) rfl (.int .i64 (j + 1 : Nat)) (add_one rfl j (by omega) (by kernel_rfl) _) ?_
                  simp only [pu1, pu2, pu3, pu4]
                  refine gw_val (by kernel_rfl) (some 88) rfl (.int .i64 (j + 1 : Nat)) (by kernel_rfl) ?_
                  simp only [pu1, pu2, pu3, pu4]
                  apply wpList_nil
                  go_wp2_with fail
                  go_roundg (gk - 1)
                  case measure => have := HG.out; omega
                  case rel => exact ⟨j + 1, rfl, HG.out.2.2, HSZ, HG.out.1⟩
              · skip
                go_upto_region 12 with fail
                apply wp_region_lit
                refine gw_val (by kernel_rfl) (some 89) rfl (.bool false) (lss_n rfl (j) (5) (decide_eq_false (by omega)) (by kernel_rfl) (by kernel_rfl) _) ?_
                simp only [pu1, pu2, pu3, pu4]
                apply wpList_nil
                have hbw := HBW9.out.trans (HS.out.mono HBW9.out.size)
                go_upto_region 23 with fail
                apply wp_region_lit
                refine gw_call (by kernel_rfl) (some 127) rfl 9 #[] (.bool true) (fun w' => Below w.heap.size w w') (by kernel_rfl) (HK.out wr hbw) (fun V9 hV9 => ?_)
                simp only [pu1, pu2, pu3, pu4]
                refine gw_val (by kernel_rfl) (some 10) rfl (.bool true) (by kernel_rfl) ?_
                simp only [pu1, pu2, pu3, pu4]
                apply wpList_nil
                have HE := Lib.hid hV9
                clear hV9 hbw
                go_wp2_with fail
                go_ret
                exact ⟨rfl, HE.out⟩
end Go.Proofs.Ytaaeepanelmgnaa
