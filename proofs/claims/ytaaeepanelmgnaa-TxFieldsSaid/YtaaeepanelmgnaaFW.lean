/-
  The walk of TxFields.
-/
import Derived.Test.YtaaeepanelmgnaaFK
import Derived.Deep.DeepCutAuto
import Derived.Deep.CutBlock
namespace Go.Proofs.Ytaaeepanelmgnaa
open Go.RowKit
set_option linter.unusedSimpArgs false
set_option linter.unusedVariables false

/-- What is said of the fields that are made. -/
def Okf (P : List (Fld × Value)) : Prop := P.length ≤ 20 ∧ ∀ p, p ∈ P → Vf p.1 ∧ p.1.bytes.length ≤ 10000
/-- What region 12 keeps. -/
structure K12 (W : World) (gm n cm : Nat) (ls : List (Fld × Value)) (x y : Nat) (qx qy : Fld × Value) (b7 b11 b13 b15 : Bool) (V : World) : Prop where
  bel : Below W.heap.size W V
  o7 : b13 = true → b7 = true
  o11 : b13 = true → b11 = true
  o15 : b15 = true → b13 = true
  r0 : b13 = false → RowL V W.heap.size (.slice (some ⟨gm, 0, none⟩) n cm) ls
  r1 : b13 = true → b15 = false → RowL V W.heap.size (.slice (some ⟨gm, 0, none⟩) n cm) (ls.set x qy)
  r2 : b15 = true → RowL V W.heap.size (.slice (some ⟨gm, 0, none⟩) n cm) ((ls.set x qy).set y qx)
set_option maxRecDepth 100000 in
set_option maxHeartbeats 8000000 in
theorem fields_core (ak : Option Addr) (ck : Nat) (L : List Int) (i j h : Nat) (w : World) (hl : L.length ≤ 9223372036854775807) (hk : Cs w ak (icells L)) (hi : i ≤ 255) (hj : j ≤ 255) (hh : h ≤ 255) :
    Calls Try.prog 7 #[.slice ak L.length ck, .int .u8 i, .int .u8 j, .int .u8 h] w fun e w' => e = .returned (.bool true) ∧ Below w.heap.size w w' := by
  have HK := Lib.hid (fun (V : World) (h : Below w.heap.size w V) => (known_true V).mono fun e w' (q : e = .returned (.bool true) ∧ Below V.heap.size V w') => (⟨q.1, h.trans (q.2.mono h.size)⟩ : e = .returned (.bool true) ∧ Below w.heap.size w w'))
  have HNL := Lib.hid hl
  have HI := Lib.hid hi
  have HJ := Lib.hid hj
  have HH := Lib.hid hh
  have hbl : Below w.heap.size w (w.alloc (.cells #[.slice ak L.length ck] 30)) := (Below.refl _ w).alloc (Nat.le_refl _) _
  have HCK := hk.below hbl
  have CLn := long_one w.heap.size ak L.length ck (w.alloc (.cells #[.slice ak L.length ck] 30)) (heap_alloc_last w _) HNL.out
  have hor := one_row ak L.length ck w
  generalize w.alloc (.cells #[.slice ak L.length ck] 30) = W1 at *
  clear hl hk hi hj hh
  go_enter Try.func7, Try.ntmps7
  go_upto_region 1 with fail
  by_cases hL : 160 < L.length
  · skip
    rw [decide_eq_true (by omega)] at CLn
    apply wp_region_lit
    refine gw_val (by kernel_rfl) (some 22) rfl (.slice ak L.length ck) (by kernel_rfl) ?_
    simp only [pu1, pu2, pu3, pu4]
    refine gw_build (by kernel_rfl) (some 23) rfl 64 1 #[(0, .tmp 22)] rfl #[(0, .slice ak L.length ck)] (by kernel_rfl) (.slice (some ⟨w.heap.size, 0, none⟩) 1 1) _ hor ?_
    simp only [pu1, pu2, pu3, pu4]
    refine gw_call (by kernel_rfl) (some 24) rfl 14 #[.slice (some ⟨w.heap.size, 0, none⟩) 1 1] (.bool true) (fun w' => W1 = w') (by kernel_rfl) CLn (fun W2 hW => ?_)
    subst hW
    simp only [pu1, pu2, pu3, pu4]
    apply wpList_nil
    clear CLn hor HCK
    go_upto_region 2 with fail
    apply wp_region_lit
    refine gw_call (by kernel_rfl) (some 25) rfl 9 #[] (.bool true) (fun w' => Below w.heap.size w w') (by kernel_rfl) (HK.out W1 (hbl)) (fun V9 hV9 => ?_)
    simp only [pu1, pu2, pu3, pu4]
    refine gw_val (by kernel_rfl) (some 8) rfl (.bool true) (by kernel_rfl) ?_
    simp only [pu1, pu2, pu3, pu4]
    apply wpList_nil
    have HE := Lib.hid hV9
    clear hV9
    go_wp2_with fail
    go_ret
    exact ⟨rfl, HE.out⟩
  · skip
    rw [decide_eq_false (by omega)] at CLn
    apply wp_region_lit
    refine gw_val (by kernel_rfl) (some 22) rfl (.slice ak L.length ck) (by kernel_rfl) ?_
    simp only [pu1, pu2, pu3, pu4]
    refine gw_build (by kernel_rfl) (some 23) rfl 64 1 #[(0, .tmp 22)] rfl #[(0, .slice ak L.length ck)] (by kernel_rfl) (.slice (some ⟨w.heap.size, 0, none⟩) 1 1) _ hor ?_
    simp only [pu1, pu2, pu3, pu4]
    refine gw_call (by kernel_rfl) (some 24) rfl 14 #[.slice (some ⟨w.heap.size, 0, none⟩) 1 1] (.bool false) (fun w' => W1 = w') (by kernel_rfl) CLn (fun W2 hW => ?_)
    subst hW
    simp only [pu1, pu2, pu3, pu4]
    apply wpList_nil
    have CM := made_any ak ck L zX none 0 W1 HCK (by omega) (Cs.nil _ _) ⟨w64_0, w64_0, w64_0, (fun x hx => by cases hx), (by decide), (by decide), (fun x hx => by cases hx)⟩ (by decide)
    clear CLn hor HCK hL
    go_upto_region 3 with fail
    apply wp_region_lit
    refine gw_val (by kernel_rfl) (some 27) rfl (.slice ak L.length ck) (by kernel_rfl) ?_
    simp only [pu1, pu2, pu3, pu4]
    refine gw_val (by kernel_rfl) (some 28) rfl (.agg (txA zX none 0)) (by kernel_rfl) ?_
    simp only [pu1, pu2, pu3, pu4]
    refine gw_callE (by kernel_rfl) (some 29) rfl 16 #[.slice ak L.length ck, .agg (txA zX none 0)] (fun v w' => ∃ xa xb a1 c1 a2 c2, v = .tuple #[.agg (txA xa a1 c1), .agg (txA xb a2 c2)] ∧ Cs w' a1 (tfc xa.tr) ∧ GQ xa ∧ 1 ≤ xa.tr.length ∧ xa.tr.length ≤ 3 ∧ Below W1.heap.size W1 w') (by kernel_rfl) (CM.mono fun e w' q => by obtain ⟨xa, xb, a1, c1, a2, c2, h1, h2, h3, h4, h5, h6, h7, h8, h9⟩ := q; exact ⟨_, h1, xa, xb, a1, c1, a2, c2, rfl, h2, h4, h5, h6, h9⟩) (fun vv V4 hq => ?_)
    obtain ⟨xa, xb, a1, c1, a2, c2, rfl, hca, hgq, hm1, hm3, hbm⟩ := hq
    obtain ⟨Va, V5, V6, hVa, hlt, hst5, hst6, hbn, hx5, hx6⟩ := new_two V4 xa xb a1 a2 c1 c2
    simp only [pu1, pu2, pu3, pu4]
    refine gw_val (by kernel_rfl) (some 26) rfl (.tuple #[.agg (txA xa a1 c1), .agg (txA xb a2 c2)]) (by kernel_rfl) ?_
    simp only [pu1, pu2, pu3, pu4]
    refine gw_val (by kernel_rfl) (some 30) rfl (.agg (txA xa a1 c1)) (by kernel_rfl) ?_
    simp only [pu1, pu2, pu3, pu4]
    refine gw_val (by kernel_rfl) (some 31) rfl (.agg (txA xb a2 c2)) (by kernel_rfl) ?_
    simp only [pu1, pu2, pu3, pu4]
    refine run_to rfl (some 9) rfl (.pointer (some ⟨V4.heap.size, 0, none⟩)) (V4.alloc (.cells (txA zX none 0) 29)) (by kernel_rfl) ?_
    simp only [pu1, pu2, pu3, pu4]
    rw [hVa]
    refine run_to rfl (some 10) rfl (.pointer (some ⟨Va.heap.size, 0, none⟩)) (Va.alloc (.cells (txA zX none 0) 29)) (by kernel_rfl) ?_
    simp only [pu1, pu2, pu3, pu4]
    refine gw_store (by kernel_rfl) rfl 29 (.tmp 9) (.tmp 30) rfl (.pointer (some ⟨V4.heap.size, 0, none⟩)) (.agg (txA xa a1 c1)) (by kernel_rfl) (by kernel_rfl) (V5) (hst5) ?_
    refine gw_store (by kernel_rfl) rfl 29 (.tmp 10) (.tmp 31) rfl (.pointer (some ⟨Va.heap.size, 0, none⟩)) (.agg (txA xb a2 c2)) (by kernel_rfl) (by kernel_rfl) (V6) (hst6) ?_
    apply wpList_nil
    have hb46 := hbm.trans (hbn.mono hbm.size)
    have hb6 := hbl.trans (hb46.mono hbl.size)
    have hok : OkX xa := (val_ok (hgq.val hm1 (by omega)) hgq.b.sq hgq.b.gas hgq.b.fee hgq.b.am).1
    have hfl : (form xa).length ≤ 10000 := by have h1 := (form_len xa).1; have h2 := hgq.wt hm3; omega
    have htl : (txF xa).length ≤ 8 := by have := txF_len xa; omega
    have HFL : Hid (flds (form xa) = (txF xa, 0, 0)) := Lib.hid (flds_msg hok.vf (by omega))
    have HVF : Hid (∀ f, f ∈ txF xa → Vf f ∧ f.bytes.length ≤ 10000) := Lib.hid (fun f hf => ⟨hok.vf f hf, Nat.le_trans (bytes_le_msg _ f hf) hfl⟩)
    have CF := ref_form xa a1 c1 V6 (hca.below hbn) hok
    have HF8 := Lib.hid (msg_bytes hok.vf)
    obtain ⟨g5, hg5⟩ : ∃ g5, V4.heap.size = g5 := ⟨_, rfl⟩
    obtain ⟨g6, hg6⟩ : ∃ g6, Va.heap.size = g6 := ⟨_, rfl⟩
    rw [hg5] at hx5
    rw [hg5, hg6]
    clear hVa hlt hst5 hst6 hbn hx6 hg5 hg6 CM hb46 hbm hca hgq hm1 hm3 hok hbl
    go_upto_region 4 with fail
    apply wp_region_lit
    refine gw_load (by kernel_rfl) (some 33) rfl 29 (.tmp 9) rfl ⟨g5, 0, none⟩ (.agg (txA xa a1 c1)) (by kernel_rfl) (load_txb hx5) ?_
    simp only [pu1, pu2, pu3, pu4]
    refine gw_callE (by kernel_rfl) (some 34) rfl 24 #[.agg (txA xa a1 c1)] (fun v w' => Own w' V6.heap.size v (form xa) ∧ Below V6.heap.size V6 w') (by kernel_rfl) (CF.mono fun e w' q => by obtain ⟨v, h1, h2, h3⟩ := q; exact ⟨_, h1, h2, h3⟩) (fun vv V7 hq => ?_)
    obtain ⟨hO, hb7⟩ := hq
    obtain ⟨bf, df, rfl, hsf, hdf⟩ := hO.sl
    have CFl := ref_fields bf df (form xa) V7 (by omega) hsf HF8.out hdf
    rw [HFL.out] at CFl
    simp only [pu1, pu2, pu3, pu4]
    refine gw_callE (by kernel_rfl) (some 35) rfl 26 #[.slice bf (form xa).length df] (fun v w' => ∃ u ps, v = .tuple #[u, .int .i64 0, .int .i64 0] ∧ ps.map Prod.fst = txF xa ∧ RowB w' V7.heap.size u ps ∧ Below V7.heap.size V7 w') (by kernel_rfl) (CFl.mono fun e w' q => by obtain ⟨u, ps, h1, h2⟩ := q; exact ⟨_, h1, u, ps, rfl, h2⟩) (fun vv V8 hq => ?_)
    obtain ⟨u8, ls, rfl, hls, hRB, hb8⟩ := hq
    obtain ⟨al, cl, rfl, hcs, hcl⟩ := own_cs hRB.1
    simp only [pu1, pu2, pu3, pu4]
    refine gw_val (by kernel_rfl) (some 32) rfl (.tuple #[.slice al ls.length cl, .int .i64 0, .int .i64 0]) (by kernel_rfl) ?_
    simp only [pu1, pu2, pu3, pu4]
    refine gw_val (by kernel_rfl) (some 36) rfl (.slice al ls.length cl) (by kernel_rfl) ?_
    simp only [pu1, pu2, pu3, pu4]
    refine gw_val (by kernel_rfl) (some 37) rfl (.int .i64 0) (by kernel_rfl) ?_
    simp only [pu1, pu2, pu3, pu4]
    refine gw_val (by kernel_rfl) (some 38) rfl (.int .i64 0) (by kernel_rfl) ?_
    simp only [pu1, pu2, pu3, pu4]
    refine gw_val (by kernel_rfl) (some 11) rfl (.slice al ls.length cl) (by kernel_rfl) ?_
    simp only [pu1, pu2, pu3, pu4]
    refine gw_val (by kernel_rfl) (some 12) rfl (.int .i64 0) (by kernel_rfl) ?_
    simp only [pu1, pu2, pu3, pu4]
    refine gw_val (by kernel_rfl) (some 13) rfl (.int .i64 0) (by kernel_rfl) ?_
    simp only [pu1, pu2, pu3, pu4]
    apply wpList_nil
    have hlen : ls.length ≤ 8 := by rw [← List.length_map (f := Prod.fst), hls]; exact htl
    have HLV : Hid (∀ p, p ∈ ls → Vf p.1 ∧ p.1.bytes.length ≤ 10000) := Lib.hid (fun p hp => HVF.out p.1 (by rw [← hls]; exact List.mem_map_of_mem hp))
    have HLO : Hid (∀ p, p ∈ ls → Lo V8 V8.heap.size p) := Lib.hid (fun p hp => by
      obtain ⟨a, c, h1, h2, -⟩ := (hRB.2 p hp).sl
      refine ⟨a, c, h1, h2, fun hne x hx => ?_⟩
      obtain ⟨b, off, e, hb, -⟩ := sl_at h2 (k := 0) (List.length_pos_iff.2 hne)
      rw [hx] at e
      cases e
      exact hb)
    obtain ⟨n, hn⟩ : ∃ n, ls.length = n := ⟨_, rfl⟩
    have HNN := Lib.hid hn
    have HCS := Lib.hid hcs
    have hfs := hRB.fs
    have HFS : Hid (Fs V8 al ls) := Lib.hid (by obtain ⟨a, c, e, -, hf⟩ := hfs; simp only [Value.slice.injEq] at e; obtain ⟨rfl, -, -⟩ := e; exact hf)
    have HOA : Hid (0 < ls.length → ∃ gl, al = some ⟨gl, 0, none⟩) := Lib.hid (fun h0 => by obtain ⟨gl, e, -⟩ := own_at hRB.1 h0; exact ⟨gl, e⟩)
    have HB8 := Lib.hid (hb6.trans ((hb7.trans (hb8.mono hb7.size)).mono hb6.size))
    rw [hn] at hlen hcl ⊢
    have HCL : Hid (n ≤ 8 ∧ n ≤ cl) := Lib.hid ⟨hlen, hcl⟩
    obtain ⟨fx, hfx⟩ : ∃ fx, (form xa).length = fx := ⟨_, rfl⟩
    rw [hfx]
    clear hO hsf hdf CFl CF hls hRB hcs hfs hn hb6 hb7 hb8 hcl hx5 hfl htl hfx
    by_cases h2 : n < 2
    · skip
      go_upto_region 5 with fail
      apply wp_region_lit
      refine gw_val (by kernel_rfl) (some 39) rfl (.slice al n cl) (by kernel_rfl) ?_
      simp only [pu1, pu2, pu3, pu4]
      refine gw_val (by kernel_rfl) (some 40) rfl (.int .i64 n) (by kernel_rfl) ?_
      simp only [pu1, pu2, pu3, pu4]
      refine gw_val (by kernel_rfl) (some 41) rfl (.bool true) (lss_n rfl (n) (2) (decide_eq_true (by omega)) (by kernel_rfl) (by kernel_rfl) _) ?_
      simp only [pu1, pu2, pu3, pu4]
      apply wpList_nil
      go_upto_region 6 with fail
      apply wp_region_lit
      refine gw_call (by kernel_rfl) (some 42) rfl 9 #[] (.bool true) (fun w' => Below w.heap.size w w') (by kernel_rfl) (HK.out V8 (HB8.out)) (fun V9 hV9 => ?_)
      simp only [pu1, pu2, pu3, pu4]
      refine gw_val (by kernel_rfl) (some 8) rfl (.bool true) (by kernel_rfl) ?_
      simp only [pu1, pu2, pu3, pu4]
      apply wpList_nil
      have HE := Lib.hid hV9
      clear hV9
      go_wp2_with fail
      go_ret
      exact ⟨rfl, HE.out⟩
    · skip
      go_upto_region 5 with fail
      apply wp_region_lit
      refine gw_val (by kernel_rfl) (some 39) rfl (.slice al n cl) (by kernel_rfl) ?_
      simp only [pu1, pu2, pu3, pu4]
      refine gw_val (by kernel_rfl) (some 40) rfl (.int .i64 n) (by kernel_rfl) ?_
      simp only [pu1, pu2, pu3, pu4]
      refine gw_val (by kernel_rfl) (some 41) rfl (.bool false) (lss_n rfl (n) (2) (decide_eq_false (by omega)) (by kernel_rfl) (by kernel_rfl) _) ?_
      simp only [pu1, pu2, pu3, pu4]
      apply wpList_nil
      obtain ⟨gl, rfl⟩ := HOA.out (by rw [HNN.out]; omega)
      obtain ⟨x, hx⟩ : ∃ x, i % n = x := ⟨_, rfl⟩
      obtain ⟨y, hy⟩ : ∃ y, j % n = y := ⟨_, rfl⟩
      have HXY : Hid (x < n ∧ y < n) := Lib.hid ⟨by have := Nat.mod_lt i (show 0 < n by omega); omega, by have := Nat.mod_lt j (show 0 < n by omega); omega⟩
      have HX := Lib.hid hx
      have HY := Lib.hid hy
      have h0 : Below V8.heap.size V8 V8.drew := (Below.refl _ _).drew
      have HN2 : Hid (2 ≤ n) := Lib.hid (by omega)
      clear hx hy HOA h2
      go_upto_region 7 with fail
      refine wp_region_inv (fun listed act9 V => ∃ b0 b1 b2 b3 b4 b5 b6 b7 b8 b9 b10 b11 : Bool, listed = #[b0, b1, b2, b3, b4, b5, b6, b7, b8, b9, b10, b11] ∧ act9 = { tmps := #[.slice ak L.length ck, .int .u8 i, .int .u8 j, .int .u8 h, undef, undef, undef, undef, .bool false, .pointer (some ⟨g5, 0, none⟩), .pointer (some ⟨g6, 0, none⟩), .slice (some ⟨gl, 0, none⟩) n cl, .int .i64 0, .int .i64 0, (cond b10 (.int .i64 x) undef), (cond b11 (.int .i64 y) undef), undef, undef, undef, undef, undef, undef, .slice ak L.length ck, .slice (some ⟨w.heap.size, 0, none⟩) 1 1, .bool false, undef, .tuple #[.agg (txA xa a1 c1), .agg (txA xb a2 c2)], .slice ak L.length ck, .agg (txA zX none 0), .tuple #[.agg (txA xa a1 c1), .agg (txA xb a2 c2)], .agg (txA xa a1 c1), .agg (txA xb a2 c2), .tuple #[.slice (some ⟨gl, 0, none⟩) n cl, .int .i64 0, .int .i64 0], .agg (txA xa a1 c1), .slice bf fx df, .tuple #[.slice (some ⟨gl, 0, none⟩) n cl, .int .i64 0, .int .i64 0], .slice (some ⟨gl, 0, none⟩) n cl, .int .i64 0, .int .i64 0, .slice (some ⟨gl, 0, none⟩) n cl, .int .i64 n, .bool false, undef, (cond b0 (.int .u8 i) undef), (cond b1 (.int .i64 i) undef), (cond b2 (.slice (some ⟨gl, 0, none⟩) n cl) undef), (cond b3 (.int .i64 n) undef), (cond b4 (.int .i64 x) undef), (cond b5 (.int .u8 j) undef), (cond b6 (.int .i64 j) undef), (cond b7 (.slice (some ⟨gl, 0, none⟩) n cl) undef), (cond b8 (.int .i64 n) undef), (cond b9 (.int .i64 y) undef), undef, undef, undef, undef, undef, undef, undef, undef, undef, undef, undef, undef, undef, undef, undef, undef, undef, undef, undef, undef, undef, undef, undef, undef, undef, undef, undef, undef, undef, undef, undef, undef, undef, undef, undef, undef, undef, undef, undef, undef, undef, undef, undef, undef, undef, undef, undef, undef, undef, undef, undef, undef, undef, undef, undef, undef, undef, undef, undef, undef, undef, undef, undef, undef, undef, undef, undef, undef, undef, undef, undef, undef, undef, undef, undef, undef, undef, undef, undef, undef, undef, undef, undef, undef, undef, undef, undef, undef, undef, undef, undef, undef, undef, undef, undef, undef, undef, undef, undef, undef, undef, undef, undef, undef, undef, undef, undef, undef, undef, undef, undef, undef, undef, undef, undef, undef, undef, undef], defers := [] } ∧ Below V8.heap.size V8 V) (by kernel_rfl) (by kernel_rfl) ?_ ?_ ?_
      · exact ⟨false, false, false, false, false, false, false, false, false, false, false, false, rfl, rfl, h0⟩
      · intro i9 listed act9 V hi9 hr hJ
        obtain ⟨b0, b1, b2, b3, b4, b5, b6, b7, b8, b9, b10, b11, rfl, rfl, hF⟩ := hJ
        have hi2 : i9 < 12 := hi9
        have hi3 : i9 = 0 ∨ i9 = 1 ∨ i9 = 2 ∨ i9 = 3 ∨ i9 = 4 ∨ i9 = 5 ∨ i9 = 6 ∨ i9 = 7 ∨ i9 = 8 ∨ i9 = 9 ∨ i9 = 10 ∨ i9 = 11 := by omega
        rcases hi3 with rfl | rfl | rfl | rfl | rfl | rfl | rfl | rfl | rfl | rfl | rfl | rfl
        · obtain rfl : b0 = false := ready_self hr
          refine st_val rfl (by kernel_rfl) (some 43) rfl (.int .u8 i) V (by kernel_rfl) ?_
          exact ⟨true, b1, b2, b3, b4, b5, b6, b7, b8, b9, b10, b11, rfl, rfl, hF⟩
        · obtain rfl : b1 = false := ready_self hr
          obtain rfl : b0 = true := ready_dep hr 0 (by kernel_rfl)
          refine st_val rfl (by kernel_rfl) (some 44) rfl (.int .i64 i) V (conv_u8 rfl i (by omega) (by have := HI.out; omega) (by kernel_rfl) _) ?_
          exact ⟨true, true, b2, b3, b4, b5, b6, b7, b8, b9, b10, b11, rfl, rfl, hF⟩
        · obtain rfl : b2 = false := ready_self hr
          refine st_val rfl (by kernel_rfl) (some 45) rfl (.slice (some ⟨gl, 0, none⟩) n cl) V (by kernel_rfl) ?_
          exact ⟨b0, b1, true, b3, b4, b5, b6, b7, b8, b9, b10, b11, rfl, rfl, hF⟩
        · obtain rfl : b3 = false := ready_self hr
          obtain rfl : b2 = true := ready_dep hr 2 (by kernel_rfl)
          refine st_val rfl (by kernel_rfl) (some 46) rfl (.int .i64 n) V (by kernel_rfl) ?_
          exact ⟨b0, b1, true, true, b4, b5, b6, b7, b8, b9, b10, b11, rfl, rfl, hF⟩
        · obtain rfl : b4 = false := ready_self hr
          obtain rfl : b1 = true := ready_dep hr 1 (by kernel_rfl)
          obtain rfl : b3 = true := ready_dep hr 3 (by kernel_rfl)
          refine st_val rfl (by kernel_rfl) (some 47) rfl (.int .i64 x) V (by rw [← HX.out]; exact rem_nat rfl i n (by have := HN2.out; omega) (by kernel_rfl) (by kernel_rfl) _) ?_
          exact ⟨b0, true, b2, true, true, b5, b6, b7, b8, b9, b10, b11, rfl, rfl, hF⟩
        · obtain rfl : b5 = false := ready_self hr
          refine st_val rfl (by kernel_rfl) (some 48) rfl (.int .u8 j) V (by kernel_rfl) ?_
          exact ⟨b0, b1, b2, b3, b4, true, b6, b7, b8, b9, b10, b11, rfl, rfl, hF⟩
        · obtain rfl : b6 = false := ready_self hr
          obtain rfl : b5 = true := ready_dep hr 5 (by kernel_rfl)
          refine st_val rfl (by kernel_rfl) (some 49) rfl (.int .i64 j) V (conv_u8 rfl j (by omega) (by have := HJ.out; omega) (by kernel_rfl) _) ?_
          exact ⟨b0, b1, b2, b3, b4, true, true, b7, b8, b9, b10, b11, rfl, rfl, hF⟩
        · obtain rfl : b7 = false := ready_self hr
          refine st_val rfl (by kernel_rfl) (some 50) rfl (.slice (some ⟨gl, 0, none⟩) n cl) V (by kernel_rfl) ?_
          exact ⟨b0, b1, b2, b3, b4, b5, b6, true, b8, b9, b10, b11, rfl, rfl, hF⟩
        · obtain rfl : b8 = false := ready_self hr
          obtain rfl : b7 = true := ready_dep hr 7 (by kernel_rfl)
          refine st_val rfl (by kernel_rfl) (some 51) rfl (.int .i64 n) V (by kernel_rfl) ?_
          exact ⟨b0, b1, b2, b3, b4, b5, b6, true, true, b9, b10, b11, rfl, rfl, hF⟩
        · obtain rfl : b9 = false := ready_self hr
          obtain rfl : b6 = true := ready_dep hr 6 (by kernel_rfl)
          obtain rfl : b8 = true := ready_dep hr 8 (by kernel_rfl)
          refine st_val rfl (by kernel_rfl) (some 52) rfl (.int .i64 y) V (by rw [← HY.out]; exact rem_nat rfl j n (by have := HN2.out; omega) (by kernel_rfl) (by kernel_rfl) _) ?_
          exact ⟨b0, b1, b2, b3, b4, b5, true, b7, true, true, b10, b11, rfl, rfl, hF⟩
        · obtain rfl : b10 = false := ready_self hr
          obtain rfl : b4 = true := ready_dep hr 4 (by kernel_rfl)
          refine st_val rfl (by kernel_rfl) (some 14) rfl (.int .i64 x) V (by kernel_rfl) ?_
          exact ⟨b0, b1, b2, b3, true, b5, b6, b7, b8, b9, true, b11, rfl, rfl, hF⟩
        · obtain rfl : b11 = false := ready_self hr
          obtain rfl : b9 = true := ready_dep hr 9 (by kernel_rfl)
          refine st_val rfl (by kernel_rfl) (some 15) rfl (.int .i64 y) V (by kernel_rfl) ?_
          exact ⟨b0, b1, b2, b3, b4, b5, b6, b7, b8, true, b10, true, rfl, rfl, hF⟩
      · intro act9 V hJ
        obtain ⟨b0, b1, b2, b3, b4, b5, b6, b7, b8, b9, b10, b11, he, rfl, hF⟩ := hJ
        have he : (#[true, true, true, true, true, true, true, true, true, true, true, true] : Array Bool) = #[b0, b1, b2, b3, b4, b5, b6, b7, b8, b9, b10, b11] := he
        simp only [Array.mk.injEq, List.cons.injEq, and_true] at he
        obtain ⟨rfl, rfl, rfl, rfl, rfl, rfl, rfl, rfl, rfl, rfl, rfl, rfl⟩ := he
        simp only [cond_true]
        have hba : Below V.heap.size V (V.alloc (.cells #[] 54)) := (Below.refl _ V).alloc (Nat.le_refl _) _
        have hnl := nil_fd V
        have hr1 : RowL (V.alloc (.cells #[] 54)) V8.heap.size (.slice (some ⟨V.heap.size, 0, none⟩) 0 0) [] := (nil_l V).base hF.size
        have hbf := hF.trans (hba.mono hF.size)
        generalize V.alloc (.cells #[] 54) = U1 at *
        obtain ⟨am, cm, U2, hap, hrm, hb2⟩ := grow_l hr1 hbf.size (some ⟨gl, 0, none⟩) cl (HCS.out.below hbf) (fun p hp => (HLO.out p hp).far hbf) (by have := HCL.out; have := HNN.out; simp only [List.length_nil]; omega)
        rw [List.nil_append] at hap hrm
        obtain ⟨gm, rfl⟩ : ∃ gm, am = some ⟨gm, 0, none⟩ := by obtain ⟨gm, e, -⟩ := own_at hrm.1 (by have := HNN.out; have := HN2.out; omega); exact ⟨gm, e⟩
        rw [HNN.out] at hap hrm
        have HBU := Lib.hid (hbf.trans hb2)
        have HRM := Lib.hid hrm
        clear hF h0 hba hr1 hbf hrm hb2
        go_upto_region 8 with fail
        apply wp_region_lit
        refine gw_build (by kernel_rfl) (some 53) rfl 50 0 #[] rfl #[] (by kernel_rfl) (.slice (some ⟨V.heap.size, 0, none⟩) 0 0) _ hnl ?_
        simp only [pu1, pu2, pu3, pu4]
        refine gw_val (by kernel_rfl) (some 54) rfl (.slice (some ⟨gl, 0, none⟩) n cl) (by kernel_rfl) ?_
        simp only [pu1, pu2, pu3, pu4]
        refine append_step rfl (some 55) rfl 50 rfl (.tmp 53) (.tmp 54) 50 rfl (.slice (some ⟨V.heap.size, 0, none⟩) 0 0) (.slice (some ⟨gl, 0, none⟩) n cl) (.slice (some ⟨gm, 0, none⟩) n cm) U2 (by kernel_rfl) (by kernel_rfl) hap ?_
        simp only [pu1, pu2, pu3, pu4]
        refine gw_val (by kernel_rfl) (some 16) rfl (.slice (some ⟨gm, 0, none⟩) n cm) (by kernel_rfl) ?_
        simp only [pu1, pu2, pu3, pu4]
        apply wpList_nil
        clear hnl hap
        generalize V.heap.size = gv at *
        obtain ⟨kk, hkk⟩ : ∃ kk, h % 5 = kk := ⟨_, rfl⟩
        have HKK := Lib.hid hkk
        have HK5 : Hid (kk < 5) := Lib.hid (by omega)
        obtain ⟨t0, ht0⟩ : ∃ t0, decide ((kk : Int) = 0) = t0 := ⟨_, rfl⟩
        have HT0 := Lib.hid ht0
        clear hkk ht0
        go_upto_region 9 with fail
        apply wp_region_lit
        refine gw_val (by kernel_rfl) (some 56) rfl (.int .u8 h) (by kernel_rfl) ?_
        simp only [pu1, pu2, pu3, pu4]
        refine gw_val (by kernel_rfl) (some 57) rfl (.int .u8 kk) (by rw [← HKK.out]; exact rem_u8 rfl h 5 (by decide) (by kernel_rfl) (by kernel_rfl) _) ?_
        simp only [pu1, pu2, pu3, pu4]
        apply wpList_nil
        go_upto_block 0 with fail
        go_cut [16] (fun s16 wx => ∃ (a9 : Option Addr) (c9 : Nat) (P : List (Fld × Value)), s16 = .slice a9 P.length c9 ∧ Hid (RowL wx V8.heap.size (.slice a9 P.length c9) P ∧ Okf P ∧ Below V8.heap.size V8 wx))
        case first =>
          have hk5 := HK5.out
          rcases (show kk = 0 ∨ kk = 1 ∨ kk = 2 ∨ kk = 3 ∨ kk = 4 by omega) with rfl | rfl | rfl | rfl | rfl
          · skip
            go_upto_region 11 with fail
            apply wp_region_lit
            refine gw_val (by kernel_rfl) (some 76) rfl (.bool true) (eql_8 rfl ((0 : Nat)) (0) (decide_eq_true (by decide)) (by kernel_rfl) (by kernel_rfl) _) ?_
            simp only [pu1, pu2, pu3, pu4]
            refine gw_val (by kernel_rfl) (some 75) rfl (.bool true) (by kernel_rfl) ?_
            simp only [pu1, pu2, pu3, pu4]
            apply wpList_nil
            obtain ⟨px, hpx⟩ : ∃ p, ls[x]? = some p := ⟨_, List.getElem?_eq_getElem (by rw [HNN.out]; exact HXY.out.1)⟩
            obtain ⟨py, hpy⟩ : ∃ p, ls[y]? = some p := ⟨_, List.getElem?_eq_getElem (by rw [HNN.out]; exact HXY.out.2)⟩
            have hmx := List.mem_of_getElem? hpx
            have hmy := List.mem_of_getElem? hpy
            obtain ⟨bx, dx, ex, -⟩ := HLO.out px hmx
            obtain ⟨by_, dy, ey, -⟩ := HLO.out py hmy
            have HLX := Lib.hid (HLO.out px hmx)
            have HLY := Lib.hid (HLO.out py hmy)
            have HPX := Lib.hid hpx
            have HPY := Lib.hid hpy
            have HEX := Lib.hid ex
            have HEY := Lib.hid ey
            have h0 : K12 V8 gm n cm ls x y px py false false false false U2.drew := ⟨HBU.out.drew, (fun e => nomatch e), (fun e => nomatch e), (fun e => nomatch e), fun _ => HRM.out, (fun e => nomatch e), (fun e => nomatch e)⟩
            clear hpx hpy ex ey
            go_upto_region 12 with fail
            refine wp_region_inv (fun listed act9 V => ∃ b0 b1 b2 b3 b4 b5 b6 b7 b8 b9 b10 b11 b12 b13 b14 b15 : Bool, listed = #[b0, b1, b2, b3, b4, b5, b6, b7, b8, b9, b10, b11, b12, b13, b14, b15] ∧ act9 = { tmps := #[.slice ak L.length ck, .int .u8 i, .int .u8 j, .int .u8 h, undef, undef, undef, undef, .bool false, .pointer (some ⟨g5, 0, none⟩), .pointer (some ⟨g6, 0, none⟩), .slice (some ⟨gl, 0, none⟩) n cl, .int .i64 0, .int .i64 0, .int .i64 x, .int .i64 y, .slice (some ⟨gm, 0, none⟩) n cm, undef, undef, undef, undef, undef, .slice ak L.length ck, .slice (some ⟨w.heap.size, 0, none⟩) 1 1, .bool false, undef, .tuple #[.agg (txA xa a1 c1), .agg (txA xb a2 c2)], .slice ak L.length ck, .agg (txA zX none 0), .tuple #[.agg (txA xa a1 c1), .agg (txA xb a2 c2)], .agg (txA xa a1 c1), .agg (txA xb a2 c2), .tuple #[.slice (some ⟨gl, 0, none⟩) n cl, .int .i64 0, .int .i64 0], .agg (txA xa a1 c1), .slice bf fx df, .tuple #[.slice (some ⟨gl, 0, none⟩) n cl, .int .i64 0, .int .i64 0], .slice (some ⟨gl, 0, none⟩) n cl, .int .i64 0, .int .i64 0, .slice (some ⟨gl, 0, none⟩) n cl, .int .i64 n, .bool false, undef, .int .u8 i, .int .i64 i, .slice (some ⟨gl, 0, none⟩) n cl, .int .i64 n, .int .i64 x, .int .u8 j, .int .i64 j, .slice (some ⟨gl, 0, none⟩) n cl, .int .i64 n, .int .i64 y, .slice (some ⟨gv, 0, none⟩) 0 0, .slice (some ⟨gl, 0, none⟩) n cl, .slice (some ⟨gm, 0, none⟩) n cm, .int .u8 h, .int .u8 (0 : Nat), undef, undef, undef, undef, undef, undef, undef, undef, undef, undef, undef, undef, undef, undef, undef, undef, undef, .bool true, .bool true, (cond b0 (.slice (some ⟨gm, 0, none⟩) n cm) undef), (cond b1 (.int .i64 x) undef), (cond b2 (.slice (some ⟨gm, 0, none⟩) n cm) undef), (cond b3 (.int .i64 y) undef), (cond b4 (.slice (some ⟨gm, 0, none⟩) n cm) undef), (cond b5 (.int .i64 y) undef), (cond b6 (.pointer (some ⟨gm, 0 + y * 4, none⟩)) undef), (cond b7 (.agg (fdA py.1 by_ dy)) undef), (cond b8 (.slice (some ⟨gm, 0, none⟩) n cm) undef), (cond b9 (.int .i64 x) undef), (cond b10 (.pointer (some ⟨gm, 0 + x * 4, none⟩)) undef), (cond b11 (.agg (fdA px.1 bx dx)) undef), (cond b12 (.pointer (some ⟨gm, 0 + x * 4, none⟩)) undef), (cond b14 (.pointer (some ⟨gm, 0 + y * 4, none⟩)) undef), undef, undef, undef, undef, undef, undef, undef, undef, undef, undef, undef, undef, undef, undef, undef, undef, undef, undef, undef, undef, undef, undef, undef, undef, undef, undef, undef, undef, undef, undef, undef, undef, undef, undef, undef, undef, undef, undef, undef, undef, undef, undef, undef, undef, undef, undef, undef, undef, undef, undef, undef, undef, undef, undef, undef, undef, undef, undef, undef, undef, undef, undef, undef, undef, undef, undef, undef, undef, undef, undef, undef, undef, undef, undef, undef, undef, undef, undef, undef, undef], defers := [] } ∧ K12 V8 gm n cm ls x y px py b7 b11 b13 b15 V) (by kernel_rfl) (by kernel_rfl) ?_ ?_ ?_
            · exact ⟨false, false, false, false, false, false, false, false, false, false, false, false, false, false, false, false, rfl, rfl, h0⟩
            · intro i9 listed act9 V hi9 hr hJ
              obtain ⟨b0, b1, b2, b3, b4, b5, b6, b7, b8, b9, b10, b11, b12, b13, b14, b15, rfl, rfl, hF⟩ := hJ
              have hi2 : i9 < 16 := hi9
              have hi3 : i9 = 0 ∨ i9 = 1 ∨ i9 = 2 ∨ i9 = 3 ∨ i9 = 4 ∨ i9 = 5 ∨ i9 = 6 ∨ i9 = 7 ∨ i9 = 8 ∨ i9 = 9 ∨ i9 = 10 ∨ i9 = 11 ∨ i9 = 12 ∨ i9 = 13 ∨ i9 = 14 ∨ i9 = 15 := by omega
              rcases hi3 with rfl | rfl | rfl | rfl | rfl | rfl | rfl | rfl | rfl | rfl | rfl | rfl | rfl | rfl | rfl | rfl
              · obtain rfl : b0 = false := ready_self hr
                refine st_val rfl (by kernel_rfl) (some 77) rfl (.slice (some ⟨gm, 0, none⟩) n cm) V (by kernel_rfl) ?_
                exact ⟨true, b1, b2, b3, b4, b5, b6, b7, b8, b9, b10, b11, b12, b13, b14, b15, rfl, rfl, hF⟩
              · obtain rfl : b1 = false := ready_self hr
                refine st_val rfl (by kernel_rfl) (some 78) rfl (.int .i64 x) V (by kernel_rfl) ?_
                exact ⟨b0, true, b2, b3, b4, b5, b6, b7, b8, b9, b10, b11, b12, b13, b14, b15, rfl, rfl, hF⟩
              · obtain rfl : b2 = false := ready_self hr
                refine st_val rfl (by kernel_rfl) (some 79) rfl (.slice (some ⟨gm, 0, none⟩) n cm) V (by kernel_rfl) ?_
                exact ⟨b0, b1, true, b3, b4, b5, b6, b7, b8, b9, b10, b11, b12, b13, b14, b15, rfl, rfl, hF⟩
              · obtain rfl : b3 = false := ready_self hr
                refine st_val rfl (by kernel_rfl) (some 80) rfl (.int .i64 y) V (by kernel_rfl) ?_
                exact ⟨b0, b1, b2, true, b4, b5, b6, b7, b8, b9, b10, b11, b12, b13, b14, b15, rfl, rfl, hF⟩
              · obtain rfl : b4 = false := ready_self hr
                refine st_val rfl (by kernel_rfl) (some 81) rfl (.slice (some ⟨gm, 0, none⟩) n cm) V (by kernel_rfl) ?_
                exact ⟨b0, b1, b2, b3, true, b5, b6, b7, b8, b9, b10, b11, b12, b13, b14, b15, rfl, rfl, hF⟩
              · obtain rfl : b5 = false := ready_self hr
                refine st_val rfl (by kernel_rfl) (some 82) rfl (.int .i64 y) V (by kernel_rfl) ?_
                exact ⟨b0, b1, b2, b3, b4, true, b6, b7, b8, b9, b10, b11, b12, b13, b14, b15, rfl, rfl, hF⟩
              · obtain rfl : b6 = false := ready_self hr
                obtain rfl : b4 = true := ready_dep hr 4 (by kernel_rfl)
                obtain rfl : b5 = true := ready_dep hr 5 (by kernel_rfl)
                refine st_val rfl (by kernel_rfl) (some 83) rfl (.pointer (some ⟨gm, 0 + y * 4, none⟩)) V (idx_fd gm 0 n cm y HXY.out.2 _ _ _ rfl (by kernel_rfl) (by kernel_rfl)) ?_
                exact ⟨b0, b1, b2, b3, true, true, true, b7, b8, b9, b10, b11, b12, b13, b14, b15, rfl, rfl, hF⟩
              · obtain rfl : b7 = false := ready_self hr
                obtain rfl : b6 = true := ready_dep hr 6 (by kernel_rfl)
                obtain rfl : b13 = false := ff hF.o7 rfl
                refine st_load rfl (by kernel_rfl) (some 84) rfl 54 (.tmp 83) rfl ⟨gm, 0 + y * 4, none⟩ (.agg (fdA py.1 by_ dy)) (by kernel_rfl) (load_l (hF.r0 rfl) HPY.out HEY.out) ?_
                exact ⟨b0, b1, b2, b3, b4, b5, true, true, b8, b9, b10, b11, b12, false, b14, b15, rfl, rfl, { hF with o7 := fun _ => rfl }⟩
              · obtain rfl : b8 = false := ready_self hr
                refine st_val rfl (by kernel_rfl) (some 85) rfl (.slice (some ⟨gm, 0, none⟩) n cm) V (by kernel_rfl) ?_
                exact ⟨b0, b1, b2, b3, b4, b5, b6, b7, true, b9, b10, b11, b12, b13, b14, b15, rfl, rfl, hF⟩
              · obtain rfl : b9 = false := ready_self hr
                refine st_val rfl (by kernel_rfl) (some 86) rfl (.int .i64 x) V (by kernel_rfl) ?_
                exact ⟨b0, b1, b2, b3, b4, b5, b6, b7, b8, true, b10, b11, b12, b13, b14, b15, rfl, rfl, hF⟩
              · obtain rfl : b10 = false := ready_self hr
                obtain rfl : b8 = true := ready_dep hr 8 (by kernel_rfl)
                obtain rfl : b9 = true := ready_dep hr 9 (by kernel_rfl)
                refine st_val rfl (by kernel_rfl) (some 87) rfl (.pointer (some ⟨gm, 0 + x * 4, none⟩)) V (idx_fd gm 0 n cm x HXY.out.1 _ _ _ rfl (by kernel_rfl) (by kernel_rfl)) ?_
                exact ⟨b0, b1, b2, b3, b4, b5, b6, b7, true, true, true, b11, b12, b13, b14, b15, rfl, rfl, hF⟩
              · obtain rfl : b11 = false := ready_self hr
                obtain rfl : b10 = true := ready_dep hr 10 (by kernel_rfl)
                obtain rfl : b13 = false := ff hF.o11 rfl
                refine st_load rfl (by kernel_rfl) (some 88) rfl 54 (.tmp 87) rfl ⟨gm, 0 + x * 4, none⟩ (.agg (fdA px.1 bx dx)) (by kernel_rfl) (load_l (hF.r0 rfl) HPX.out HEX.out) ?_
                exact ⟨b0, b1, b2, b3, b4, b5, b6, b7, b8, b9, true, true, b12, false, b14, b15, rfl, rfl, { hF with o11 := fun _ => rfl }⟩
              · obtain rfl : b12 = false := ready_self hr
                obtain rfl : b0 = true := ready_dep hr 0 (by kernel_rfl)
                obtain rfl : b1 = true := ready_dep hr 1 (by kernel_rfl)
                refine st_val rfl (by kernel_rfl) (some 89) rfl (.pointer (some ⟨gm, 0 + x * 4, none⟩)) V (idx_fd gm 0 n cm x HXY.out.1 _ _ _ rfl (by kernel_rfl) (by kernel_rfl)) ?_
                exact ⟨true, true, b2, b3, b4, b5, b6, b7, b8, b9, b10, b11, true, b13, b14, b15, rfl, rfl, hF⟩
              · obtain rfl : b13 = false := ready_self hr
                obtain rfl : b12 = true := ready_dep hr 12 (by kernel_rfl)
                obtain rfl : b7 = true := ready_dep hr 7 (by kernel_rfl)
                obtain rfl : b11 = true := ready_dep hr 11 (by kernel_rfl)
                obtain rfl : b15 = false := ff hF.o15 rfl
                obtain ⟨V2, hst, hr2, hb2⟩ := set_l (hF.r0 rfl) HNN.out.symm (by rw [HNN.out]; exact HXY.out.1) py HEY.out (HLY.out.far hF.bel)
                refine st_storeA rfl (by kernel_rfl) rfl 54 (.tmp 89) (.tmp 84) rfl (.pointer (some ⟨gm, 0 + x * 4, none⟩)) (.agg (fdA py.1 by_ dy)) (by kernel_rfl) (by kernel_rfl) _ hst ?_
                exact ⟨b0, b1, b2, b3, b4, b5, b6, true, b8, b9, b10, true, true, true, b14, false, rfl, rfl, ⟨hF.bel.trans hb2, fun _ => rfl, fun _ => rfl, (fun e => nomatch e), (fun e => nomatch e), fun _ _ => hr2, (fun e => nomatch e)⟩⟩
              · obtain rfl : b14 = false := ready_self hr
                obtain rfl : b2 = true := ready_dep hr 2 (by kernel_rfl)
                obtain rfl : b3 = true := ready_dep hr 3 (by kernel_rfl)
                refine st_val rfl (by kernel_rfl) (some 90) rfl (.pointer (some ⟨gm, 0 + y * 4, none⟩)) V (idx_fd gm 0 n cm y HXY.out.2 _ _ _ rfl (by kernel_rfl) (by kernel_rfl)) ?_
                exact ⟨b0, b1, true, true, b4, b5, b6, b7, b8, b9, b10, b11, b12, b13, true, b15, rfl, rfl, hF⟩
              · obtain rfl : b15 = false := ready_self hr
                obtain rfl : b14 = true := ready_dep hr 14 (by kernel_rfl)
                obtain rfl : b11 = true := ready_dep hr 11 (by kernel_rfl)
                obtain rfl : b13 = true := ready_dep hr 13 (by kernel_rfl)
                obtain ⟨V2, hst, hr2, hb2⟩ := set_l (hF.r1 rfl rfl) (by rw [List.length_set]; exact HNN.out.symm) (by rw [List.length_set, HNN.out]; exact HXY.out.2) px HEX.out (HLX.out.far hF.bel)
                refine st_storeA rfl (by kernel_rfl) rfl 54 (.tmp 90) (.tmp 88) rfl (.pointer (some ⟨gm, 0 + y * 4, none⟩)) (.agg (fdA px.1 bx dx)) (by kernel_rfl) (by kernel_rfl) _ hst ?_
                exact ⟨b0, b1, b2, b3, b4, b5, b6, b7, b8, b9, b10, true, b12, true, true, true, rfl, rfl, ⟨hF.bel.trans hb2, hF.o7, hF.o11, fun _ => rfl, (fun e => nomatch e), (fun _ e => nomatch e), fun _ => hr2⟩⟩
            · intro act9 V hJ
              obtain ⟨b0, b1, b2, b3, b4, b5, b6, b7, b8, b9, b10, b11, b12, b13, b14, b15, he, rfl, hF⟩ := hJ
              have he : (#[true, true, true, true, true, true, true, true, true, true, true, true, true, true, true, true] : Array Bool) = #[b0, b1, b2, b3, b4, b5, b6, b7, b8, b9, b10, b11, b12, b13, b14, b15] := he
              simp only [Array.mk.injEq, List.cons.injEq, and_true] at he
              obtain ⟨rfl, rfl, rfl, rfl, rfl, rfl, rfl, rfl, rfl, rfl, rfl, rfl, rfl, rfl, rfl, rfl⟩ := he
              simp only [cond_true]
              have hpl : ((ls.set x py).set y px).length = n := by rw [List.length_set, List.length_set]; exact HNN.out
              have hrw := by have := hF.r2 rfl; rw [← hpl] at this; exact this
              have hok : Okf ((ls.set x py).set y px) := ⟨by rw [hpl]; have := HCL.out; omega, fun p hp => by rcases List.mem_or_eq_of_mem_set hp with h9 | h9; rcases List.mem_or_eq_of_mem_set h9 with h8 | h8; exact HLV.out p h8; exact h8 ▸ HLV.out py hmy; exact h9 ▸ HLV.out px hmx⟩
              have HR9 : Hid (RowL _ V8.heap.size (.slice (some ⟨gm, 0, none⟩) ((ls.set x py).set y px).length cm) ((ls.set x py).set y px) ∧ Okf ((ls.set x py).set y px) ∧ Below V8.heap.size V8 _) := Lib.hid ⟨hrw, hok, hF.bel⟩
              go_wp2_with fail
              go_meet
              exact ⟨(some ⟨gm, 0, none⟩), cm, (ls.set x py).set y px, by rw [hpl], HR9⟩
          · skip
            go_upto_region 11 with fail
            apply wp_region_lit
            refine gw_val (by kernel_rfl) (some 76) rfl (.bool false) (eql_8 rfl ((1 : Nat)) (0) (decide_eq_false (by decide)) (by kernel_rfl) (by kernel_rfl) _) ?_
            simp only [pu1, pu2, pu3, pu4]
            refine gw_val (by kernel_rfl) (some 75) rfl (.bool false) (by kernel_rfl) ?_
            simp only [pu1, pu2, pu3, pu4]
            apply wpList_nil
            go_upto_region 13 with fail
            apply wp_region_lit
            refine gw_val (by kernel_rfl) (some 92) rfl (.bool true) (eql_8 rfl ((1 : Nat)) (1) (decide_eq_true (by decide)) (by kernel_rfl) (by kernel_rfl) _) ?_
            simp only [pu1, pu2, pu3, pu4]
            refine gw_val (by kernel_rfl) (some 91) rfl (.bool true) (by kernel_rfl) ?_
            simp only [pu1, pu2, pu3, pu4]
            apply wpList_nil
            obtain ⟨p, hp⟩ : ∃ p, ls[y]? = some p := ⟨_, List.getElem?_eq_getElem (by rw [HNN.out]; exact HXY.out.2)⟩
            have hmy := List.mem_of_getElem? hp
            obtain ⟨zb, zd, ez, hzs, hzl⟩ := HLO.out p hmy
            have hzlo : Lo V8 V8.heap.size (p.1, .slice zb p.1.bytes.length zd) := ⟨zb, zd, rfl, hzs, hzl⟩
            have hzok := HLV.out p hmy
            have HLD := Lib.hid (fun V (hV : Below V8.heap.size V8 V) => (by
              obtain ⟨b2, off, ba, bc, e2, e3, -, hbox⟩ := (HFS.out.below hV) y p hp
              cases e2
              rw [ez] at e3
              simp only [Value.slice.injEq, true_and] at e3
              obtain ⟨rfl, rfl⟩ := e3
              exact load_fd (fd_range hbox) : (Instr.loadAt 54 (.pointer (some ⟨gl, 0 + y * 4, none⟩))).run Try.prog V = .ok (.agg (fdA p.1 zb zd)) V))
            obtain ⟨zf, hzf⟩ : ∃ zf, p.1 = zf := ⟨_, rfl⟩
            rw [hzf] at hzlo hzok HLD
            have HZLO := Lib.hid hzlo
            have hx9 : x ≤ ls.length := by rw [HNN.out]; exact Nat.le_of_lt HXY.out.1
            have HX9 := Lib.hid hx9
            have h0 : K14 V8 ls x zf zb zd false false false false false false undef undef undef undef undef U2.drew := ⟨HBU.out.drew, (fun e => nomatch e), (fun e => nomatch e), (fun e => nomatch e), (fun e => nomatch e), (fun e => nomatch e), (fun e => nomatch e), (fun e => nomatch e), (fun e => nomatch e), (fun e => nomatch e), (fun e => nomatch e)⟩
            clear hzlo hx9
            go_upto_region 14 with fail
            refine wp_region_inv (fun listed act9 V => ∃ b0 b1 b2 b3 b4 b5 b6 b7 b8 b9 b10 b11 b12 b13 b14 b15 : Bool, ∃ x93 x97 x102 x103 x107 : Value, listed = #[b0, b1, b2, b3, b4, b5, b6, b7, b8, b9, b10, b11, b12, b13, b14, b15] ∧ act9 = { tmps := #[.slice ak L.length ck, .int .u8 i, .int .u8 j, .int .u8 h, undef, undef, undef, undef, .bool false, .pointer (some ⟨g5, 0, none⟩), .pointer (some ⟨g6, 0, none⟩), .slice (some ⟨gl, 0, none⟩) n cl, .int .i64 0, .int .i64 0, .int .i64 x, .int .i64 y, (cond b15 (x107) (.slice (some ⟨gm, 0, none⟩) n cm)), undef, undef, undef, undef, undef, .slice ak L.length ck, .slice (some ⟨w.heap.size, 0, none⟩) 1 1, .bool false, undef, .tuple #[.agg (txA xa a1 c1), .agg (txA xb a2 c2)], .slice ak L.length ck, .agg (txA zX none 0), .tuple #[.agg (txA xa a1 c1), .agg (txA xb a2 c2)], .agg (txA xa a1 c1), .agg (txA xb a2 c2), .tuple #[.slice (some ⟨gl, 0, none⟩) n cl, .int .i64 0, .int .i64 0], .agg (txA xa a1 c1), .slice bf fx df, .tuple #[.slice (some ⟨gl, 0, none⟩) n cl, .int .i64 0, .int .i64 0], .slice (some ⟨gl, 0, none⟩) n cl, .int .i64 0, .int .i64 0, .slice (some ⟨gl, 0, none⟩) n cl, .int .i64 n, .bool false, undef, .int .u8 i, .int .i64 i, .slice (some ⟨gl, 0, none⟩) n cl, .int .i64 n, .int .i64 x, .int .u8 j, .int .i64 j, .slice (some ⟨gl, 0, none⟩) n cl, .int .i64 n, .int .i64 y, .slice (some ⟨gv, 0, none⟩) 0 0, .slice (some ⟨gl, 0, none⟩) n cl, .slice (some ⟨gm, 0, none⟩) n cm, .int .u8 h, .int .u8 (1 : Nat), undef, undef, undef, undef, undef, undef, undef, undef, undef, undef, undef, undef, undef, undef, undef, undef, undef, .bool false, .bool false, undef, undef, undef, undef, undef, undef, undef, undef, undef, undef, undef, undef, undef, undef, .bool true, .bool true, x93, (cond b1 (.slice (some ⟨gl, 0, none⟩) n cl) undef), (cond b2 (.int .i64 x) undef), (cond b3 (.slice (some ⟨gl, 0, none⟩) x cl) undef), x97, (cond b5 (.slice (some ⟨gl, 0, none⟩) n cl) undef), (cond b6 (.int .i64 y) undef), (cond b7 (.pointer (some ⟨gl, 0 + y * 4, none⟩)) undef), (cond b8 (.agg (fdA zf zb zd)) undef), x102, x103, (cond b11 (.slice (some ⟨gl, 0, none⟩) n cl) undef), (cond b12 (.int .i64 x) undef), (cond b13 (.slice (fromS 4 (some ⟨gl, 0, none⟩) cl x) (n - x) (cl - x)) undef), x107, undef, undef, undef, undef, undef, undef, undef, undef, undef, undef, undef, undef, undef, undef, undef, undef, undef, undef, undef, undef, undef, undef, undef, undef, undef, undef, undef, undef, undef, undef, undef, undef, undef, undef, undef, undef, undef, undef, undef, undef, undef, undef, undef, undef, undef, undef, undef, undef, undef, undef, undef, undef, undef, undef, undef, undef, undef, undef, undef, undef, undef, undef, undef], defers := [] } ∧ K14 V8 ls x zf zb zd b0 b4 b9 b10 b14 b15 x93 x97 x102 x103 x107 V) (by kernel_rfl) (by kernel_rfl) ?_ ?_ ?_
            · exact ⟨false, false, false, false, false, false, false, false, false, false, false, false, false, false, false, false, undef, undef, undef, undef, undef, rfl, rfl, h0⟩
            · intro i9 listed act9 V hi9 hr hJ
              obtain ⟨b0, b1, b2, b3, b4, b5, b6, b7, b8, b9, b10, b11, b12, b13, b14, b15, x93, x97, x102, x103, x107, rfl, rfl, hF⟩ := hJ
              have hi2 : i9 < 16 := hi9
              have hi3 : i9 = 0 ∨ i9 = 1 ∨ i9 = 2 ∨ i9 = 3 ∨ i9 = 4 ∨ i9 = 5 ∨ i9 = 6 ∨ i9 = 7 ∨ i9 = 8 ∨ i9 = 9 ∨ i9 = 10 ∨ i9 = 11 ∨ i9 = 12 ∨ i9 = 13 ∨ i9 = 14 ∨ i9 = 15 := by omega
              rcases hi3 with rfl | rfl | rfl | rfl | rfl | rfl | rfl | rfl | rfl | rfl | rfl | rfl | rfl | rfl | rfl | rfl
              · obtain rfl : b0 = false := ready_self hr
                refine st_build rfl (by kernel_rfl) (some 93) rfl 50 0 #[] rfl #[] (by kernel_rfl) (.slice (some ⟨V.heap.size, 0, none⟩) 0 0) _ (nil_fd V) ?_
                exact ⟨true, b1, b2, b3, b4, b5, b6, b7, b8, b9, b10, b11, b12, b13, b14, b15, _, x97, x102, x103, x107, rfl, rfl, hF.s0⟩
              · obtain rfl : b1 = false := ready_self hr
                refine st_val rfl (by kernel_rfl) (some 94) rfl (.slice (some ⟨gl, 0, none⟩) n cl) V (by kernel_rfl) ?_
                exact ⟨b0, true, b2, b3, b4, b5, b6, b7, b8, b9, b10, b11, b12, b13, b14, b15, x93, x97, x102, x103, x107, rfl, rfl, hF⟩
              · obtain rfl : b2 = false := ready_self hr
                refine st_val rfl (by kernel_rfl) (some 95) rfl (.int .i64 x) V (by kernel_rfl) ?_
                exact ⟨b0, b1, true, b3, b4, b5, b6, b7, b8, b9, b10, b11, b12, b13, b14, b15, x93, x97, x102, x103, x107, rfl, rfl, hF⟩
              · obtain rfl : b3 = false := ready_self hr
                obtain rfl : b1 = true := ready_dep hr 1 (by kernel_rfl)
                obtain rfl : b2 = true := ready_dep hr 2 (by kernel_rfl)
                refine st_slice_to rfl (by kernel_rfl) (some 96) rfl 50 (.tmp 94) (.tmp 95) rfl (.slice (some ⟨gl, 0, none⟩) n cl) (.int .i64 x) (.slice (some ⟨gl, 0, none⟩) x cl) (by kernel_rfl) (by kernel_rfl) (at_f_to (some ⟨gl, 0, none⟩) n cl x V (by have := HXY.out; have := HCL.out; omega)) ?_
                exact ⟨b0, true, true, true, b4, b5, b6, b7, b8, b9, b10, b11, b12, b13, b14, b15, x93, x97, x102, x103, x107, rfl, rfl, hF⟩
              · obtain rfl : b4 = false := ready_self hr
                obtain rfl : b0 = true := ready_dep hr 0 (by kernel_rfl)
                obtain rfl : b3 = true := ready_dep hr 3 (by kernel_rfl)
                obtain ⟨v, V2, hap, hF2⟩ := hF.s4 (cl := cl) HCS.out HLO.out HX9.out (by have := HNN.out; have := HCL.out; omega)
                refine st_append rfl (by kernel_rfl) (some 97) rfl 50 rfl (.tmp 93) (.tmp 96) 50 rfl x93 (.slice (some ⟨gl, 0, none⟩) x cl) v V2 (by kernel_rfl) (by kernel_rfl) hap ?_
                exact ⟨true, b1, b2, true, true, b5, b6, b7, b8, b9, b10, b11, b12, b13, b14, b15, x93, v, x102, x103, x107, rfl, rfl, hF2⟩
              · obtain rfl : b5 = false := ready_self hr
                refine st_val rfl (by kernel_rfl) (some 98) rfl (.slice (some ⟨gl, 0, none⟩) n cl) V (by kernel_rfl) ?_
                exact ⟨b0, b1, b2, b3, b4, true, b6, b7, b8, b9, b10, b11, b12, b13, b14, b15, x93, x97, x102, x103, x107, rfl, rfl, hF⟩
              · obtain rfl : b6 = false := ready_self hr
                refine st_val rfl (by kernel_rfl) (some 99) rfl (.int .i64 y) V (by kernel_rfl) ?_
                exact ⟨b0, b1, b2, b3, b4, b5, true, b7, b8, b9, b10, b11, b12, b13, b14, b15, x93, x97, x102, x103, x107, rfl, rfl, hF⟩
              · obtain rfl : b7 = false := ready_self hr
                obtain rfl : b5 = true := ready_dep hr 5 (by kernel_rfl)
                obtain rfl : b6 = true := ready_dep hr 6 (by kernel_rfl)
                refine st_val rfl (by kernel_rfl) (some 100) rfl (.pointer (some ⟨gl, 0 + y * 4, none⟩)) V (idx_fd gl 0 n cl y HXY.out.2 _ _ _ rfl (by kernel_rfl) (by kernel_rfl)) ?_
                exact ⟨b0, b1, b2, b3, b4, true, true, true, b8, b9, b10, b11, b12, b13, b14, b15, x93, x97, x102, x103, x107, rfl, rfl, hF⟩
              · obtain rfl : b8 = false := ready_self hr
                obtain rfl : b7 = true := ready_dep hr 7 (by kernel_rfl)
                refine st_load rfl (by kernel_rfl) (some 101) rfl 54 (.tmp 100) rfl ⟨gl, 0 + y * 4, none⟩ (.agg (fdA zf zb zd)) (by kernel_rfl) (HLD.out V hF.bel) ?_
                exact ⟨b0, b1, b2, b3, b4, b5, b6, true, true, b9, b10, b11, b12, b13, b14, b15, x93, x97, x102, x103, x107, rfl, rfl, hF⟩
              · obtain rfl : b9 = false := ready_self hr
                obtain rfl : b8 = true := ready_dep hr 8 (by kernel_rfl)
                refine st_build rfl (by kernel_rfl) (some 102) rfl 50 1 #[(0, .tmp 101)] rfl #[(0, .agg (fdA zf zb zd))] (by kernel_rfl) (.slice (some ⟨V.heap.size, 0, none⟩) 1 1) _ (build_fd zf zb zd V) ?_
                exact ⟨b0, b1, b2, b3, b4, b5, b6, b7, true, true, b10, b11, b12, b13, b14, b15, x93, x97, _, x103, x107, rfl, rfl, hF.s9⟩
              · obtain rfl : b10 = false := ready_self hr
                obtain rfl : b4 = true := ready_dep hr 4 (by kernel_rfl)
                obtain rfl : b9 = true := ready_dep hr 9 (by kernel_rfl)
                obtain ⟨q9, v, V2, rfl, hap, hF2⟩ := hF.s10 HZLO.out (by have := HNN.out; have := HCL.out; omega)
                refine st_append rfl (by kernel_rfl) (some 103) rfl 50 rfl (.tmp 97) (.tmp 102) 50 rfl x97 (.slice (some ⟨q9, 0, none⟩) 1 1) v V2 (by kernel_rfl) (by kernel_rfl) hap ?_
                exact ⟨b0, b1, b2, b3, true, b5, b6, b7, b8, true, true, b11, b12, b13, b14, b15, x93, x97, _, v, x107, rfl, rfl, hF2⟩
              · obtain rfl : b11 = false := ready_self hr
                refine st_val rfl (by kernel_rfl) (some 104) rfl (.slice (some ⟨gl, 0, none⟩) n cl) V (by kernel_rfl) ?_
                exact ⟨b0, b1, b2, b3, b4, b5, b6, b7, b8, b9, b10, true, b12, b13, b14, b15, x93, x97, x102, x103, x107, rfl, rfl, hF⟩
              · obtain rfl : b12 = false := ready_self hr
                refine st_val rfl (by kernel_rfl) (some 105) rfl (.int .i64 x) V (by kernel_rfl) ?_
                exact ⟨b0, b1, b2, b3, b4, b5, b6, b7, b8, b9, b10, b11, true, b13, b14, b15, x93, x97, x102, x103, x107, rfl, rfl, hF⟩
              · obtain rfl : b13 = false := ready_self hr
                obtain rfl : b11 = true := ready_dep hr 11 (by kernel_rfl)
                obtain rfl : b12 = true := ready_dep hr 12 (by kernel_rfl)
                refine st_slice_from rfl (by kernel_rfl) (some 106) rfl 50 (.tmp 104) (.tmp 105) rfl (.slice (some ⟨gl, 0, none⟩) n cl) (.int .i64 x) (.slice (fromS 4 (some ⟨gl, 0, none⟩) cl x) (n - x) (cl - x)) (by kernel_rfl) (by kernel_rfl) (at_f_from (some ⟨gl, 0, none⟩) n cl x V (by have := HXY.out; omega)) ?_
                exact ⟨b0, b1, b2, b3, b4, b5, b6, b7, b8, b9, b10, true, true, true, b14, b15, x93, x97, x102, x103, x107, rfl, rfl, hF⟩
              · obtain rfl : b14 = false := ready_self hr
                obtain rfl : b10 = true := ready_dep hr 10 (by kernel_rfl)
                obtain rfl : b13 = true := ready_dep hr 13 (by kernel_rfl)
                obtain rfl : b15 = false := ff hF.o15 rfl
                obtain ⟨v, V2, hap, hF2⟩ := hF.s14 (cl := cl) HCS.out HLO.out HX9.out (by have := HNN.out; have := HCL.out; omega) (by have := HNN.out; have := HCL.out; omega)
                rw [HNN.out] at hap
                refine st_append rfl (by kernel_rfl) (some 107) rfl 50 rfl (.tmp 103) (.tmp 106) 50 rfl x103 (.slice (fromS 4 (some ⟨gl, 0, none⟩) cl x) (n - x) (cl - x)) v V2 (by kernel_rfl) (by kernel_rfl) hap ?_
                exact ⟨b0, b1, b2, b3, b4, b5, b6, b7, b8, b9, true, b11, b12, true, true, false, x93, x97, x102, x103, v, rfl, rfl, hF2⟩
              · obtain rfl : b15 = false := ready_self hr
                obtain rfl : b14 = true := ready_dep hr 14 (by kernel_rfl)
                refine st_val rfl (by kernel_rfl) (some 16) rfl x107 V (by kernel_rfl) ?_
                exact ⟨b0, b1, b2, b3, b4, b5, b6, b7, b8, b9, b10, b11, b12, b13, true, true, x93, x97, x102, x103, x107, rfl, rfl, { hF with o15 := fun _ => rfl }⟩
            · intro act9 V hJ
              obtain ⟨b0, b1, b2, b3, b4, b5, b6, b7, b8, b9, b10, b11, b12, b13, b14, b15, x93, x97, x102, x103, x107, he, rfl, hF⟩ := hJ
              have he : (#[true, true, true, true, true, true, true, true, true, true, true, true, true, true, true, true] : Array Bool) = #[b0, b1, b2, b3, b4, b5, b6, b7, b8, b9, b10, b11, b12, b13, b14, b15] := he
              simp only [Array.mk.injEq, List.cons.injEq, and_true] at he
              obtain ⟨rfl, rfl, rfl, rfl, rfl, rfl, rfl, rfl, rfl, rfl, rfl, rfl, rfl, rfl, rfl, rfl⟩ := he
              simp only [cond_true]
              have hrr := hF.r14 rfl
              obtain ⟨ay, cy, ey9, -, -⟩ := hrr.fs
              subst ey9
              have hrw := hrr
              have hok : Okf (ls.take x ++ [(zf, Value.slice zb zf.bytes.length zd)] ++ ls.drop x) := ⟨by simp only [List.length_append, List.length_take, List.length_drop, List.length_cons, List.length_nil]; have := HNN.out; have := HCL.out; omega, fun q hq => by rcases List.mem_append.1 hq with h9 | h9; rcases List.mem_append.1 h9 with h8 | h8; exact HLV.out q (List.mem_of_mem_take h8); rw [List.mem_singleton] at h8; subst h8; exact hzok; exact HLV.out q (List.mem_of_mem_drop h9)⟩
              have HR9 : Hid (RowL _ V8.heap.size (.slice ay (ls.take x ++ [(zf, Value.slice zb zf.bytes.length zd)] ++ ls.drop x).length cy) (ls.take x ++ [(zf, Value.slice zb zf.bytes.length zd)] ++ ls.drop x) ∧ Okf (ls.take x ++ [(zf, Value.slice zb zf.bytes.length zd)] ++ ls.drop x) ∧ Below V8.heap.size V8 _) := Lib.hid ⟨hrw, hok, hF.bel⟩
              go_wp2_with fail
              go_meet
              exact ⟨ay, cy, ls.take x ++ [(zf, Value.slice zb zf.bytes.length zd)] ++ ls.drop x, rfl, HR9⟩
          · skip
            go_upto_region 11 with fail
            apply wp_region_lit
            refine gw_val (by kernel_rfl) (some 76) rfl (.bool false) (eql_8 rfl ((2 : Nat)) (0) (decide_eq_false (by decide)) (by kernel_rfl) (by kernel_rfl) _) ?_
            simp only [pu1, pu2, pu3, pu4]
            refine gw_val (by kernel_rfl) (some 75) rfl (.bool false) (by kernel_rfl) ?_
            simp only [pu1, pu2, pu3, pu4]
            apply wpList_nil
            go_upto_region 13 with fail
            apply wp_region_lit
            refine gw_val (by kernel_rfl) (some 92) rfl (.bool false) (eql_8 rfl ((2 : Nat)) (1) (decide_eq_false (by decide)) (by kernel_rfl) (by kernel_rfl) _) ?_
            simp only [pu1, pu2, pu3, pu4]
            refine gw_val (by kernel_rfl) (some 91) rfl (.bool false) (by kernel_rfl) ?_
            simp only [pu1, pu2, pu3, pu4]
            apply wpList_nil
            go_upto_region 15 with fail
            apply wp_region_lit
            refine gw_val (by kernel_rfl) (some 109) rfl (.bool true) (eql_8 rfl ((2 : Nat)) (2) (decide_eq_true (by decide)) (by kernel_rfl) (by kernel_rfl) _) ?_
            simp only [pu1, pu2, pu3, pu4]
            refine gw_val (by kernel_rfl) (some 108) rfl (.bool true) (by kernel_rfl) ?_
            simp only [pu1, pu2, pu3, pu4]
            apply wpList_nil
            obtain ⟨p, hp⟩ : ∃ p, ls[x]? = some p := ⟨_, List.getElem?_eq_getElem (by rw [HNN.out]; exact HXY.out.1)⟩
            have hmx := List.mem_of_getElem? hp
            obtain ⟨U3, hst, hr3, hb3⟩ := set_num HRM.out HNN.out.symm hp ((1 + h / 5 % 8 : Nat) : Int)
            have hz : (1 : Int) ≤ ((1 + h / 5 % 8 : Nat) : Int) ∧ ((1 + h / 5 % 8 : Nat) : Int) ≤ 8 := ⟨by omega, by omega⟩
            go_upto_region 16 with fail
            apply wp_region_lit
            refine gw_val (by kernel_rfl) (some 110) rfl (.slice (some ⟨gm, 0, none⟩) n cm) (by kernel_rfl) ?_
            simp only [pu1, pu2, pu3, pu4]
            refine gw_val (by kernel_rfl) (some 111) rfl (.int .i64 x) (by kernel_rfl) ?_
            simp only [pu1, pu2, pu3, pu4]
            refine gw_val (by kernel_rfl) (some 112) rfl (.int .u8 h) (by kernel_rfl) ?_
            simp only [pu1, pu2, pu3, pu4]
            refine gw_val (by kernel_rfl) (some 113) rfl (.int .u8 (h / 5 : Nat)) (quo_u8 rfl h HH.out (by kernel_rfl) (by kernel_rfl) _) ?_
            simp only [pu1, pu2, pu3, pu4]
            refine gw_val (by kernel_rfl) (some 114) rfl (.int .i64 (h / 5 : Nat)) (conv_u8 rfl (h / 5 : Nat) (by omega) (by have := HH.out; omega) (by kernel_rfl) _) ?_
            simp only [pu1, pu2, pu3, pu4]
            refine gw_val (by kernel_rfl) (some 115) rfl (.int .i64 (h / 5 % 8 : Nat)) (rem_nat rfl (h / 5) 8 (by decide) (by kernel_rfl) (by kernel_rfl) _) ?_
            simp only [pu1, pu2, pu3, pu4]
            refine gw_val (by kernel_rfl) (some 116) rfl (.int .i64 (1 + h / 5 % 8 : Nat)) (add_nat rfl 1 (h / 5 % 8) (by omega) (by kernel_rfl) (by kernel_rfl) _) ?_
            simp only [pu1, pu2, pu3, pu4]
            refine gw_val (by kernel_rfl) (some 117) rfl (.pointer (some ⟨gm, 0 + x * 4, none⟩)) (idx_fd gm 0 n cm x HXY.out.1 _ _ _ rfl (by kernel_rfl) (by kernel_rfl)) ?_
            simp only [pu1, pu2, pu3, pu4]
            refine gw_val (by kernel_rfl) (some 118) rfl (.pointer (some ⟨gm, 0 + x * 4, none⟩)) (by kernel_rfl) ?_
            simp only [pu1, pu2, pu3, pu4]
            refine gw_store (by kernel_rfl) rfl 3 (.tmp 118) (.tmp 116) rfl (.pointer (some ⟨gm, 0 + x * 4, none⟩)) (.int .i64 (1 + h / 5 % 8 : Nat)) (by kernel_rfl) (by kernel_rfl) (U3) (hst) ?_
            apply wpList_nil
            generalize ((1 + h / 5 % 8 : Nat) : Int) = zz at *
            have hpl : (ls.set x ({ p.1 with num := zz }, p.2)).length = n := by rw [List.length_set]; exact HNN.out
            have hrw := by have := hr3; rw [← hpl] at this; exact this
            have hok : Okf (ls.set x ({ p.1 with num := zz }, p.2)) := ⟨by rw [hpl]; have := HCL.out; omega, fun q hq => by rcases List.mem_or_eq_of_mem_set hq with h9 | h9; exact HLV.out q h9; have h8 := HLV.out p hmx; rw [h9]; exact ⟨⟨⟨hz.1, by have := hz.2; show zz ≤ _; omega, h8.1.1.2.2⟩, h8.1.2⟩, h8.2⟩⟩
            have HR9 : Hid (RowL _ V8.heap.size (.slice (some ⟨gm, 0, none⟩) (ls.set x ({ p.1 with num := zz }, p.2)).length cm) (ls.set x ({ p.1 with num := zz }, p.2)) ∧ Okf (ls.set x ({ p.1 with num := zz }, p.2)) ∧ Below V8.heap.size V8 _) := Lib.hid ⟨hrw, hok, HBU.out.trans hb3⟩
            go_wp2_with fail
            go_meet
            exact ⟨(some ⟨gm, 0, none⟩), cm, ls.set x ({ p.1 with num := zz }, p.2), by rw [hpl], HR9⟩
          · skip
            go_upto_region 11 with fail
            apply wp_region_lit
            refine gw_val (by kernel_rfl) (some 76) rfl (.bool false) (eql_8 rfl ((3 : Nat)) (0) (decide_eq_false (by decide)) (by kernel_rfl) (by kernel_rfl) _) ?_
            simp only [pu1, pu2, pu3, pu4]
            refine gw_val (by kernel_rfl) (some 75) rfl (.bool false) (by kernel_rfl) ?_
            simp only [pu1, pu2, pu3, pu4]
            apply wpList_nil
            go_upto_region 13 with fail
            apply wp_region_lit
            refine gw_val (by kernel_rfl) (some 92) rfl (.bool false) (eql_8 rfl ((3 : Nat)) (1) (decide_eq_false (by decide)) (by kernel_rfl) (by kernel_rfl) _) ?_
            simp only [pu1, pu2, pu3, pu4]
            refine gw_val (by kernel_rfl) (some 91) rfl (.bool false) (by kernel_rfl) ?_
            simp only [pu1, pu2, pu3, pu4]
            apply wpList_nil
            go_upto_region 15 with fail
            apply wp_region_lit
            refine gw_val (by kernel_rfl) (some 109) rfl (.bool false) (eql_8 rfl ((3 : Nat)) (2) (decide_eq_false (by decide)) (by kernel_rfl) (by kernel_rfl) _) ?_
            simp only [pu1, pu2, pu3, pu4]
            refine gw_val (by kernel_rfl) (some 108) rfl (.bool false) (by kernel_rfl) ?_
            simp only [pu1, pu2, pu3, pu4]
            apply wpList_nil
            go_upto_region 17 with fail
            apply wp_region_lit
            refine gw_val (by kernel_rfl) (some 120) rfl (.bool true) (eql_8 rfl ((3 : Nat)) (3) (decide_eq_true (by decide)) (by kernel_rfl) (by kernel_rfl) _) ?_
            simp only [pu1, pu2, pu3, pu4]
            refine gw_val (by kernel_rfl) (some 119) rfl (.bool true) (by kernel_rfl) ?_
            simp only [pu1, pu2, pu3, pu4]
            apply wpList_nil
            obtain ⟨zn, hzn⟩ : ∃ zn : Nat, 2 + h / 5 % 3 = zn := ⟨_, rfl⟩
            have HZN := Lib.hid hzn
            obtain ⟨zf, hzf⟩ : ∃ zf : Fld, (⟨zn, 0, 0, []⟩ : Fld) = zf := ⟨_, rfl⟩
            obtain ⟨zb, hzb⟩ : ∃ zb : Option Addr, none = zb := ⟨_, rfl⟩
            obtain ⟨zd, hzd⟩ : ∃ zd : Nat, 0 = zd := ⟨_, rfl⟩
            have hzlo : Lo V8 V8.heap.size (zf, .slice zb zf.bytes.length zd) := by rw [← hzf, ← hzb, ← hzd]; exact Lo.non _ _ _ rfl
            have hzok : Vf zf ∧ zf.bytes.length ≤ 10000 := by rw [← hzf]; exact ⟨⟨⟨by show (1 : Int) ≤ zn; omega, by show (zn : Int) ≤ _; omega, by first | exact .inl ⟨rfl, rfl⟩ | exact .inr ⟨rfl, rfl⟩⟩, ⟨by show (0 : Int) ≤ 0; omega, by show (0 : Int) ≤ 18446744073709551615; omega⟩, (fun x hx => by cases hx), by show (0 : Nat) ≤ 1000000; omega⟩, by show (0 : Nat) ≤ 10000; omega⟩
            have HZF : Hid (.agg (fdA ⟨zn, 0, 0, []⟩ none 0) = Value.agg (fdA zf zb zd)) := Lib.hid (by rw [hzf, hzb, hzd])
            have HZLO := Lib.hid hzlo
            have hx9 : x ≤ ls.length := by rw [HNN.out]; exact Nat.le_of_lt HXY.out.1
            have HX9 := Lib.hid hx9
            have h0 : K14 V8 ls x zf zb zd false false false false false false undef undef undef undef undef U2.drew := ⟨HBU.out.drew, (fun e => nomatch e), (fun e => nomatch e), (fun e => nomatch e), (fun e => nomatch e), (fun e => nomatch e), (fun e => nomatch e), (fun e => nomatch e), (fun e => nomatch e), (fun e => nomatch e), (fun e => nomatch e)⟩
            clear hzlo hx9
            go_upto_region 18 with fail
            refine wp_region_inv (fun listed act9 V => ∃ b0 b1 b2 b3 b4 b5 b6 b7 b8 b9 b10 b11 b12 b13 b14 b15 b16 b17 : Bool, ∃ x121 x125 x132 x133 x137 : Value, listed = #[b0, b1, b2, b3, b4, b5, b6, b7, b8, b9, b10, b11, b12, b13, b14, b15, b16, b17] ∧ act9 = { tmps := #[.slice ak L.length ck, .int .u8 i, .int .u8 j, .int .u8 h, undef, undef, undef, undef, .bool false, .pointer (some ⟨g5, 0, none⟩), .pointer (some ⟨g6, 0, none⟩), .slice (some ⟨gl, 0, none⟩) n cl, .int .i64 0, .int .i64 0, .int .i64 x, .int .i64 y, (cond b17 (x137) (.slice (some ⟨gm, 0, none⟩) n cm)), undef, undef, undef, undef, undef, .slice ak L.length ck, .slice (some ⟨w.heap.size, 0, none⟩) 1 1, .bool false, undef, .tuple #[.agg (txA xa a1 c1), .agg (txA xb a2 c2)], .slice ak L.length ck, .agg (txA zX none 0), .tuple #[.agg (txA xa a1 c1), .agg (txA xb a2 c2)], .agg (txA xa a1 c1), .agg (txA xb a2 c2), .tuple #[.slice (some ⟨gl, 0, none⟩) n cl, .int .i64 0, .int .i64 0], .agg (txA xa a1 c1), .slice bf fx df, .tuple #[.slice (some ⟨gl, 0, none⟩) n cl, .int .i64 0, .int .i64 0], .slice (some ⟨gl, 0, none⟩) n cl, .int .i64 0, .int .i64 0, .slice (some ⟨gl, 0, none⟩) n cl, .int .i64 n, .bool false, undef, .int .u8 i, .int .i64 i, .slice (some ⟨gl, 0, none⟩) n cl, .int .i64 n, .int .i64 x, .int .u8 j, .int .i64 j, .slice (some ⟨gl, 0, none⟩) n cl, .int .i64 n, .int .i64 y, .slice (some ⟨gv, 0, none⟩) 0 0, .slice (some ⟨gl, 0, none⟩) n cl, .slice (some ⟨gm, 0, none⟩) n cm, .int .u8 h, .int .u8 (3 : Nat), undef, undef, undef, undef, undef, undef, undef, undef, undef, undef, undef, undef, undef, undef, undef, undef, undef, .bool false, .bool false, undef, undef, undef, undef, undef, undef, undef, undef, undef, undef, undef, undef, undef, undef, .bool false, .bool false, undef, undef, undef, undef, undef, undef, undef, undef, undef, undef, undef, undef, undef, undef, undef, .bool false, .bool false, undef, undef, undef, undef, undef, undef, undef, undef, undef, .bool true, .bool true, x121, (cond b1 (.slice (some ⟨gl, 0, none⟩) n cl) undef), (cond b2 (.int .i64 x) undef), (cond b3 (.slice (some ⟨gl, 0, none⟩) x cl) undef), x125, (cond b5 (.int .u8 h) undef), (cond b6 (.int .u8 (h / 5 : Nat)) undef), (cond b7 (.int .i64 (h / 5 : Nat)) undef), (cond b8 (.int .i64 (h / 5 % 3 : Nat)) undef), (cond b9 (.int .i64 zn) undef), (cond b10 (.agg (fdA zf zb zd)) undef), x132, x133, (cond b13 (.slice (some ⟨gl, 0, none⟩) n cl) undef), (cond b14 (.int .i64 x) undef), (cond b15 (.slice (fromS 4 (some ⟨gl, 0, none⟩) cl x) (n - x) (cl - x)) undef), x137, undef, undef, undef, undef, undef, undef, undef, undef, undef, undef, undef, undef, undef, undef, undef, undef, undef, undef, undef, undef, undef, undef, undef, undef, undef, undef, undef, undef, undef, undef, undef, undef, undef], defers := [] } ∧ K14 V8 ls x zf zb zd b0 b4 b11 b12 b16 b17 x121 x125 x132 x133 x137 V) (by kernel_rfl) (by kernel_rfl) ?_ ?_ ?_
            · exact ⟨false, false, false, false, false, false, false, false, false, false, false, false, false, false, false, false, false, false, undef, undef, undef, undef, undef, rfl, rfl, h0⟩
            · intro i9 listed act9 V hi9 hr hJ
              obtain ⟨b0, b1, b2, b3, b4, b5, b6, b7, b8, b9, b10, b11, b12, b13, b14, b15, b16, b17, x121, x125, x132, x133, x137, rfl, rfl, hF⟩ := hJ
              have hi2 : i9 < 18 := hi9
              have hi3 : i9 = 0 ∨ i9 = 1 ∨ i9 = 2 ∨ i9 = 3 ∨ i9 = 4 ∨ i9 = 5 ∨ i9 = 6 ∨ i9 = 7 ∨ i9 = 8 ∨ i9 = 9 ∨ i9 = 10 ∨ i9 = 11 ∨ i9 = 12 ∨ i9 = 13 ∨ i9 = 14 ∨ i9 = 15 ∨ i9 = 16 ∨ i9 = 17 := by omega
              rcases hi3 with rfl | rfl | rfl | rfl | rfl | rfl | rfl | rfl | rfl | rfl | rfl | rfl | rfl | rfl | rfl | rfl | rfl | rfl
              · obtain rfl : b0 = false := ready_self hr
                refine st_build rfl (by kernel_rfl) (some 121) rfl 50 0 #[] rfl #[] (by kernel_rfl) (.slice (some ⟨V.heap.size, 0, none⟩) 0 0) _ (nil_fd V) ?_
                exact ⟨true, b1, b2, b3, b4, b5, b6, b7, b8, b9, b10, b11, b12, b13, b14, b15, b16, b17, _, x125, x132, x133, x137, rfl, rfl, hF.s0⟩
              · obtain rfl : b1 = false := ready_self hr
                refine st_val rfl (by kernel_rfl) (some 122) rfl (.slice (some ⟨gl, 0, none⟩) n cl) V (by kernel_rfl) ?_
                exact ⟨b0, true, b2, b3, b4, b5, b6, b7, b8, b9, b10, b11, b12, b13, b14, b15, b16, b17, x121, x125, x132, x133, x137, rfl, rfl, hF⟩
              · obtain rfl : b2 = false := ready_self hr
                refine st_val rfl (by kernel_rfl) (some 123) rfl (.int .i64 x) V (by kernel_rfl) ?_
                exact ⟨b0, b1, true, b3, b4, b5, b6, b7, b8, b9, b10, b11, b12, b13, b14, b15, b16, b17, x121, x125, x132, x133, x137, rfl, rfl, hF⟩
              · obtain rfl : b3 = false := ready_self hr
                obtain rfl : b1 = true := ready_dep hr 1 (by kernel_rfl)
                obtain rfl : b2 = true := ready_dep hr 2 (by kernel_rfl)
                refine st_slice_to rfl (by kernel_rfl) (some 124) rfl 50 (.tmp 122) (.tmp 123) rfl (.slice (some ⟨gl, 0, none⟩) n cl) (.int .i64 x) (.slice (some ⟨gl, 0, none⟩) x cl) (by kernel_rfl) (by kernel_rfl) (at_f_to (some ⟨gl, 0, none⟩) n cl x V (by have := HXY.out; have := HCL.out; omega)) ?_
                exact ⟨b0, true, true, true, b4, b5, b6, b7, b8, b9, b10, b11, b12, b13, b14, b15, b16, b17, x121, x125, x132, x133, x137, rfl, rfl, hF⟩
              · obtain rfl : b4 = false := ready_self hr
                obtain rfl : b0 = true := ready_dep hr 0 (by kernel_rfl)
                obtain rfl : b3 = true := ready_dep hr 3 (by kernel_rfl)
                obtain ⟨v, V2, hap, hF2⟩ := hF.s4 (cl := cl) HCS.out HLO.out HX9.out (by have := HNN.out; have := HCL.out; omega)
                refine st_append rfl (by kernel_rfl) (some 125) rfl 50 rfl (.tmp 121) (.tmp 124) 50 rfl x121 (.slice (some ⟨gl, 0, none⟩) x cl) v V2 (by kernel_rfl) (by kernel_rfl) hap ?_
                exact ⟨true, b1, b2, true, true, b5, b6, b7, b8, b9, b10, b11, b12, b13, b14, b15, b16, b17, x121, v, x132, x133, x137, rfl, rfl, hF2⟩
              · obtain rfl : b5 = false := ready_self hr
                refine st_val rfl (by kernel_rfl) (some 126) rfl (.int .u8 h) V (by kernel_rfl) ?_
                exact ⟨b0, b1, b2, b3, b4, true, b6, b7, b8, b9, b10, b11, b12, b13, b14, b15, b16, b17, x121, x125, x132, x133, x137, rfl, rfl, hF⟩
              · obtain rfl : b6 = false := ready_self hr
                obtain rfl : b5 = true := ready_dep hr 5 (by kernel_rfl)
                refine st_val rfl (by kernel_rfl) (some 127) rfl (.int .u8 (h / 5 : Nat)) V (quo_u8 rfl h HH.out (by kernel_rfl) (by kernel_rfl) _) ?_
                exact ⟨b0, b1, b2, b3, b4, true, true, b7, b8, b9, b10, b11, b12, b13, b14, b15, b16, b17, x121, x125, x132, x133, x137, rfl, rfl, hF⟩
              · obtain rfl : b7 = false := ready_self hr
                obtain rfl : b6 = true := ready_dep hr 6 (by kernel_rfl)
                refine st_val rfl (by kernel_rfl) (some 128) rfl (.int .i64 (h / 5 : Nat)) V (conv_u8 rfl (h / 5 : Nat) (by omega) (by have := HH.out; omega) (by kernel_rfl) _) ?_
                exact ⟨b0, b1, b2, b3, b4, b5, true, true, b8, b9, b10, b11, b12, b13, b14, b15, b16, b17, x121, x125, x132, x133, x137, rfl, rfl, hF⟩
              · obtain rfl : b8 = false := ready_self hr
                obtain rfl : b7 = true := ready_dep hr 7 (by kernel_rfl)
                refine st_val rfl (by kernel_rfl) (some 129) rfl (.int .i64 (h / 5 % 3 : Nat)) V (rem_nat rfl (h / 5) 3 (by decide) (by kernel_rfl) (by kernel_rfl) _) ?_
                exact ⟨b0, b1, b2, b3, b4, b5, b6, true, true, b9, b10, b11, b12, b13, b14, b15, b16, b17, x121, x125, x132, x133, x137, rfl, rfl, hF⟩
              · obtain rfl : b9 = false := ready_self hr
                obtain rfl : b8 = true := ready_dep hr 8 (by kernel_rfl)
                refine st_val rfl (by kernel_rfl) (some 130) rfl (.int .i64 zn) V (by rw [← HZN.out]; exact add_nat rfl 2 (h / 5 % 3) (by omega) (by kernel_rfl) (by kernel_rfl) _) ?_
                exact ⟨b0, b1, b2, b3, b4, b5, b6, b7, true, true, b10, b11, b12, b13, b14, b15, b16, b17, x121, x125, x132, x133, x137, rfl, rfl, hF⟩
              · obtain rfl : b10 = false := ready_self hr
                obtain rfl : b9 = true := ready_dep hr 9 (by kernel_rfl)
                refine st_val rfl (by kernel_rfl) (some 131) rfl (.agg (fdA zf zb zd)) V (by rw [← HZF.out]; kernel_rfl) ?_
                exact ⟨b0, b1, b2, b3, b4, b5, b6, b7, b8, true, true, b11, b12, b13, b14, b15, b16, b17, x121, x125, x132, x133, x137, rfl, rfl, hF⟩
              · obtain rfl : b11 = false := ready_self hr
                obtain rfl : b10 = true := ready_dep hr 10 (by kernel_rfl)
                refine st_build rfl (by kernel_rfl) (some 132) rfl 50 1 #[(0, .tmp 131)] rfl #[(0, .agg (fdA zf zb zd))] (by kernel_rfl) (.slice (some ⟨V.heap.size, 0, none⟩) 1 1) _ (build_fd zf zb zd V) ?_
                exact ⟨b0, b1, b2, b3, b4, b5, b6, b7, b8, b9, true, true, b12, b13, b14, b15, b16, b17, x121, x125, _, x133, x137, rfl, rfl, hF.s9⟩
              · obtain rfl : b12 = false := ready_self hr
                obtain rfl : b4 = true := ready_dep hr 4 (by kernel_rfl)
                obtain rfl : b11 = true := ready_dep hr 11 (by kernel_rfl)
                obtain ⟨q9, v, V2, rfl, hap, hF2⟩ := hF.s10 HZLO.out (by have := HNN.out; have := HCL.out; omega)
                refine st_append rfl (by kernel_rfl) (some 133) rfl 50 rfl (.tmp 125) (.tmp 132) 50 rfl x125 (.slice (some ⟨q9, 0, none⟩) 1 1) v V2 (by kernel_rfl) (by kernel_rfl) hap ?_
                exact ⟨b0, b1, b2, b3, true, b5, b6, b7, b8, b9, b10, true, true, b13, b14, b15, b16, b17, x121, x125, _, v, x137, rfl, rfl, hF2⟩
              · obtain rfl : b13 = false := ready_self hr
                refine st_val rfl (by kernel_rfl) (some 134) rfl (.slice (some ⟨gl, 0, none⟩) n cl) V (by kernel_rfl) ?_
                exact ⟨b0, b1, b2, b3, b4, b5, b6, b7, b8, b9, b10, b11, b12, true, b14, b15, b16, b17, x121, x125, x132, x133, x137, rfl, rfl, hF⟩
              · obtain rfl : b14 = false := ready_self hr
                refine st_val rfl (by kernel_rfl) (some 135) rfl (.int .i64 x) V (by kernel_rfl) ?_
                exact ⟨b0, b1, b2, b3, b4, b5, b6, b7, b8, b9, b10, b11, b12, b13, true, b15, b16, b17, x121, x125, x132, x133, x137, rfl, rfl, hF⟩
              · obtain rfl : b15 = false := ready_self hr
                obtain rfl : b13 = true := ready_dep hr 13 (by kernel_rfl)
                obtain rfl : b14 = true := ready_dep hr 14 (by kernel_rfl)
                refine st_slice_from rfl (by kernel_rfl) (some 136) rfl 50 (.tmp 134) (.tmp 135) rfl (.slice (some ⟨gl, 0, none⟩) n cl) (.int .i64 x) (.slice (fromS 4 (some ⟨gl, 0, none⟩) cl x) (n - x) (cl - x)) (by kernel_rfl) (by kernel_rfl) (at_f_from (some ⟨gl, 0, none⟩) n cl x V (by have := HXY.out; omega)) ?_
                exact ⟨b0, b1, b2, b3, b4, b5, b6, b7, b8, b9, b10, b11, b12, true, true, true, b16, b17, x121, x125, x132, x133, x137, rfl, rfl, hF⟩
              · obtain rfl : b16 = false := ready_self hr
                obtain rfl : b12 = true := ready_dep hr 12 (by kernel_rfl)
                obtain rfl : b15 = true := ready_dep hr 15 (by kernel_rfl)
                obtain rfl : b17 = false := ff hF.o15 rfl
                obtain ⟨v, V2, hap, hF2⟩ := hF.s14 (cl := cl) HCS.out HLO.out HX9.out (by have := HNN.out; have := HCL.out; omega) (by have := HNN.out; have := HCL.out; omega)
                rw [HNN.out] at hap
                refine st_append rfl (by kernel_rfl) (some 137) rfl 50 rfl (.tmp 133) (.tmp 136) 50 rfl x133 (.slice (fromS 4 (some ⟨gl, 0, none⟩) cl x) (n - x) (cl - x)) v V2 (by kernel_rfl) (by kernel_rfl) hap ?_
                exact ⟨b0, b1, b2, b3, b4, b5, b6, b7, b8, b9, b10, b11, true, b13, b14, true, true, false, x121, x125, x132, x133, v, rfl, rfl, hF2⟩
              · obtain rfl : b17 = false := ready_self hr
                obtain rfl : b16 = true := ready_dep hr 16 (by kernel_rfl)
                refine st_val rfl (by kernel_rfl) (some 16) rfl x137 V (by kernel_rfl) ?_
                exact ⟨b0, b1, b2, b3, b4, b5, b6, b7, b8, b9, b10, b11, b12, b13, b14, b15, true, true, x121, x125, x132, x133, x137, rfl, rfl, { hF with o15 := fun _ => rfl }⟩
            · intro act9 V hJ
              obtain ⟨b0, b1, b2, b3, b4, b5, b6, b7, b8, b9, b10, b11, b12, b13, b14, b15, b16, b17, x121, x125, x132, x133, x137, he, rfl, hF⟩ := hJ
              have he : (#[true, true, true, true, true, true, true, true, true, true, true, true, true, true, true, true, true, true] : Array Bool) = #[b0, b1, b2, b3, b4, b5, b6, b7, b8, b9, b10, b11, b12, b13, b14, b15, b16, b17] := he
              simp only [Array.mk.injEq, List.cons.injEq, and_true] at he
              obtain ⟨rfl, rfl, rfl, rfl, rfl, rfl, rfl, rfl, rfl, rfl, rfl, rfl, rfl, rfl, rfl, rfl, rfl, rfl⟩ := he
              simp only [cond_true]
              have hrr := hF.r14 rfl
              obtain ⟨ay, cy, ey9, -, -⟩ := hrr.fs
              subst ey9
              have hrw := hrr
              have hok : Okf (ls.take x ++ [(zf, Value.slice zb zf.bytes.length zd)] ++ ls.drop x) := ⟨by simp only [List.length_append, List.length_take, List.length_drop, List.length_cons, List.length_nil]; have := HNN.out; have := HCL.out; omega, fun q hq => by rcases List.mem_append.1 hq with h9 | h9; rcases List.mem_append.1 h9 with h8 | h8; exact HLV.out q (List.mem_of_mem_take h8); rw [List.mem_singleton] at h8; subst h8; exact hzok; exact HLV.out q (List.mem_of_mem_drop h9)⟩
              have HR9 : Hid (RowL _ V8.heap.size (.slice ay (ls.take x ++ [(zf, Value.slice zb zf.bytes.length zd)] ++ ls.drop x).length cy) (ls.take x ++ [(zf, Value.slice zb zf.bytes.length zd)] ++ ls.drop x) ∧ Okf (ls.take x ++ [(zf, Value.slice zb zf.bytes.length zd)] ++ ls.drop x) ∧ Below V8.heap.size V8 _) := Lib.hid ⟨hrw, hok, hF.bel⟩
              go_wp2_with fail
              go_meet
              exact ⟨ay, cy, ls.take x ++ [(zf, Value.slice zb zf.bytes.length zd)] ++ ls.drop x, rfl, HR9⟩
          · skip
            go_upto_region 11 with fail
            apply wp_region_lit
            refine gw_val (by kernel_rfl) (some 76) rfl (.bool false) (eql_8 rfl ((4 : Nat)) (0) (decide_eq_false (by decide)) (by kernel_rfl) (by kernel_rfl) _) ?_
            simp only [pu1, pu2, pu3, pu4]
            refine gw_val (by kernel_rfl) (some 75) rfl (.bool false) (by kernel_rfl) ?_
            simp only [pu1, pu2, pu3, pu4]
            apply wpList_nil
            go_upto_region 13 with fail
            apply wp_region_lit
            refine gw_val (by kernel_rfl) (some 92) rfl (.bool false) (eql_8 rfl ((4 : Nat)) (1) (decide_eq_false (by decide)) (by kernel_rfl) (by kernel_rfl) _) ?_
            simp only [pu1, pu2, pu3, pu4]
            refine gw_val (by kernel_rfl) (some 91) rfl (.bool false) (by kernel_rfl) ?_
            simp only [pu1, pu2, pu3, pu4]
            apply wpList_nil
            go_upto_region 15 with fail
            apply wp_region_lit
            refine gw_val (by kernel_rfl) (some 109) rfl (.bool false) (eql_8 rfl ((4 : Nat)) (2) (decide_eq_false (by decide)) (by kernel_rfl) (by kernel_rfl) _) ?_
            simp only [pu1, pu2, pu3, pu4]
            refine gw_val (by kernel_rfl) (some 108) rfl (.bool false) (by kernel_rfl) ?_
            simp only [pu1, pu2, pu3, pu4]
            apply wpList_nil
            go_upto_region 17 with fail
            apply wp_region_lit
            refine gw_val (by kernel_rfl) (some 120) rfl (.bool false) (eql_8 rfl ((4 : Nat)) (3) (decide_eq_false (by decide)) (by kernel_rfl) (by kernel_rfl) _) ?_
            simp only [pu1, pu2, pu3, pu4]
            refine gw_val (by kernel_rfl) (some 119) rfl (.bool false) (by kernel_rfl) ?_
            simp only [pu1, pu2, pu3, pu4]
            apply wpList_nil
            obtain ⟨zn, hzn⟩ : ∃ zn : Nat, 1 + h / 5 % 6 = zn := ⟨_, rfl⟩
            have HZN := Lib.hid hzn
            obtain ⟨zf, hzf⟩ : ∃ zf : Fld, (⟨zn, 2, 0, []⟩ : Fld) = zf := ⟨_, rfl⟩
            obtain ⟨zb, hzb⟩ : ∃ zb : Option Addr, none = zb := ⟨_, rfl⟩
            obtain ⟨zd, hzd⟩ : ∃ zd : Nat, 0 = zd := ⟨_, rfl⟩
            have hzlo : Lo V8 V8.heap.size (zf, .slice zb zf.bytes.length zd) := by rw [← hzf, ← hzb, ← hzd]; exact Lo.non _ _ _ rfl
            have hzok : Vf zf ∧ zf.bytes.length ≤ 10000 := by rw [← hzf]; exact ⟨⟨⟨by show (1 : Int) ≤ zn; omega, by show (zn : Int) ≤ _; omega, by first | exact .inl ⟨rfl, rfl⟩ | exact .inr ⟨rfl, rfl⟩⟩, ⟨by show (0 : Int) ≤ 0; omega, by show (0 : Int) ≤ 18446744073709551615; omega⟩, (fun x hx => by cases hx), by show (0 : Nat) ≤ 1000000; omega⟩, by show (0 : Nat) ≤ 10000; omega⟩
            have HZF : Hid (.agg (fdA ⟨zn, 2, 0, []⟩ none 0) = Value.agg (fdA zf zb zd)) := Lib.hid (by rw [hzf, hzb, hzd])
            have HZLO := Lib.hid hzlo
            have hx9 : x ≤ ls.length := by rw [HNN.out]; exact Nat.le_of_lt HXY.out.1
            have HX9 := Lib.hid hx9
            have h0 : K14 V8 ls x zf zb zd false false false false false false undef undef undef undef undef U2.drew := ⟨HBU.out.drew, (fun e => nomatch e), (fun e => nomatch e), (fun e => nomatch e), (fun e => nomatch e), (fun e => nomatch e), (fun e => nomatch e), (fun e => nomatch e), (fun e => nomatch e), (fun e => nomatch e), (fun e => nomatch e)⟩
            clear hzlo hx9
            go_upto_region 10 with fail
            refine wp_region_inv (fun listed act9 V => ∃ b0 b1 b2 b3 b4 b5 b6 b7 b8 b9 b10 b11 b12 b13 b14 b15 b16 b17 : Bool, ∃ x58 x62 x69 x70 x74 : Value, listed = #[b0, b1, b2, b3, b4, b5, b6, b7, b8, b9, b10, b11, b12, b13, b14, b15, b16, b17] ∧ act9 = { tmps := #[.slice ak L.length ck, .int .u8 i, .int .u8 j, .int .u8 h, undef, undef, undef, undef, .bool false, .pointer (some ⟨g5, 0, none⟩), .pointer (some ⟨g6, 0, none⟩), .slice (some ⟨gl, 0, none⟩) n cl, .int .i64 0, .int .i64 0, .int .i64 x, .int .i64 y, (cond b17 (x74) (.slice (some ⟨gm, 0, none⟩) n cm)), undef, undef, undef, undef, undef, .slice ak L.length ck, .slice (some ⟨w.heap.size, 0, none⟩) 1 1, .bool false, undef, .tuple #[.agg (txA xa a1 c1), .agg (txA xb a2 c2)], .slice ak L.length ck, .agg (txA zX none 0), .tuple #[.agg (txA xa a1 c1), .agg (txA xb a2 c2)], .agg (txA xa a1 c1), .agg (txA xb a2 c2), .tuple #[.slice (some ⟨gl, 0, none⟩) n cl, .int .i64 0, .int .i64 0], .agg (txA xa a1 c1), .slice bf fx df, .tuple #[.slice (some ⟨gl, 0, none⟩) n cl, .int .i64 0, .int .i64 0], .slice (some ⟨gl, 0, none⟩) n cl, .int .i64 0, .int .i64 0, .slice (some ⟨gl, 0, none⟩) n cl, .int .i64 n, .bool false, undef, .int .u8 i, .int .i64 i, .slice (some ⟨gl, 0, none⟩) n cl, .int .i64 n, .int .i64 x, .int .u8 j, .int .i64 j, .slice (some ⟨gl, 0, none⟩) n cl, .int .i64 n, .int .i64 y, .slice (some ⟨gv, 0, none⟩) 0 0, .slice (some ⟨gl, 0, none⟩) n cl, .slice (some ⟨gm, 0, none⟩) n cm, .int .u8 h, .int .u8 (4 : Nat), x58, (cond b1 (.slice (some ⟨gl, 0, none⟩) n cl) undef), (cond b2 (.int .i64 x) undef), (cond b3 (.slice (some ⟨gl, 0, none⟩) x cl) undef), x62, (cond b5 (.int .u8 h) undef), (cond b6 (.int .u8 (h / 5 : Nat)) undef), (cond b7 (.int .i64 (h / 5 : Nat)) undef), (cond b8 (.int .i64 (h / 5 % 6 : Nat)) undef), (cond b9 (.int .i64 zn) undef), (cond b10 (.agg (fdA zf zb zd)) undef), x69, x70, (cond b13 (.slice (some ⟨gl, 0, none⟩) n cl) undef), (cond b14 (.int .i64 x) undef), (cond b15 (.slice (fromS 4 (some ⟨gl, 0, none⟩) cl x) (n - x) (cl - x)) undef), x74, .bool false, .bool false, undef, undef, undef, undef, undef, undef, undef, undef, undef, undef, undef, undef, undef, undef, .bool false, .bool false, undef, undef, undef, undef, undef, undef, undef, undef, undef, undef, undef, undef, undef, undef, undef, .bool false, .bool false, undef, undef, undef, undef, undef, undef, undef, undef, undef, .bool false, .bool false, undef, undef, undef, undef, undef, undef, undef, undef, undef, undef, undef, undef, undef, undef, undef, undef, undef, undef, undef, undef, undef, undef, undef, undef, undef, undef, undef, undef, undef, undef, undef, undef, undef, undef, undef, undef, undef, undef, undef, undef, undef, undef, undef, undef, undef, undef, undef, undef, undef, undef], defers := [] } ∧ K14 V8 ls x zf zb zd b0 b4 b11 b12 b16 b17 x58 x62 x69 x70 x74 V) (by kernel_rfl) (by kernel_rfl) ?_ ?_ ?_
            · exact ⟨false, false, false, false, false, false, false, false, false, false, false, false, false, false, false, false, false, false, undef, undef, undef, undef, undef, rfl, rfl, h0⟩
            · intro i9 listed act9 V hi9 hr hJ
              obtain ⟨b0, b1, b2, b3, b4, b5, b6, b7, b8, b9, b10, b11, b12, b13, b14, b15, b16, b17, x58, x62, x69, x70, x74, rfl, rfl, hF⟩ := hJ
              have hi2 : i9 < 18 := hi9
              have hi3 : i9 = 0 ∨ i9 = 1 ∨ i9 = 2 ∨ i9 = 3 ∨ i9 = 4 ∨ i9 = 5 ∨ i9 = 6 ∨ i9 = 7 ∨ i9 = 8 ∨ i9 = 9 ∨ i9 = 10 ∨ i9 = 11 ∨ i9 = 12 ∨ i9 = 13 ∨ i9 = 14 ∨ i9 = 15 ∨ i9 = 16 ∨ i9 = 17 := by omega
              rcases hi3 with rfl | rfl | rfl | rfl | rfl | rfl | rfl | rfl | rfl | rfl | rfl | rfl | rfl | rfl | rfl | rfl | rfl | rfl
              · obtain rfl : b0 = false := ready_self hr
                refine st_build rfl (by kernel_rfl) (some 58) rfl 50 0 #[] rfl #[] (by kernel_rfl) (.slice (some ⟨V.heap.size, 0, none⟩) 0 0) _ (nil_fd V) ?_
                exact ⟨true, b1, b2, b3, b4, b5, b6, b7, b8, b9, b10, b11, b12, b13, b14, b15, b16, b17, _, x62, x69, x70, x74, rfl, rfl, hF.s0⟩
              · obtain rfl : b1 = false := ready_self hr
                refine st_val rfl (by kernel_rfl) (some 59) rfl (.slice (some ⟨gl, 0, none⟩) n cl) V (by kernel_rfl) ?_
                exact ⟨b0, true, b2, b3, b4, b5, b6, b7, b8, b9, b10, b11, b12, b13, b14, b15, b16, b17, x58, x62, x69, x70, x74, rfl, rfl, hF⟩
              · obtain rfl : b2 = false := ready_self hr
                refine st_val rfl (by kernel_rfl) (some 60) rfl (.int .i64 x) V (by kernel_rfl) ?_
                exact ⟨b0, b1, true, b3, b4, b5, b6, b7, b8, b9, b10, b11, b12, b13, b14, b15, b16, b17, x58, x62, x69, x70, x74, rfl, rfl, hF⟩
              · obtain rfl : b3 = false := ready_self hr
                obtain rfl : b1 = true := ready_dep hr 1 (by kernel_rfl)
                obtain rfl : b2 = true := ready_dep hr 2 (by kernel_rfl)
                refine st_slice_to rfl (by kernel_rfl) (some 61) rfl 50 (.tmp 59) (.tmp 60) rfl (.slice (some ⟨gl, 0, none⟩) n cl) (.int .i64 x) (.slice (some ⟨gl, 0, none⟩) x cl) (by kernel_rfl) (by kernel_rfl) (at_f_to (some ⟨gl, 0, none⟩) n cl x V (by have := HXY.out; have := HCL.out; omega)) ?_
                exact ⟨b0, true, true, true, b4, b5, b6, b7, b8, b9, b10, b11, b12, b13, b14, b15, b16, b17, x58, x62, x69, x70, x74, rfl, rfl, hF⟩
              · obtain rfl : b4 = false := ready_self hr
                obtain rfl : b0 = true := ready_dep hr 0 (by kernel_rfl)
                obtain rfl : b3 = true := ready_dep hr 3 (by kernel_rfl)
                obtain ⟨v, V2, hap, hF2⟩ := hF.s4 (cl := cl) HCS.out HLO.out HX9.out (by have := HNN.out; have := HCL.out; omega)
                refine st_append rfl (by kernel_rfl) (some 62) rfl 50 rfl (.tmp 58) (.tmp 61) 50 rfl x58 (.slice (some ⟨gl, 0, none⟩) x cl) v V2 (by kernel_rfl) (by kernel_rfl) hap ?_
                exact ⟨true, b1, b2, true, true, b5, b6, b7, b8, b9, b10, b11, b12, b13, b14, b15, b16, b17, x58, v, x69, x70, x74, rfl, rfl, hF2⟩
              · obtain rfl : b5 = false := ready_self hr
                refine st_val rfl (by kernel_rfl) (some 63) rfl (.int .u8 h) V (by kernel_rfl) ?_
                exact ⟨b0, b1, b2, b3, b4, true, b6, b7, b8, b9, b10, b11, b12, b13, b14, b15, b16, b17, x58, x62, x69, x70, x74, rfl, rfl, hF⟩
              · obtain rfl : b6 = false := ready_self hr
                obtain rfl : b5 = true := ready_dep hr 5 (by kernel_rfl)
                refine st_val rfl (by kernel_rfl) (some 64) rfl (.int .u8 (h / 5 : Nat)) V (quo_u8 rfl h HH.out (by kernel_rfl) (by kernel_rfl) _) ?_
                exact ⟨b0, b1, b2, b3, b4, true, true, b7, b8, b9, b10, b11, b12, b13, b14, b15, b16, b17, x58, x62, x69, x70, x74, rfl, rfl, hF⟩
              · obtain rfl : b7 = false := ready_self hr
                obtain rfl : b6 = true := ready_dep hr 6 (by kernel_rfl)
                refine st_val rfl (by kernel_rfl) (some 65) rfl (.int .i64 (h / 5 : Nat)) V (conv_u8 rfl (h / 5 : Nat) (by omega) (by have := HH.out; omega) (by kernel_rfl) _) ?_
                exact ⟨b0, b1, b2, b3, b4, b5, true, true, b8, b9, b10, b11, b12, b13, b14, b15, b16, b17, x58, x62, x69, x70, x74, rfl, rfl, hF⟩
              · obtain rfl : b8 = false := ready_self hr
                obtain rfl : b7 = true := ready_dep hr 7 (by kernel_rfl)
                refine st_val rfl (by kernel_rfl) (some 66) rfl (.int .i64 (h / 5 % 6 : Nat)) V (rem_nat rfl (h / 5) 6 (by decide) (by kernel_rfl) (by kernel_rfl) _) ?_
                exact ⟨b0, b1, b2, b3, b4, b5, b6, true, true, b9, b10, b11, b12, b13, b14, b15, b16, b17, x58, x62, x69, x70, x74, rfl, rfl, hF⟩
              · obtain rfl : b9 = false := ready_self hr
                obtain rfl : b8 = true := ready_dep hr 8 (by kernel_rfl)
                refine st_val rfl (by kernel_rfl) (some 67) rfl (.int .i64 zn) V (by rw [← HZN.out]; exact add_nat rfl 1 (h / 5 % 6) (by omega) (by kernel_rfl) (by kernel_rfl) _) ?_
                exact ⟨b0, b1, b2, b3, b4, b5, b6, b7, true, true, b10, b11, b12, b13, b14, b15, b16, b17, x58, x62, x69, x70, x74, rfl, rfl, hF⟩
              · obtain rfl : b10 = false := ready_self hr
                obtain rfl : b9 = true := ready_dep hr 9 (by kernel_rfl)
                refine st_val rfl (by kernel_rfl) (some 68) rfl (.agg (fdA zf zb zd)) V (by rw [← HZF.out]; kernel_rfl) ?_
                exact ⟨b0, b1, b2, b3, b4, b5, b6, b7, b8, true, true, b11, b12, b13, b14, b15, b16, b17, x58, x62, x69, x70, x74, rfl, rfl, hF⟩
              · obtain rfl : b11 = false := ready_self hr
                obtain rfl : b10 = true := ready_dep hr 10 (by kernel_rfl)
                refine st_build rfl (by kernel_rfl) (some 69) rfl 50 1 #[(0, .tmp 68)] rfl #[(0, .agg (fdA zf zb zd))] (by kernel_rfl) (.slice (some ⟨V.heap.size, 0, none⟩) 1 1) _ (build_fd zf zb zd V) ?_
                exact ⟨b0, b1, b2, b3, b4, b5, b6, b7, b8, b9, true, true, b12, b13, b14, b15, b16, b17, x58, x62, _, x70, x74, rfl, rfl, hF.s9⟩
              · obtain rfl : b12 = false := ready_self hr
                obtain rfl : b4 = true := ready_dep hr 4 (by kernel_rfl)
                obtain rfl : b11 = true := ready_dep hr 11 (by kernel_rfl)
                obtain ⟨q9, v, V2, rfl, hap, hF2⟩ := hF.s10 HZLO.out (by have := HNN.out; have := HCL.out; omega)
                refine st_append rfl (by kernel_rfl) (some 70) rfl 50 rfl (.tmp 62) (.tmp 69) 50 rfl x62 (.slice (some ⟨q9, 0, none⟩) 1 1) v V2 (by kernel_rfl) (by kernel_rfl) hap ?_
                exact ⟨b0, b1, b2, b3, true, b5, b6, b7, b8, b9, b10, true, true, b13, b14, b15, b16, b17, x58, x62, _, v, x74, rfl, rfl, hF2⟩
              · obtain rfl : b13 = false := ready_self hr
                refine st_val rfl (by kernel_rfl) (some 71) rfl (.slice (some ⟨gl, 0, none⟩) n cl) V (by kernel_rfl) ?_
                exact ⟨b0, b1, b2, b3, b4, b5, b6, b7, b8, b9, b10, b11, b12, true, b14, b15, b16, b17, x58, x62, x69, x70, x74, rfl, rfl, hF⟩
              · obtain rfl : b14 = false := ready_self hr
                refine st_val rfl (by kernel_rfl) (some 72) rfl (.int .i64 x) V (by kernel_rfl) ?_
                exact ⟨b0, b1, b2, b3, b4, b5, b6, b7, b8, b9, b10, b11, b12, b13, true, b15, b16, b17, x58, x62, x69, x70, x74, rfl, rfl, hF⟩
              · obtain rfl : b15 = false := ready_self hr
                obtain rfl : b13 = true := ready_dep hr 13 (by kernel_rfl)
                obtain rfl : b14 = true := ready_dep hr 14 (by kernel_rfl)
                refine st_slice_from rfl (by kernel_rfl) (some 73) rfl 50 (.tmp 71) (.tmp 72) rfl (.slice (some ⟨gl, 0, none⟩) n cl) (.int .i64 x) (.slice (fromS 4 (some ⟨gl, 0, none⟩) cl x) (n - x) (cl - x)) (by kernel_rfl) (by kernel_rfl) (at_f_from (some ⟨gl, 0, none⟩) n cl x V (by have := HXY.out; omega)) ?_
                exact ⟨b0, b1, b2, b3, b4, b5, b6, b7, b8, b9, b10, b11, b12, true, true, true, b16, b17, x58, x62, x69, x70, x74, rfl, rfl, hF⟩
              · obtain rfl : b16 = false := ready_self hr
                obtain rfl : b12 = true := ready_dep hr 12 (by kernel_rfl)
                obtain rfl : b15 = true := ready_dep hr 15 (by kernel_rfl)
                obtain rfl : b17 = false := ff hF.o15 rfl
                obtain ⟨v, V2, hap, hF2⟩ := hF.s14 (cl := cl) HCS.out HLO.out HX9.out (by have := HNN.out; have := HCL.out; omega) (by have := HNN.out; have := HCL.out; omega)
                rw [HNN.out] at hap
                refine st_append rfl (by kernel_rfl) (some 74) rfl 50 rfl (.tmp 70) (.tmp 73) 50 rfl x70 (.slice (fromS 4 (some ⟨gl, 0, none⟩) cl x) (n - x) (cl - x)) v V2 (by kernel_rfl) (by kernel_rfl) hap ?_
                exact ⟨b0, b1, b2, b3, b4, b5, b6, b7, b8, b9, b10, b11, true, b13, b14, true, true, false, x58, x62, x69, x70, v, rfl, rfl, hF2⟩
              · obtain rfl : b17 = false := ready_self hr
                obtain rfl : b16 = true := ready_dep hr 16 (by kernel_rfl)
                refine st_val rfl (by kernel_rfl) (some 16) rfl x74 V (by kernel_rfl) ?_
                exact ⟨b0, b1, b2, b3, b4, b5, b6, b7, b8, b9, b10, b11, b12, b13, b14, b15, true, true, x58, x62, x69, x70, x74, rfl, rfl, { hF with o15 := fun _ => rfl }⟩
            · intro act9 V hJ
              obtain ⟨b0, b1, b2, b3, b4, b5, b6, b7, b8, b9, b10, b11, b12, b13, b14, b15, b16, b17, x58, x62, x69, x70, x74, he, rfl, hF⟩ := hJ
              have he : (#[true, true, true, true, true, true, true, true, true, true, true, true, true, true, true, true, true, true] : Array Bool) = #[b0, b1, b2, b3, b4, b5, b6, b7, b8, b9, b10, b11, b12, b13, b14, b15, b16, b17] := he
              simp only [Array.mk.injEq, List.cons.injEq, and_true] at he
              obtain ⟨rfl, rfl, rfl, rfl, rfl, rfl, rfl, rfl, rfl, rfl, rfl, rfl, rfl, rfl, rfl, rfl, rfl, rfl⟩ := he
              simp only [cond_true]
              have hrr := hF.r14 rfl
              obtain ⟨ay, cy, ey9, -, -⟩ := hrr.fs
              subst ey9
              have hrw := hrr
              have hok : Okf (ls.take x ++ [(zf, Value.slice zb zf.bytes.length zd)] ++ ls.drop x) := ⟨by simp only [List.length_append, List.length_take, List.length_drop, List.length_cons, List.length_nil]; have := HNN.out; have := HCL.out; omega, fun q hq => by rcases List.mem_append.1 hq with h9 | h9; rcases List.mem_append.1 h9 with h8 | h8; exact HLV.out q (List.mem_of_mem_take h8); rw [List.mem_singleton] at h8; subst h8; exact hzok; exact HLV.out q (List.mem_of_mem_drop h9)⟩
              have HR9 : Hid (RowL _ V8.heap.size (.slice ay (ls.take x ++ [(zf, Value.slice zb zf.bytes.length zd)] ++ ls.drop x).length cy) (ls.take x ++ [(zf, Value.slice zb zf.bytes.length zd)] ++ ls.drop x) ∧ Okf (ls.take x ++ [(zf, Value.slice zb zf.bytes.length zd)] ++ ls.drop x) ∧ Below V8.heap.size V8 _) := Lib.hid ⟨hrw, hok, hF.bel⟩
              go_wp2_with fail
              go_meet
              exact ⟨ay, cy, ls.take x ++ [(zf, Value.slice zb zf.bytes.length zd)] ++ ls.drop x, rfl, HR9⟩
        case rest =>
          obtain ⟨a9, c9, P, rfl, HP⟩ := hcut
          obtain ⟨ax, cx, ex, -, hfs⟩ := HP.out.1.fs
          simp only [Value.slice.injEq, true_and] at ex
          obtain ⟨rfl, rfl⟩ := ex
          have hvf : ∀ f, f ∈ P.map Prod.fst → Vf f := fun f hf => by obtain ⟨p, hp, rfl⟩ := List.mem_map.1 hf; exact (HP.out.2.1.2 p hp).1
          have hml : (msg (P.map Prod.fst)).length ≤ 900000 := by
            have h1 := msg_bd (K := 10000) (P.map Prod.fst) (fun f hf => by obtain ⟨p, hp, rfl⟩ := List.mem_map.1 hf; exact (HP.out.2.1.2 p hp).2)
            have h3 := HP.out.2.1.1
            rw [List.length_map] at h1
            have h4 : P.length * (20 + 10000) ≤ 20 * (20 + 10000) := Nat.mul_le_mul_right _ h3
            omega
          have CMs := ref_message a9 c9 P wc hfs (fun p hp => ⟨(HP.out.2.1.2 p hp).1.1, (HP.out.2.1.2 p hp).1.2.1⟩) hml (by have := HP.out.2.1.1; omega)
          have H8X : Hid (∀ x, x ∈ msg (P.map Prod.fst) → W8 x) := Lib.hid (msg_bytes hvf)
          have hbw := HB8.out.trans (HP.out.2.2.mono HB8.out.size)
          generalize msg (P.map Prod.fst) = X at *
          clear hfs hvf hml
          go_upto_region 19 with fail
          apply wp_region_lit
          refine gw_val (by kernel_rfl) (some 138) rfl (.slice a9 P.length c9) (by kernel_rfl) ?_
          simp only [pu1, pu2, pu3, pu4]
          refine gw_callE (by kernel_rfl) (some 139) rfl 27 #[.slice a9 P.length c9] (fun v w' => Own w' wc.heap.size v X ∧ Below wc.heap.size wc w') (by kernel_rfl) (CMs.mono fun e w' q => by obtain ⟨v, h1, h2, h3⟩ := q; exact ⟨_, h1, h2, h3⟩) (fun vv Y1 hq => ?_)
          obtain ⟨hO, hb1⟩ := hq
          obtain ⟨bx, dx, rfl, hsX, hdX⟩ := hO.sl
          simp only [pu1, pu2, pu3, pu4]
          refine gw_val (by kernel_rfl) (some 17) rfl (.slice bx X.length dx) (by kernel_rfl) ?_
          simp only [pu1, pu2, pu3, pu4]
          apply wpList_nil
          have hbw1 := hbw.trans (hb1.mono hbw.size)
          have hdl := dec_len X H8X.out
          have CD := q_decode bx dx X Y1 hsX hdX H8X.out
          have CR := fun V h => ref_decode bx dx X V h hdX H8X.out
          obtain ⟨D, ee, hEX⟩ : ∃ D ee, decX X = (D, ee) := ⟨_, _, rfl⟩
          have hdb : ee = 0 → form D = X ∧ OkX D := fun h0 => by have := dec_ok H8X.out (show decX X = (D, 0) by rw [hEX, h0]); exact ⟨this.2.1, this.2.2.1⟩
          rw [hEX] at hdl CD
          simp only [hEX] at CR
          dsimp only at hdl
          have HDB := Lib.hid hdb
          have HDL := Lib.hid hdl
          clear hdb hdl hEX hO hb1 CMs hbw hdX
          go_upto_region 20 with fail
          apply wp_region_lit
          refine gw_val (by kernel_rfl) (some 141) rfl (.slice bx X.length dx) (by kernel_rfl) ?_
          simp only [pu1, pu2, pu3, pu4]
          refine gw_callE (by kernel_rfl) (some 142) rfl 22 #[.slice bx X.length dx] (fun v w' => ∃ a c, v = .tuple #[.agg (txA D a c), .int .i64 ee] ∧ RowT w' Y1.heap.size (.slice a D.tr.length c) D.tr ∧ Below Y1.heap.size Y1 w') (by kernel_rfl) ((CD).mono fun e w' q => by obtain ⟨a, c, h1, h2, h3⟩ := q; exact ⟨_, h1, a, c, rfl, h2, h3⟩) (fun vv Y6 hq => ?_)
          obtain ⟨a3, c3, rfl, hr3, hb3⟩ := hq
          obtain ⟨Y7, hst3, hbs3, hbx3⟩ := new_txv Y6 D a3 c3
          simp only [pu1, pu2, pu3, pu4]
          refine gw_val (by kernel_rfl) (some 140) rfl (.tuple #[.agg (txA D a3 c3), .int .i64 ee]) (by kernel_rfl) ?_
          simp only [pu1, pu2, pu3, pu4]
          refine gw_val (by kernel_rfl) (some 143) rfl (.agg (txA D a3 c3)) (by kernel_rfl) ?_
          simp only [pu1, pu2, pu3, pu4]
          refine gw_val (by kernel_rfl) (some 144) rfl (.int .i64 ee) (by kernel_rfl) ?_
          simp only [pu1, pu2, pu3, pu4]
          refine run_to rfl (some 18) rfl (.pointer (some ⟨Y6.heap.size, 0, none⟩)) (Y6.alloc (.cells (txA zX none 0) 29)) (by kernel_rfl) ?_
          simp only [pu1, pu2, pu3, pu4]
          refine gw_store (by kernel_rfl) rfl 29 (.tmp 18) (.tmp 143) rfl (.pointer (some ⟨Y6.heap.size, 0, none⟩)) (.agg (txA D a3 c3)) (by kernel_rfl) (by kernel_rfl) (Y7) (hst3) ?_
          refine gw_val (by kernel_rfl) (some 19) rfl (.int .i64 ee) (by kernel_rfl) ?_
          simp only [pu1, pu2, pu3, pu4]
          apply wpList_nil
          obtain ⟨g19, hg19⟩ : ∃ g19, Y6.heap.size = g19 := ⟨_, rfl⟩
          have hb7 := hb3.trans (hbs3.mono hb3.size)
          obtain ⟨ax, cx, ex, hc3, -⟩ := (hr3.below hbs3).cs
          simp only [Value.slice.injEq, true_and] at ex
          obtain ⟨rfl, rfl⟩ := ex
          have CR7 := CR Y7 (sl_below hsX hb7)
          have hsX7 := sl_below hsX hb7
          have hbw7 := hbw1.trans (hb7.mono hbw1.size)
          rw [hg19] at hbx3 ⊢
          clear hst3 hbs3 hb3 hr3 hb7 hsX CD CR hg19 hbw1
          go_upto_region 21 with fail
          apply wp_region_lit
          refine gw_val (by kernel_rfl) (some 146) rfl (.slice bx X.length dx) (by kernel_rfl) ?_
          simp only [pu1, pu2, pu3, pu4]
          refine gw_callE (by kernel_rfl) (some 147) rfl 25 #[.slice bx X.length dx] (fun v w' => ∃ a c, v = .tuple #[.agg (txA D a c), .int .i64 ee] ∧ RowT w' Y7.heap.size (.slice a D.tr.length c) D.tr ∧ Below Y7.heap.size Y7 w') (by kernel_rfl) ((CR7).mono fun e w' q => by obtain ⟨a, c, h1, h2, h3⟩ := q; exact ⟨_, h1, a, c, rfl, h2, h3⟩) (fun vv Y8 hq => ?_)
          obtain ⟨a4, c4, rfl, hr4, hb4⟩ := hq
          obtain ⟨Y9, hst4, hbs4, hbx4⟩ := new_txv Y8 D a4 c4
          simp only [pu1, pu2, pu3, pu4]
          refine gw_val (by kernel_rfl) (some 145) rfl (.tuple #[.agg (txA D a4 c4), .int .i64 ee]) (by kernel_rfl) ?_
          simp only [pu1, pu2, pu3, pu4]
          refine gw_val (by kernel_rfl) (some 148) rfl (.agg (txA D a4 c4)) (by kernel_rfl) ?_
          simp only [pu1, pu2, pu3, pu4]
          refine gw_val (by kernel_rfl) (some 149) rfl (.int .i64 ee) (by kernel_rfl) ?_
          simp only [pu1, pu2, pu3, pu4]
          refine run_to rfl (some 20) rfl (.pointer (some ⟨Y8.heap.size, 0, none⟩)) (Y8.alloc (.cells (txA zX none 0) 29)) (by kernel_rfl) ?_
          simp only [pu1, pu2, pu3, pu4]
          refine gw_store (by kernel_rfl) rfl 29 (.tmp 20) (.tmp 148) rfl (.pointer (some ⟨Y8.heap.size, 0, none⟩)) (.agg (txA D a4 c4)) (by kernel_rfl) (by kernel_rfl) (Y9) (hst4) ?_
          refine gw_val (by kernel_rfl) (some 21) rfl (.int .i64 ee) (by kernel_rfl) ?_
          simp only [pu1, pu2, pu3, pu4]
          apply wpList_nil
          obtain ⟨g21, hg21⟩ : ∃ g21, Y8.heap.size = g21 := ⟨_, rfl⟩
          have hb9 := hb4.trans (hbs4.mono hb4.size)
          obtain ⟨ax, cx, ex, hc4, -⟩ := (hr4.below hbs4).cs
          simp only [Value.slice.injEq, true_and] at ex
          obtain ⟨rfl, rfl⟩ := ex
          have hc39 := hc3.below hb9
          have hx3 := hbx3.below hbx3.lt hb9
          have hsX9 := sl_below hsX7 hb9
          have hbw9 := hbw7.trans (hb9.mono hbw7.size)
          have CSX := ref_sametx D a3 a4 c3 c4 Y9 hc39 hc4 (by have := HDL.out; omega)
          rw [hg21] at hbx4 ⊢
          clear hst4 hbs4 hb4 hr4 hsX7 CR7 hc3 hbx3 hg21 hc4 hb9 hbw7
          by_cases h0 : ee = 0
          · skip
            subst h0
            obtain ⟨hfm, hokD⟩ := HDB.out rfl
            go_upto_region 22 with fail
            apply wp_region_lit
            refine gw_val (by kernel_rfl) (some 150) rfl (.int .i64 0) (by kernel_rfl) ?_
            simp only [pu1, pu2, pu3, pu4]
            refine gw_val (by kernel_rfl) (some 151) rfl (.int .i64 0) (by kernel_rfl) ?_
            simp only [pu1, pu2, pu3, pu4]
            refine gw_val (by kernel_rfl) (some 152) rfl (.bool true) (eql_e rfl (0) (0) (decide_eq_true (rfl)) (by kernel_rfl) (by kernel_rfl) _) ?_
            simp only [pu1, pu2, pu3, pu4]
            refine gw_val (by kernel_rfl) (some 153) rfl (.bool true) (by kernel_rfl) ?_
            simp only [pu1, pu2, pu3, pu4]
            refine gw_load (by kernel_rfl) (some 154) rfl 29 (.tmp 18) rfl ⟨g19, 0, none⟩ (.agg (txA D a3 c3)) (by kernel_rfl) (load_txb (by first | exact hxz | exact hx3)) ?_
            simp only [pu1, pu2, pu3, pu4]
            refine gw_load (by kernel_rfl) (some 155) rfl 29 (.tmp 20) rfl ⟨g21, 0, none⟩ (.agg (txA D a4 c4)) (by kernel_rfl) (load_txb hbx4) ?_
            simp only [pu1, pu2, pu3, pu4]
            refine gw_call (by kernel_rfl) (some 156) rfl 23 #[.agg (txA D a3 c3), .agg (txA D a4 c4)] (.bool true) (fun w' => Below Y9.heap.size Y9 w') (by kernel_rfl) CSX (fun Z1 hz1 => ?_)
            have hbz := hbw9.trans (hz1.mono hbw9.size)
            have hxz := hx3.below hx3.lt hz1
            have hcz := hc39.below hz1
            have hsz := sl_below hsX9 hz1
            simp only [pu1, pu2, pu3, pu4]
            refine gw_val (by kernel_rfl) (some 157) rfl (.bool true) (by kernel_rfl) ?_
            simp only [pu1, pu2, pu3, pu4]
            refine gw_val (by kernel_rfl) (some 158) rfl (.bool true) (by kernel_rfl) ?_
            simp only [pu1, pu2, pu3, pu4]
            refine gw_val (by kernel_rfl) (some 159) rfl (.int .i64 0) (by kernel_rfl) ?_
            simp only [pu1, pu2, pu3, pu4]
            refine gw_val (by kernel_rfl) (some 160) rfl (.bool false) (neq_e rfl 0 0 (decide_eq_true rfl) (by kernel_rfl) (by kernel_rfl) _) ?_
            simp only [pu1, pu2, pu3, pu4]
            refine gw_val (by kernel_rfl) (some 161) rfl (.bool false) (by kernel_rfl) ?_
            simp only [pu1, pu2, pu3, pu4]
            refine gw_load (by kernel_rfl) (some 162) rfl 29 (.tmp 18) rfl ⟨g19, 0, none⟩ (.agg (txA D a3 c3)) (by kernel_rfl) (load_txb (by first | exact hxz | exact hx3)) ?_
            simp only [pu1, pu2, pu3, pu4]
            refine gw_callE (by kernel_rfl) (some 163) rfl 24 #[.agg (txA D a3 c3)] (fun v w' => Own w' Z1.heap.size v X ∧ Below Z1.heap.size Z1 w') (by kernel_rfl) ((ref_form D a3 c3 Z1 hcz hokD).mono fun e w' q => by obtain ⟨v, h1, h2, h3⟩ := q; rw [hfm] at h2; exact ⟨_, h1, h2, h3⟩) (fun vv Z2 hq => ?_)
            obtain ⟨hO9, hb9⟩ := hq
            obtain ⟨b9, d9, rfl, hs9, hd9⟩ := hO9.sl
            have CS := ref_same b9 d9 X bx dx X Z2 hs9 (sl_below hsz hb9) H8X.out H8X.out
            rw [show decide (X = X) = true from decide_eq_true rfl] at CS
            have hbz2 := hbz.trans (hb9.mono hbz.size)
            simp only [pu1, pu2, pu3, pu4]
            refine gw_val (by kernel_rfl) (some 164) rfl (.slice bx X.length dx) (by kernel_rfl) ?_
            simp only [pu1, pu2, pu3, pu4]
            refine gw_call (by kernel_rfl) (some 165) rfl 21 #[.slice b9 X.length d9, .slice bx X.length dx] (.bool true) (fun w' => Z2 = w') (by kernel_rfl) (CS) (fun V9 hV9 => ?_)
            subst hV9
            simp only [pu1, pu2, pu3, pu4]
            refine gw_val (by kernel_rfl) (some 166) rfl (.bool true) (by kernel_rfl) ?_
            simp only [pu1, pu2, pu3, pu4]
            refine gw_val (by kernel_rfl) (some 167) rfl (.bool true) (by kernel_rfl) ?_
            simp only [pu1, pu2, pu3, pu4]
            refine gw_val (by kernel_rfl) (some 168) rfl (.bool true) (by kernel_rfl) ?_
            simp only [pu1, pu2, pu3, pu4]
            refine gw_call (by kernel_rfl) (some 169) rfl 9 #[] (.bool true) (fun w' => Below w.heap.size w w') (by kernel_rfl) (HK.out Z2 hbz2) (fun V9 hV9 => ?_)
            simp only [pu1, pu2, pu3, pu4]
            refine gw_val (by kernel_rfl) (some 170) rfl (.bool true) (by kernel_rfl) ?_
            simp only [pu1, pu2, pu3, pu4]
            refine gw_val (by kernel_rfl) (some 8) rfl (.bool true) (by kernel_rfl) ?_
            simp only [pu1, pu2, pu3, pu4]
            apply wpList_nil
            have HE := Lib.hid hV9
            clear hV9 CS
            go_wp2_with fail
            go_ret
            exact ⟨rfl, HE.out⟩
          · skip
            go_upto_region 22 with fail
            apply wp_region_lit
            refine gw_val (by kernel_rfl) (some 150) rfl (.int .i64 ee) (by kernel_rfl) ?_
            simp only [pu1, pu2, pu3, pu4]
            refine gw_val (by kernel_rfl) (some 151) rfl (.int .i64 ee) (by kernel_rfl) ?_
            simp only [pu1, pu2, pu3, pu4]
            refine gw_val (by kernel_rfl) (some 152) rfl (.bool true) (eql_e rfl (ee) (ee) (decide_eq_true (rfl)) (by kernel_rfl) (by kernel_rfl) _) ?_
            simp only [pu1, pu2, pu3, pu4]
            refine gw_val (by kernel_rfl) (some 153) rfl (.bool true) (by kernel_rfl) ?_
            simp only [pu1, pu2, pu3, pu4]
            refine gw_load (by kernel_rfl) (some 154) rfl 29 (.tmp 18) rfl ⟨g19, 0, none⟩ (.agg (txA D a3 c3)) (by kernel_rfl) (load_txb hx3) ?_
            simp only [pu1, pu2, pu3, pu4]
            refine gw_load (by kernel_rfl) (some 155) rfl 29 (.tmp 20) rfl ⟨g21, 0, none⟩ (.agg (txA D a4 c4)) (by kernel_rfl) (load_txb hbx4) ?_
            simp only [pu1, pu2, pu3, pu4]
            refine gw_call (by kernel_rfl) (some 156) rfl 23 #[.agg (txA D a3 c3), .agg (txA D a4 c4)] (.bool true) (fun w' => Below Y9.heap.size Y9 w') (by kernel_rfl) CSX (fun Z1 hz1 => ?_)
            have hbz := hbw9.trans (hz1.mono hbw9.size)
            have hxz := hx3.below hx3.lt hz1
            have hcz := hc39.below hz1
            have hsz := sl_below hsX9 hz1
            simp only [pu1, pu2, pu3, pu4]
            refine gw_val (by kernel_rfl) (some 157) rfl (.bool true) (by kernel_rfl) ?_
            simp only [pu1, pu2, pu3, pu4]
            refine gw_val (by kernel_rfl) (some 158) rfl (.bool true) (by kernel_rfl) ?_
            simp only [pu1, pu2, pu3, pu4]
            refine gw_val (by kernel_rfl) (some 159) rfl (.int .i64 ee) (by kernel_rfl) ?_
            simp only [pu1, pu2, pu3, pu4]
            refine gw_val (by kernel_rfl) (some 160) rfl (.bool true) (neq_e rfl ee 0 (decide_eq_false h0) (by kernel_rfl) (by kernel_rfl) _) ?_
            simp only [pu1, pu2, pu3, pu4]
            refine gw_val (by kernel_rfl) (some 161) rfl (.bool true) (by kernel_rfl) ?_
            simp only [pu1, pu2, pu3, pu4]
            with_reducible refine gw_not (by kernel_rfl) (some 162) rfl ?_
            simp only [pu1, pu2, pu3, pu4]
            with_reducible refine gw_not (by kernel_rfl) (some 163) rfl ?_
            simp only [pu1, pu2, pu3, pu4]
            with_reducible refine gw_not (by kernel_rfl) (some 164) rfl ?_
            simp only [pu1, pu2, pu3, pu4]
            with_reducible refine gw_not (by kernel_rfl) (some 165) rfl ?_
            simp only [pu1, pu2, pu3, pu4]
            refine gw_val (by kernel_rfl) (some 166) rfl (.bool true) (by kernel_rfl) ?_
            simp only [pu1, pu2, pu3, pu4]
            refine gw_val (by kernel_rfl) (some 167) rfl (.bool true) (by kernel_rfl) ?_
            simp only [pu1, pu2, pu3, pu4]
            refine gw_val (by kernel_rfl) (some 168) rfl (.bool true) (by kernel_rfl) ?_
            simp only [pu1, pu2, pu3, pu4]
            refine gw_call (by kernel_rfl) (some 169) rfl 9 #[] (.bool true) (fun w' => Below w.heap.size w w') (by kernel_rfl) (HK.out Z1 hbz) (fun V9 hV9 => ?_)
            simp only [pu1, pu2, pu3, pu4]
            refine gw_val (by kernel_rfl) (some 170) rfl (.bool true) (by kernel_rfl) ?_
            simp only [pu1, pu2, pu3, pu4]
            refine gw_val (by kernel_rfl) (some 8) rfl (.bool true) (by kernel_rfl) ?_
            simp only [pu1, pu2, pu3, pu4]
            apply wpList_nil
            have HE := Lib.hid hV9
            clear hV9
            go_wp2_with fail
            go_ret
            exact ⟨rfl, HE.out⟩
end Go.Proofs.Ytaaeepanelmgnaa
