/-
  The program's Decode, the reference's DecodeTx: contracts.
-/
import Derived.Test.YtaaeepanelmgnaaRR
namespace Go.Proofs.Ytaaeepanelmgnaa
open Go.RowKit
set_option linter.unusedSimpArgs false
set_option linter.unusedVariables false

def DecO (w : World) (r : Txd × Int) (e : Ending) (w' : World) : Prop := ∃ a c, e = .returned (.tuple #[.agg (txA r.1 a c), .int .i64 r.2]) ∧ RowT w' w.heap.size (.slice a r.1.tr.length c) r.1.tr ∧ Below w.heap.size w w'
theorem rdL_ok {L : List Int} {t : Txd} (h8 : ∀ x, x ∈ L → W8 x) (hl : L.length ≤ 4096) (h : rdL L = some t) : OkX t := by
  unfold rdL at h
  split at h
  · cases h
  rename_i hfl
  have hfl : (flds L).2.2 = 0 := by simpa using hfl
  rcases flds_ok (fun x hx => h8 x hx) (by omega) with ⟨-, q⟩ | ⟨P, e0, hm, hP⟩
  · exact absurd hfl q
  rw [e0] at h
  obtain ⟨h1, h2, h3, h4, h5⟩ := rdX_spec hP h
  refine ⟨h2, h3, h4, h5, ?_⟩
  have := (form_len t).2
  have e2 : (form t).length = (msg P).length := by rw [h1]; rfl
  rw [e2, hm] at this
  omega
theorem decX_none {L : List Int} (hl : ¬ 4096 < L.length) (h : rdL L = none) : decX L = (zX, 4) := by
  unfold rdL at h
  unfold decX
  rw [if_neg hl]
  split at h
  · rename_i hf; rw [if_pos hf]
  · rename_i hf; rw [if_neg hf, h]
theorem decX_some {L : List Int} {t : Txd} (hl : ¬ 4096 < L.length) (h : rdL L = some t) : decX L = if valX t = 0 then (t, 0) else (zX, valX t) := by
  unfold rdL at h
  unfold decX
  rw [if_neg hl]
  split at h
  · cases h
  · rename_i hf; rw [if_neg hf, h]
theorem new_txv (V : World) (x : Txd) (a : Option Addr) (c : Nat) : ∃ V2, (Instr.storeAt 29 (.pointer (some ⟨V.heap.size, 0, none⟩)) (.agg (txA x a c))).run Try.prog (V.alloc (.cells (txA zX none 0) 29)) = .ok () V2 ∧ Below V.heap.size V V2 ∧ Bx V2 V.heap.size (txA x a c) 29 :=
  have hb : Bx (V.alloc (.cells (txA zX none 0) 29)) V.heap.size (txA zX none 0) 29 := heap_alloc_last V _
  ⟨_, (store_txz hb).1, belowRow ((Below.refl _ V).alloc (Nat.le_refl _) _) (Nat.le_refl _) _, (store_txz hb).2⟩
set_option maxRecDepth 100000 in
set_option maxHeartbeats 8000000 in
theorem q_decode (a : Option Addr) (c : Nat) (L : List Int) (w : World) (hs : Sl w a c L) (hc : L.length ≤ c) (h8 : ∀ y, y ∈ L → W8 y) :
    Calls Try.prog 22 #[.slice a L.length c] w (DecO w (decX L)) := by
  have hb0 : Below w.heap.size w (w.alloc (.cells (txA zX none 0) 29)) := (Below.refl _ w).alloc (Nat.le_refl _) _
  have hX0 : Bx (w.alloc (.cells (txA zX none 0) 29)) w.heap.size (txA zX none 0) 29 := heap_alloc_last w _
  have CR := Lib.hid (fun (hl : L.length ≤ 4096) => q_read a c L (w.alloc (.cells (txA zX none 0) 29)) (sl_below hs hb0) hc (by omega) h8)
  have HOK := Lib.hid (fun t (hl : L.length ≤ 4096) h => @rdL_ok L t h8 hl h)
  have HTO : Hid (∀ V r a2 c2, decX L = r → Below w.heap.size w V → RowT V w.heap.size (.slice a2 r.1.tr.length c2) r.1.tr → DecO w (decX L) (.returned (.tuple #[.agg (txA r.1 a2 c2), .int .i64 r.2])) V) := Lib.hid fun V r a2 c2 e hb hr => ⟨a2, c2, by rw [e], by rw [e]; exact hr, hb⟩
  have HD1 : Hid (4096 < L.length → decX L = (zX, 3)) := Lib.hid decX_len
  have HD2 : Hid (¬ 4096 < L.length → rdL L = none → decX L = (zX, 4)) := Lib.hid decX_none
  have HD3 := Lib.hid (fun t h1 h2 => @decX_some L t h1 h2)
  generalize decX L = DX at *
  generalize rdL L = RL at *
  go_enter Try.func22, Try.ntmps22
  go_upto_region 1 with fail
  change Code.wp _ _ _ _ (w.alloc (.cells (txA zX none 0) 29))
  generalize w.alloc (.cells (txA zX none 0) 29) = W at *
  obtain ⟨g2, hg2⟩ : ∃ g2, w.heap.size = g2 := ⟨_, rfl⟩
  have HB0 := Lib.hid hb0
  have HG2 : Hid (w.heap.size ≤ g2) := Lib.hid (by omega)
  have HGW : Hid (g2 < W.heap.size) := Lib.hid (by rw [← hg2]; exact hX0.lt)
  rw [hg2] at hX0
  rw [hg2]
  have HWW : Hid (w.heap.size ≤ W.heap.size) := Lib.hid hb0.size
  clear hb0 hg2 hs h8
  by_cases hl : 4096 < L.length
  · skip
    apply wp_region_lit
    refine gw_val (by kernel_rfl) (some 7) rfl (.slice a L.length c) (by kernel_rfl) ?_
    simp only [pu1, pu2, pu3, pu4]
    refine gw_val (by kernel_rfl) (some 8) rfl (.int .i64 L.length) (by kernel_rfl) ?_
    simp only [pu1, pu2, pu3, pu4]
    refine gw_val (by kernel_rfl) (some 9) rfl (.bool true) (gtr_n rfl (L.length) (4096) (decide_eq_true (by omega)) (by kernel_rfl) (by kernel_rfl) _) ?_
    simp only [pu1, pu2, pu3, pu4]
    apply wpList_nil
    obtain ⟨hstz, hZ⟩ := store_txz (y := zX) (a' := none) (c' := 0) hX0
    have HB9 := Lib.hid (belowRow HB0.out HG2.out (txA zX none 0))
    have HE := Lib.hid (HTO.out _ (zX, 3) none 0 (HD1.out hl) HB9.out (RowT.nil _ _))
    generalize World.setRow _ g2 (txA zX none 0) = V9 at *
    clear HTO HB9
    go_upto_region 2 with fail
    apply wp_region_lit
    refine gw_val (by kernel_rfl) (some 10) rfl (.agg #[.string ⟨#[]⟩, .int .u64 0, .int .u64 0, .int .u64 0, .string ⟨#[]⟩, .slice none 0 0]) (by kernel_rfl) ?_
    simp only [pu1, pu2, pu3, pu4]
    refine gw_store (by kernel_rfl) rfl 29 (.tmp 2) (.tmp 10) rfl (.pointer (some ⟨g2, 0, none⟩)) (.agg #[.string ⟨#[]⟩, .int .u64 0, .int .u64 0, .int .u64 0, .string ⟨#[]⟩, .slice none 0 0]) (by kernel_rfl) (by kernel_rfl) (V9) (hstz) ?_
    refine gw_val (by kernel_rfl) (some 3) rfl (.int .i64 3) (by kernel_rfl) ?_
    simp only [pu1, pu2, pu3, pu4]
    apply wpList_nil
    go_wp2_with fail
    exact bodyPost_ret (results_c (p := 2) (q := 3) rfl (by kernel_rfl) (load_txb hZ) rfl) rfl HE.out
  · skip
    apply wp_region_lit
    refine gw_val (by kernel_rfl) (some 7) rfl (.slice a L.length c) (by kernel_rfl) ?_
    simp only [pu1, pu2, pu3, pu4]
    refine gw_val (by kernel_rfl) (some 8) rfl (.int .i64 L.length) (by kernel_rfl) ?_
    simp only [pu1, pu2, pu3, pu4]
    refine gw_val (by kernel_rfl) (some 9) rfl (.bool false) (gtr_n rfl (L.length) (4096) (decide_eq_false (by omega)) (by kernel_rfl) (by kernel_rfl) _) ?_
    simp only [pu1, pu2, pu3, pu4]
    apply wpList_nil
    have CRW := CR.out (by omega)
    clear CR
    go_upto_region 3 with fail
    apply wp_region_lit
    refine gw_val (by kernel_rfl) (some 12) rfl (.slice a L.length c) (by kernel_rfl) ?_
    simp only [pu1, pu2, pu3, pu4]
    refine gw_callE (by kernel_rfl) (some 13) rfl 36 #[.slice a L.length c] (fun v w' => ∃ x ok a c, v = .tuple #[.agg (txA x a c), .bool ok] ∧ RL = (if ok = true then some x else none) ∧ RowT w' W.heap.size (.slice a x.tr.length c) x.tr ∧ Below W.heap.size W w') (by kernel_rfl) (CRW.mono fun e w' q => by obtain ⟨x, ok, a, c, h1, h2⟩ := q; exact ⟨_, h1, x, ok, a, c, rfl, h2⟩) (fun v5 V5 hq => ?_)
    obtain ⟨x, ok, a5, c5, rfl, hok, hrt, hb5⟩ := hq
    obtain ⟨V6, hst6, hb6, hbx⟩ := new_txv V5 x a5 c5
    simp only [pu1, pu2, pu3, pu4]
    refine gw_val (by kernel_rfl) (some 11) rfl (.tuple #[.agg (txA x a5 c5), .bool ok]) (by kernel_rfl) ?_
    simp only [pu1, pu2, pu3, pu4]
    refine gw_val (by kernel_rfl) (some 14) rfl (.agg (txA x a5 c5)) (by kernel_rfl) ?_
    simp only [pu1, pu2, pu3, pu4]
    refine gw_val (by kernel_rfl) (some 15) rfl (.bool ok) (by kernel_rfl) ?_
    simp only [pu1, pu2, pu3, pu4]
    refine run_to rfl (some 4) rfl (.pointer (some ⟨V5.heap.size, 0, none⟩)) (V5.alloc (.cells (txA zX none 0) 29)) (by kernel_rfl) ?_
    simp only [pu1, pu2, pu3, pu4]
    refine gw_store (by kernel_rfl) rfl 29 (.tmp 4) (.tmp 14) rfl (.pointer (some ⟨V5.heap.size, 0, none⟩)) (.agg (txA x a5 c5)) (by kernel_rfl) (by kernel_rfl) (V6) (hst6) ?_
    refine gw_val (by kernel_rfl) (some 5) rfl (.bool ok) (by kernel_rfl) ?_
    simp only [pu1, pu2, pu3, pu4]
    apply wpList_nil
    obtain ⟨g4, hg4⟩ : ∃ g4, V5.heap.size = g4 := ⟨_, rfl⟩
    have hb56 := hb5.trans (hb6.mono hb5.size)
    have HX6 := Lib.hid (hX0.below hX0.lt hb56)
    have HB6 := Lib.hid (HB0.out.trans (hb56.mono HB0.out.size))
    have HR6 := Lib.hid (hrt.below hb6)
    have HX4 := Lib.hid hbx
    rw [hg4] at HX4 ⊢
    clear hst6 hg4 hb5 hb6 hb56 hX0 HB0 hrt hbx
    clear CRW
    go_upto_region 4 with fail
    cases ok
    · skip
      apply wp_region_lit
      refine gw_val (by kernel_rfl) (some 16) rfl (.bool false) (by kernel_rfl) ?_
      simp only [pu1, pu2, pu3, pu4]
      refine gw_val (by kernel_rfl) (some 17) rfl (.bool true) (by kernel_rfl) ?_
      simp only [pu1, pu2, pu3, pu4]
      apply wpList_nil
      obtain ⟨hstz, hZ⟩ := store_txz (y := zX) (a' := none) (c' := 0) HX6.out
      have HB9 := Lib.hid (belowRow HB6.out HG2.out (txA zX none 0))
      have HE := Lib.hid (HTO.out _ (zX, 4) none 0 (HD2.out hl hok) HB9.out (RowT.nil _ _))
      generalize World.setRow _ g2 (txA zX none 0) = V9 at *
      clear HTO HB9
      go_upto_region 5 with fail
      apply wp_region_lit
      refine gw_val (by kernel_rfl) (some 18) rfl (.agg #[.string ⟨#[]⟩, .int .u64 0, .int .u64 0, .int .u64 0, .string ⟨#[]⟩, .slice none 0 0]) (by kernel_rfl) ?_
      simp only [pu1, pu2, pu3, pu4]
      refine gw_store (by kernel_rfl) rfl 29 (.tmp 2) (.tmp 18) rfl (.pointer (some ⟨g2, 0, none⟩)) (.agg #[.string ⟨#[]⟩, .int .u64 0, .int .u64 0, .int .u64 0, .string ⟨#[]⟩, .slice none 0 0]) (by kernel_rfl) (by kernel_rfl) (V9) (hstz) ?_
      refine gw_val (by kernel_rfl) (some 3) rfl (.int .i64 4) (by kernel_rfl) ?_
      simp only [pu1, pu2, pu3, pu4]
      apply wpList_nil
      go_wp2_with fail
      exact bodyPost_ret (results_c (p := 2) (q := 3) rfl (by kernel_rfl) (load_txb hZ) rfl) rfl HE.out
    · skip
      apply wp_region_lit
      refine gw_val (by kernel_rfl) (some 16) rfl (.bool true) (by kernel_rfl) ?_
      simp only [pu1, pu2, pu3, pu4]
      refine gw_val (by kernel_rfl) (some 17) rfl (.bool false) (by kernel_rfl) ?_
      simp only [pu1, pu2, pu3, pu4]
      apply wpList_nil
      have HVAL : Hid ((valX x = 0 → DX = (x, 0)) ∧ (valX x ≠ 0 → DX = (zX, valX x))) := Lib.hid ⟨fun h => by rw [HD3.out x hl hok, if_pos h], fun h => by rw [HD3.out x hl hok, if_neg h]⟩
      have hokx := HOK.out x (by omega) hok
      obtain ⟨ar, cr, er, hcr, -⟩ := HR6.out.cs
      simp only [Value.slice.injEq, true_and] at er
      obtain ⟨rfl, rfl⟩ := er
      have CV := q_validate x a5 c5 V6 hcr hokx.b.s2
      obtain ⟨vx, hvx⟩ : ∃ vx, valX x = vx := ⟨_, rfl⟩
      rw [hvx] at CV
      go_upto_region 6 with fail
      apply wp_region_lit
      refine gw_load (by kernel_rfl) (some 19) rfl 29 (.tmp 4) rfl ⟨g4, 0, none⟩ (.agg (txA x a5 c5)) (by kernel_rfl) (load_txb HX4.out) ?_
      simp only [pu1, pu2, pu3, pu4]
      refine gw_call (by kernel_rfl) (some 20) rfl 17 #[.agg (txA x a5 c5)] (.int .i64 vx) (fun w' => Below V6.heap.size V6 w') (by kernel_rfl) CV (fun V7 hb7 => ?_)
      simp only [pu1, pu2, pu3, pu4]
      refine gw_val (by kernel_rfl) (some 6) rfl (.int .i64 vx) (by kernel_rfl) ?_
      simp only [pu1, pu2, pu3, pu4]
      apply wpList_nil
      have HX7 := Lib.hid (HX6.out.below HX6.out.lt hb7)
      have HX47 := Lib.hid (HX4.out.below HX4.out.lt hb7)
      have HB7 := Lib.hid (HB6.out.trans (hb7.mono HB6.out.size))
      have HR7 := Lib.hid (HR6.out.below hb7)
      clear HX6 HX4 HB6 HR6 hb7 hcr CV
      go_upto_region 7 with fail
      by_cases hv : vx = 0
      · skip
        apply wp_region_lit
        refine gw_val (by kernel_rfl) (some 21) rfl (.int .i64 vx) (by kernel_rfl) ?_
        simp only [pu1, pu2, pu3, pu4]
        refine gw_val (by kernel_rfl) (some 22) rfl (.bool false) (neq_e rfl vx 0 (decide_eq_true hv) (by kernel_rfl) (by kernel_rfl) _) ?_
        simp only [pu1, pu2, pu3, pu4]
        apply wpList_nil
        obtain ⟨hstz, hZ⟩ := store_txz (y := x) (a' := a5) (c' := c5) HX7.out
        have HLD := Lib.hid (load_txb HX47.out)
        have HB9 := Lib.hid (belowRow HB7.out HG2.out (txA x a5 c5))
        have HRW := Lib.hid ((own_row (g := g2) HR7.out (txA x a5 c5) HGW.out).base (B := w.heap.size) HWW.out)
        have HE := Lib.hid (HTO.out _ (x, 0) a5 c5 (HVAL.out.1 (by rw [hvx]; exact hv)) HB9.out HRW.out)
        generalize World.setRow _ g2 (txA x a5 c5) = V9 at *
        clear HTO HB9 HRW HX7 HX47 HB7 HR7 HVAL
        go_upto_region 9 with fail
        apply wp_region_lit
        refine gw_load (by kernel_rfl) (some 25) rfl 29 (.tmp 4) rfl ⟨g4, 0, none⟩ (.agg (txA x a5 c5)) (by kernel_rfl) (HLD.out) ?_
        simp only [pu1, pu2, pu3, pu4]
        refine gw_store (by kernel_rfl) rfl 29 (.tmp 2) (.tmp 25) rfl (.pointer (some ⟨g2, 0, none⟩)) (.agg (txA x a5 c5)) (by kernel_rfl) (by kernel_rfl) (V9) (hstz) ?_
        refine gw_val (by kernel_rfl) (some 3) rfl (.int .i64 0) (by kernel_rfl) ?_
        simp only [pu1, pu2, pu3, pu4]
        apply wpList_nil
        go_wp2_with fail
        exact bodyPost_ret (results_c (p := 2) (q := 3) rfl (by kernel_rfl) (load_txb hZ) rfl) rfl HE.out
      · skip
        apply wp_region_lit
        refine gw_val (by kernel_rfl) (some 21) rfl (.int .i64 vx) (by kernel_rfl) ?_
        simp only [pu1, pu2, pu3, pu4]
        refine gw_val (by kernel_rfl) (some 22) rfl (.bool true) (neq_e rfl vx 0 (decide_eq_false hv) (by kernel_rfl) (by kernel_rfl) _) ?_
        simp only [pu1, pu2, pu3, pu4]
        apply wpList_nil
        have HDV := Lib.hid (HVAL.out.2 (by rw [hvx]; exact hv))
        rw [hvx] at HDV
        clear HVAL
        obtain ⟨hstz, hZ⟩ := store_txz (y := zX) (a' := none) (c' := 0) HX7.out
        have HB9 := Lib.hid (belowRow HB7.out HG2.out (txA zX none 0))
        have HE := Lib.hid (HTO.out _ (zX, vx) none 0 HDV.out HB9.out (RowT.nil _ _))
        generalize World.setRow _ g2 (txA zX none 0) = V9 at *
        clear HTO HB9
        go_upto_region 8 with fail
        apply wp_region_lit
        refine gw_val (by kernel_rfl) (some 23) rfl (.agg #[.string ⟨#[]⟩, .int .u64 0, .int .u64 0, .int .u64 0, .string ⟨#[]⟩, .slice none 0 0]) (by kernel_rfl) ?_
        simp only [pu1, pu2, pu3, pu4]
        refine gw_val (by kernel_rfl) (some 24) rfl (.int .i64 vx) (by kernel_rfl) ?_
        simp only [pu1, pu2, pu3, pu4]
        refine gw_store (by kernel_rfl) rfl 29 (.tmp 2) (.tmp 23) rfl (.pointer (some ⟨g2, 0, none⟩)) (.agg #[.string ⟨#[]⟩, .int .u64 0, .int .u64 0, .int .u64 0, .string ⟨#[]⟩, .slice none 0 0]) (by kernel_rfl) (by kernel_rfl) (V9) (hstz) ?_
        refine gw_val (by kernel_rfl) (some 3) rfl (.int .i64 vx) (by kernel_rfl) ?_
        simp only [pu1, pu2, pu3, pu4]
        apply wpList_nil
        go_wp2_with fail
        exact bodyPost_ret (results_c (p := 2) (q := 3) rfl (by kernel_rfl) (load_txb hZ) rfl) rfl HE.out
set_option maxRecDepth 100000 in
set_option maxHeartbeats 8000000 in
theorem ref_decode (a : Option Addr) (c : Nat) (L : List Int) (w : World) (hs : Sl w a c L) (hc : L.length ≤ c) (h8 : ∀ y, y ∈ L → W8 y) :
    Calls Try.prog 25 #[.slice a L.length c] w (DecO w (decX L)) := by
  have hb0 : Below w.heap.size w (w.alloc (.cells (txA zX none 0) 29)) := (Below.refl _ w).alloc (Nat.le_refl _) _
  have hX0 : Bx (w.alloc (.cells (txA zX none 0) 29)) w.heap.size (txA zX none 0) 29 := heap_alloc_last w _
  have CF := Lib.hid (fun (hl : L.length ≤ 4096) => ref_fields a c L (w.alloc (.cells (txA zX none 0) 29)) (by omega) (sl_below hs hb0) h8 hc)
  have HFV := Lib.hid (fun (hl : L.length ≤ 4096) => (show (∀ f, f ∈ (flds L).1 → Vf f) ∧ (flds L).1.length ≤ 100000 ∧ (∀ f, f ∈ (flds L).1 → f.bytes.length ≤ 100000) ∧ ((flds L).2.2 = 0 → msg (flds L).1 = L) ∧ (msg (flds L).1).length ≤ 4096 from by
    rcases flds_ok (fun y hy => h8 y hy) (by omega) with ⟨e, q⟩ | ⟨P, e, hm, hP⟩
    · rw [e]; exact ⟨(fun f h => nomatch h), by simp, (fun f h => nomatch h), fun h => absurd h q, by simp [msg]⟩
    · rw [e]; exact ⟨hP, by have := msg_ge P; rw [hm] at this; simp only; omega, fun f hf => by have := bytes_le hf; rw [hm] at this; omega, fun _ => hm, by rw [hm]; exact hl⟩))
  have H8 := Lib.hid h8
  have HAG := Lib.hid hs
  have HTO : Hid (∀ V r a2 c2, decX L = r → Below w.heap.size w V → RowT V w.heap.size (.slice a2 r.1.tr.length c2) r.1.tr → DecO w (decX L) (.returned (.tuple #[.agg (txA r.1 a2 c2), .int .i64 r.2])) V) := Lib.hid fun V r a2 c2 e hb hr => ⟨a2, c2, by rw [e], by rw [e]; exact hr, hb⟩
  have HD1 : Hid (4096 < L.length → decX L = (zX, 3)) := Lib.hid decX_len
  have HD2 := Lib.hid (fun (h1 : ¬ 4096 < L.length) (h2 : (flds L).2.2 ≠ 0) => decX_fld (by omega) h2)
  have HD3 : Hid (¬ 4096 < L.length → (flds L).2.2 = 0 → rdX (flds L).1 = none → decX L = (zX, 4)) := Lib.hid fun h1 h2 h3 => decX_none h1 (by unfold rdL; rw [if_neg (by rw [h2]; decide), h3])
  have HD4 : Hid (∀ t, ¬ 4096 < L.length → (flds L).2.2 = 0 → rdX (flds L).1 = some t → decX L = if valX t = 0 then (t, 0) else (zX, valX t)) := Lib.hid fun t h1 h2 h3 => decX_some h1 (by unfold rdL; rw [if_neg (by rw [h2]; decide), h3])
  generalize decX L = DX at *
  generalize flds L = FR at *
  go_enter Try.func25, Try.ntmps25
  go_upto_region 1 with fail
  change Code.wp _ _ _ _ (w.alloc (.cells (txA zX none 0) 29))
  generalize w.alloc (.cells (txA zX none 0) 29) = W at *
  obtain ⟨g2, hg2⟩ : ∃ g2, w.heap.size = g2 := ⟨_, rfl⟩
  have HB0 := Lib.hid hb0
  have HG2 : Hid (w.heap.size ≤ g2) := Lib.hid (by omega)
  have HGW : Hid (g2 < W.heap.size) := Lib.hid (by rw [← hg2]; exact hX0.lt)
  rw [hg2] at hX0
  rw [hg2]
  have HWW : Hid (w.heap.size ≤ W.heap.size) := Lib.hid hb0.size
  clear hb0 hg2 hs h8
  by_cases hl : 4096 < L.length
  · skip
    apply wp_region_lit
    refine gw_val (by kernel_rfl) (some 10) rfl (.slice a L.length c) (by kernel_rfl) ?_
    simp only [pu1, pu2, pu3, pu4]
    refine gw_val (by kernel_rfl) (some 11) rfl (.int .i64 L.length) (by kernel_rfl) ?_
    simp only [pu1, pu2, pu3, pu4]
    refine gw_val (by kernel_rfl) (some 12) rfl (.bool true) (gtr_n rfl (L.length) (4096) (decide_eq_true (by omega)) (by kernel_rfl) (by kernel_rfl) _) ?_
    simp only [pu1, pu2, pu3, pu4]
    apply wpList_nil
    obtain ⟨hstz, hZ⟩ := store_txz (y := zX) (a' := none) (c' := 0) hX0
    have HB9 := Lib.hid (belowRow HB0.out HG2.out (txA zX none 0))
    have HE := Lib.hid (HTO.out _ (zX, 3) none 0 (HD1.out hl) HB9.out (RowT.nil _ _))
    generalize World.setRow _ g2 (txA zX none 0) = V9 at *
    clear HTO HB9
    go_upto_region 2 with fail
    apply wp_region_lit
    refine gw_val (by kernel_rfl) (some 13) rfl (.agg #[.string ⟨#[]⟩, .int .u64 0, .int .u64 0, .int .u64 0, .string ⟨#[]⟩, .slice none 0 0]) (by kernel_rfl) ?_
    simp only [pu1, pu2, pu3, pu4]
    refine gw_store (by kernel_rfl) rfl 29 (.tmp 2) (.tmp 13) rfl (.pointer (some ⟨g2, 0, none⟩)) (.agg #[.string ⟨#[]⟩, .int .u64 0, .int .u64 0, .int .u64 0, .string ⟨#[]⟩, .slice none 0 0]) (by kernel_rfl) (by kernel_rfl) (V9) (hstz) ?_
    refine gw_val (by kernel_rfl) (some 3) rfl (.int .i64 3) (by kernel_rfl) ?_
    simp only [pu1, pu2, pu3, pu4]
    apply wpList_nil
    go_wp2_with fail
    exact bodyPost_ret (results_c (p := 2) (q := 3) rfl (by kernel_rfl) (load_txb hZ) rfl) rfl HE.out
  · skip
    apply wp_region_lit
    refine gw_val (by kernel_rfl) (some 10) rfl (.slice a L.length c) (by kernel_rfl) ?_
    simp only [pu1, pu2, pu3, pu4]
    refine gw_val (by kernel_rfl) (some 11) rfl (.int .i64 L.length) (by kernel_rfl) ?_
    simp only [pu1, pu2, pu3, pu4]
    refine gw_val (by kernel_rfl) (some 12) rfl (.bool false) (gtr_n rfl (L.length) (4096) (decide_eq_false (by omega)) (by kernel_rfl) (by kernel_rfl) _) ?_
    simp only [pu1, pu2, pu3, pu4]
    apply wpList_nil
    have CFW := CF.out (by omega)
    have hfv := HFV.out (by omega)
    clear CF HFV
    go_upto_region 3 with fail
    apply wp_region_lit
    refine gw_val (by kernel_rfl) (some 15) rfl (.slice a L.length c) (by kernel_rfl) ?_
    simp only [pu1, pu2, pu3, pu4]
    refine gw_callE (by kernel_rfl) (some 16) rfl 26 #[.slice a L.length c] (fun v w' => ∃ a c ps, v = .tuple #[.slice a ps.length c, .int .i64 FR.2.1, .int .i64 FR.2.2] ∧ ps.map Prod.fst = FR.1 ∧ ps.length ≤ c ∧ FsB w' W.heap.size a ps ∧ Below W.heap.size W w') (by kernel_rfl) (CFW.mono fun e w' q => by obtain ⟨v, ps, h1, h2, h3, h4⟩ := q; obtain ⟨a, c, rfl, hc, hf⟩ := h3.fsb; exact ⟨_, h1, a, c, ps, rfl, h2, hc, hf, h4⟩) (fun v5 V4 hq => ?_)
    obtain ⟨a4, c4, ps, rfl, hps, hc4, hF4, hb4⟩ := hq
    simp only [pu1, pu2, pu3, pu4]
    refine gw_val (by kernel_rfl) (some 14) rfl (.tuple #[.slice a4 ps.length c4, .int .i64 FR.2.1, .int .i64 FR.2.2]) (by kernel_rfl) ?_
    simp only [pu1, pu2, pu3, pu4]
    refine gw_val (by kernel_rfl) (some 17) rfl (.slice a4 ps.length c4) (by kernel_rfl) ?_
    simp only [pu1, pu2, pu3, pu4]
    refine gw_val (by kernel_rfl) (some 18) rfl (.int .i64 FR.2.1) (by kernel_rfl) ?_
    simp only [pu1, pu2, pu3, pu4]
    refine gw_val (by kernel_rfl) (some 19) rfl (.int .i64 FR.2.2) (by kernel_rfl) ?_
    simp only [pu1, pu2, pu3, pu4]
    refine gw_val (by kernel_rfl) (some 4) rfl (.slice a4 ps.length c4) (by kernel_rfl) ?_
    simp only [pu1, pu2, pu3, pu4]
    refine gw_val (by kernel_rfl) (some 5) rfl (.int .i64 FR.2.1) (by kernel_rfl) ?_
    simp only [pu1, pu2, pu3, pu4]
    refine gw_val (by kernel_rfl) (some 6) rfl (.int .i64 FR.2.2) (by kernel_rfl) ?_
    simp only [pu1, pu2, pu3, pu4]
    apply wpList_nil
    obtain ⟨P, n5, e5⟩ := FR
    dsimp only at *
    subst hps
    have CR := ref_read10 a4 c4 ps W.heap.size V4 hF4 hc4 hfv.1 hfv.2.2.1 (by have := hfv.2.1; rwa [List.length_map] at this)
    have HRF := Lib.hid (rd_rf hfv.1 hfv.2.2.2.2)
    have HOK := Lib.hid (fun u h => @rfX_ok (ps.map Prod.fst) u hfv.1 hfv.2.2.2.2 h)
    have HMS := Lib.hid hfv.2.2.2.1
    generalize rfX zX (ps.map Prod.fst) = RX at *
    have HB4 := Lib.hid hb4
    clear hfv CFW hF4 hc4 hb4
    go_upto_region 4 with fail
    apply wp_region_lit
    refine gw_val (by kernel_rfl) (some 21) rfl (.slice a4 ps.length c4) (by kernel_rfl) ?_
    simp only [pu1, pu2, pu3, pu4]
    refine gw_callE (by kernel_rfl) (some 22) rfl 39 #[.slice a4 ps.length c4] (fun v w' => ∃ x ok a c, v = .tuple #[.agg (txA x a c), .bool ok] ∧ RX = (if ok = true then some x else none) ∧ RowT w' V4.heap.size (.slice a x.tr.length c) x.tr ∧ Below V4.heap.size V4 w') (by kernel_rfl) (CR.mono fun e w' q => by obtain ⟨x, ok, a, c, h1, h2⟩ := q; exact ⟨_, h1, x, ok, a, c, rfl, h2⟩) (fun v5 V5 hq => ?_)
    obtain ⟨x, ok, a5, c5, rfl, hok, hrt, hb5⟩ := hq
    have hrt := hrt.base HB4.out.size
    have hb5 := HB4.out.trans (hb5.mono HB4.out.size)
    obtain ⟨V6, hst6, hb6, hbx⟩ := new_txv V5 x a5 c5
    simp only [pu1, pu2, pu3, pu4]
    refine gw_val (by kernel_rfl) (some 20) rfl (.tuple #[.agg (txA x a5 c5), .bool ok]) (by kernel_rfl) ?_
    simp only [pu1, pu2, pu3, pu4]
    refine gw_val (by kernel_rfl) (some 23) rfl (.agg (txA x a5 c5)) (by kernel_rfl) ?_
    simp only [pu1, pu2, pu3, pu4]
    refine gw_val (by kernel_rfl) (some 24) rfl (.bool ok) (by kernel_rfl) ?_
    simp only [pu1, pu2, pu3, pu4]
    refine run_to rfl (some 7) rfl (.pointer (some ⟨V5.heap.size, 0, none⟩)) (V5.alloc (.cells (txA zX none 0) 29)) (by kernel_rfl) ?_
    simp only [pu1, pu2, pu3, pu4]
    refine gw_store (by kernel_rfl) rfl 29 (.tmp 7) (.tmp 23) rfl (.pointer (some ⟨V5.heap.size, 0, none⟩)) (.agg (txA x a5 c5)) (by kernel_rfl) (by kernel_rfl) (V6) (hst6) ?_
    refine gw_val (by kernel_rfl) (some 8) rfl (.bool ok) (by kernel_rfl) ?_
    simp only [pu1, pu2, pu3, pu4]
    apply wpList_nil
    obtain ⟨g4, hg4⟩ : ∃ g4, V5.heap.size = g4 := ⟨_, rfl⟩
    have hb56 := hb5.trans (hb6.mono hb5.size)
    have HX6 := Lib.hid (hX0.below hX0.lt hb56)
    have HB6 := Lib.hid (HB0.out.trans (hb56.mono HB0.out.size))
    have HR6 := Lib.hid (hrt.below hb6)
    have HX4 := Lib.hid hbx
    have hs6 := sl_below HAG.out HB6.out
    rw [hg4] at HX4 ⊢
    clear hst6 hg4 hb5 hb6 hb56 hX0 HB0 hrt hbx CR HB4 HAG
    go_upto_region 5 with fail
    by_cases he : e5 = 0
    · skip
      cases ok
      · skip
        have HDZ := Lib.hid (HD3.out hl he (by rw [HRF.out, hok]; rfl))
        apply wp_region_lit
        refine gw_val (by kernel_rfl) (some 25) rfl (.int .i64 e5) (by kernel_rfl) ?_
        simp only [pu1, pu2, pu3, pu4]
        refine gw_val (by kernel_rfl) (some 26) rfl (.bool false) (neq_e rfl e5 0 (decide_eq_true he) (by kernel_rfl) (by kernel_rfl) _) ?_
        simp only [pu1, pu2, pu3, pu4]
        refine gw_val (by kernel_rfl) (some 27) rfl (.bool false) (by kernel_rfl) ?_
        simp only [pu1, pu2, pu3, pu4]
        refine gw_val (by kernel_rfl) (some 28) rfl (.bool false) (by kernel_rfl) ?_
        simp only [pu1, pu2, pu3, pu4]
        refine gw_val (by kernel_rfl) (some 29) rfl (.bool true) (by kernel_rfl) ?_
        simp only [pu1, pu2, pu3, pu4]
        refine gw_val (by kernel_rfl) (some 30) rfl (.bool true) (by kernel_rfl) ?_
        simp only [pu1, pu2, pu3, pu4]
        refine gw_val (by kernel_rfl) (some 31) rfl (.bool true) (by kernel_rfl) ?_
        simp only [pu1, pu2, pu3, pu4]
        with_reducible refine gw_not (by kernel_rfl) (some 32) rfl ?_
        simp only [pu1, pu2, pu3, pu4]
        with_reducible refine gw_not (by kernel_rfl) (some 33) rfl ?_
        simp only [pu1, pu2, pu3, pu4]
        with_reducible refine gw_not (by kernel_rfl) (some 34) rfl ?_
        simp only [pu1, pu2, pu3, pu4]
        with_reducible refine gw_not (by kernel_rfl) (some 35) rfl ?_
        simp only [pu1, pu2, pu3, pu4]
        with_reducible refine gw_not (by kernel_rfl) (some 36) rfl ?_
        simp only [pu1, pu2, pu3, pu4]
        refine gw_val (by kernel_rfl) (some 37) rfl (.bool true) (by kernel_rfl) ?_
        simp only [pu1, pu2, pu3, pu4]
        apply wpList_nil
        obtain ⟨hstz, hZ⟩ := store_txz (y := zX) (a' := none) (c' := 0) HX6.out
        have HB9 := Lib.hid (belowRow HB6.out HG2.out (txA zX none 0))
        have HE := Lib.hid (HTO.out _ (zX, 4) none 0 HDZ.out HB9.out (RowT.nil _ _))
        generalize World.setRow _ g2 (txA zX none 0) = V9 at *
        clear HTO HB9
        go_upto_region 6 with fail
        apply wp_region_lit
        refine gw_val (by kernel_rfl) (some 38) rfl (.agg #[.string ⟨#[]⟩, .int .u64 0, .int .u64 0, .int .u64 0, .string ⟨#[]⟩, .slice none 0 0]) (by kernel_rfl) ?_
        simp only [pu1, pu2, pu3, pu4]
        refine gw_store (by kernel_rfl) rfl 29 (.tmp 2) (.tmp 38) rfl (.pointer (some ⟨g2, 0, none⟩)) (.agg #[.string ⟨#[]⟩, .int .u64 0, .int .u64 0, .int .u64 0, .string ⟨#[]⟩, .slice none 0 0]) (by kernel_rfl) (by kernel_rfl) (V9) (hstz) ?_
        refine gw_val (by kernel_rfl) (some 3) rfl (.int .i64 4) (by kernel_rfl) ?_
        simp only [pu1, pu2, pu3, pu4]
        apply wpList_nil
        go_wp2_with fail
        exact bodyPost_ret (results_c (p := 2) (q := 3) rfl (by kernel_rfl) (load_txb hZ) rfl) rfl HE.out
      · skip
        have hokx := HOK.out x hok
        obtain ⟨ar, cr, er, hcr, -⟩ := HR6.out.cs
        simp only [Value.slice.injEq, true_and] at er
        obtain ⟨rfl, rfl⟩ := er
        have CFO := ref_form x a5 c5 V6 hcr hokx
        have HFB := Lib.hid (msg_bytes hokx.vf)
        have HXD : Hid (rdX (ps.map Prod.fst) = if form x = L then some x else none) := Lib.hid (by rw [HRF.out, hok, HMS.out he]; rfl)
        have HFF : Hid (form x = msg (txF x)) := Lib.hid rfl
        generalize form x = FO at *
        clear hcr
        by_cases hm : FO = L
        · skip
          have hdm : decide (FO = L) = true := decide_eq_true hm
          have HVAL : Hid ((valX x = 0 → DX = (x, 0)) ∧ (valX x ≠ 0 → DX = (zX, valX x))) := Lib.hid (by have h9 := HD4.out x hl he (by rw [HXD.out, if_pos hm]); exact ⟨fun h => by rw [h9, if_pos h], fun h => by rw [h9, if_neg h]⟩)
          apply wp_region_lit
          refine gw_val (by kernel_rfl) (some 25) rfl (.int .i64 e5) (by kernel_rfl) ?_
          simp only [pu1, pu2, pu3, pu4]
          refine gw_val (by kernel_rfl) (some 26) rfl (.bool false) (neq_e rfl e5 0 (decide_eq_true he) (by kernel_rfl) (by kernel_rfl) _) ?_
          simp only [pu1, pu2, pu3, pu4]
          refine gw_val (by kernel_rfl) (some 27) rfl (.bool false) (by kernel_rfl) ?_
          simp only [pu1, pu2, pu3, pu4]
          refine gw_val (by kernel_rfl) (some 28) rfl (.bool true) (by kernel_rfl) ?_
          simp only [pu1, pu2, pu3, pu4]
          refine gw_val (by kernel_rfl) (some 29) rfl (.bool false) (by kernel_rfl) ?_
          simp only [pu1, pu2, pu3, pu4]
          refine gw_val (by kernel_rfl) (some 30) rfl (.bool false) (by kernel_rfl) ?_
          simp only [pu1, pu2, pu3, pu4]
          refine gw_val (by kernel_rfl) (some 31) rfl (.bool false) (by kernel_rfl) ?_
          simp only [pu1, pu2, pu3, pu4]
          refine gw_load (by kernel_rfl) (some 32) rfl 29 (.tmp 7) rfl ⟨g4, 0, none⟩ (.agg (txA x a5 c5)) (by kernel_rfl) (load_txb HX4.out) ?_
          simp only [pu1, pu2, pu3, pu4]
          refine gw_callE (by kernel_rfl) (some 33) rfl 24 #[.agg (txA x a5 c5)] (fun v w' => Own w' V6.heap.size v FO ∧ Below V6.heap.size V6 w') (by kernel_rfl) CFO (fun u7 V7 hq => ?_)
          obtain ⟨hO7, hb7⟩ := hq
          obtain ⟨b7, d7, rfl, hs7, -⟩ := hO7.sl
          have CS : Calls Try.prog 21 #[.slice b7 FO.length d7, .slice a L.length c] V7 fun e w' => e = .returned (.bool true) ∧ V7 = w' := by have := ref_same b7 d7 FO a c L V7 hs7 (sl_below hs6 hb7) (by rw [HFF.out]; exact HFB.out) H8.out; rwa [hdm] at this
          simp only [pu1, pu2, pu3, pu4]
          refine gw_val (by kernel_rfl) (some 34) rfl (.slice a L.length c) (by kernel_rfl) ?_
          simp only [pu1, pu2, pu3, pu4]
          refine gw_call (by kernel_rfl) (some 35) rfl 21 #[.slice b7 FO.length d7, .slice a L.length c] (.bool true) (fun w' => V7 = w') (by kernel_rfl) (CS) (fun V9 hV9 => ?_)
          subst hV9
          simp only [pu1, pu2, pu3, pu4]
          refine gw_val (by kernel_rfl) (some 36) rfl (.bool false) (by kernel_rfl) ?_
          simp only [pu1, pu2, pu3, pu4]
          refine gw_val (by kernel_rfl) (some 37) rfl (.bool false) (by kernel_rfl) ?_
          simp only [pu1, pu2, pu3, pu4]
          apply wpList_nil
          replace HX6 := Lib.hid (HX6.out.below HX6.out.lt hb7)
          replace HX4 := Lib.hid (HX4.out.below HX4.out.lt hb7)
          replace HB6 := Lib.hid (HB6.out.trans (hb7.mono HB6.out.size))
          replace HR6 := Lib.hid (HR6.out.below hb7)
          clear hb7 hO7 hs7 CS hs6 CFO
          obtain ⟨ar, cr, er, hcr, -⟩ := HR6.out.cs
          simp only [Value.slice.injEq, true_and] at er
          obtain ⟨rfl, rfl⟩ := er
          have CV := ref_validate x a5 c5 V7 hcr hokx.b.s1 hokx.b.s2 hokx.b.s3
          obtain ⟨vx, hvx⟩ : ∃ vx, valX x = vx := ⟨_, rfl⟩
          rw [hvx] at CV
          go_upto_region 7 with fail
          apply wp_region_lit
          refine gw_load (by kernel_rfl) (some 39) rfl 29 (.tmp 7) rfl ⟨g4, 0, none⟩ (.agg (txA x a5 c5)) (by kernel_rfl) (load_txb HX4.out) ?_
          simp only [pu1, pu2, pu3, pu4]
          refine gw_call (by kernel_rfl) (some 40) rfl 18 #[.agg (txA x a5 c5)] (.int .i64 vx) (fun w' => Below V7.heap.size V7 w') (by kernel_rfl) CV (fun V8 hb7 => ?_)
          simp only [pu1, pu2, pu3, pu4]
          refine gw_val (by kernel_rfl) (some 9) rfl (.int .i64 vx) (by kernel_rfl) ?_
          simp only [pu1, pu2, pu3, pu4]
          apply wpList_nil
          have HX7 := Lib.hid (HX6.out.below HX6.out.lt hb7)
          have HX47 := Lib.hid (HX4.out.below HX4.out.lt hb7)
          have HB7 := Lib.hid (HB6.out.trans (hb7.mono HB6.out.size))
          have HR7 := Lib.hid (HR6.out.below hb7)
          clear HX6 HX4 HB6 HR6 hb7 hcr CV
          go_upto_region 8 with fail
          by_cases hv : vx = 0
          · skip
            apply wp_region_lit
            refine gw_val (by kernel_rfl) (some 41) rfl (.int .i64 vx) (by kernel_rfl) ?_
            simp only [pu1, pu2, pu3, pu4]
            refine gw_val (by kernel_rfl) (some 42) rfl (.bool false) (neq_e rfl vx 0 (decide_eq_true hv) (by kernel_rfl) (by kernel_rfl) _) ?_
            simp only [pu1, pu2, pu3, pu4]
            apply wpList_nil
            obtain ⟨hstz, hZ⟩ := store_txz (y := x) (a' := a5) (c' := c5) HX7.out
            have HLD := Lib.hid (load_txb HX47.out)
            have HB9 := Lib.hid (belowRow HB7.out HG2.out (txA x a5 c5))
            have HRW := Lib.hid ((own_row (g := g2) HR7.out (txA x a5 c5) HGW.out).base (B := w.heap.size) HWW.out)
            have HE := Lib.hid (HTO.out _ (x, 0) a5 c5 (HVAL.out.1 (by rw [hvx]; exact hv)) HB9.out HRW.out)
            generalize World.setRow _ g2 (txA x a5 c5) = V9 at *
            clear HTO HB9 HRW HX7 HX47 HB7 HR7 HVAL
            go_upto_region 10 with fail
            apply wp_region_lit
            refine gw_load (by kernel_rfl) (some 45) rfl 29 (.tmp 7) rfl ⟨g4, 0, none⟩ (.agg (txA x a5 c5)) (by kernel_rfl) (HLD.out) ?_
            simp only [pu1, pu2, pu3, pu4]
            refine gw_store (by kernel_rfl) rfl 29 (.tmp 2) (.tmp 45) rfl (.pointer (some ⟨g2, 0, none⟩)) (.agg (txA x a5 c5)) (by kernel_rfl) (by kernel_rfl) (V9) (hstz) ?_
            refine gw_val (by kernel_rfl) (some 3) rfl (.int .i64 0) (by kernel_rfl) ?_
            simp only [pu1, pu2, pu3, pu4]
            apply wpList_nil
            go_wp2_with fail
            exact bodyPost_ret (results_c (p := 2) (q := 3) rfl (by kernel_rfl) (load_txb hZ) rfl) rfl HE.out
          · skip
            apply wp_region_lit
            refine gw_val (by kernel_rfl) (some 41) rfl (.int .i64 vx) (by kernel_rfl) ?_
            simp only [pu1, pu2, pu3, pu4]
            refine gw_val (by kernel_rfl) (some 42) rfl (.bool true) (neq_e rfl vx 0 (decide_eq_false hv) (by kernel_rfl) (by kernel_rfl) _) ?_
            simp only [pu1, pu2, pu3, pu4]
            apply wpList_nil
            have HDV := Lib.hid (HVAL.out.2 (by rw [hvx]; exact hv))
            rw [hvx] at HDV
            clear HVAL
            obtain ⟨hstz, hZ⟩ := store_txz (y := zX) (a' := none) (c' := 0) HX7.out
            have HB9 := Lib.hid (belowRow HB7.out HG2.out (txA zX none 0))
            have HE := Lib.hid (HTO.out _ (zX, vx) none 0 HDV.out HB9.out (RowT.nil _ _))
            generalize World.setRow _ g2 (txA zX none 0) = V9 at *
            clear HTO HB9
            go_upto_region 9 with fail
            apply wp_region_lit
            refine gw_val (by kernel_rfl) (some 43) rfl (.agg #[.string ⟨#[]⟩, .int .u64 0, .int .u64 0, .int .u64 0, .string ⟨#[]⟩, .slice none 0 0]) (by kernel_rfl) ?_
            simp only [pu1, pu2, pu3, pu4]
            refine gw_val (by kernel_rfl) (some 44) rfl (.int .i64 vx) (by kernel_rfl) ?_
            simp only [pu1, pu2, pu3, pu4]
            refine gw_store (by kernel_rfl) rfl 29 (.tmp 2) (.tmp 43) rfl (.pointer (some ⟨g2, 0, none⟩)) (.agg #[.string ⟨#[]⟩, .int .u64 0, .int .u64 0, .int .u64 0, .string ⟨#[]⟩, .slice none 0 0]) (by kernel_rfl) (by kernel_rfl) (V9) (hstz) ?_
            refine gw_val (by kernel_rfl) (some 3) rfl (.int .i64 vx) (by kernel_rfl) ?_
            simp only [pu1, pu2, pu3, pu4]
            apply wpList_nil
            go_wp2_with fail
            exact bodyPost_ret (results_c (p := 2) (q := 3) rfl (by kernel_rfl) (load_txb hZ) rfl) rfl HE.out
        · skip
          have hdm : decide (FO = L) = false := decide_eq_false hm
          have HDZ := Lib.hid (HD3.out hl he (by rw [HXD.out, if_neg hm]))
          apply wp_region_lit
          refine gw_val (by kernel_rfl) (some 25) rfl (.int .i64 e5) (by kernel_rfl) ?_
          simp only [pu1, pu2, pu3, pu4]
          refine gw_val (by kernel_rfl) (some 26) rfl (.bool false) (neq_e rfl e5 0 (decide_eq_true he) (by kernel_rfl) (by kernel_rfl) _) ?_
          simp only [pu1, pu2, pu3, pu4]
          refine gw_val (by kernel_rfl) (some 27) rfl (.bool false) (by kernel_rfl) ?_
          simp only [pu1, pu2, pu3, pu4]
          refine gw_val (by kernel_rfl) (some 28) rfl (.bool true) (by kernel_rfl) ?_
          simp only [pu1, pu2, pu3, pu4]
          refine gw_val (by kernel_rfl) (some 29) rfl (.bool false) (by kernel_rfl) ?_
          simp only [pu1, pu2, pu3, pu4]
          refine gw_val (by kernel_rfl) (some 30) rfl (.bool false) (by kernel_rfl) ?_
          simp only [pu1, pu2, pu3, pu4]
          refine gw_val (by kernel_rfl) (some 31) rfl (.bool false) (by kernel_rfl) ?_
          simp only [pu1, pu2, pu3, pu4]
          refine gw_load (by kernel_rfl) (some 32) rfl 29 (.tmp 7) rfl ⟨g4, 0, none⟩ (.agg (txA x a5 c5)) (by kernel_rfl) (load_txb HX4.out) ?_
          simp only [pu1, pu2, pu3, pu4]
          refine gw_callE (by kernel_rfl) (some 33) rfl 24 #[.agg (txA x a5 c5)] (fun v w' => Own w' V6.heap.size v FO ∧ Below V6.heap.size V6 w') (by kernel_rfl) CFO (fun u7 V7 hq => ?_)
          obtain ⟨hO7, hb7⟩ := hq
          obtain ⟨b7, d7, rfl, hs7, -⟩ := hO7.sl
          have CS : Calls Try.prog 21 #[.slice b7 FO.length d7, .slice a L.length c] V7 fun e w' => e = .returned (.bool false) ∧ V7 = w' := by have := ref_same b7 d7 FO a c L V7 hs7 (sl_below hs6 hb7) (by rw [HFF.out]; exact HFB.out) H8.out; rwa [hdm] at this
          simp only [pu1, pu2, pu3, pu4]
          refine gw_val (by kernel_rfl) (some 34) rfl (.slice a L.length c) (by kernel_rfl) ?_
          simp only [pu1, pu2, pu3, pu4]
          refine gw_call (by kernel_rfl) (some 35) rfl 21 #[.slice b7 FO.length d7, .slice a L.length c] (.bool false) (fun w' => V7 = w') (by kernel_rfl) (CS) (fun V9 hV9 => ?_)
          subst hV9
          simp only [pu1, pu2, pu3, pu4]
          refine gw_val (by kernel_rfl) (some 36) rfl (.bool true) (by kernel_rfl) ?_
          simp only [pu1, pu2, pu3, pu4]
          refine gw_val (by kernel_rfl) (some 37) rfl (.bool true) (by kernel_rfl) ?_
          simp only [pu1, pu2, pu3, pu4]
          apply wpList_nil
          replace HX6 := Lib.hid (HX6.out.below HX6.out.lt hb7)
          replace HX4 := Lib.hid (HX4.out.below HX4.out.lt hb7)
          replace HB6 := Lib.hid (HB6.out.trans (hb7.mono HB6.out.size))
          replace HR6 := Lib.hid (HR6.out.below hb7)
          clear hb7 hO7 hs7 CS hs6 CFO
          obtain ⟨hstz, hZ⟩ := store_txz (y := zX) (a' := none) (c' := 0) HX6.out
          have HB9 := Lib.hid (belowRow HB6.out HG2.out (txA zX none 0))
          have HE := Lib.hid (HTO.out _ (zX, 4) none 0 HDZ.out HB9.out (RowT.nil _ _))
          generalize World.setRow _ g2 (txA zX none 0) = V9 at *
          clear HTO HB9
          go_upto_region 6 with fail
          apply wp_region_lit
          refine gw_val (by kernel_rfl) (some 38) rfl (.agg #[.string ⟨#[]⟩, .int .u64 0, .int .u64 0, .int .u64 0, .string ⟨#[]⟩, .slice none 0 0]) (by kernel_rfl) ?_
          simp only [pu1, pu2, pu3, pu4]
          refine gw_store (by kernel_rfl) rfl 29 (.tmp 2) (.tmp 38) rfl (.pointer (some ⟨g2, 0, none⟩)) (.agg #[.string ⟨#[]⟩, .int .u64 0, .int .u64 0, .int .u64 0, .string ⟨#[]⟩, .slice none 0 0]) (by kernel_rfl) (by kernel_rfl) (V9) (hstz) ?_
          refine gw_val (by kernel_rfl) (some 3) rfl (.int .i64 4) (by kernel_rfl) ?_
          simp only [pu1, pu2, pu3, pu4]
          apply wpList_nil
          go_wp2_with fail
          exact bodyPost_ret (results_c (p := 2) (q := 3) rfl (by kernel_rfl) (load_txb hZ) rfl) rfl HE.out
    · skip
      have HDZ := Lib.hid (HD2.out hl he)
      apply wp_region_lit
      refine gw_val (by kernel_rfl) (some 25) rfl (.int .i64 e5) (by kernel_rfl) ?_
      simp only [pu1, pu2, pu3, pu4]
      refine gw_val (by kernel_rfl) (some 26) rfl (.bool true) (neq_e rfl e5 0 (decide_eq_false he) (by kernel_rfl) (by kernel_rfl) _) ?_
      simp only [pu1, pu2, pu3, pu4]
      refine gw_val (by kernel_rfl) (some 27) rfl (.bool true) (by kernel_rfl) ?_
      simp only [pu1, pu2, pu3, pu4]
      with_reducible refine gw_not (by kernel_rfl) (some 28) rfl ?_
      simp only [pu1, pu2, pu3, pu4]
      with_reducible refine gw_not (by kernel_rfl) (some 29) rfl ?_
      simp only [pu1, pu2, pu3, pu4]
      refine gw_val (by kernel_rfl) (some 30) rfl (.bool true) (by kernel_rfl) ?_
      simp only [pu1, pu2, pu3, pu4]
      refine gw_val (by kernel_rfl) (some 31) rfl (.bool true) (by kernel_rfl) ?_
      simp only [pu1, pu2, pu3, pu4]
      with_reducible refine gw_not (by kernel_rfl) (some 32) rfl ?_
      simp only [pu1, pu2, pu3, pu4]
      with_reducible refine gw_not (by kernel_rfl) (some 33) rfl ?_
      simp only [pu1, pu2, pu3, pu4]
      with_reducible refine gw_not (by kernel_rfl) (some 34) rfl ?_
      simp only [pu1, pu2, pu3, pu4]
      with_reducible refine gw_not (by kernel_rfl) (some 35) rfl ?_
      simp only [pu1, pu2, pu3, pu4]
      with_reducible refine gw_not (by kernel_rfl) (some 36) rfl ?_
      simp only [pu1, pu2, pu3, pu4]
      refine gw_val (by kernel_rfl) (some 37) rfl (.bool true) (by kernel_rfl) ?_
      simp only [pu1, pu2, pu3, pu4]
      apply wpList_nil
      obtain ⟨hstz, hZ⟩ := store_txz (y := zX) (a' := none) (c' := 0) HX6.out
      have HB9 := Lib.hid (belowRow HB6.out HG2.out (txA zX none 0))
      have HE := Lib.hid (HTO.out _ (zX, 4) none 0 HDZ.out HB9.out (RowT.nil _ _))
      generalize World.setRow _ g2 (txA zX none 0) = V9 at *
      clear HTO HB9
      go_upto_region 6 with fail
      apply wp_region_lit
      refine gw_val (by kernel_rfl) (some 38) rfl (.agg #[.string ⟨#[]⟩, .int .u64 0, .int .u64 0, .int .u64 0, .string ⟨#[]⟩, .slice none 0 0]) (by kernel_rfl) ?_
      simp only [pu1, pu2, pu3, pu4]
      refine gw_store (by kernel_rfl) rfl 29 (.tmp 2) (.tmp 38) rfl (.pointer (some ⟨g2, 0, none⟩)) (.agg #[.string ⟨#[]⟩, .int .u64 0, .int .u64 0, .int .u64 0, .string ⟨#[]⟩, .slice none 0 0]) (by kernel_rfl) (by kernel_rfl) (V9) (hstz) ?_
      refine gw_val (by kernel_rfl) (some 3) rfl (.int .i64 4) (by kernel_rfl) ?_
      simp only [pu1, pu2, pu3, pu4]
      apply wpList_nil
      go_wp2_with fail
      exact bodyPost_ret (results_c (p := 2) (q := 3) rfl (by kernel_rfl) (load_txb hZ) rfl) rfl HE.out
end Go.Proofs.Ytaaeepanelmgnaa
