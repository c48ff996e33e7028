/-
  The program's Decode, the reference's DecodeTx: contracts. Strings in rows, small operations. The numbers that the statements draw from; mempoolmake's Name and Memo: contracts.
-/
import Derived.Test.YtglglhcnofbagaaGreatK13
namespace Go.Proofs.YtglglhcnofbagaaGreat
attribute [local irreducible] wpList wpQuiet
open Go.RowKit
set_option linter.unusedSimpArgs false
set_option linter.unusedVariables false

def DecO (w : World) (r : Txd × Int) (e : Ending) (w' : World) : Prop := ∃ a c, e = .returned (.tuple #[.agg (txA r.1 a c), .int .i64 r.2]) ∧ RowT w' w.heap.size (.slice a r.1.tr.length c) r.1.tr ∧ Below w.heap.size w w'
theorem rdL_ok {L : List Int} {t : Txd} (h8 : ∀ x, x ∈ L → W8 x) (hl : L.length ≤ 4096) (h : rdL L = some t) : OkX t := by
 unfold rdL at h
 split at h
 ·cases h
 rename_i hfl
 have hfl : (flds L).2.2 = 0 := by simpa using hfl
 rcases flds_ok (fun x hx => h8 x hx) (by omega) with ⟨-, q⟩ | ⟨P, e0, hm, hP⟩
 ·exact absurd hfl q
 rw [e0] at h
 obtain ⟨h1, h2, h3, h4, h5⟩ := rdX_spec hP h
 refine ⟨h2, h3, h4, h5, ?_⟩
 have := (form_len t).2
 have e2 : (form t).length = (msg P).length := by rw [h1]; rfl
 rw [e2, hm] at this
 omega
theorem decX_none {L : List Int} (hl : ¬ 4096 < L.length) (h : rdL L = none) : decX L = (zX, 4) := by
 unfold rdL at h
 unfold decX
 rw [if_neg hl]
 split at h
 ·rename_i hf; rw [if_pos hf]
 ·rename_i hf; rw [if_neg hf, h]
theorem decX_some {L : List Int} {t : Txd} (hl : ¬ 4096 < L.length) (h : rdL L = some t) : decX L = if valX t = 0 then (t, 0) else (zX, valX t) := by
 unfold rdL at h
 unfold decX
 rw [if_neg hl]
 split at h
 ·cases h
 ·rename_i hf; rw [if_neg hf, h]
theorem new_txv (V : World) (x : Txd) (a : Option Addr) (c : Nat) : ∃ V2, (Instr.storeAt 46 (.pointer (some ⟨V.heap.size, 0, none⟩)) (.agg (txA x a c))).run Tryz.prog (V.alloc (.cells (txA zX none 0) 46)) = .ok () V2 ∧ Below V.heap.size V V2 ∧ Bx V2 V.heap.size (txA x a c) 46 :=
 have hb : Bx (V.alloc (.cells (txA zX none 0) 46)) V.heap.size (txA zX none 0) 46 := heap_alloc_last V _
 ⟨_, (store_txz hb).1, belowRow ((Below.refl _ V).alloc (Nat.le_refl _) _) (Nat.le_refl _) _, (store_txz hb).2⟩
set_option maxRecDepth 100000 in
set_option maxHeartbeats 8000000 in
theorem q_decode (a : Option Addr) (c : Nat) (L : List Int) (w : World) (hs : Sl w a c L) (hc : L.length ≤ c) (h8 : ∀ y, y ∈ L → W8 y) :
  Calls Tryz.prog 51 #[.slice a L.length c] w (DecO w (decX L)) := by
 have hb0 : Below w.heap.size w (w.alloc (.cells (txA zX none 0) 46)) := (Below.refl _ w).alloc (Nat.le_refl _) _
 have hX0 : Bx (w.alloc (.cells (txA zX none 0) 46)) w.heap.size (txA zX none 0) 46 := heap_alloc_last w _
 have CR := Lib.hid (fun (hl : L.length ≤ 4096) => q_read a c L (w.alloc (.cells (txA zX none 0) 46)) (sl_below hs hb0) hc (by omega) h8)
 have HOK := Lib.hid (fun t (hl : L.length ≤ 4096) h => @rdL_ok L t h8 hl h)
 have HTO : Hid (∀ V r a2 c2, decX L = r → Below w.heap.size w V → RowT V w.heap.size (.slice a2 r.1.tr.length c2) r.1.tr → DecO w (decX L) (.returned (.tuple #[.agg (txA r.1 a2 c2), .int .i64 r.2])) V) := Lib.hid fun V r a2 c2 e hb hr => ⟨a2, c2, by rw [e], by rw [e]; exact hr, hb⟩
 have HD1 : Hid (4096 < L.length → decX L = (zX, 3)) := Lib.hid decX_len
 have HD2 : Hid (¬ 4096 < L.length → rdL L = none → decX L = (zX, 4)) := Lib.hid decX_none
 have HD3 := Lib.hid (fun t h1 h2 => @decX_some L t h1 h2)
 generalize decX L = DX at *
 generalize rdL L = RL at *
 go_enter Tryz.func51, Tryz.ntmps51
 go_upto_region 1 with fail
 change Code.wp _ _ _ _ (w.alloc (.cells (txA zX none 0) 46))
 generalize w.alloc (.cells (txA zX none 0) 46) = W at *
 obtain ⟨g2, hg2⟩ : ∃ g2, w.heap.size = g2 := ⟨_, rfl⟩
 have HB0 := Lib.hid hb0
 have HG2 : Hid (w.heap.size ≤ g2) := Lib.hid (by omega)
 have HGW : Hid (g2 < W.heap.size) := Lib.hid (by rw [← hg2]; exact hX0.lt)
 rw [hg2] at hX0
 rw [hg2]
 have HWW : Hid (w.heap.size ≤ W.heap.size) := Lib.hid hb0.size
 clear hb0 hg2 hs h8
 by_cases hl : 4096 < L.length
 ·skip
  refine wl <| gz2 (.slice a L.length c) (.int .i64 L.length) <| gzb (gtr_n rfl (L.length) (4096) dT) <| wn ?_
  simp only [pu]
  obtain ⟨hstz, hZ⟩ := store_txz (y := zX) (a' := none) (c' := 0) hX0
  have HB9 := Lib.hid (belowRow HB0.out HG2.out (txA zX none 0))
  have HE := Lib.hid (HTO.out _ (zX, 3) none 0 (HD1.out hl) HB9.out (RowT.nil _ _))
  generalize World.setRow _ g2 (txA zX none 0) = V9 at *
  clear HTO HB9
  go_upto_region 2 with fail
  refine wl <| gz1 (.agg #[.string ⟨#[]⟩, .int .u64 0, .int .u64 0, .int .u64 0, .string ⟨#[]⟩, .slice none 0 0]) <| gzs rfl (hstz) <| gz1 (.int .i64 3) <| wn ?_
  simp only [pu]
  go_wp2_with fail
  exact bodyPost_ret (results_c (p := 2) (q := 3) rfl (by kernel_rfl) (load_txb hZ) rfl) rfl HE.out
 ·skip
  refine wl <| gz2 (.slice a L.length c) (.int .i64 L.length) <| gzb (gtr_n rfl (L.length) (4096) dF) <| wn ?_
  simp only [pu]
  have CRW := CR.out (by omega)
  clear CR
  go_upto_region 3 with fail
  refine wl <| gz1 (.slice a L.length c) <|
   gze (fun v w' => ∃ x ok a c, v = .tuple #[.agg (txA x a c), .bool ok] ∧ RL = (if ok = true then some x else none) ∧ RowT w' W.heap.size (.slice a x.tr.length c) x.tr ∧ Below W.heap.size W w') (CRW.mono fun e w' q => by obtain ⟨x, ok, a, c, h1, h2⟩ := q; exact ⟨_, h1, x, ok, a, c, rfl, h2⟩) (fun v5 V5 hq => ?_)
  obtain ⟨x, ok, a5, c5, rfl, hok, hrt, hb5⟩ := hq
  obtain ⟨V6, hst6, hb6, hbx⟩ := new_txv V5 x a5 c5
  simp only [pu]
  refine gz3 (.tuple #[.agg (txA x a5 c5), .bool ok]) (.agg (txA x a5 c5)) (.bool ok) ?_
  simp only [pu]
  refine run_to rfl (some 4) rfl (.pointer (some ⟨V5.heap.size, 0, none⟩)) (V5.alloc (.cells (txA zX none 0) 46)) (by kernel_rfl) ?_
  simp only [pu]
  refine gzs rfl (hst6) <| gz1 (.bool ok) <| wn ?_
  simp only [pu]
  obtain ⟨g4, hg4⟩ : ∃ g4, V5.heap.size = g4 := ⟨_, rfl⟩
  have hb56 := hb5.trans (hb6.mono hb5.size)
  have HX6 := Lib.hid (hX0.below hX0.lt hb56)
  have HB6 := Lib.hid (HB0.out.trans (hb56.mono HB0.out.size))
  have HR6 := Lib.hid (hrt.below hb6)
  have HX4 := Lib.hid hbx
  rw [hg4] at HX4 ⊢
  clear hst6 hg4 hb5 hb6 hb56 hX0 HB0 hrt hbx
  clear CRW
  go_upto_region 4 with fail
  cases ok
  ·skip
   refine wl <| gz2 (.bool false) (.bool true) <| wn ?_
   simp only [pu]
   obtain ⟨hstz, hZ⟩ := store_txz (y := zX) (a' := none) (c' := 0) HX6.out
   have HB9 := Lib.hid (belowRow HB6.out HG2.out (txA zX none 0))
   have HE := Lib.hid (HTO.out _ (zX, 4) none 0 (HD2.out hl hok) HB9.out (RowT.nil _ _))
   generalize World.setRow _ g2 (txA zX none 0) = V9 at *
   clear HTO HB9
   go_upto_region 5 with fail
   refine wl <| gz1 (.agg #[.string ⟨#[]⟩, .int .u64 0, .int .u64 0, .int .u64 0, .string ⟨#[]⟩, .slice none 0 0]) <| gzs rfl (hstz) <| gz1 (.int .i64 4) <| wn ?_
   simp only [pu]
   go_wp2_with fail
   exact bodyPost_ret (results_c (p := 2) (q := 3) rfl (by kernel_rfl) (load_txb hZ) rfl) rfl HE.out
  ·skip
   refine wl <| gz2 (.bool true) (.bool false) <| wn ?_
   simp only [pu]
   have HVAL : Hid ((valX x = 0 → DX = (x, 0)) ∧ (valX x ≠ 0 → DX = (zX, valX x))) := Lib.hid ⟨fun h => by rw [HD3.out x hl hok, if_pos h], fun h => by rw [HD3.out x hl hok, if_neg h]⟩
   have hokx := HOK.out x (by omega) hok
   obtain ⟨ar, cr, er, hcr, -⟩ := HR6.out.cs
   simp only [Value.slice.injEq, true_and] at er
   obtain ⟨rfl, rfl⟩ := er
   have CV := q_validate x a5 c5 V6 hcr hokx.b.s2
   obtain ⟨vx, hvx⟩ : ∃ vx, valX x = vx := ⟨_, rfl⟩
   rw [hvx] at CV
   go_upto_region 6 with fail
   refine wl <| gzl rfl ⟨g4, 0, none⟩ (.agg (txA x a5 c5)) (load_txb HX4.out) <| gzc (.int .i64 vx) (fun w' => Below V6.heap.size V6 w') CV (fun V7 hb7 => ?_)
   simp only [pu]
   refine gz1 (.int .i64 vx) <| wn ?_
   simp only [pu]
   have HX7 := Lib.hid (HX6.out.below HX6.out.lt hb7)
   have HX47 := Lib.hid (HX4.out.below HX4.out.lt hb7)
   have HB7 := Lib.hid (HB6.out.trans (hb7.mono HB6.out.size))
   have HR7 := Lib.hid (HR6.out.below hb7)
   clear HX6 HX4 HB6 HR6 hb7 hcr CV
   go_upto_region 7 with fail
   by_cases hv : vx = 0
   ·skip
    refine wl <| gz1 (.int .i64 vx) <| gzb (neq_e rfl vx 0 (decide_eq_true hv)) <| wn ?_
    simp only [pu]
    obtain ⟨hstz, hZ⟩ := store_txz (y := x) (a' := a5) (c' := c5) HX7.out
    have HLD := Lib.hid (load_txb HX47.out)
    have HB9 := Lib.hid (belowRow HB7.out HG2.out (txA x a5 c5))
    have HRW := Lib.hid ((own_row (g := g2) HR7.out (txA x a5 c5) HGW.out).base (B := w.heap.size) HWW.out)
    have HE := Lib.hid (HTO.out _ (x, 0) a5 c5 (HVAL.out.1 (by rw [hvx]; exact hv)) HB9.out HRW.out)
    generalize World.setRow _ g2 (txA x a5 c5) = V9 at *
    clear HTO HB9 HRW HX7 HX47 HB7 HR7 HVAL
    go_upto_region 9 with fail
    refine wl <| gzl rfl ⟨g4, 0, none⟩ (.agg (txA x a5 c5)) (HLD.out) <| gzs rfl (hstz) <| gz1 (.int .i64 0) <| wn ?_
    simp only [pu]
    go_wp2_with fail
    exact bodyPost_ret (results_c (p := 2) (q := 3) rfl (by kernel_rfl) (load_txb hZ) rfl) rfl HE.out
   ·skip
    refine wl <| gz1 (.int .i64 vx) <| gzb (neq_e rfl vx 0 (decide_eq_false hv)) <| wn ?_
    simp only [pu]
    have HDV := Lib.hid (HVAL.out.2 (by rw [hvx]; exact hv))
    rw [hvx] at HDV
    clear HVAL
    obtain ⟨hstz, hZ⟩ := store_txz (y := zX) (a' := none) (c' := 0) HX7.out
    have HB9 := Lib.hid (belowRow HB7.out HG2.out (txA zX none 0))
    have HE := Lib.hid (HTO.out _ (zX, vx) none 0 HDV.out HB9.out (RowT.nil _ _))
    generalize World.setRow _ g2 (txA zX none 0) = V9 at *
    clear HTO HB9
    go_upto_region 8 with fail
    refine wl <| gz2 (.agg #[.string ⟨#[]⟩, .int .u64 0, .int .u64 0, .int .u64 0, .string ⟨#[]⟩, .slice none 0 0]) (.int .i64 vx) <| gzs rfl (hstz) <| gz1 (.int .i64 vx) <| wn ?_
    simp only [pu]
    go_wp2_with fail
    exact bodyPost_ret (results_c (p := 2) (q := 3) rfl (by kernel_rfl) (load_txb hZ) rfl) rfl HE.out
set_option maxRecDepth 100000 in
set_option maxHeartbeats 8000000 in
theorem ref_decode (a : Option Addr) (c : Nat) (L : List Int) (w : World) (hs : Sl w a c L) (hc : L.length ≤ c) (h8 : ∀ y, y ∈ L → W8 y) :
  Calls Tryz.prog 31 #[.slice a L.length c] w (DecO w (decX L)) := by
 have hb0 : Below w.heap.size w (w.alloc (.cells (txA zX none 0) 46)) := (Below.refl _ w).alloc (Nat.le_refl _) _
 have hX0 : Bx (w.alloc (.cells (txA zX none 0) 46)) w.heap.size (txA zX none 0) 46 := heap_alloc_last w _
 have CF := Lib.hid (fun (hl : L.length ≤ 4096) => ref_fields a c L (w.alloc (.cells (txA zX none 0) 46)) (by omega) (sl_below hs hb0) h8 hc)
 have HFV := Lib.hid (fun (hl : L.length ≤ 4096) => (show (∀ f, f ∈ (flds L).1 → Vf f) ∧ (flds L).1.length ≤ 100000 ∧ (∀ f, f ∈ (flds L).1 → f.bytes.length ≤ 100000) ∧ ((flds L).2.2 = 0 → msg (flds L).1 = L) ∧ (msg (flds L).1).length ≤ 4096 from by
  rcases flds_ok (fun y hy => h8 y hy) (by omega) with ⟨e, q⟩ | ⟨P, e, hm, hP⟩
  ·rw [e]; exact ⟨(fun f h => nomatch h), by simp, (fun f h => nomatch h), fun h => absurd h q, by simp [msg]⟩
  ·rw [e]; exact ⟨hP, by have := msg_ge P; rw [hm] at this; simp only; omega, fun f hf => by have := bytes_le hf; rw [hm] at this; omega, fun _ => hm, by rw [hm]; exact hl⟩))
 have H8 := Lib.hid h8
 have HAG := Lib.hid hs
 have HTO : Hid (∀ V r a2 c2, decX L = r → Below w.heap.size w V → RowT V w.heap.size (.slice a2 r.1.tr.length c2) r.1.tr → DecO w (decX L) (.returned (.tuple #[.agg (txA r.1 a2 c2), .int .i64 r.2])) V) := Lib.hid fun V r a2 c2 e hb hr => ⟨a2, c2, by rw [e], by rw [e]; exact hr, hb⟩
 have HD1 : Hid (4096 < L.length → decX L = (zX, 3)) := Lib.hid decX_len
 have HD2 := Lib.hid (fun (h1 : ¬ 4096 < L.length) (h2 : (flds L).2.2 ≠ 0) => decX_fld (by omega) h2)
 have HD3 : Hid (¬ 4096 < L.length → (flds L).2.2 = 0 → rdX (flds L).1 = none → decX L = (zX, 4)) := Lib.hid fun h1 h2 h3 => decX_none h1 (by unfold rdL; rw [if_neg (by rw [h2]; decide), h3])
 have HD4 : Hid (∀ t, ¬ 4096 < L.length → (flds L).2.2 = 0 → rdX (flds L).1 = some t → decX L = if valX t = 0 then (t, 0) else (zX, valX t)) := Lib.hid fun t h1 h2 h3 => decX_some h1 (by unfold rdL; rw [if_neg (by rw [h2]; decide), h3])
 generalize decX L = DX at *
 generalize flds L = FR at *
 go_enter Tryz.func31, Tryz.ntmps31
 go_upto_region 1 with fail
 change Code.wp _ _ _ _ (w.alloc (.cells (txA zX none 0) 46))
 generalize w.alloc (.cells (txA zX none 0) 46) = W at *
 obtain ⟨g2, hg2⟩ : ∃ g2, w.heap.size = g2 := ⟨_, rfl⟩
 have HB0 := Lib.hid hb0
 have HG2 : Hid (w.heap.size ≤ g2) := Lib.hid (by omega)
 have HGW : Hid (g2 < W.heap.size) := Lib.hid (by rw [← hg2]; exact hX0.lt)
 rw [hg2] at hX0
 rw [hg2]
 have HWW : Hid (w.heap.size ≤ W.heap.size) := Lib.hid hb0.size
 clear hb0 hg2 hs h8
 by_cases hl : 4096 < L.length
 ·skip
  refine wl <| gz2 (.slice a L.length c) (.int .i64 L.length) <| gzb (gtr_n rfl (L.length) (4096) dT) <| wn ?_
  simp only [pu]
  obtain ⟨hstz, hZ⟩ := store_txz (y := zX) (a' := none) (c' := 0) hX0
  have HB9 := Lib.hid (belowRow HB0.out HG2.out (txA zX none 0))
  have HE := Lib.hid (HTO.out _ (zX, 3) none 0 (HD1.out hl) HB9.out (RowT.nil _ _))
  generalize World.setRow _ g2 (txA zX none 0) = V9 at *
  clear HTO HB9
  go_upto_region 2 with fail
  refine wl <| gz1 (.agg #[.string ⟨#[]⟩, .int .u64 0, .int .u64 0, .int .u64 0, .string ⟨#[]⟩, .slice none 0 0]) <| gzs rfl (hstz) <| gz1 (.int .i64 3) <| wn ?_
  simp only [pu]
  go_wp2_with fail
  exact bodyPost_ret (results_c (p := 2) (q := 3) rfl (by kernel_rfl) (load_txb hZ) rfl) rfl HE.out
 ·skip
  refine wl <| gz2 (.slice a L.length c) (.int .i64 L.length) <| gzb (gtr_n rfl (L.length) (4096) dF) <| wn ?_
  simp only [pu]
  have CFW := CF.out (by omega)
  have hfv := HFV.out (by omega)
  clear CF HFV
  go_upto_region 3 with fail
  refine wl <| gz1 (.slice a L.length c) <|
   gze (fun v w' => ∃ a c ps, v = .tuple #[.slice a ps.length c, .int .i64 FR.2.1, .int .i64 FR.2.2] ∧ ps.map Prod.fst = FR.1 ∧ ps.length ≤ c ∧ FsB w' W.heap.size a ps ∧ Below W.heap.size W w') (CFW.mono fun e w' q => by obtain ⟨v, ps, h1, h2, h3, h4⟩ := q; obtain ⟨a, c, rfl, hc, hf⟩ := h3.fsb; exact ⟨_, h1, a, c, ps, rfl, h2, hc, hf, h4⟩) (fun v5 V4 hq => ?_)
  obtain ⟨a4, c4, ps, rfl, hps, hc4, hF4, hb4⟩ := hq
  simp only [pu]
  refine gz6 (.tuple #[.slice a4 ps.length c4, .int .i64 FR.2.1, .int .i64 FR.2.2]) (.slice a4 ps.length c4) (.int .i64 FR.2.1) (.int .i64 FR.2.2) (.slice a4 ps.length c4) (.int .i64 FR.2.1) <| gz1 (.int .i64 FR.2.2) <| wn ?_
  simp only [pu]
  obtain ⟨P, n5, e5⟩ := FR
  dsimp only at *
  subst hps
  have CR := ref_read10 a4 c4 ps W.heap.size V4 hF4 hc4 hfv.1 hfv.2.2.1 (by have := hfv.2.1; rwa [List.length_map] at this)
  have HRF := Lib.hid (rd_rf hfv.1 hfv.2.2.2.2)
  have HOK := Lib.hid (fun u h => @rfX_ok (ps.map Prod.fst) u hfv.1 hfv.2.2.2.2 h)
  have HMS := Lib.hid hfv.2.2.2.1
  generalize rfX zX (ps.map Prod.fst) = RX at *
  have HB4 := Lib.hid hb4
  clear hfv CFW hF4 hc4 hb4
  go_upto_region 4 with fail
  refine wl <| gz1 (.slice a4 ps.length c4) <|
   gze (fun v w' => ∃ x ok a c, v = .tuple #[.agg (txA x a c), .bool ok] ∧ RX = (if ok = true then some x else none) ∧ RowT w' V4.heap.size (.slice a x.tr.length c) x.tr ∧ Below V4.heap.size V4 w') (CR.mono fun e w' q => by obtain ⟨x, ok, a, c, h1, h2⟩ := q; exact ⟨_, h1, x, ok, a, c, rfl, h2⟩) (fun v5 V5 hq => ?_)
  obtain ⟨x, ok, a5, c5, rfl, hok, hrt, hb5⟩ := hq
  have hrt := hrt.base HB4.out.size
  have hb5 := HB4.out.trans (hb5.mono HB4.out.size)
  obtain ⟨V6, hst6, hb6, hbx⟩ := new_txv V5 x a5 c5
  simp only [pu]
  refine gz3 (.tuple #[.agg (txA x a5 c5), .bool ok]) (.agg (txA x a5 c5)) (.bool ok) ?_
  simp only [pu]
  refine run_to rfl (some 7) rfl (.pointer (some ⟨V5.heap.size, 0, none⟩)) (V5.alloc (.cells (txA zX none 0) 46)) (by kernel_rfl) ?_
  simp only [pu]
  refine gzs rfl (hst6) <| gz1 (.bool ok) <| wn ?_
  simp only [pu]
  obtain ⟨g4, hg4⟩ : ∃ g4, V5.heap.size = g4 := ⟨_, rfl⟩
  have hb56 := hb5.trans (hb6.mono hb5.size)
  have HX6 := Lib.hid (hX0.below hX0.lt hb56)
  have HB6 := Lib.hid (HB0.out.trans (hb56.mono HB0.out.size))
  have HR6 := Lib.hid (hrt.below hb6)
  have HX4 := Lib.hid hbx
  have hs6 := sl_below HAG.out HB6.out
  rw [hg4] at HX4 ⊢
  clear hst6 hg4 hb5 hb6 hb56 hX0 HB0 hrt hbx CR HB4 HAG
  go_upto_region 5 with fail
  by_cases he : e5 = 0
  ·skip
   cases ok
   ·skip
    have HDZ := Lib.hid (HD3.out hl he (by rw [HRF.out, hok]; rfl))
    refine wl <| gz1 (.int .i64 e5) <| gzb (neq_e rfl e5 0 (decide_eq_true he)) <| gz6 (.bool false) (.bool false) (.bool true) (.bool true) (.bool true) undef <| gz5 undef undef undef undef (.bool true) <| wn ?_
    simp only [pu]
    obtain ⟨hstz, hZ⟩ := store_txz (y := zX) (a' := none) (c' := 0) HX6.out
    have HB9 := Lib.hid (belowRow HB6.out HG2.out (txA zX none 0))
    have HE := Lib.hid (HTO.out _ (zX, 4) none 0 HDZ.out HB9.out (RowT.nil _ _))
    generalize World.setRow _ g2 (txA zX none 0) = V9 at *
    clear HTO HB9
    go_upto_region 6 with fail
    refine wl <| gz1 (.agg #[.string ⟨#[]⟩, .int .u64 0, .int .u64 0, .int .u64 0, .string ⟨#[]⟩, .slice none 0 0]) <| gzs rfl (hstz) <| gz1 (.int .i64 4) <| wn ?_
    simp only [pu]
    go_wp2_with fail
    exact bodyPost_ret (results_c (p := 2) (q := 3) rfl (by kernel_rfl) (load_txb hZ) rfl) rfl HE.out
   ·skip
    have hokx := HOK.out x hok
    obtain ⟨ar, cr, er, hcr, -⟩ := HR6.out.cs
    simp only [Value.slice.injEq, true_and] at er
    obtain ⟨rfl, rfl⟩ := er
    have CFO := ref_form x a5 c5 V6 hcr hokx
    have HFB := Lib.hid (msg_bytes hokx.vf)
    have HXD : Hid (rdX (ps.map Prod.fst) = if form x = L then some x else none) := Lib.hid (by rw [HRF.out, hok, HMS.out he]; rfl)
    have HFF : Hid (form x = msg (txF x)) := Lib.hid rfl
    generalize form x = FO at *
    clear hcr
    by_cases hm : FO = L
    ·skip
     have hdm : decide (FO = L) = true := decide_eq_true hm
     have HVAL : Hid ((valX x = 0 → DX = (x, 0)) ∧ (valX x ≠ 0 → DX = (zX, valX x))) := Lib.hid (by have h9 := HD4.out x hl he (by rw [HXD.out, if_pos hm]); exact ⟨fun h => by rw [h9, if_pos h], fun h => by rw [h9, if_neg h]⟩)
     refine wl <| gz1 (.int .i64 e5) <| gzb (neq_e rfl e5 0 (decide_eq_true he)) <| gz5 (.bool false) (.bool true) (.bool false) (.bool false) (.bool false) <| gzl rfl ⟨g4, 0, none⟩ (.agg (txA x a5 c5)) (load_txb HX4.out) <|
      gze (fun v w' => Own w' V6.heap.size v FO ∧ Below V6.heap.size V6 w') CFO (fun u7 V7 hq => ?_)
     obtain ⟨hO7, hb7⟩ := hq
     obtain ⟨b7, d7, rfl, hs7, -⟩ := hO7.sl
     have CS : Calls Tryz.prog 60 #[.slice b7 FO.length d7, .slice a L.length c] V7 fun e w' => e = .returned (.bool true) ∧ V7 = w' := by have := ref_same b7 d7 FO a c L V7 hs7 (sl_below hs6 hb7) (by rw [HFF.out]; exact HFB.out) H8.out; rwa [hdm] at this
     simp only [pu]
     refine gz1 (.slice a L.length c) <| gzc (.bool true) (fun w' => V7 = w') (CS) (fun V9 hV9 => ?_)
     subst hV9
     simp only [pu]
     refine gz2 (.bool false) (.bool false) <| wn ?_
     simp only [pu]
     replace HX6 := Lib.hid (HX6.out.below HX6.out.lt hb7)
     replace HX4 := Lib.hid (HX4.out.below HX4.out.lt hb7)
     replace HB6 := Lib.hid (HB6.out.trans (hb7.mono HB6.out.size))
     replace HR6 := Lib.hid (HR6.out.below hb7)
     clear hb7 hO7 hs7 CS hs6 CFO
     obtain ⟨ar, cr, er, hcr, -⟩ := HR6.out.cs
     simp only [Value.slice.injEq, true_and] at er
     obtain ⟨rfl, rfl⟩ := er
     have CV := ref_validate x a5 c5 V7 hcr hokx.b.s1 hokx.b.s2 hokx.b.s3
     obtain ⟨vx, hvx⟩ : ∃ vx, valX x = vx := ⟨_, rfl⟩
     rw [hvx] at CV
     go_upto_region 7 with fail
     refine wl <| gzl rfl ⟨g4, 0, none⟩ (.agg (txA x a5 c5)) (load_txb HX4.out) <| gzc (.int .i64 vx) (fun w' => Below V7.heap.size V7 w') CV (fun V8 hb7 => ?_)
     simp only [pu]
     refine gz1 (.int .i64 vx) <| wn ?_
     simp only [pu]
     have HX7 := Lib.hid (HX6.out.below HX6.out.lt hb7)
     have HX47 := Lib.hid (HX4.out.below HX4.out.lt hb7)
     have HB7 := Lib.hid (HB6.out.trans (hb7.mono HB6.out.size))
     have HR7 := Lib.hid (HR6.out.below hb7)
     clear HX6 HX4 HB6 HR6 hb7 hcr CV
     go_upto_region 8 with fail
     by_cases hv : vx = 0
     ·skip
      refine wl <| gz1 (.int .i64 vx) <| gzb (neq_e rfl vx 0 (decide_eq_true hv)) <| wn ?_
      simp only [pu]
      obtain ⟨hstz, hZ⟩ := store_txz (y := x) (a' := a5) (c' := c5) HX7.out
      have HLD := Lib.hid (load_txb HX47.out)
      have HB9 := Lib.hid (belowRow HB7.out HG2.out (txA x a5 c5))
      have HRW := Lib.hid ((own_row (g := g2) HR7.out (txA x a5 c5) HGW.out).base (B := w.heap.size) HWW.out)
      have HE := Lib.hid (HTO.out _ (x, 0) a5 c5 (HVAL.out.1 (by rw [hvx]; exact hv)) HB9.out HRW.out)
      generalize World.setRow _ g2 (txA x a5 c5) = V9 at *
      clear HTO HB9 HRW HX7 HX47 HB7 HR7 HVAL
      go_upto_region 10 with fail
      refine wl <| gzl rfl ⟨g4, 0, none⟩ (.agg (txA x a5 c5)) (HLD.out) <| gzs rfl (hstz) <| gz1 (.int .i64 0) <| wn ?_
      simp only [pu]
      go_wp2_with fail
      exact bodyPost_ret (results_c (p := 2) (q := 3) rfl (by kernel_rfl) (load_txb hZ) rfl) rfl HE.out
     ·skip
      refine wl <| gz1 (.int .i64 vx) <| gzb (neq_e rfl vx 0 (decide_eq_false hv)) <| wn ?_
      simp only [pu]
      have HDV := Lib.hid (HVAL.out.2 (by rw [hvx]; exact hv))
      rw [hvx] at HDV
      clear HVAL
      obtain ⟨hstz, hZ⟩ := store_txz (y := zX) (a' := none) (c' := 0) HX7.out
      have HB9 := Lib.hid (belowRow HB7.out HG2.out (txA zX none 0))
      have HE := Lib.hid (HTO.out _ (zX, vx) none 0 HDV.out HB9.out (RowT.nil _ _))
      generalize World.setRow _ g2 (txA zX none 0) = V9 at *
      clear HTO HB9
      go_upto_region 9 with fail
      refine wl <| gz2 (.agg #[.string ⟨#[]⟩, .int .u64 0, .int .u64 0, .int .u64 0, .string ⟨#[]⟩, .slice none 0 0]) (.int .i64 vx) <| gzs rfl (hstz) <| gz1 (.int .i64 vx) <| wn ?_
      simp only [pu]
      go_wp2_with fail
      exact bodyPost_ret (results_c (p := 2) (q := 3) rfl (by kernel_rfl) (load_txb hZ) rfl) rfl HE.out
    ·skip
     have hdm : decide (FO = L) = false := decide_eq_false hm
     have HDZ := Lib.hid (HD3.out hl he (by rw [HXD.out, if_neg hm]))
     refine wl <| gz1 (.int .i64 e5) <| gzb (neq_e rfl e5 0 (decide_eq_true he)) <| gz5 (.bool false) (.bool true) (.bool false) (.bool false) (.bool false) <| gzl rfl ⟨g4, 0, none⟩ (.agg (txA x a5 c5)) (load_txb HX4.out) <|
      gze (fun v w' => Own w' V6.heap.size v FO ∧ Below V6.heap.size V6 w') CFO (fun u7 V7 hq => ?_)
     obtain ⟨hO7, hb7⟩ := hq
     obtain ⟨b7, d7, rfl, hs7, -⟩ := hO7.sl
     have CS : Calls Tryz.prog 60 #[.slice b7 FO.length d7, .slice a L.length c] V7 fun e w' => e = .returned (.bool false) ∧ V7 = w' := by have := ref_same b7 d7 FO a c L V7 hs7 (sl_below hs6 hb7) (by rw [HFF.out]; exact HFB.out) H8.out; rwa [hdm] at this
     simp only [pu]
     refine gz1 (.slice a L.length c) <| gzc (.bool false) (fun w' => V7 = w') (CS) (fun V9 hV9 => ?_)
     subst hV9
     simp only [pu]
     refine gz2 (.bool true) (.bool true) <| wn ?_
     simp only [pu]
     replace HX6 := Lib.hid (HX6.out.below HX6.out.lt hb7)
     replace HX4 := Lib.hid (HX4.out.below HX4.out.lt hb7)
     replace HB6 := Lib.hid (HB6.out.trans (hb7.mono HB6.out.size))
     replace HR6 := Lib.hid (HR6.out.below hb7)
     clear hb7 hO7 hs7 CS hs6 CFO
     obtain ⟨hstz, hZ⟩ := store_txz (y := zX) (a' := none) (c' := 0) HX6.out
     have HB9 := Lib.hid (belowRow HB6.out HG2.out (txA zX none 0))
     have HE := Lib.hid (HTO.out _ (zX, 4) none 0 HDZ.out HB9.out (RowT.nil _ _))
     generalize World.setRow _ g2 (txA zX none 0) = V9 at *
     clear HTO HB9
     go_upto_region 6 with fail
     refine wl <| gz1 (.agg #[.string ⟨#[]⟩, .int .u64 0, .int .u64 0, .int .u64 0, .string ⟨#[]⟩, .slice none 0 0]) <| gzs rfl (hstz) <| gz1 (.int .i64 4) <| wn ?_
     simp only [pu]
     go_wp2_with fail
     exact bodyPost_ret (results_c (p := 2) (q := 3) rfl (by kernel_rfl) (load_txb hZ) rfl) rfl HE.out
  ·skip
   have HDZ := Lib.hid (HD2.out hl he)
   refine wl <| gz1 (.int .i64 e5) <| gzb (neq_e rfl e5 0 (decide_eq_false he)) <| gz6 (.bool true) undef undef (.bool true) (.bool true) undef <| gz5 undef undef undef undef (.bool true) <| wn ?_
   simp only [pu]
   obtain ⟨hstz, hZ⟩ := store_txz (y := zX) (a' := none) (c' := 0) HX6.out
   have HB9 := Lib.hid (belowRow HB6.out HG2.out (txA zX none 0))
   have HE := Lib.hid (HTO.out _ (zX, 4) none 0 HDZ.out HB9.out (RowT.nil _ _))
   generalize World.setRow _ g2 (txA zX none 0) = V9 at *
   clear HTO HB9
   go_upto_region 6 with fail
   refine wl <| gz1 (.agg #[.string ⟨#[]⟩, .int .u64 0, .int .u64 0, .int .u64 0, .string ⟨#[]⟩, .slice none 0 0]) <| gzs rfl (hstz) <| gz1 (.int .i64 4) <| wn ?_
   simp only [pu]
   go_wp2_with fail
   exact bodyPost_ret (results_c (p := 2) (q := 3) rfl (by kernel_rfl) (load_txb hZ) rfl) rfl HE.out
end Go.Proofs.YtglglhcnofbagaaGreat
namespace Go.Proofs.YtglglhcnofbagaaGreat
open Go.RowKit
set_option linter.unusedSimpArgs false
set_option linter.unusedVariables false

theorem infoSt : (Tryz.prog.info? 9).map (fun i => (i.zero, i.size, i.bytes)) = some (some (.string ByteArray.empty), 1, 16) := by kernel_rfl
theorem idx_str (b off n c k : Nat) (hk : k < n) (V : World) (ρ : Operand → Value) (o : Oper) {x y : Operand} (ho : o.op = .indexAddr 113 x y) (hx : ρ x = .slice (some ⟨b, off, none⟩) n c) (hy : ρ y = .int .i64 k) : (execOp ρ o).run Tryz.prog V = .ok (.value (.pointer (some ⟨b, off + k, none⟩))) V := by
 have hs : (sizeOf (Tryz.prog.elem 113)).run Tryz.prog V = .ok 1 V := by kernel_rfl
 have hlm : (k : Int) < (n : Int) := by omega
 unfold execOp
 simp only [ho, hx, hy]
 go_simp
/-- Strings in a row that begins its block. -/
def strs (S : List ByteArray) : List Value := S.map Value.string
theorem strs_at {S : List ByteArray} {k : Nat} (h : k < S.length) : (strs S)[k]? = some (.string (S.getD k mtS)) := by
 unfold strs
 rw [List.getElem?_map, List.getElem?_eq_getElem h, List.getD_eq_getElem?_getD, List.getElem?_eq_getElem h]
 rfl
theorem load_str {w : World} {g t : Nat} {S : List ByteArray} (h : Bx w g (strs S).toArray t) {k : Nat} (hk : k < S.length) : (Instr.loadAt 9 (.pointer (some ⟨g, 0 + k, none⟩))).run Tryz.prog w = .ok (.string (S.getD k mtS)) w := by
 rw [Nat.zero_add]
 exact Bx.load h (i := k) (by rw [List.getElem?_toArray]; exact strs_at hk) (by kernel_rfl)
def annS : ByteArray := ⟨#[97, 110, 110]⟩
def bobS : ByteArray := ⟨#[98, 111, 98]⟩
theorem k_ann : isName (nums annS) = true := by decide +kernel
theorem k_bob : isName (nums bobS) = true := by decide +kernel
theorem k_mt : isMemo (nums mtS) = true := memo_ok (runs_end (by decide +kernel)) (by decide)
theorem k_w (n : Int) (h : 0 ≤ n ∧ n ≤ 1000) : W64 n := ⟨h.1, by omega⟩
end Go.Proofs.YtglglhcnofbagaaGreat
namespace Go.Proofs.YtglglhcnofbagaaGreat
attribute [local irreducible] wpList wpQuiet
open Go.RowKit
set_option linter.unusedSimpArgs false
set_option linter.unusedVariables false

/-- The numbers: at most k were used. -/
def NS (w : World) (g : Nat) (a : Option Addr) (c : Nat) (L : List Int) (k : Nat) : Prop := ∃ N : Nat, N ≤ k ∧ Bx w g #[.slice a L.length c, .int .i64 N] 94 ∧ Cs w a (icells L) ∧ (L ≠ [] → ∀ x, a = some x → x.block ≠ g)
theorem NS.below {w w' : World} {g c k : Nat} {a : Option Addr} {L : List Int} (h : NS w g a c L k) (hb : Below w.heap.size w w') : NS w' g a c L k := by
 obtain ⟨N, h1, h2, h3, h4⟩ := h
 exact ⟨N, h1, h2.below h2.lt hb, h3.below hb, h4⟩
theorem cs_but0 {w w' : World} {g : Nat} {a : Option Addr} {L : List Int} (h : Cs w a (icells L)) (hb : But g w w') (hn : L ≠ [] → ∀ x, a = some x → x.block ≠ g) : Cs w' a (icells L) := by
 cases L with
 | nil => exact Cs.nil _ _
 | cons x r => exact h.but hb (hn (by simp))
theorem NS.but {w w' : World} {g q c k : Nat} {a : Option Addr} {L : List Int} (h : NS w g a c L k) (hb : But q w w') (hq : g < q) (ha : L ≠ [] → ∀ x, a = some x → x.block < q) : NS w' g a c L k := by
 obtain ⟨N, h1, h2, h3, h4⟩ := h
 exact ⟨N, h1, h2.but hb (by omega), cs_but0 h3 hb (fun h5 x hx => by have := ha h5 x hx; omega), h4⟩
theorem NS.mono {w : World} {g c k k2 : Nat} {a : Option Addr} {L : List Int} (h : NS w g a c L k) (hk : k ≤ k2) : NS w g a c L k2 := by
 obtain ⟨N, h1, h2⟩ := h
 exact ⟨N, Nat.le_trans h1 hk, h2⟩
theorem NS.lt {w : World} {g c k : Nat} {a : Option Addr} {L : List Int} (h : NS w g a c L k) : g < w.heap.size := by
 obtain ⟨N, -, h2, -⟩ := h
 exact h2.lt
/-- One number more. -/
def NxO (w : World) (g : Nat) (a : Option Addr) (c : Nat) (L : List Int) (k : Nat) (n : Int) (e : Ending) (w' : World) : Prop := ∃ v : Nat, e = .returned (.int .i64 v) ∧ (v : Int) < n ∧ NS w' g a c L (k + 1) ∧ But g w w'
theorem ns_next {w : World} {g c k : Nat} {a : Option Addr} {L : List Int} (h : NS w g a c L k) (hl : L.length ≤ 100000) (hk : k ≤ 100000) (n : Int) (hn : 0 < n) (hn2 : n ≤ 1000000) : Calls Tryz.prog 23 #[.pointer (some ⟨g, 0, none⟩), .int .i64 n] w (NxO w g a c L k n) := by
 obtain ⟨N, h1, h2, h3, h4⟩ := h
 refine (mk_next g L a c N n w h2 h3 hl (by omega) hn hn2).mono fun e w' q => ?_
 obtain ⟨q1, q2, q3⟩ := q
 have hp := pl_range (L.getD N 0) n hn
 refine ⟨(pl (L.getD N 0) n).toNat, by rw [q1]; congr 2; omega, by omega, ⟨N + 1, by omega, q3, cs_but0 h3 q2 h4, h4⟩, q2⟩
/-- A string drawn from some. -/
def DrO (w : World) (g : Nat) (a : Option Addr) (c : Nat) (L : List Int) (k : Nat) (Q : ByteArray → Prop) (e : Ending) (w' : World) : Prop := ∃ s, e = .returned (.string s) ∧ Q s ∧ NS w' g a c L (k + 1) ∧ But g w w'
def nms : List ByteArray := [⟨#[97, 110, 110]⟩, ⟨#[98, 111, 98]⟩, ⟨#[101, 118, 101]⟩, ⟨#[122, 111, 101]⟩, ⟨#[110, 101, 119]⟩, ⟨#[120, 45, 49]⟩]
def mms : List ByteArray := [⟨#[]⟩, ⟨#[]⟩, ⟨#[]⟩, ⟨#[114, 101, 110, 116]⟩, ⟨#[195, 169, 228, 184, 150]⟩, ⟨#[97, 10, 98]⟩, ⟨#[116, 104, 97, 110, 107, 115, 32, 102, 111, 114, 32, 97, 108, 108, 32, 116, 104, 101, 32, 102, 105, 115, 104, 44, 32, 97, 110, 100, 32, 102, 111, 114, 32, 116, 104, 101, 32, 99, 104, 105, 112, 115]⟩]
def NmQ (s : ByteArray) : Prop := isName (nums s) = true ∧ s.size ≤ 20
def MmQ (s : ByteArray) : Prop := isMemo (nums s) = true ∧ s.size ≤ 60
theorem nms_ok (k : Nat) (h : k < 6) : NmQ (nms.getD k mtS) := by
 rcases (show k = 0 ∨ k = 1 ∨ k = 2 ∨ k = 3 ∨ k = 4 ∨ k = 5 by omega) with rfl | rfl | rfl | rfl | rfl | rfl <;> exact ⟨by decide +kernel, by decide⟩
theorem runs_ascii {L : List Int} (h : ∀ j, L.getD j 0 < 128) : ∀ (n i : Nat), L.length - i = n → i ≤ L.length → runs L i = some n
 | 0, i, h1, h2 => runs_end (by omega)
 | n + 1, i, h1, h2 => by
  have hk : runK L i = 1 := by unfold runK runN; rw [if_pos (h i)]
  rw [runs_step (by omega) (by rw [hk]; decide), hk, runs_ascii h n (i + 1) (by omega) (by omega)]
  rfl
theorem asc_memo {s : ByteArray} (h : (nums s).all (fun x => decide (x < 128)) = true) (hl : s.size ≤ 64) : isMemo (nums s) = true := by
 refine memo_ok (runs_ascii (fun j => ?_) (nums s).length 0 (by omega) (by omega)) (by rw [nums_len]; exact hl)
 by_cases hj : j < (nums s).length
 ·rw [getD_lt _ _ _ hj]
  have := List.all_eq_true.1 h _ (List.getElem_mem hj)
  simpa using this
 ·rw [List.getD_eq_getElem?_getD, List.getElem?_eq_none (by omega)]
  decide
theorem two_memo : isMemo (nums (⟨#[195, 169, 228, 184, 150]⟩ : ByteArray)) = true := by
 have hl : (nums (⟨#[195, 169, 228, 184, 150]⟩ : ByteArray)).length = 5 := by decide +kernel
 have h0 : runK (nums (⟨#[195, 169, 228, 184, 150]⟩ : ByteArray)) 0 = 2 := by decide +kernel
 have h2 : runK (nums (⟨#[195, 169, 228, 184, 150]⟩ : ByteArray)) 2 = 3 := by decide +kernel
 have r : runs (nums (⟨#[195, 169, 228, 184, 150]⟩ : ByteArray)) 0 = some 2 := by
  rw [runs_step (by rw [hl]; decide) (by rw [h0]; decide), h0, runs_step (by rw [hl]; decide) (by rw [h2]; decide), h2, runs_end (by rw [hl]; decide)]
  rfl
 exact memo_ok r (by decide)
theorem mms_ok (k : Nat) (h : k < 7) : MmQ (mms.getD k mtS) := by
 rcases (show k = 0 ∨ k = 1 ∨ k = 2 ∨ k = 3 ∨ k = 4 ∨ k = 5 ∨ k = 6 by omega) with rfl | rfl | rfl | rfl | rfl | rfl | rfl
 ·exact ⟨k_mt, by decide⟩
 ·exact ⟨k_mt, by decide⟩
 ·exact ⟨k_mt, by decide⟩
 ·exact ⟨asc_memo (by decide +kernel) (by decide), by decide⟩
 ·exact ⟨two_memo, by decide⟩
 ·exact ⟨asc_memo (by decide +kernel) (by decide), by decide⟩
 ·exact ⟨asc_memo (by decide +kernel) (by decide), by decide⟩
theorem build_nms (V : World) : (Instr.buildSlice 113 6 #[(0, .string ⟨#[97, 110, 110]⟩), (1, .string ⟨#[98, 111, 98]⟩), (2, .string ⟨#[101, 118, 101]⟩), (3, .string ⟨#[122, 111, 101]⟩), (4, .string ⟨#[110, 101, 119]⟩), (5, .string ⟨#[120, 45, 49]⟩)]).run Tryz.prog V = .ok (.slice (some ⟨V.heap.size, 0, none⟩) 6 6) (V.alloc (.cells (strs nms).toArray 9)) := by
 obtain ⟨i0, hi, hz0, hz1, hz2⟩ := info_parts infoSt
 refine run_buildSlice V 113 9 6 _ (strs nms).toArray i0 _ Tryz.underlying113 hi hz0 (by rw [hz1]; omega) (by rw [hz1]; omega) ?_
 rw [hz1]
 kernel_rfl
set_option maxRecDepth 100000 in
set_option maxHeartbeats 8000000 in
theorem mk_name {w : World} {g c k : Nat} {a : Option Addr} {L : List Int} (h : NS w g a c L k) (hl : L.length ≤ 100000) (hk : k ≤ 100000) : Calls Tryz.prog 36 #[.pointer (some ⟨g, 0, none⟩)] w (DrO w g a c L k NmQ) := by
 have hbd := build_nms w
 have hbx : Bx (w.alloc (.cells (strs nms).toArray 9)) w.heap.size (strs nms).toArray 9 := heap_alloc_last w _
 have hbw : Below w.heap.size w (w.alloc (.cells (strs nms).toArray 9)) := (Below.refl _ w).alloc (Nat.le_refl _) _
 have hgl := h.lt
 have hns := h.below hbw
 generalize w.alloc (.cells (strs nms).toArray 9) = V1 at *
 have CX := ns_next hns hl hk 6 (by decide) (by decide)
 have HOK := Lib.hid nms_ok
 have HLE : Hid (nms.length = 6) := Lib.hid rfl
 have HDO : Hid (∀ w' q, q < 6 → NS w' g a c L (k + 1) → But g w w' → DrO w g a c L k NmQ (.returned (.string (nms.getD q mtS))) w') := Lib.hid fun w' q hq h1 h2 => ⟨_, rfl, HOK.out q hq, h1, h2⟩
 generalize nms = S at *
 obtain ⟨g1, hg1⟩ : ∃ g1, w.heap.size = g1 := ⟨_, rfl⟩
 have HB := Lib.hid (But.of_below hbw (Nat.le_of_lt hgl))
 have HG : Hid (g < g1) := Lib.hid (by omega)
 rw [hg1] at hbx hbd
 clear hns hbw hgl hg1 h
 go_enter Tryz.func36, Tryz.ntmps36
 go_upto_region 1 with fail
 apply wp_region_lit
 refine gw_build (by kernel_rfl) (some 3) rfl 113 6 #[(0, .const (.string ⟨#[97, 110, 110]⟩)), (1, .const (.string ⟨#[98, 111, 98]⟩)), (2, .const (.string ⟨#[101, 118, 101]⟩)), (3, .const (.string ⟨#[122, 111, 101]⟩)), (4, .const (.string ⟨#[110, 101, 119]⟩)), (5, .const (.string ⟨#[120, 45, 49]⟩))] rfl #[(0, .string ⟨#[97, 110, 110]⟩), (1, .string ⟨#[98, 111, 98]⟩), (2, .string ⟨#[101, 118, 101]⟩), (3, .string ⟨#[122, 111, 101]⟩), (4, .string ⟨#[110, 101, 119]⟩), (5, .string ⟨#[120, 45, 49]⟩)] (by kernel_rfl) (.slice (some ⟨g1, 0, none⟩) 6 6) _ hbd ?_
 simp only [pu]
 refine gz1 (.pointer (some ⟨g, 0, none⟩)) <| gze (fun v w' => ∃ q : Nat, v = .int .i64 q ∧ (q : Int) < 6 ∧ NS w' g a c L (k + 1) ∧ But g V1 w') (CX.mono fun e w' z => by obtain ⟨q, h1, h2⟩ := z; exact ⟨_, h1, q, rfl, h2⟩) (fun v5 V2 hq => ?_)
 obtain ⟨q, rfl, hq1, hns2, hbut⟩ := hq
 have hq2 : q < 6 := by omega
 have hbx2 := hbx.but hbut (by have := HG.out; omega)
 simp only [pu]
 refine gzv (.pointer (some ⟨g1, 0 + q, none⟩)) (idx_str g1 0 6 6 q hq2 _ _ _ rfl (by kernel_rfl) (by kernel_rfl)) <| gzl rfl ⟨g1, 0 + q, none⟩ (.string (S.getD q mtS)) (load_str hbx2 (k := q) (by rw [HLE.out]; exact hq2)) <| gz1 (.string (S.getD q mtS)) <| wn ?_
 simp only [pu]
 have HE := Lib.hid (HDO.out V2 q hq2 hns2 (HB.out.trans hbut))
 clear HDO hns2 hbut hbx2 hbx CX hbd
 go_wp2_with fail
 go_ret
 exact HE.out
theorem build_mms (V : World) : (Instr.buildSlice 113 7 #[(0, .string ⟨#[]⟩), (1, .string ⟨#[]⟩), (2, .string ⟨#[]⟩), (3, .string ⟨#[114, 101, 110, 116]⟩), (4, .string ⟨#[195, 169, 228, 184, 150]⟩), (5, .string ⟨#[97, 10, 98]⟩), (6, .string ⟨#[116, 104, 97, 110, 107, 115, 32, 102, 111, 114, 32, 97, 108, 108, 32, 116, 104, 101, 32, 102, 105, 115, 104, 44, 32, 97, 110, 100, 32, 102, 111, 114, 32, 116, 104, 101, 32, 99, 104, 105, 112, 115]⟩)]).run Tryz.prog V = .ok (.slice (some ⟨V.heap.size, 0, none⟩) 7 7) (V.alloc (.cells (strs mms).toArray 9)) := by
 obtain ⟨i0, hi, hz0, hz1, hz2⟩ := info_parts infoSt
 refine run_buildSlice V 113 9 7 _ (strs mms).toArray i0 _ Tryz.underlying113 hi hz0 (by rw [hz1]; omega) (by rw [hz1]; omega) ?_
 rw [hz1]
 kernel_rfl
set_option maxRecDepth 100000 in
set_option maxHeartbeats 8000000 in
theorem mk_memo {w : World} {g c k : Nat} {a : Option Addr} {L : List Int} (h : NS w g a c L k) (hl : L.length ≤ 100000) (hk : k ≤ 100000) : Calls Tryz.prog 37 #[.pointer (some ⟨g, 0, none⟩)] w (DrO w g a c L k MmQ) := by
 have hbd := build_mms w
 have hbx : Bx (w.alloc (.cells (strs mms).toArray 9)) w.heap.size (strs mms).toArray 9 := heap_alloc_last w _
 have hbw : Below w.heap.size w (w.alloc (.cells (strs mms).toArray 9)) := (Below.refl _ w).alloc (Nat.le_refl _) _
 have hgl := h.lt
 have hns := h.below hbw
 generalize w.alloc (.cells (strs mms).toArray 9) = V1 at *
 have CX := ns_next hns hl hk 7 (by decide) (by decide)
 have HOK := Lib.hid mms_ok
 have HLE : Hid (mms.length = 7) := Lib.hid rfl
 have HDO : Hid (∀ w' q, q < 7 → NS w' g a c L (k + 1) → But g w w' → DrO w g a c L k MmQ (.returned (.string (mms.getD q mtS))) w') := Lib.hid fun w' q hq h1 h2 => ⟨_, rfl, HOK.out q hq, h1, h2⟩
 generalize mms = S at *
 obtain ⟨g1, hg1⟩ : ∃ g1, w.heap.size = g1 := ⟨_, rfl⟩
 have HB := Lib.hid (But.of_below hbw (Nat.le_of_lt hgl))
 have HG : Hid (g < g1) := Lib.hid (by omega)
 rw [hg1] at hbx hbd
 clear hns hbw hgl hg1 h
 go_enter Tryz.func37, Tryz.ntmps37
 go_upto_region 1 with fail
 apply wp_region_lit
 refine gw_build (by kernel_rfl) (some 3) rfl 113 7 #[(0, .const (.string ⟨#[]⟩)), (1, .const (.string ⟨#[]⟩)), (2, .const (.string ⟨#[]⟩)), (3, .const (.string ⟨#[114, 101, 110, 116]⟩)), (4, .const (.string ⟨#[195, 169, 228, 184, 150]⟩)), (5, .const (.string ⟨#[97, 10, 98]⟩)), (6, .const (.string ⟨#[116, 104, 97, 110, 107, 115, 32, 102, 111, 114, 32, 97, 108, 108, 32, 116, 104, 101, 32, 102, 105, 115, 104, 44, 32, 97, 110, 100, 32, 102, 111, 114, 32, 116, 104, 101, 32, 99, 104, 105, 112, 115]⟩))] rfl #[(0, .string ⟨#[]⟩), (1, .string ⟨#[]⟩), (2, .string ⟨#[]⟩), (3, .string ⟨#[114, 101, 110, 116]⟩), (4, .string ⟨#[195, 169, 228, 184, 150]⟩), (5, .string ⟨#[97, 10, 98]⟩), (6, .string ⟨#[116, 104, 97, 110, 107, 115, 32, 102, 111, 114, 32, 97, 108, 108, 32, 116, 104, 101, 32, 102, 105, 115, 104, 44, 32, 97, 110, 100, 32, 102, 111, 114, 32, 116, 104, 101, 32, 99, 104, 105, 112, 115]⟩)] (by kernel_rfl) (.slice (some ⟨g1, 0, none⟩) 7 7) _ hbd ?_
 simp only [pu]
 refine gz1 (.pointer (some ⟨g, 0, none⟩)) <| gze (fun v w' => ∃ q : Nat, v = .int .i64 q ∧ (q : Int) < 7 ∧ NS w' g a c L (k + 1) ∧ But g V1 w') (CX.mono fun e w' z => by obtain ⟨q, h1, h2⟩ := z; exact ⟨_, h1, q, rfl, h2⟩) (fun v5 V2 hq => ?_)
 obtain ⟨q, rfl, hq1, hns2, hbut⟩ := hq
 have hq2 : q < 7 := by omega
 have hbx2 := hbx.but hbut (by have := HG.out; omega)
 simp only [pu]
 refine gzv (.pointer (some ⟨g1, 0 + q, none⟩)) (idx_str g1 0 7 7 q hq2 _ _ _ rfl (by kernel_rfl) (by kernel_rfl)) <| gzl rfl ⟨g1, 0 + q, none⟩ (.string (S.getD q mtS)) (load_str hbx2 (k := q) (by rw [HLE.out]; exact hq2)) <| gz1 (.string (S.getD q mtS)) <| wn ?_
 simp only [pu]
 have HE := Lib.hid (HDO.out V2 q hq2 hns2 (HB.out.trans hbut))
 clear HDO hns2 hbut hbx2 hbx CX hbd
 go_wp2_with fail
 go_ret
 exact HE.out
end Go.Proofs.YtglglhcnofbagaaGreat
