/-
  The program's Decode, the reference's DecodeTx: contracts. Strings in rows, small operations. The numbers that the statements draw from; mempoolmake's Name and Memo: contracts. mempoolmake's Accounts: contract. The memory while mempoolmake's Tx runs. mempoolmake's Tx: contract. Comparisons of strings. Sums: math/bits.Add64, money.Add and Sum, the reference's Add; 'append' up to the greatest row.
-/
import Derived.Test.YtglglhcnofbagaaJ12
import Derived.Deep.DeepCutAuto
import Derived.Lib.ConvBytes
import Derived.Lib.Bytealg
import Derived.Laws.Externs
import Derived.Laws.Bits64b
import Derived.Laws.MathBits
import Derived.RowKit3
namespace Go.Proofs.Ytglglhcnofbagaa
attribute [local irreducible] wpList wpQuiet
open Go.RowKit
set_option linter.unusedSimpArgs false
set_option linter.unusedVariables false

def DecO (w : World) (r : Txd × Int) (e : Ending) (w' : World) : Prop := ∃ a c, e = .returned (.tuple #[.agg (txA r.1 a c), .int .i64 r.2]) ∧ RowT w' w.heap.size (.slice a r.1.tr.length c) r.1.tr ∧ Below w.heap.size w w'
theorem rdL_ok {L : List Int} {t : Txd} (h8 : ∀ x, x ∈ L → W8 x) (hl : L.length ≤ 4096) (h : rdL L = some t) : OkX t := by
 unfold rdL at h
 split at h
 ·cases h
 rename_i hfl
 have hfl : (flds L).2.2 = 0 := by simpa using hfl
 rcases flds_ok (fun x hx => h8 x hx) (by omega) with ⟨-, q⟩ | ⟨P, e0, hm, hP⟩
 ·exact absurd hfl q
 rw [e0] at h
 obtain ⟨h1, h2, h3, h4, h5⟩ := rdX_spec hP h
 refine ⟨h2, h3, h4, h5, ?_⟩
 have := (form_len t).2
 have e2 : (form t).length = (msg P).length := by rw [h1]; rfl
 rw [e2, hm] at this
 omega
theorem decX_none {L : List Int} (hl : ¬ 4096 < L.length) (h : rdL L = none) : decX L = (zX, 4) := by
 unfold rdL at h
 unfold decX
 rw [if_neg hl]
 split at h
 ·rename_i hf; rw [if_pos hf]
 ·rename_i hf; rw [if_neg hf, h]
theorem decX_some {L : List Int} {t : Txd} (hl : ¬ 4096 < L.length) (h : rdL L = some t) : decX L = if valX t = 0 then (t, 0) else (zX, valX t) := by
 unfold rdL at h
 unfold decX
 rw [if_neg hl]
 split at h
 ·cases h
 ·rename_i hf; rw [if_neg hf, h]
theorem new_txv (V : World) (x : Txd) (a : Option Addr) (c : Nat) : ∃ V2, (Instr.storeAt 32 (.pointer (some ⟨V.heap.size, 0, none⟩)) (.agg (txA x a c))).run Try.prog (V.alloc (.cells (txA zX none 0) 32)) = .ok () V2 ∧ Below V.heap.size V V2 ∧ Bx V2 V.heap.size (txA x a c) 32 :=
 have hb : Bx (V.alloc (.cells (txA zX none 0) 32)) V.heap.size (txA zX none 0) 32 := heap_alloc_last V _
 ⟨_, (store_txz hb).1, belowRow ((Below.refl _ V).alloc (Nat.le_refl _) _) (Nat.le_refl _) _, (store_txz hb).2⟩
set_option maxRecDepth 100000 in
set_option maxHeartbeats 8000000 in
theorem q_decode (a : Option Addr) (c : Nat) (L : List Int) (w : World) (hs : Sl w a c L) (hc : L.length ≤ c) (h8 : ∀ y, y ∈ L → W8 y) :
  Calls Try.prog 28 #[.slice a L.length c] w (DecO w (decX L)) := by
 have hb0 : Below w.heap.size w (w.alloc (.cells (txA zX none 0) 32)) := (Below.refl _ w).alloc (Nat.le_refl _) _
 have hX0 : Bx (w.alloc (.cells (txA zX none 0) 32)) w.heap.size (txA zX none 0) 32 := heap_alloc_last w _
 have CR := Lib.hid (fun (hl : L.length ≤ 4096) => q_read a c L (w.alloc (.cells (txA zX none 0) 32)) (sl_below hs hb0) hc (by omega) h8)
 have HOK := Lib.hid (fun t (hl : L.length ≤ 4096) h => @rdL_ok L t h8 hl h)
 have HTO : Hid (∀ V r a2 c2, decX L = r → Below w.heap.size w V → RowT V w.heap.size (.slice a2 r.1.tr.length c2) r.1.tr → DecO w (decX L) (.returned (.tuple #[.agg (txA r.1 a2 c2), .int .i64 r.2])) V) := Lib.hid fun V r a2 c2 e hb hr => ⟨a2, c2, by rw [e], by rw [e]; exact hr, hb⟩
 have HD1 : Hid (4096 < L.length → decX L = (zX, 3)) := Lib.hid decX_len
 have HD2 : Hid (¬ 4096 < L.length → rdL L = none → decX L = (zX, 4)) := Lib.hid decX_none
 have HD3 := Lib.hid (fun t h1 h2 => @decX_some L t h1 h2)
 generalize decX L = DX at *
 generalize rdL L = RL at *
 go_enter Try.func28, Try.ntmps28
 go_upto_region 1 with fail
 change Code.wp _ _ _ _ (w.alloc (.cells (txA zX none 0) 32))
 generalize w.alloc (.cells (txA zX none 0) 32) = W at *
 obtain ⟨g2, hg2⟩ : ∃ g2, w.heap.size = g2 := ⟨_, rfl⟩
 have HB0 := Lib.hid hb0
 have HG2 : Hid (w.heap.size ≤ g2) := Lib.hid (by omega)
 have HGW : Hid (g2 < W.heap.size) := Lib.hid (by rw [← hg2]; exact hX0.lt)
 rw [hg2] at hX0
 rw [hg2]
 have HWW : Hid (w.heap.size ≤ W.heap.size) := Lib.hid hb0.size
 clear hb0 hg2 hs h8
 by_cases hl : 4096 < L.length
 ·skip
  refine wl <| gz2 (.slice a L.length c) (.int .i64 L.length) <| gzb (gtr_n rfl (L.length) (4096) dT) <| wn ?_
  simp only [pu]
  obtain ⟨hstz, hZ⟩ := store_txz (y := zX) (a' := none) (c' := 0) hX0
  have HB9 := Lib.hid (belowRow HB0.out HG2.out (txA zX none 0))
  have HE := Lib.hid (HTO.out _ (zX, 3) none 0 (HD1.out hl) HB9.out (RowT.nil _ _))
  generalize World.setRow _ g2 (txA zX none 0) = V9 at *
  clear HTO HB9
  go_upto_region 2 with fail
  refine wl <| gz1 (.agg #[.string ⟨#[]⟩, .int .u64 0, .int .u64 0, .int .u64 0, .string ⟨#[]⟩, .slice none 0 0]) <| gzs rfl (hstz) <| gz1 (.int .i64 3) <| wn ?_
  simp only [pu]
  go_wp2_with fail
  exact bodyPost_ret (results_c (p := 2) (q := 3) rfl (by kernel_rfl) (load_txb hZ) rfl) rfl HE.out
 ·skip
  refine wl <| gz2 (.slice a L.length c) (.int .i64 L.length) <| gzb (gtr_n rfl (L.length) (4096) dF) <| wn ?_
  simp only [pu]
  have CRW := CR.out (by omega)
  clear CR
  go_upto_region 3 with fail
  refine wl <| gz1 (.slice a L.length c) <|
   gze (fun v w' => ∃ x ok a c, v = .tuple #[.agg (txA x a c), .bool ok] ∧ RL = (if ok = true then some x else none) ∧ RowT w' W.heap.size (.slice a x.tr.length c) x.tr ∧ Below W.heap.size W w') (CRW.mono fun e w' q => by obtain ⟨x, ok, a, c, h1, h2⟩ := q; exact ⟨_, h1, x, ok, a, c, rfl, h2⟩) (fun v5 V5 hq => ?_)
  obtain ⟨x, ok, a5, c5, rfl, hok, hrt, hb5⟩ := hq
  obtain ⟨V6, hst6, hb6, hbx⟩ := new_txv V5 x a5 c5
  simp only [pu]
  refine gz3 (.tuple #[.agg (txA x a5 c5), .bool ok]) (.agg (txA x a5 c5)) (.bool ok) ?_
  simp only [pu]
  refine run_to rfl (some 4) rfl (.pointer (some ⟨V5.heap.size, 0, none⟩)) (V5.alloc (.cells (txA zX none 0) 32)) (by kernel_rfl) ?_
  simp only [pu]
  refine gzs rfl (hst6) <| gz1 (.bool ok) <| wn ?_
  simp only [pu]
  obtain ⟨g4, hg4⟩ : ∃ g4, V5.heap.size = g4 := ⟨_, rfl⟩
  have hb56 := hb5.trans (hb6.mono hb5.size)
  have HX6 := Lib.hid (hX0.below hX0.lt hb56)
  have HB6 := Lib.hid (HB0.out.trans (hb56.mono HB0.out.size))
  have HR6 := Lib.hid (hrt.below hb6)
  have HX4 := Lib.hid hbx
  rw [hg4] at HX4 ⊢
  clear hst6 hg4 hb5 hb6 hb56 hX0 HB0 hrt hbx
  clear CRW
  go_upto_region 4 with fail
  cases ok
  ·skip
   refine wl <| gz2 (.bool false) (.bool true) <| wn ?_
   simp only [pu]
   obtain ⟨hstz, hZ⟩ := store_txz (y := zX) (a' := none) (c' := 0) HX6.out
   have HB9 := Lib.hid (belowRow HB6.out HG2.out (txA zX none 0))
   have HE := Lib.hid (HTO.out _ (zX, 4) none 0 (HD2.out hl hok) HB9.out (RowT.nil _ _))
   generalize World.setRow _ g2 (txA zX none 0) = V9 at *
   clear HTO HB9
   go_upto_region 5 with fail
   refine wl <| gz1 (.agg #[.string ⟨#[]⟩, .int .u64 0, .int .u64 0, .int .u64 0, .string ⟨#[]⟩, .slice none 0 0]) <| gzs rfl (hstz) <| gz1 (.int .i64 4) <| wn ?_
   simp only [pu]
   go_wp2_with fail
   exact bodyPost_ret (results_c (p := 2) (q := 3) rfl (by kernel_rfl) (load_txb hZ) rfl) rfl HE.out
  ·skip
   refine wl <| gz2 (.bool true) (.bool false) <| wn ?_
   simp only [pu]
   have HVAL : Hid ((valX x = 0 → DX = (x, 0)) ∧ (valX x ≠ 0 → DX = (zX, valX x))) := Lib.hid ⟨fun h => by rw [HD3.out x hl hok, if_pos h], fun h => by rw [HD3.out x hl hok, if_neg h]⟩
   have hokx := HOK.out x (by omega) hok
   obtain ⟨ar, cr, er, hcr, -⟩ := HR6.out.cs
   simp only [Value.slice.injEq, true_and] at er
   obtain ⟨rfl, rfl⟩ := er
   have CV := q_validate x a5 c5 V6 hcr hokx.b.s2
   obtain ⟨vx, hvx⟩ : ∃ vx, valX x = vx := ⟨_, rfl⟩
   rw [hvx] at CV
   go_upto_region 6 with fail
   refine wl <| gzl rfl ⟨g4, 0, none⟩ (.agg (txA x a5 c5)) (load_txb HX4.out) <| gzc (.int .i64 vx) (fun w' => Below V6.heap.size V6 w') CV (fun V7 hb7 => ?_)
   simp only [pu]
   refine gz1 (.int .i64 vx) <| wn ?_
   simp only [pu]
   have HX7 := Lib.hid (HX6.out.below HX6.out.lt hb7)
   have HX47 := Lib.hid (HX4.out.below HX4.out.lt hb7)
   have HB7 := Lib.hid (HB6.out.trans (hb7.mono HB6.out.size))
   have HR7 := Lib.hid (HR6.out.below hb7)
   clear HX6 HX4 HB6 HR6 hb7 hcr CV
   go_upto_region 7 with fail
   by_cases hv : vx = 0
   ·skip
    refine wl <| gz1 (.int .i64 vx) <| gzb (neq_e rfl vx 0 (decide_eq_true hv)) <| wn ?_
    simp only [pu]
    obtain ⟨hstz, hZ⟩ := store_txz (y := x) (a' := a5) (c' := c5) HX7.out
    have HLD := Lib.hid (load_txb HX47.out)
    have HB9 := Lib.hid (belowRow HB7.out HG2.out (txA x a5 c5))
    have HRW := Lib.hid ((own_row (g := g2) HR7.out (txA x a5 c5) HGW.out).base (B := w.heap.size) HWW.out)
    have HE := Lib.hid (HTO.out _ (x, 0) a5 c5 (HVAL.out.1 (by rw [hvx]; exact hv)) HB9.out HRW.out)
    generalize World.setRow _ g2 (txA x a5 c5) = V9 at *
    clear HTO HB9 HRW HX7 HX47 HB7 HR7 HVAL
    go_upto_region 9 with fail
    refine wl <| gzl rfl ⟨g4, 0, none⟩ (.agg (txA x a5 c5)) (HLD.out) <| gzs rfl (hstz) <| gz1 (.int .i64 0) <| wn ?_
    simp only [pu]
    go_wp2_with fail
    exact bodyPost_ret (results_c (p := 2) (q := 3) rfl (by kernel_rfl) (load_txb hZ) rfl) rfl HE.out
   ·skip
    refine wl <| gz1 (.int .i64 vx) <| gzb (neq_e rfl vx 0 (decide_eq_false hv)) <| wn ?_
    simp only [pu]
    have HDV := Lib.hid (HVAL.out.2 (by rw [hvx]; exact hv))
    rw [hvx] at HDV
    clear HVAL
    obtain ⟨hstz, hZ⟩ := store_txz (y := zX) (a' := none) (c' := 0) HX7.out
    have HB9 := Lib.hid (belowRow HB7.out HG2.out (txA zX none 0))
    have HE := Lib.hid (HTO.out _ (zX, vx) none 0 HDV.out HB9.out (RowT.nil _ _))
    generalize World.setRow _ g2 (txA zX none 0) = V9 at *
    clear HTO HB9
    go_upto_region 8 with fail
    refine wl <| gz2 (.agg #[.string ⟨#[]⟩, .int .u64 0, .int .u64 0, .int .u64 0, .string ⟨#[]⟩, .slice none 0 0]) (.int .i64 vx) <| gzs rfl (hstz) <| gz1 (.int .i64 vx) <| wn ?_
    simp only [pu]
    go_wp2_with fail
    exact bodyPost_ret (results_c (p := 2) (q := 3) rfl (by kernel_rfl) (load_txb hZ) rfl) rfl HE.out
set_option maxRecDepth 100000 in
set_option maxHeartbeats 8000000 in
theorem ref_decode (a : Option Addr) (c : Nat) (L : List Int) (w : World) (hs : Sl w a c L) (hc : L.length ≤ c) (h8 : ∀ y, y ∈ L → W8 y) :
  Calls Try.prog 17 #[.slice a L.length c] w (DecO w (decX L)) := by
 have hb0 : Below w.heap.size w (w.alloc (.cells (txA zX none 0) 32)) := (Below.refl _ w).alloc (Nat.le_refl _) _
 have hX0 : Bx (w.alloc (.cells (txA zX none 0) 32)) w.heap.size (txA zX none 0) 32 := heap_alloc_last w _
 have CF := Lib.hid (fun (hl : L.length ≤ 4096) => ref_fields a c L (w.alloc (.cells (txA zX none 0) 32)) (by omega) (sl_below hs hb0) h8 hc)
 have HFV := Lib.hid (fun (hl : L.length ≤ 4096) => (show (∀ f, f ∈ (flds L).1 → Vf f) ∧ (flds L).1.length ≤ 100000 ∧ (∀ f, f ∈ (flds L).1 → f.bytes.length ≤ 100000) ∧ ((flds L).2.2 = 0 → msg (flds L).1 = L) ∧ (msg (flds L).1).length ≤ 4096 from by
  rcases flds_ok (fun y hy => h8 y hy) (by omega) with ⟨e, q⟩ | ⟨P, e, hm, hP⟩
  ·rw [e]; exact ⟨(fun f h => nomatch h), by simp, (fun f h => nomatch h), fun h => absurd h q, by simp [msg]⟩
  ·rw [e]; exact ⟨hP, by have := msg_ge P; rw [hm] at this; simp only; omega, fun f hf => by have := bytes_le hf; rw [hm] at this; omega, fun _ => hm, by rw [hm]; exact hl⟩))
 have H8 := Lib.hid h8
 have HAG := Lib.hid hs
 have HTO : Hid (∀ V r a2 c2, decX L = r → Below w.heap.size w V → RowT V w.heap.size (.slice a2 r.1.tr.length c2) r.1.tr → DecO w (decX L) (.returned (.tuple #[.agg (txA r.1 a2 c2), .int .i64 r.2])) V) := Lib.hid fun V r a2 c2 e hb hr => ⟨a2, c2, by rw [e], by rw [e]; exact hr, hb⟩
 have HD1 : Hid (4096 < L.length → decX L = (zX, 3)) := Lib.hid decX_len
 have HD2 := Lib.hid (fun (h1 : ¬ 4096 < L.length) (h2 : (flds L).2.2 ≠ 0) => decX_fld (by omega) h2)
 have HD3 : Hid (¬ 4096 < L.length → (flds L).2.2 = 0 → rdX (flds L).1 = none → decX L = (zX, 4)) := Lib.hid fun h1 h2 h3 => decX_none h1 (by unfold rdL; rw [if_neg (by rw [h2]; decide), h3])
 have HD4 : Hid (∀ t, ¬ 4096 < L.length → (flds L).2.2 = 0 → rdX (flds L).1 = some t → decX L = if valX t = 0 then (t, 0) else (zX, valX t)) := Lib.hid fun t h1 h2 h3 => decX_some h1 (by unfold rdL; rw [if_neg (by rw [h2]; decide), h3])
 generalize decX L = DX at *
 generalize flds L = FR at *
 go_enter Try.func17, Try.ntmps17
 go_upto_region 1 with fail
 change Code.wp _ _ _ _ (w.alloc (.cells (txA zX none 0) 32))
 generalize w.alloc (.cells (txA zX none 0) 32) = W at *
 obtain ⟨g2, hg2⟩ : ∃ g2, w.heap.size = g2 := ⟨_, rfl⟩
 have HB0 := Lib.hid hb0
 have HG2 : Hid (w.heap.size ≤ g2) := Lib.hid (by omega)
 have HGW : Hid (g2 < W.heap.size) := Lib.hid (by rw [← hg2]; exact hX0.lt)
 rw [hg2] at hX0
 rw [hg2]
 have HWW : Hid (w.heap.size ≤ W.heap.size) := Lib.hid hb0.size
 clear hb0 hg2 hs h8
 by_cases hl : 4096 < L.length
 ·skip
  refine wl <| gz2 (.slice a L.length c) (.int .i64 L.length) <| gzb (gtr_n rfl (L.length) (4096) dT) <| wn ?_
  simp only [pu]
  obtain ⟨hstz, hZ⟩ := store_txz (y := zX) (a' := none) (c' := 0) hX0
  have HB9 := Lib.hid (belowRow HB0.out HG2.out (txA zX none 0))
  have HE := Lib.hid (HTO.out _ (zX, 3) none 0 (HD1.out hl) HB9.out (RowT.nil _ _))
  generalize World.setRow _ g2 (txA zX none 0) = V9 at *
  clear HTO HB9
  go_upto_region 2 with fail
  refine wl <| gz1 (.agg #[.string ⟨#[]⟩, .int .u64 0, .int .u64 0, .int .u64 0, .string ⟨#[]⟩, .slice none 0 0]) <| gzs rfl (hstz) <| gz1 (.int .i64 3) <| wn ?_
  simp only [pu]
  go_wp2_with fail
  exact bodyPost_ret (results_c (p := 2) (q := 3) rfl (by kernel_rfl) (load_txb hZ) rfl) rfl HE.out
 ·skip
  refine wl <| gz2 (.slice a L.length c) (.int .i64 L.length) <| gzb (gtr_n rfl (L.length) (4096) dF) <| wn ?_
  simp only [pu]
  have CFW := CF.out (by omega)
  have hfv := HFV.out (by omega)
  clear CF HFV
  go_upto_region 3 with fail
  refine wl <| gz1 (.slice a L.length c) <|
   gze (fun v w' => ∃ a c ps, v = .tuple #[.slice a ps.length c, .int .i64 FR.2.1, .int .i64 FR.2.2] ∧ ps.map Prod.fst = FR.1 ∧ ps.length ≤ c ∧ FsB w' W.heap.size a ps ∧ Below W.heap.size W w') (CFW.mono fun e w' q => by obtain ⟨v, ps, h1, h2, h3, h4⟩ := q; obtain ⟨a, c, rfl, hc, hf⟩ := h3.fsb; exact ⟨_, h1, a, c, ps, rfl, h2, hc, hf, h4⟩) (fun v5 V4 hq => ?_)
  obtain ⟨a4, c4, ps, rfl, hps, hc4, hF4, hb4⟩ := hq
  simp only [pu]
  refine gz6 (.tuple #[.slice a4 ps.length c4, .int .i64 FR.2.1, .int .i64 FR.2.2]) (.slice a4 ps.length c4) (.int .i64 FR.2.1) (.int .i64 FR.2.2) (.slice a4 ps.length c4) (.int .i64 FR.2.1) <| gz1 (.int .i64 FR.2.2) <| wn ?_
  simp only [pu]
  obtain ⟨P, n5, e5⟩ := FR
  dsimp only at *
  subst hps
  have CR := ref_read10 a4 c4 ps W.heap.size V4 hF4 hc4 hfv.1 hfv.2.2.1 (by have := hfv.2.1; rwa [List.length_map] at this)
  have HRF := Lib.hid (rd_rf hfv.1 hfv.2.2.2.2)
  have HOK := Lib.hid (fun u h => @rfX_ok (ps.map Prod.fst) u hfv.1 hfv.2.2.2.2 h)
  have HMS := Lib.hid hfv.2.2.2.1
  generalize rfX zX (ps.map Prod.fst) = RX at *
  have HB4 := Lib.hid hb4
  clear hfv CFW hF4 hc4 hb4
  go_upto_region 4 with fail
  refine wl <| gz1 (.slice a4 ps.length c4) <|
   gze (fun v w' => ∃ x ok a c, v = .tuple #[.agg (txA x a c), .bool ok] ∧ RX = (if ok = true then some x else none) ∧ RowT w' V4.heap.size (.slice a x.tr.length c) x.tr ∧ Below V4.heap.size V4 w') (CR.mono fun e w' q => by obtain ⟨x, ok, a, c, h1, h2⟩ := q; exact ⟨_, h1, x, ok, a, c, rfl, h2⟩) (fun v5 V5 hq => ?_)
  obtain ⟨x, ok, a5, c5, rfl, hok, hrt, hb5⟩ := hq
  have hrt := hrt.base HB4.out.size
  have hb5 := HB4.out.trans (hb5.mono HB4.out.size)
  obtain ⟨V6, hst6, hb6, hbx⟩ := new_txv V5 x a5 c5
  simp only [pu]
  refine gz3 (.tuple #[.agg (txA x a5 c5), .bool ok]) (.agg (txA x a5 c5)) (.bool ok) ?_
  simp only [pu]
  refine run_to rfl (some 7) rfl (.pointer (some ⟨V5.heap.size, 0, none⟩)) (V5.alloc (.cells (txA zX none 0) 32)) (by kernel_rfl) ?_
  simp only [pu]
  refine gzs rfl (hst6) <| gz1 (.bool ok) <| wn ?_
  simp only [pu]
  obtain ⟨g4, hg4⟩ : ∃ g4, V5.heap.size = g4 := ⟨_, rfl⟩
  have hb56 := hb5.trans (hb6.mono hb5.size)
  have HX6 := Lib.hid (hX0.below hX0.lt hb56)
  have HB6 := Lib.hid (HB0.out.trans (hb56.mono HB0.out.size))
  have HR6 := Lib.hid (hrt.below hb6)
  have HX4 := Lib.hid hbx
  have hs6 := sl_below HAG.out HB6.out
  rw [hg4] at HX4 ⊢
  clear hst6 hg4 hb5 hb6 hb56 hX0 HB0 hrt hbx CR HB4 HAG
  go_upto_region 5 with fail
  by_cases he : e5 = 0
  ·skip
   cases ok
   ·skip
    have HDZ := Lib.hid (HD3.out hl he (by rw [HRF.out, hok]; rfl))
    refine wl <| gz1 (.int .i64 e5) <| gzb (neq_e rfl e5 0 (decide_eq_true he)) <| gz6 (.bool false) (.bool false) (.bool true) (.bool true) (.bool true) undef <| gz5 undef undef undef undef (.bool true) <| wn ?_
    simp only [pu]
    obtain ⟨hstz, hZ⟩ := store_txz (y := zX) (a' := none) (c' := 0) HX6.out
    have HB9 := Lib.hid (belowRow HB6.out HG2.out (txA zX none 0))
    have HE := Lib.hid (HTO.out _ (zX, 4) none 0 HDZ.out HB9.out (RowT.nil _ _))
    generalize World.setRow _ g2 (txA zX none 0) = V9 at *
    clear HTO HB9
    go_upto_region 6 with fail
    refine wl <| gz1 (.agg #[.string ⟨#[]⟩, .int .u64 0, .int .u64 0, .int .u64 0, .string ⟨#[]⟩, .slice none 0 0]) <| gzs rfl (hstz) <| gz1 (.int .i64 4) <| wn ?_
    simp only [pu]
    go_wp2_with fail
    exact bodyPost_ret (results_c (p := 2) (q := 3) rfl (by kernel_rfl) (load_txb hZ) rfl) rfl HE.out
   ·skip
    have hokx := HOK.out x hok
    obtain ⟨ar, cr, er, hcr, -⟩ := HR6.out.cs
    simp only [Value.slice.injEq, true_and] at er
    obtain ⟨rfl, rfl⟩ := er
    have CFO := ref_form x a5 c5 V6 hcr hokx
    have HFB := Lib.hid (msg_bytes hokx.vf)
    have HXD : Hid (rdX (ps.map Prod.fst) = if form x = L then some x else none) := Lib.hid (by rw [HRF.out, hok, HMS.out he]; rfl)
    have HFF : Hid (form x = msg (txF x)) := Lib.hid rfl
    generalize form x = FO at *
    clear hcr
    by_cases hm : FO = L
    ·skip
     have hdm : decide (FO = L) = true := decide_eq_true hm
     have HVAL : Hid ((valX x = 0 → DX = (x, 0)) ∧ (valX x ≠ 0 → DX = (zX, valX x))) := Lib.hid (by have h9 := HD4.out x hl he (by rw [HXD.out, if_pos hm]); exact ⟨fun h => by rw [h9, if_pos h], fun h => by rw [h9, if_neg h]⟩)
     refine wl <| gz1 (.int .i64 e5) <| gzb (neq_e rfl e5 0 (decide_eq_true he)) <| gz5 (.bool false) (.bool true) (.bool false) (.bool false) (.bool false) <| gzl rfl ⟨g4, 0, none⟩ (.agg (txA x a5 c5)) (load_txb HX4.out) <|
      gze (fun v w' => Own w' V6.heap.size v FO ∧ Below V6.heap.size V6 w') CFO (fun u7 V7 hq => ?_)
     obtain ⟨hO7, hb7⟩ := hq
     obtain ⟨b7, d7, rfl, hs7, -⟩ := hO7.sl
     have CS : Calls Try.prog 38 #[.slice b7 FO.length d7, .slice a L.length c] V7 fun e w' => e = .returned (.bool true) ∧ V7 = w' := by have := ref_same b7 d7 FO a c L V7 hs7 (sl_below hs6 hb7) (by rw [HFF.out]; exact HFB.out) H8.out; rwa [hdm] at this
     simp only [pu]
     refine gz1 (.slice a L.length c) <| gzc (.bool true) (fun w' => V7 = w') (CS) (fun V9 hV9 => ?_)
     subst hV9
     simp only [pu]
     refine gz2 (.bool false) (.bool false) <| wn ?_
     simp only [pu]
     replace HX6 := Lib.hid (HX6.out.below HX6.out.lt hb7)
     replace HX4 := Lib.hid (HX4.out.below HX4.out.lt hb7)
     replace HB6 := Lib.hid (HB6.out.trans (hb7.mono HB6.out.size))
     replace HR6 := Lib.hid (HR6.out.below hb7)
     clear hb7 hO7 hs7 CS hs6 CFO
     obtain ⟨ar, cr, er, hcr, -⟩ := HR6.out.cs
     simp only [Value.slice.injEq, true_and] at er
     obtain ⟨rfl, rfl⟩ := er
     have CV := ref_validate x a5 c5 V7 hcr hokx.b.s1 hokx.b.s2 hokx.b.s3
     obtain ⟨vx, hvx⟩ : ∃ vx, valX x = vx := ⟨_, rfl⟩
     rw [hvx] at CV
     go_upto_region 7 with fail
     refine wl <| gzl rfl ⟨g4, 0, none⟩ (.agg (txA x a5 c5)) (load_txb HX4.out) <| gzc (.int .i64 vx) (fun w' => Below V7.heap.size V7 w') CV (fun V8 hb7 => ?_)
     simp only [pu]
     refine gz1 (.int .i64 vx) <| wn ?_
     simp only [pu]
     have HX7 := Lib.hid (HX6.out.below HX6.out.lt hb7)
     have HX47 := Lib.hid (HX4.out.below HX4.out.lt hb7)
     have HB7 := Lib.hid (HB6.out.trans (hb7.mono HB6.out.size))
     have HR7 := Lib.hid (HR6.out.below hb7)
     clear HX6 HX4 HB6 HR6 hb7 hcr CV
     go_upto_region 8 with fail
     by_cases hv : vx = 0
     ·skip
      refine wl <| gz1 (.int .i64 vx) <| gzb (neq_e rfl vx 0 (decide_eq_true hv)) <| wn ?_
      simp only [pu]
      obtain ⟨hstz, hZ⟩ := store_txz (y := x) (a' := a5) (c' := c5) HX7.out
      have HLD := Lib.hid (load_txb HX47.out)
      have HB9 := Lib.hid (belowRow HB7.out HG2.out (txA x a5 c5))
      have HRW := Lib.hid ((own_row (g := g2) HR7.out (txA x a5 c5) HGW.out).base (B := w.heap.size) HWW.out)
      have HE := Lib.hid (HTO.out _ (x, 0) a5 c5 (HVAL.out.1 (by rw [hvx]; exact hv)) HB9.out HRW.out)
      generalize World.setRow _ g2 (txA x a5 c5) = V9 at *
      clear HTO HB9 HRW HX7 HX47 HB7 HR7 HVAL
      go_upto_region 10 with fail
      refine wl <| gzl rfl ⟨g4, 0, none⟩ (.agg (txA x a5 c5)) (HLD.out) <| gzs rfl (hstz) <| gz1 (.int .i64 0) <| wn ?_
      simp only [pu]
      go_wp2_with fail
      exact bodyPost_ret (results_c (p := 2) (q := 3) rfl (by kernel_rfl) (load_txb hZ) rfl) rfl HE.out
     ·skip
      refine wl <| gz1 (.int .i64 vx) <| gzb (neq_e rfl vx 0 (decide_eq_false hv)) <| wn ?_
      simp only [pu]
      have HDV := Lib.hid (HVAL.out.2 (by rw [hvx]; exact hv))
      rw [hvx] at HDV
      clear HVAL
      obtain ⟨hstz, hZ⟩ := store_txz (y := zX) (a' := none) (c' := 0) HX7.out
      have HB9 := Lib.hid (belowRow HB7.out HG2.out (txA zX none 0))
      have HE := Lib.hid (HTO.out _ (zX, vx) none 0 HDV.out HB9.out (RowT.nil _ _))
      generalize World.setRow _ g2 (txA zX none 0) = V9 at *
      clear HTO HB9
      go_upto_region 9 with fail
      refine wl <| gz2 (.agg #[.string ⟨#[]⟩, .int .u64 0, .int .u64 0, .int .u64 0, .string ⟨#[]⟩, .slice none 0 0]) (.int .i64 vx) <| gzs rfl (hstz) <| gz1 (.int .i64 vx) <| wn ?_
      simp only [pu]
      go_wp2_with fail
      exact bodyPost_ret (results_c (p := 2) (q := 3) rfl (by kernel_rfl) (load_txb hZ) rfl) rfl HE.out
    ·skip
     have hdm : decide (FO = L) = false := decide_eq_false hm
     have HDZ := Lib.hid (HD3.out hl he (by rw [HXD.out, if_neg hm]))
     refine wl <| gz1 (.int .i64 e5) <| gzb (neq_e rfl e5 0 (decide_eq_true he)) <| gz5 (.bool false) (.bool true) (.bool false) (.bool false) (.bool false) <| gzl rfl ⟨g4, 0, none⟩ (.agg (txA x a5 c5)) (load_txb HX4.out) <|
      gze (fun v w' => Own w' V6.heap.size v FO ∧ Below V6.heap.size V6 w') CFO (fun u7 V7 hq => ?_)
     obtain ⟨hO7, hb7⟩ := hq
     obtain ⟨b7, d7, rfl, hs7, -⟩ := hO7.sl
     have CS : Calls Try.prog 38 #[.slice b7 FO.length d7, .slice a L.length c] V7 fun e w' => e = .returned (.bool false) ∧ V7 = w' := by have := ref_same b7 d7 FO a c L V7 hs7 (sl_below hs6 hb7) (by rw [HFF.out]; exact HFB.out) H8.out; rwa [hdm] at this
     simp only [pu]
     refine gz1 (.slice a L.length c) <| gzc (.bool false) (fun w' => V7 = w') (CS) (fun V9 hV9 => ?_)
     subst hV9
     simp only [pu]
     refine gz2 (.bool true) (.bool true) <| wn ?_
     simp only [pu]
     replace HX6 := Lib.hid (HX6.out.below HX6.out.lt hb7)
     replace HX4 := Lib.hid (HX4.out.below HX4.out.lt hb7)
     replace HB6 := Lib.hid (HB6.out.trans (hb7.mono HB6.out.size))
     replace HR6 := Lib.hid (HR6.out.below hb7)
     clear hb7 hO7 hs7 CS hs6 CFO
     obtain ⟨hstz, hZ⟩ := store_txz (y := zX) (a' := none) (c' := 0) HX6.out
     have HB9 := Lib.hid (belowRow HB6.out HG2.out (txA zX none 0))
     have HE := Lib.hid (HTO.out _ (zX, 4) none 0 HDZ.out HB9.out (RowT.nil _ _))
     generalize World.setRow _ g2 (txA zX none 0) = V9 at *
     clear HTO HB9
     go_upto_region 6 with fail
     refine wl <| gz1 (.agg #[.string ⟨#[]⟩, .int .u64 0, .int .u64 0, .int .u64 0, .string ⟨#[]⟩, .slice none 0 0]) <| gzs rfl (hstz) <| gz1 (.int .i64 4) <| wn ?_
     simp only [pu]
     go_wp2_with fail
     exact bodyPost_ret (results_c (p := 2) (q := 3) rfl (by kernel_rfl) (load_txb hZ) rfl) rfl HE.out
  ·skip
   have HDZ := Lib.hid (HD2.out hl he)
   refine wl <| gz1 (.int .i64 e5) <| gzb (neq_e rfl e5 0 (decide_eq_false he)) <| gz6 (.bool true) undef undef (.bool true) (.bool true) undef <| gz5 undef undef undef undef (.bool true) <| wn ?_
   simp only [pu]
   obtain ⟨hstz, hZ⟩ := store_txz (y := zX) (a' := none) (c' := 0) HX6.out
   have HB9 := Lib.hid (belowRow HB6.out HG2.out (txA zX none 0))
   have HE := Lib.hid (HTO.out _ (zX, 4) none 0 HDZ.out HB9.out (RowT.nil _ _))
   generalize World.setRow _ g2 (txA zX none 0) = V9 at *
   clear HTO HB9
   go_upto_region 6 with fail
   refine wl <| gz1 (.agg #[.string ⟨#[]⟩, .int .u64 0, .int .u64 0, .int .u64 0, .string ⟨#[]⟩, .slice none 0 0]) <| gzs rfl (hstz) <| gz1 (.int .i64 4) <| wn ?_
   simp only [pu]
   go_wp2_with fail
   exact bodyPost_ret (results_c (p := 2) (q := 3) rfl (by kernel_rfl) (load_txb hZ) rfl) rfl HE.out
end Go.Proofs.Ytglglhcnofbagaa
namespace Go.Proofs.Ytglglhcnofbagaa
open Go.RowKit
set_option linter.unusedSimpArgs false
set_option linter.unusedVariables false

theorem add_s {ρ : Operand → Value} {o : Oper} {x y : Operand} (ho : o.op = .binOp .add 9 x y 9) (a b : ByteArray) (hs : a.size + b.size ≤ 1000000000) (hx : ρ x = .string a) (hy : ρ y = .string b) (w : World) : (execOp ρ o).run Try.prog w = .ok (.value (.string (a ++ b))) w := by
 unfold execOp
 simp only [ho, hx, hy]
 go_simp
 omega
theorem app_size (a b : ByteArray) : (a ++ b).size = a.size + b.size := ByteArray.size_append
theorem infoSt : (Try.prog.info? 9).map (fun i => (i.zero, i.size, i.bytes)) = some (some (.string ByteArray.empty), 1, 16) := by kernel_rfl
theorem idx_str (b off n c k : Nat) (hk : k < n) (V : World) (ρ : Operand → Value) (o : Oper) {x y : Operand} (ho : o.op = .indexAddr 33 x y) (hx : ρ x = .slice (some ⟨b, off, none⟩) n c) (hy : ρ y = .int .i64 k) : (execOp ρ o).run Try.prog V = .ok (.value (.pointer (some ⟨b, off + k, none⟩))) V := by
 have hs : (sizeOf (Try.prog.elem 33)).run Try.prog V = .ok 1 V := by kernel_rfl
 have hlm : (k : Int) < (n : Int) := by omega
 unfold execOp
 simp only [ho, hx, hy]
 go_simp
/-- Strings in a row that begins its block. -/
def strs (S : List ByteArray) : List Value := S.map Value.string
theorem strs_at {S : List ByteArray} {k : Nat} (h : k < S.length) : (strs S)[k]? = some (.string (S.getD k mtS)) := by
 unfold strs
 rw [List.getElem?_map, List.getElem?_eq_getElem h, List.getD_eq_getElem?_getD, List.getElem?_eq_getElem h]
 rfl
theorem load_str {w : World} {g t : Nat} {S : List ByteArray} (h : Bx w g (strs S).toArray t) {k : Nat} (hk : k < S.length) : (Instr.loadAt 9 (.pointer (some ⟨g, 0 + k, none⟩))).run Try.prog w = .ok (.string (S.getD k mtS)) w := by
 rw [Nat.zero_add]
 exact Bx.load h (i := k) (by rw [List.getElem?_toArray]; exact strs_at hk) (by kernel_rfl)
theorem rem_nat {ρ : Operand → Value} {o : Oper} {x y : Operand} (ho : o.op = .binOp .rem 3 x y 3) (a b : Nat) (hb : b ≠ 0) (hx : ρ x = .int .i64 a) (hy : ρ y = .int .i64 b) (w : World) : (execOp ρ o).run Try.prog w = .ok (.value (.int .i64 (a % b : Nat))) w := by
 have := rem_i64 ho a b (by omega) hx hy w
 rw [this]
 congr 1
def annS : ByteArray := ⟨#[97, 110, 110]⟩
def bobS : ByteArray := ⟨#[98, 111, 98]⟩
theorem k_ann : isName (nums annS) = true := by decide +kernel
theorem k_bob : isName (nums bobS) = true := by decide +kernel
theorem k_mt : isMemo (nums mtS) = true := memo_ok (runs_end (by decide +kernel)) (by decide)
theorem k_w (n : Int) (h : 0 ≤ n ∧ n ≤ 1000) : W64 n := ⟨h.1, by omega⟩
end Go.Proofs.Ytglglhcnofbagaa
namespace Go.Proofs.Ytglglhcnofbagaa
open Go.RowKit
set_option linter.unusedSimpArgs false
set_option linter.unusedVariables false

def NmQ (s : ByteArray) : Prop := isName (nums s) = true ∧ s.size ≤ 20
def MmQ (s : ByteArray) : Prop := isMemo (nums s) = true ∧ s.size ≤ 60
end Go.Proofs.Ytglglhcnofbagaa
namespace Go.Proofs.Ytglglhcnofbagaa
open Go.RowKit
set_option linter.unusedSimpArgs false
set_option linter.unusedVariables false

abbrev Ac := ByteArray × Int × Int
def acl (x : Ac) : List Value := [.string x.1, .int .u64 x.2.1, .int .u64 x.2.2]
abbrev acA (x : Ac) : Array Value := #[.string x.1, .int .u64 x.2.1, .int .u64 x.2.2]
def acc (A : List Ac) : List Value := A.flatMap acl
def zAc : Ac := (mtS, 0, 0)
def AcQ (x : Ac) : Prop := NmQ x.1 ∧ W64 x.2.1 ∧ W64 x.2.2
theorem infoAc : (Try.prog.info? 24).map (fun i => (i.zero, i.size, i.bytes)) = some (some (.agg #[.string ByteArray.empty, .int .u64 0, .int .u64 0]), 3, 32) := by kernel_rfl
theorem acc_len : ∀ A : List Ac, (acc A).length = A.length * 3
 | [] => rfl
 | x :: r => by
  have := acc_len r
  show (acl x ++ acc r).length = _
  rw [List.length_append, this, List.length_cons]
  show 3 + _ = _
  omega
def aca (A : List Ac) (j : Nat) : Ac := A.getD j (mtS, 0, 0)
theorem aca_mem {A : List Ac} {j : Nat} (h : j < A.length) : aca A j ∈ A := by
 have : aca A j = A[j] := getD_lt A j _ h
 rw [this]; exact List.getElem_mem h
theorem acc_at : ∀ (A : List Ac) (k : Nat), k < A.length → (acc A)[k * 3]? = some (.string (aca A k).1) ∧ (acc A)[k * 3 + 1]? = some (.int .u64 (aca A k).2.1) ∧ (acc A)[k * 3 + 2]? = some (.int .u64 (aca A k).2.2)
 | [], k, h => absurd h (by simp)
 | x :: r, 0, h => ⟨rfl, rfl, rfl⟩
 | x :: r, k + 1, h => by
  have := acc_at r k (by simpa using h)
  have e : ∀ q, (acc (x :: r))[q + 3]? = (acc r)[q]? := fun q => rfl
  rw [show (k + 1) * 3 = k * 3 + 3 by omega, show k * 3 + 3 + 1 = (k * 3 + 1) + 3 by omega, show k * 3 + 3 + 2 = (k * 3 + 2) + 3 by omega, e, e, e]
  exact this
theorem ac_range {w : World} {a : Option Addr} {A : List Ac} (h : Cs w a (acc A)) {k : Nat} (hk : k < A.length) : ∃ b off, a = some ⟨b, off, none⟩ ∧ b < w.heap.size ∧ w.rangeAt b (off + k * 3) (acl (aca A k)) := by
 obtain ⟨h0, h1, h2⟩ := acc_at A k hk
 obtain ⟨b, off, rfl, hb, c0⟩ := h _ _ h0
 obtain ⟨b1, o1, e1, -, c1⟩ := h _ _ h1
 obtain ⟨b2, o2, e2, -, c2⟩ := h _ _ h2
 simp only [Option.some.injEq, Addr.mk.injEq, and_true] at e1 e2
 obtain ⟨rfl, rfl⟩ := e1
 obtain ⟨rfl, rfl⟩ := e2
 refine ⟨b, off, rfl, hb, fun j v hj => ?_⟩
 have hj2 : j < 3 := by
  have := (List.getElem?_eq_some_iff.1 hj).1
  simpa [acl] using this
 rcases (show j = 0 ∨ j = 1 ∨ j = 2 by omega) with rfl | rfl | rfl
 ·simp [acl] at hj; rw [← hj]; exact c0
 ·simp [acl] at hj; rw [← hj, Nat.add_assoc]; exact c1
 ·simp [acl] at hj; rw [← hj, Nat.add_assoc]; exact c2
theorem load_ac {w : World} {b o : Nat} {x : Ac} (h : w.rangeAt b o (acl x)) : (Instr.loadAt 24 (.pointer (some ⟨b, o, none⟩))).run Try.prog w = .ok (.agg (acA x)) w :=
 run_loadAt_mid w b o 24 (acl x) _ h Try.underlying24 rfl (by kernel_rfl)
theorem load_acb {w : World} {g k : Nat} {x : Ac} (h : Bx w g (acA x) k) : (Instr.loadAt 24 (.pointer (some ⟨g, 0, none⟩))).run Try.prog w = .ok (.agg (acA x)) w :=
 load_ac fun j v hv => by
  rw [cell_of_row w g _ _ _ (0, 0) h]
  simpa [acl] using hv
theorem store_ac {w : World} {g : Nat} {x y : Ac} (h : Bx w g (acA x) 24) : (Instr.storeAt 24 (.pointer (some ⟨g, 0, none⟩)) (.agg (acA y))).run Try.prog w = .ok () (w.setRow g (acA y)) ∧ Bx (w.setRow g (acA y)) g (acA y) 24 :=
 ⟨run_store_all h rfl (by simp [Value.oneCell']) (by kernel_rfl), h.set⟩
theorem idx_ac (b off n c k : Nat) (hk : k < n) (V : World) (ρ : Operand → Value) (o : Oper) {x y : Operand} (ho : o.op = .indexAddr 25 x y) (hx : ρ x = .slice (some ⟨b, off, none⟩) n c) (hy : ρ y = .int .i64 k) : (execOp ρ o).run Try.prog V = .ok (.value (.pointer (some ⟨b, off + k * 3, none⟩))) V := by
 have hs : (sizeOf (Try.prog.elem 25)).run Try.prog V = .ok 3 V := by kernel_rfl
 have hlm : (k : Int) < (n : Int) := by omega
 unfold execOp
 simp only [ho, hx, hy]
 go_simp
theorem build_ac (x : Ac) (V : World) : (Instr.buildSlice 25 1 #[(0, .agg (acA x))]).run Try.prog V = .ok (.slice (some ⟨V.heap.size, 0, none⟩) 1 1) (V.alloc (.cells (acA x) 24)) := by
 obtain ⟨i0, hi, hz0, hz1, hz2⟩ := info_parts infoAc
 refine run_buildSlice V 25 24 1 _ (acA x) i0 _ Try.underlying25 hi hz0 (by rw [hz1]; omega) (by rw [hz1]; omega) ?_
 rw [hz1]
 kernel_rfl
def RowA (w : World) (B : Nat) (v : Value) (A : List Ac) : Prop := w.ownsRow B 24 3 v A.length (acc A)
theorem RowA.cs {w : World} {B : Nat} {v : Value} {A : List Ac} (h : RowA w B v A) : ∃ a c, v = .slice a A.length c ∧ Cs w a (acc A) ∧ A.length ≤ c := own_cs h
/-- Words in a row that begins its block. -/
def u64s (S : List Int) : List Value := S.map (Value.int .u64)
theorem infoU : (Try.prog.info? 22).map (fun i => (i.zero, i.size, i.bytes)) = some (some (.int .u64 0), 1, 8) := by kernel_rfl
section
variable {W : World} {g c k i : Nat} {a : Option Addr} {L : List Int} {b0 b2 b4 b6 b7 b8 b9 b10 b11 : Bool} {x12 x14 x16 x18 x19 x20 x21 x5 : Value} {V : World}
end
end Go.Proofs.Ytglglhcnofbagaa
namespace Go.Proofs.Ytglglhcnofbagaa
open Go.RowKit
set_option linter.unusedSimpArgs false
set_option linter.unusedVariables false

theorem W64.wrap (x : Int) : W64 (IntKind.u64.wrap x) := by
 have e : IntKind.u64.wrap x = x % 18446744073709551616 := by rw [IntKind.wrap_u64]
 rw [e]
 exact ⟨by omega, by omega⟩
section
variable {ρ : Operand → Value} {o : Oper} {x y : Operand}
theorem conv_iu (ho : o.op = .convert 3 22 x) (a : Int) (h0 : 0 ≤ a) (h1 : a ≤ 1000000) (hx : ρ x = .int .i64 a) (w : World) : (execOp ρ o).run Try.prog w = .ok (.value (.int .u64 a)) w := by
 have hw : IntKind.u64.wrap a = a := by rw [IntKind.wrap_u64]; omega
 unfold execOp
 simp only [ho, hx]
 go_simp
end
/-- A drawn transaction so far. -/
structure GQ (x : Txd) : Prop where
 snd : NmQ x.snd
 sq : W64 x.sq
 gas : 150 ≤ x.gas ∧ x.gas ≤ 1000
 fee : W64 x.fee
 memo : MmQ x.memo
 tr : ∀ y, y ∈ x.tr → NmQ y.1 ∧ 0 < y.2 ∧ W64 y.2
theorem valT_zero : ∀ {M : List Tf}, (∀ y, y ∈ M → NmQ y.1 ∧ 0 < y.2 ∧ W64 y.2) → valT M = 0
 | [], _ => rfl
 | y :: r, h => by
  have := h y (by simp)
  unfold valT
  rw [if_neg (by rw [this.1.1]; decide), if_neg (by omega), valT_zero (fun z hz => h z (by simp [hz]))]
theorem GQ.val {x : Txd} (h : GQ x) (h1 : 1 ≤ x.tr.length) (h2 : x.tr.length ≤ 16) : valX x = 0 := by
 unfold valX
 have := h.gas
 rw [if_neg (by rw [h.snd.1]; decide), if_neg (by omega), if_neg (by rw [h.memo.1]; decide), if_neg (by omega)]
 exact valT_zero h.tr
theorem GQ.b {x : Txd} (h : GQ x) : TxB x := ⟨h.sq, ⟨by have := h.gas; omega, by have := h.gas; omega⟩, h.fee, fun y hy => (h.tr y hy).2.2, by have := h.snd.2; omega, by have := h.memo.2; omega, fun y hy => by have := (h.tr y hy).1.2; omega⟩
/-- How the blocks lie. -/
structure Ly (w : World) (g : Nat) (a : Option Addr) (L : List Int) (g4 g6 g7 : Nat) (ra : Option Addr) (A : List Ac) (B7 : Nat) : Prop where
 hg : g < w.heap.size
 h4 : w.heap.size ≤ g4
 h6 : w.heap.size ≤ g6
 h7 : w.heap.size ≤ g7
 n46 : g4 ≠ g6
 n47 : g4 ≠ g7
 n67 : g6 ≠ g7
 l4 : g4 < B7
 l6 : g6 < B7
 l7 : g7 < B7
 ab : L ≠ [] → ∀ x, a = some x → x.block < w.heap.size
 rb : acc A ≠ [] → ∀ x, ra = some x → x.block < w.heap.size ∧ x.block ≠ g
section
variable {w : World} {g : Nat} {a : Option Addr} {c : Nat} {L : List Int} {N g4 g6 g7 : Nat} {ra : Option Addr} {rc : Nat} {A : List Ac} {co : Int} {B7 : Nat} {x : Txd} {a2 : Option Addr} {c2 : Nat} {V : World}
end
theorem results_1c {fn : Func} {tmps : Array Value} {w : World} {p g ty : Nat} {v : Value} (hr : fn.results = #[.cell p ty]) (h2 : tmps.getD p undef = .pointer (some ⟨g, 0, none⟩)) (hl : (Instr.loadAt ty (.pointer (some ⟨g, 0, none⟩))).run Try.prog w = .ok v w) : (results fn tmps).run Try.prog w = .ok v w := by
 unfold results
 rw [hr]
 have h2' : tmps[p]?.getD undef = .pointer (some ⟨g, 0, none⟩) := by simpa using h2
 have hl' := hl
 simp only [Instr.loadAt, Instr.sureAddr, Sem.run_bind, Sem.run_pure, Result.andThen_ok] at hl'
 simp [h2', asAddr, hl', Result.andThen]
section
variable {w : World} {g : Nat} {a : Option Addr} {c : Nat} {L : List Int} {N g4 g6 g7 : Nat} {ra : Option Addr} {rc : Nat} {A : List Ac} {co : Int} {B7 : Nat} {x : Txd} {W : World} {y : Ac} {b4 b7 b8 : Bool} {x9 : Value} {V : World}
end
end Go.Proofs.Ytglglhcnofbagaa
namespace Go.Proofs.Ytglglhcnofbagaa
open Go.RowKit
set_option linter.unusedSimpArgs false
set_option linter.unusedVariables false

section
variable {w : World} {g : Nat} {a : Option Addr} {c : Nat} {L : List Int} {N g4 g6 g7 : Nat} {ra : Option Addr} {rc : Nat} {A : List Ac} {co : Int} {B7 : Nat} {x : Txd} {a2 : Option Addr} {c2 : Nat} {V : World}
end
end Go.Proofs.Ytglglhcnofbagaa
namespace Go.Proofs.Ytglglhcnofbagaa.Lg
open Go.RowKit
set_option linter.unusedSimpArgs false
set_option linter.unusedVariables false

/-- The order of strings. -/
def ltS (a b : ByteArray) : Bool := decide (a.data.toList < b.data.toList)
theorem bl_dec : ∀ (x y : List UInt8), Op.bytesLess x y = decide (x < y)
 | [], [] => by simp [Op.bytesLess]
 | _ :: _, [] => by simp [Op.bytesLess]
 | [], _ :: _ => by simp [Op.bytesLess]
 | a :: x, b :: y => by
  unfold Op.bytesLess
  rw [bl_dec x y, Bool.eq_iff_iff]
  simp only [Bool.or_eq_true, Bool.and_eq_true, decide_eq_true_eq, beq_iff_eq, List.cons_lt_cons_iff]
theorem toL_d (a : ByteArray) : a.toList = a.data.toList := Lib.toList_data a
theorem bl_lt (a b : ByteArray) : Op.bytesLess a.toList b.toList = ltS a b := by rw [bl_dec, toL_d, toL_d]; rfl
theorem eqB (a b : ByteArray) : (a.toList == b.toList) = decide (a = b) := by
 rw [toL_d, toL_d]
 by_cases h : a = b
 ·subst h; simp
 ·rw [decide_eq_false h, beq_eq_false_iff_ne]
  intro e
  exact h (ByteArray.ext (Array.toList_inj.1 e))
theorem beqB (a b : ByteArray) : (a == b) = decide (a = b) := by rw [beq_toListBytes, eqB]
theorem ltS_irr (a : ByteArray) : ltS a a = false := decide_eq_false (List.lt_irrefl _)
theorem ltS_tr {a b c : ByteArray} (h : ltS a b = true) (g : ltS b c = true) : ltS a c = true := decide_eq_true (List.lt_trans (of_decide_eq_true h) (of_decide_eq_true g))
theorem ltS_as {a b : ByteArray} (h : ltS a b = true) : ltS b a = false := by
 rw [Bool.eq_false_iff]
 intro g
 have := ltS_tr h g
 rw [ltS_irr] at this
 cases this
theorem ltS_ne {a b : ByteArray} (h : ltS a b = true) : a ≠ b := by
 rintro rfl
 rw [ltS_irr] at h
 cases h
theorem ltS_tot {a b : ByteArray} (h : ltS a b = false) (hn : a ≠ b) : ltS b a = true := by
 refine decide_eq_true ?_
 have h1 : ¬ a.data.toList < b.data.toList := of_decide_eq_false h
 have h2 : b.data.toList ≤ a.data.toList := List.not_lt.1 h1
 rcases List.le_iff_lt_or_eq.1 h2 with h3 | h3
 ·exact h3
 ·exact absurd (ByteArray.ext (Array.toList_inj.1 h3)).symm hn
theorem lss_s {ρ : Operand → Value} {o : Oper} {x y : Operand} (ho : o.op = .binOp .lss 9 x y 9) (a b : ByteArray) {t : Bool} (ht : ltS a b = t) (hx : ρ x = .string a) (hy : ρ y = .string b) (w : World) : (execOp ρ o).run Try.prog w = .ok (.value (.bool t)) w := by
 have e : Op.bytesLess a.toList b.toList = t := (bl_lt a b).trans ht
 unfold execOp
 simp only [ho, hx, hy]
 go_simp
theorem gtr_s {ρ : Operand → Value} {o : Oper} {x y : Operand} (ho : o.op = .binOp .gtr 9 x y 9) (a b : ByteArray) {t : Bool} (ht : ltS b a = t) (hx : ρ x = .string a) (hy : ρ y = .string b) (w : World) : (execOp ρ o).run Try.prog w = .ok (.value (.bool t)) w := by
 have e : (!(Op.bytesLess a.toList b.toList || a.toList == b.toList)) = t := by
  rw [bl_lt, eqB, ← ht]
  by_cases h : ltS a b = true
  ·rw [h, ltS_as h]; rfl
  ·have h1 : ltS a b = false := by simpa using h
   by_cases h2 : a = b
   ·subst h2; rw [ltS_irr]; simp
   ·rw [h1, ltS_tot h1 h2, decide_eq_false h2]; rfl
 unfold execOp
 simp only [ho, hx, hy]
 go_simp

end Go.Proofs.Ytglglhcnofbagaa.Lg
namespace Go.Proofs.Ytglglhcnofbagaa.Lg
set_option maxRecDepth 100000
open Go.RowKit
set_option linter.unusedSimpArgs false
set_option linter.unusedVariables false

/-- math/bits.Add64 with carry 0. -/
theorem add64_0 (x y : Int) (hx : 0 ≤ x) (hy : 0 ≤ y) (w : World) : (callFunc 96 #[.int .u64 x, .int .u64 y, .int .u64 0]).run Try.prog w =
  .ok (.value (.tuple #[.int .u64 ((x + y) % 18446744073709551616), .int .u64 ((x + y) / 18446744073709551616)])) w := by
 rw [run_callFunc_extern Try.func96 (by kernel_rfl) (by kernel_rfl) (by kernel_rfl) (e := add64Entry) (by kernel_rfl), run_add64 x y 0 hx hy (by omega) (by omega)]
 simp only [Result.andThen, Int.add_zero]

def addB (a b : Int) : Bool := decide (a + b < 18446744073709551616)
def addV (a b : Int) : Int := if a + b < 18446744073709551616 then a + b else 0
theorem money_add (a b : Int) (w : World) (ha : W64 a) (hb : W64 b) :
  Calls Try.prog 88 #[.int .u64 a, .int .u64 b] w fun e w' => e = .returned (.tuple #[.int .u64 (addV a b), .bool (addB a b)]) ∧ w = w' := by
 obtain ⟨a0, a1⟩ := ha; obtain ⟨b0, b1⟩ := hb
 have hL := add64_0 a b a0 b0
 by_cases h : a + b < 18446744073709551616
 ·have e1 : addV a b = a + b := if_pos h
  have e2 : addB a b = true := decide_eq_true h
  have q1 : (a + b) % 18446744073709551616 = a + b := by omega
  have q2 : (a + b) / 18446744073709551616 = 0 := by omega
  simp only [q1, q2] at hL
  rw [e1, e2]
  clear e1 e2 q1 q2
  go_enter Try.func88, Try.ntmps88
  go_wp2_with (simp only [hL])
  go_ret2
  exact ⟨rfl, rfl⟩
 ·have e1 : addV a b = 0 := if_neg h
  have e2 : addB a b = false := decide_eq_false h
  have q2 : (a + b) / 18446744073709551616 = 1 := by omega
  simp only [q2] at hL
  rw [e1, e2]
  clear e1 e2 q2
  go_enter Try.func88, Try.ntmps88
  go_wp2_with (simp only [hL])
  go_ret2
  exact ⟨rfl, rfl⟩

theorem ref_add (a b : Int) (w : World) (ha : W64 a) (hb : W64 b) :
  Calls Try.prog 60 #[.int .u64 a, .int .u64 b] w fun e w' => e = .returned (.tuple #[.int .u64 (addV a b), .bool (addB a b)]) ∧ w = w' := by
 obtain ⟨a0, a1⟩ := ha; obtain ⟨b0, b1⟩ := hb
 by_cases h : a + b < 18446744073709551616
 ·have e1 : addV a b = a + b := if_pos h
  have e2 : addB a b = true := decide_eq_true h
  have h' : ¬ (18446744073709551615 - b < a) := by omega
  rw [e1, e2]
  clear e1 e2
  go_enter Try.func60, Try.ntmps60
  go_wp2
  go_ret2
  exact ⟨rfl, rfl⟩
 ·have e1 : addV a b = 0 := if_neg h
  have e2 : addB a b = false := decide_eq_false h
  have h' : 18446744073709551615 - b < a := by omega
  rw [e1, e2]
  clear e1 e2
  go_enter Try.func60, Try.ntmps60
  go_wp2
  go_ret2
  exact ⟨rfl, rfl⟩

/-- The exact sum. -/
def tot (l : List Int) : Int := l.foldl (· + ·) 0
def sumB (l : List Int) : Bool := decide (tot l < 18446744073709551616)
def sumV (l : List Int) : Int := if tot l < 18446744073709551616 then tot l else 0

theorem tot_add (l : List Int) : ∀ a : Int, l.foldl (· + ·) a = a + tot l := by
 induction l with
 | nil => intro a; simp [tot]
 | cons x l ih =>
  intro a
  have h1 := ih (a + x)
  have h2 := ih (0 + x)
  simp only [tot, List.foldl_cons] at *
  omega
theorem tot_cons (x : Int) (l : List Int) : tot (x :: l) = x + tot l := by
 have := tot_add l (0 + x)
 simp only [tot, List.foldl_cons] at *
 omega
theorem tot_append (l r : List Int) : tot (l ++ r) = tot l + tot r := by
 induction l with
 | nil => simp [tot]
 | cons x l ih => rw [List.cons_append, tot_cons, tot_cons, ih]; omega
theorem tot_succ (l : List Int) (k : Nat) (h : k < l.length) : tot (l.take (k + 1)) = tot (l.take k) + l.getD k 0 := by
 rw [List.take_succ_eq_append_getElem h, tot_append, List.getD_eq_getElem?_getD, List.getElem?_eq_getElem h, tot_cons]
 simp [tot]
theorem tot_nonneg (l : List Int) : (∀ x, x ∈ l → 0 ≤ x) → 0 ≤ tot l := by
 induction l with
 | nil => intro _; simp [tot]
 | cons x l ih =>
  intro h
  rw [tot_cons]
  have := ih (fun y hy => h y (List.mem_cons_of_mem _ hy))
  have := h x (List.mem_cons_self ..)
  omega
theorem mem_bound (l : List Int) (hw : ∀ k, k < l.length → W64 (l.getD k 0)) (x : Int) (hx : x ∈ l) : W64 x := by
 obtain ⟨j, hj, rfl⟩ := List.getElem_of_mem hx
 have := hw j hj
 rw [List.getD_eq_getElem?_getD, List.getElem?_eq_getElem hj] at this
 exact this
theorem tot_take_le (l : List Int) (hw : ∀ k, k < l.length → W64 (l.getD k 0)) (k : Nat) : tot (l.take k) ≤ tot l := by
 have h := tot_append (l.take k) (l.drop k)
 rw [List.take_append_drop] at h
 have := tot_nonneg (l.drop k) (fun x hx => (mem_bound l hw x (List.mem_of_mem_drop hx)).1)
 omega

set_option maxHeartbeats 1000000 in
theorem money_sum (a : Option Addr) (cap : Nat) (l : List Int) (w : World) (hl : l.length ≤ 9223372036854775807) (hc : ∀ k, k < l.length → ∃ b off, a = some ⟨b, off, none⟩ ∧ w.cell? ⟨b, off + k, none⟩ = some (.int .u64 (l.getD k 0))) (hw : ∀ k, k < l.length → W64 (l.getD k 0)) :
  Calls Try.prog 79 #[.slice a l.length cap] w fun e w' => e = .returned (.tuple #[.int .u64 (sumV l), .bool (sumB l)]) ∧ w = w' := by
 go_enter Try.func79, Try.ntmps79
 go_wp2_with fail
 go_loopg [4, 11] l.length (fun g s4 s11 wx => w = wx ∧ ∃ k : Nat, k ≤ l.length ∧ s4 = .int .u64 (tot (l.take k)) ∧ s11 = .int .i64 k ∧ l.length - k = g ∧ Hid (tot (l.take k) < 18446744073709551616))
 case atStart => exact ⟨rfl, 0, by omega, rfl, rfl, rfl, Lib.hid (by simp [tot])⟩
 case round =>
  obtain ⟨rfl, k, hk, rfl, rfl, rfl, ht⟩ := hrel
  by_cases hlt : k < l.length
  ·obtain ⟨b, off, ea, hcell⟩ := hc k hlt
   have hx := hw k hlt
   have hts := tot_succ l k hlt
   have ht0 := tot_nonneg (l.take k) (fun x hx => (mem_bound l hw x (List.mem_of_mem_take hx)).1)
   have hA := fun w => money_add (tot (l.take k)) (l.getD k 0) w ⟨ht0, by have := ht.out; omega⟩ hx
   have hle := tot_take_le l hw (k + 1)
   obtain ⟨x, hxe⟩ : ∃ x, l.getD k 0 = x := ⟨_, rfl⟩
   obtain ⟨t, hte⟩ : ∃ t, tot (l.take k) = t := ⟨_, rfl⟩
   rw [hxe] at hcell hx hts hA
   rw [hte] at hts hA ht0 ht
   rw [hts] at hle
   rw [hte]
   subst ea
   clear hxe hte hc hw
   by_cases hs : t + x < 18446744073709551616
   ·have e1 : addV t x = t + x := if_pos hs
    have e2 : addB t x = true := decide_eq_true hs
    rw [e1, e2] at hA
    have HS := Lib.hid hts
    have hs' := Lib.hid hs
    clear e1 e2 hts hle
    go_wp2_with (go_at_call 88; refine (hA _).mono ?_; rintro e w' ⟨rfl, rfl⟩)
    go_roundg (l.length - (k + 1))
    case measure => omega
    case rel => exact ⟨rfl, k + 1, by omega, by rw [HS.out], by first | rfl | go_num, rfl, by rw [HS.out]; exact hs'⟩
   ·have e1 : addV t x = 0 := if_neg hs
    have e2 : addB t x = false := decide_eq_false hs
    rw [e1, e2] at hA
    have f1 := Lib.hid (show sumV l = 0 from if_neg (by omega))
    have f2 := Lib.hid (show sumB l = false from decide_eq_false (by omega))
    clear e1 e2 hts hle
    go_wp2_with (go_at_call 88; refine (hA _).mono ?_; rintro e w' ⟨rfl, rfl⟩)
    go_ret2
    exact ⟨by rw [f1.out, f2.out]; rfl, rfl⟩
  ·obtain rfl : k = l.length := by omega
   rw [List.take_length] at ht ⊢
   have f1 := Lib.hid (show sumV l = tot l from if_pos ht.out)
   have f2 := Lib.hid (show sumB l = true from decide_eq_true ht.out)
   clear hc hw
   go_wp2_with fail
   go_ret2
   exact ⟨by rw [f1.out, f2.out]; rfl, rfl⟩

section
variable {P : Program} {t e s bytes : Nat} {z : Value}
/-- The same up to the greatest row. -/
theorem append_big (hu : P.underlying t = some (.slice e)) (hinfo : (P.info? e).map (fun i => (i.zero, i.size, i.bytes)) = some (some z, s, bytes)) (hzs : z.cells.size = s) (hs : 0 < s)
  {w : World} {B n m : Nat} {v : Value} {xs : List Value} (hO : w.ownsRow B e s v n xs) (pa : Option Addr) (cp : Nat) (ys : List Value) (hP : Cs w pa ys) (hl : ys.length = m * s) (h1 : ∀ u ∈ ys, u.oneCell' = true) (hB : B ≤ w.heap.size) (hby : 0 < bytes) (hn : (n + m) * bytes ≤ 140737488355328) :
  ∃ v' w', (Builtin.append_ #[t, t] t #[v, .slice pa m cp]).run P w = .ok v' w' ∧ w'.ownsRow B e s v' (n + m) (xs ++ ys) ∧ Below B w w' ∧ w.grownBy w' v.ownBlock ∧ (v'.ownBlock = v.ownBlock ∨ v'.ownBlock = some w.heap.size) := by
 obtain ⟨i0, hi, hz0, hz1, hz2⟩ := info_parts hinfo
 by_cases hy : ys = []
 ·subst hy
  obtain rfl : m = 0 := by
   rcases Nat.eq_zero_or_pos m with h | h
   ·exact h
   ·have := Nat.mul_pos h hs
    rw [← hl] at this
    simp at this
  cases pa with
  | none =>
   refine ⟨v, w, ?_, by simpa using hO, Below.refl _ _, World.grownBy.refl w _, .inl rfl⟩
   rcases hO.2 with ⟨rfl, h0⟩ | ⟨g, cap, cur, rfl, _, _, hnc, _⟩
   ·simp [Builtin.append_, run_underlying hu, sizeOf, typeInfo, hi, Builtin.lenOf, Builtin.firstCells]
   ·simp [Builtin.append_, run_underlying hu, sizeOf, typeInfo, hi, Builtin.lenOf, Builtin.firstCells, hnc, storeCells]
  | some x =>
   obtain ⟨v', w', hr, h2, h3, -, h4⟩ := run_append_own_at (P := P) w B t t e i0 z s bytes hu hi hz0 hz1 hz2 hzs hs v n xs hO x 0 cp [] (by simp) (fun j u h => by simp at h) (by simp) (by unfold maxLen; have := Nat.le_mul_of_pos_right (n + 0) hby; omega) hn hB
   exact ⟨v', w', hr, h2, (Below.refl _ w).grown h3 hB (fun j hj => (hO.lt j hj).1), h3, h4⟩
 ·obtain ⟨y, hy0⟩ : ∃ y, ys[0]? = some y := by
   cases ys with
   | nil => exact absurd rfl hy
   | cons y r => exact ⟨y, rfl⟩
  obtain ⟨b, off, rfl, -⟩ := hP 0 y hy0
  have hcells : ∀ j u, ys[j]? = some u → w.cell? ((⟨b, off, none⟩ : Addr).add j) = some u := fun j u hu => by
   obtain ⟨b2, off2, e2, -, hc⟩ := hP j u hu
   simp only [Option.some.injEq, Addr.mk.injEq, and_true] at e2
   obtain ⟨rfl, rfl⟩ := e2
   rw [Addr.add_mid]
   exact hc
  obtain ⟨v', w', hr, h2, h3, -, h4⟩ := run_append_own_at (P := P) w B t t e i0 z s bytes hu hi hz0 hz1 hz2 hzs hs v n xs hO ⟨b, off, none⟩ m cp ys hl hcells h1 (by unfold maxLen; have := Nat.le_mul_of_pos_right (n + m) hby; omega) hn hB
  exact ⟨v', w', hr, h2, (Below.refl _ w).grown h3 hB (fun j hj => (hO.lt j hj).1), h3, h4⟩
end
theorem bals_at (A : List Ac) (k : Nat) (h : k < A.length) : (A.map (·.2.1)).getD k 0 = (aca A k).2.1 := by
 rw [List.getD_eq_getElem?_getD, List.getElem?_map, List.getElem?_eq_getElem h]
 unfold aca
 rw [List.getD_eq_getElem?_getD, List.getElem?_eq_getElem h]
 rfl
end Go.Proofs.Ytglglhcnofbagaa.Lg
