/-
 The program's Get and Handles: contracts; the nil store's methods.
-/
import Derived.Test.YtmpajgaanghpoaaQE
namespace Go.Proofs.Ytmpajgaanghpoaa
attribute [local irreducible] wpList wpQuiet
open Go.RowKit
set_option maxRecDepth 100000
set_option linter.unusedSimpArgs false
set_option linter.unusedVariables false

theorem rg_but {w w' : World} {b o g : Nat} {cs : List Value} (h : w.rangeAt b o cs) (hb : But g w w') (hn : b ≠ g) : w'.rangeAt b o cs := fun j v hv => by
 have h1 := h j v hv
 have h2 := World.block_lt_of_cell? w (⟨b, o + j, none⟩ : Addr) h1
 rw [← h1]
 unfold World.cell?
 rw [hb.2 b h2 hn]
/-- What Get's last region keeps. -/
structure KG (g4 : Nat) (E : En) (bC bS : Bool) (x : Value) (W V : World) : Prop where
 but : But g4 W V
 b4 : bS = false → Bx V g4 (enA zEn zAd) 44
 cl : bC = true → ∃ d, x = .agg (enA E d) ∧ EnW V W.heap.size E d
 sc : bS = true → bC = true
 fin : bS = true → ∃ d, Bx V g4 (enA E d) 44 ∧ EnW V W.heap.size E d
section
variable {g4 : Nat} {E : En} {bC bS : Bool} {x : Value} {W V V2 : World} {d : Ad}
theorem KG.start (hg : g4 < W.heap.size) (h : Bx W g4 (enA zEn zAd) 44) : KG g4 E false false x W { W with drawn := W.drawn + 1 } := ⟨⟨(Below.refl _ W).drew, fun _ _ _ => rfl⟩, fun _ => h.below hg ((Below.refl _ W).drew), (fun e => nomatch e), (fun e => nomatch e), (fun e => nomatch e)⟩
theorem KG.nos (h : KG g4 E false bS x W V) : bS = false := by
 cases bS with
 | false => rfl
 | true => exact absurd (h.sc rfl) (by decide)
theorem KG.call (h : KG g4 E false bS x W V) (hs : bS = false) (hw : EnW V2 V.heap.size E d) (hb : Below V.heap.size V V2) : KG g4 E true bS (.agg (enA E d)) W V2 := by
 subst hs
 have h4 := h.b4 rfl
 exact ⟨h.but.trans (But.of_below hb (Nat.le_of_lt h4.lt)), fun _ => h4.below h4.lt hb, fun _ => ⟨d, rfl, own_base hw.r h.but.1.size, own_base hw.p h.but.1.size⟩, (fun e => nomatch e), (fun e => nomatch e)⟩
theorem KG.store (h : KG g4 E true false (.agg (enA E d)) W V) (hw : EnW V W.heap.size E d) (hg : g4 < W.heap.size) : ∃ V2, (Instr.storeAt 44 (.pointer (some ⟨g4, 0, none⟩)) (.agg (enA E d))).run Try.prog V = .ok () V2 ∧ KG g4 E true true (.agg (enA E d)) W V2 := by
 obtain ⟨V2, hst, hX, hbt⟩ := st_all (cs' := enA E d) (ty := 44) (h.b4 rfl) rfl (enA_one E d) (by kernel_rfl)
 have h2 : EnW V2 W.heap.size E d := ⟨own_butq hw.r hbt fun y hy => by have := (hw.r.lt y.block (by rw [hy]; rfl)).1; omega, own_butq hw.p hbt fun y hy => by have := (hw.p.lt y.block (by rw [hy]; rfl)).1; omega⟩
 exact ⟨V2, hst, h.but.trans hbt, (fun e => nomatch e), fun _ => ⟨d, rfl, h2⟩, fun _ => rfl, fun _ => ⟨d, hX, h2⟩⟩
end
set_option maxRecDepth 100000 in
set_option maxHeartbeats 8000000 in
theorem q_get {w : World} {g : Nat} {S : Nat → Prop} {m : Sm} {u : Nat} (q : Int × Int) (h : RepS w g S m) (hm : Wm m u) : Calls Try.prog 17 #[.pointer (some ⟨g, 0, none⟩), .agg #[.int .i64 q.1, .int .i64 q.2]] w fun r w' => ∃ d, r = .returned (.tuple #[.agg (enA (getS m q) d), .bool (valS m q)]) ∧ EnW w' w.heap.size (getS m q) d ∧ Below w.heap.size w w' := by
 obtain ⟨a, c, T, fr, hM, hl, -⟩ := h
 cases hv : valS m q with
 | false =>
  rw [get_no hv]
  have HMM := Lib.hid hM
  have HL := Lib.hid hl
  have HV := Lib.hid hv
  clear hM hl hv hm
  go_enter Try.func17, Try.ntmps17
  go_upto_region 1 with fail
  change Code.wp _ _ _ _ ((w.alloc (.cells #[.int .i64 q.1, .int .i64 q.2] 33)).alloc (.cells (enA zEn zAd) 44))
  have hb0 : Below w.heap.size w ((w.alloc (.cells #[.int .i64 q.1, .int .i64 q.2] 33)).alloc (.cells (enA zEn zAd) 44)) := ((Below.refl _ w).alloc (Nat.le_refl _) _).alloc (by simp) _
  have hX3 : Bx ((w.alloc (.cells #[.int .i64 q.1, .int .i64 q.2] 33)).alloc (.cells (enA zEn zAd) 44)) w.heap.size #[.int .i64 q.1, .int .i64 q.2] 33 := Bx.below (heap_alloc_last w _) (by simp) ((Below.refl _ _).alloc (Nat.le_refl _) _)
  have hX4 : Bx ((w.alloc (.cells #[.int .i64 q.1, .int .i64 q.2] 33)).alloc (.cells (enA zEn zAd) 44)) (w.heap.size + 1) (enA zEn zAd) 44 := by
   have := heap_alloc_last (w.alloc (.cells #[.int .i64 q.1, .int .i64 q.2] 33)) (.cells (enA zEn zAd) 44)
   rwa [show (w.alloc (.cells #[.int .i64 q.1, .int .i64 q.2] 33)).heap.size = w.heap.size + 1 by simp] at this
  generalize (w.alloc (.cells #[.int .i64 q.1, .int .i64 q.2] 33)).alloc (.cells (enA zEn zAd) 44) = W at *
  obtain ⟨g3, hg3⟩ : ∃ g, w.heap.size = g := ⟨_, rfl⟩
  obtain ⟨g4, hg4⟩ : ∃ g, g3 + 1 = g := ⟨_, rfl⟩
  rw [show w.heap.size + 1 = g4 by omega] at hX4
  have HG : Hid (w.heap.size ≤ g3 ∧ w.heap.size ≤ g4 ∧ g3 ≠ g4) := Lib.hid ⟨by omega, by omega, by omega⟩
  rw [hg3] at hX3
  simp only [hg3]
  simp only [hg4]
  have CH := q_has (HMM.out.below hb0) HL.out q
  rw [HV.out] at CH
  have HB := Lib.hid hb0
  clear hb0 hg3 hg4 HMM HL
  refine wl <| gz1 (.pointer (some ⟨g, 0, none⟩)) <| gzl rfl ⟨g3, 0, none⟩ (.agg #[.int .i64 q.1, .int .i64 q.2]) (load_hn (x := q) (bx_range (cs := hnl q) hX3)) <| gzc (.bool false) (fun w' => Below W.heap.size W w') (CH) (fun V hV => ?_)
  simp only [pu]
  refine gz1 (.bool true) <| wn ?_
  simp only [pu]
  have hX4V := hX4.below hX4.lt hV
  obtain ⟨V2, hst, hY, hbt⟩ := st_all (cs' := enA zEn zAd) (ty := 44) hX4V rfl (enA_one _ _) (by kernel_rfl)
  have HE := Lib.hid ((HB.out.trans (hV.mono HB.out.size)).trans (hbt.1.mono HG.out.2.1))
  clear hV hbt hX4 hX4V hX3 CH
  go_upto_region 2 with fail
  refine wl <| gz1 (.agg (enA zEn zAd)) <| gzs rfl (hst) <| gz1 (.bool false) <| wn ?_
  simp only [pu]
  go_wp2_with fail
  exact bodyPost_ret (results_c rfl (by kernel_rfl) (load_en (bx_range hY)) (by kernel_rfl)) rfl ⟨zAd, rfl, ⟨World.ownsRow_nil _ _ _ _, World.ownsRow_nil _ _ _ _⟩, HE.out⟩
 | true =>
  obtain ⟨i, hi, hil, hf, -⟩ := val_iff hv
  rw [get_yes hv hi]
  have hil2 : i < T.length := by rw [hl.len]; exact hil
  have hee := hl.e i hil2
  have hEB : EnB (m.P.getD i zPn).e := ⟨hm.raw i hil, hm.prs i hil⟩
  have hen := hM.en i hil2
  rw [hee] at hen
  obtain ⟨b, hab, hrg⟩ := hM.rg hil2
  have hrg2 := sl_en hrg
  rw [hee] at hrg2
  have hX := hM.bx
  rw [hab] at hX
  have HMM := Lib.hid hM
  have HL := Lib.hid hl
  have HV := Lib.hid hv
  have HI := Lib.hid hi
  have HEB := Lib.hid hEB
  obtain ⟨d9, hd9⟩ : ∃ d, (T.getD i zSn).d = d := ⟨_, rfl⟩
  rw [hd9] at hen hrg2
  have hbw : b < w.heap.size := HMM.out.inn b (.inr (.inl ⟨_, hab, rfl⟩))
  obtain ⟨n, hn⟩ : ∃ n, T.length = n := ⟨_, rfl⟩
  rw [hn] at hX hil2
  generalize (m.P.getD i zPn).e = E at *
  clear hM hl hv hm hrg hi hf hee hEB hab hd9 hn
  go_enter Try.func17, Try.ntmps17
  go_upto_region 1 with fail
  change Code.wp _ _ _ _ ((w.alloc (.cells #[.int .i64 q.1, .int .i64 q.2] 33)).alloc (.cells (enA zEn zAd) 44))
  have hb0 : Below w.heap.size w ((w.alloc (.cells #[.int .i64 q.1, .int .i64 q.2] 33)).alloc (.cells (enA zEn zAd) 44)) := ((Below.refl _ w).alloc (Nat.le_refl _) _).alloc (by simp) _
  have hX3 : Bx ((w.alloc (.cells #[.int .i64 q.1, .int .i64 q.2] 33)).alloc (.cells (enA zEn zAd) 44)) w.heap.size #[.int .i64 q.1, .int .i64 q.2] 33 := Bx.below (heap_alloc_last w _) (by simp) ((Below.refl _ _).alloc (Nat.le_refl _) _)
  have hX4 : Bx ((w.alloc (.cells #[.int .i64 q.1, .int .i64 q.2] 33)).alloc (.cells (enA zEn zAd) 44)) (w.heap.size + 1) (enA zEn zAd) 44 := by
   have := heap_alloc_last (w.alloc (.cells #[.int .i64 q.1, .int .i64 q.2] 33)) (.cells (enA zEn zAd) 44)
   rwa [show (w.alloc (.cells #[.int .i64 q.1, .int .i64 q.2] 33)).heap.size = w.heap.size + 1 by simp] at this
  generalize (w.alloc (.cells #[.int .i64 q.1, .int .i64 q.2] 33)).alloc (.cells (enA zEn zAd) 44) = W at *
  obtain ⟨g3, hg3⟩ : ∃ g, w.heap.size = g := ⟨_, rfl⟩
  obtain ⟨g4, hg4⟩ : ∃ g, g3 + 1 = g := ⟨_, rfl⟩
  rw [show w.heap.size + 1 = g4 by omega] at hX4
  have HG : Hid (w.heap.size ≤ g3 ∧ w.heap.size ≤ g4 ∧ g3 ≠ g4) := Lib.hid ⟨by omega, by omega, by omega⟩
  rw [hg3] at hX3
  simp only [hg3]
  simp only [hg4]
  have HEL : Hid (∀ k, EB E d9 k → k < g4) := Lib.hid fun k hk => by have := HG.out; have := hen.lt k hk; omega
  have CH := q_has (HMM.out.below hb0) HL.out q
  rw [HV.out] at CH
  have HB := Lib.hid hb0
  have hX := hX.below hX.lt hb0
  have hen := hen.below hb0
  have hrg2 := rg_below hrg2 hb0
  have HBL : Hid (b < g4 ∧ g < g4) := Lib.hid ⟨by have := HG.out; omega, by have := HG.out; have := HMM.out.bx.lt; omega⟩
  clear hb0 hg3 hg4 HMM HL
  refine wl <| gz1 (.pointer (some ⟨g, 0, none⟩)) <| gzl rfl ⟨g3, 0, none⟩ (.agg #[.int .i64 q.1, .int .i64 q.2]) (load_hn (x := q) (bx_range (cs := hnl q) hX3)) <| gzc (.bool true) (fun w' => Below W.heap.size W w') (CH) (fun Y1 hV => ?_)
  simp only [pu]
  refine gz1 (.bool false) <| wn ?_
  simp only [pu]
  have hX3V : Bx Y1 g3 #[.int .i64 i, .int .i64 q.2] 33 := by rw [← HI.out]; exact hX3.below hX3.lt hV
  have hX4V := hX4.below hX4.lt hV
  have hXV := hX.below hX.lt hV
  have henV := hen.below hV
  have hrgV := rg_below hrg2 hV
  have HBV := Lib.hid (HB.out.trans (hV.mono HB.out.size))
  have h4lt := hX4V.lt
  have h0 : KG g4 E false false undef Y1 { Y1 with drawn := Y1.drawn + 1 } := KG.start h4lt hX4V
  have H4 := Lib.hid h4lt
  clear hX3 hX4 hX hen hrg2 hV HB CH hX4V h4lt
  go_upto_region 3 with fail
  have hX3V := Lib.hid hX3V
  have hXV := Lib.hid hXV
  have henV := Lib.hid henV
  have hrgV := Lib.hid hrgV
  refine wp_region_inv (fun listed act9 V => ∃ b0 b1 b2 b3 b4 b5 b6 b7 b8 b9 b10 b11 : Bool, ∃ x20 : Value, listed = #[b0, b1, b2, b3, b4, b5, b6, b7, b8, b9, b10, b11] ∧ act9 = { tmps := #[.pointer (some ⟨g, 0, none⟩), .agg #[.int .i64 q.1, .int .i64 q.2], undef, .pointer (some ⟨g3, 0, none⟩), .pointer (some ⟨g4, 0, none⟩), (cond b11 (.bool true) (.bool false)), .pointer (some ⟨g, 0, none⟩), .agg #[.int .i64 q.1, .int .i64 q.2], .bool true, .bool false, undef, (cond b0 (.pointer (some ⟨g, 0, none⟩)) undef), (cond b1 (.pointer (some ⟨g, 0, none⟩)) undef), (cond b2 (.pointer (some ⟨g, 1, none⟩)) undef), (cond b3 (.slice (some ⟨b, 0, none⟩) n c) undef), (cond b4 (.pointer (some ⟨g3, 0, none⟩)) undef), (cond b5 (.int .i64 i) undef), (cond b6 (.pointer (some ⟨b, 0 + i * 44, none⟩)) undef), (cond b7 (.pointer (some ⟨b, 0 + i * 44, none⟩)) undef), (cond b8 (.agg (enA E d9)) undef), x20], defers := [] } ∧ KG g4 E b9 b10 x20 Y1 V) (by kernel_rfl) (by kernel_rfl) ?_ ?_ ?_
  ·exact ⟨false, false, false, false, false, false, false, false, false, false, false, false, undef, rfl, rfl, h0⟩
  ·intro i9 listed act9 V hi9 hr hJ
   obtain ⟨b0, b1, b2, b3, b4, b5, b6, b7, b8, b9, b10, b11, x20, rfl, rfl, hF⟩ := hJ
   have hi2 : i9 < 12 := hi9
   have hi3 : i9 = 0 ∨ i9 = 1 ∨ i9 = 2 ∨ i9 = 3 ∨ i9 = 4 ∨ i9 = 5 ∨ i9 = 6 ∨ i9 = 7 ∨ i9 = 8 ∨ i9 = 9 ∨ i9 = 10 ∨ i9 = 11 := by omega
   rcases hi3 with rfl | rfl | rfl | rfl | rfl | rfl | rfl | rfl | rfl | rfl | rfl | rfl
   ·obtain rfl : b0 = false := ready_self hr
    refine st_val rfl (by kernel_rfl) (some 11) rfl (.pointer (some ⟨g, 0, none⟩)) V (by kernel_rfl) ?_
    exact ⟨true, b1, b2, b3, b4, b5, b6, b7, b8, b9, b10, b11, x20, rfl, rfl, hF⟩
   ·obtain rfl : b1 = false := ready_self hr
    obtain rfl : b0 = true := ready_dep hr 0 (by kernel_rfl)
    refine st_val rfl (by kernel_rfl) (some 12) rfl (.pointer (some ⟨g, 0, none⟩)) V (by kernel_rfl) ?_
    exact ⟨true, true, b2, b3, b4, b5, b6, b7, b8, b9, b10, b11, x20, rfl, rfl, hF⟩
   ·obtain rfl : b2 = false := ready_self hr
    obtain rfl : b1 = true := ready_dep hr 1 (by kernel_rfl)
    refine st_val rfl (by kernel_rfl) (some 13) rfl (.pointer (some ⟨g, 1, none⟩)) V (by kernel_rfl) ?_
    exact ⟨b0, true, true, b3, b4, b5, b6, b7, b8, b9, b10, b11, x20, rfl, rfl, hF⟩
   ·obtain rfl : b3 = false := ready_self hr
    obtain rfl : b2 = true := ready_dep hr 2 (by kernel_rfl)
    refine st_load rfl (by kernel_rfl) (some 14) rfl 69 (.tmp 13) rfl ⟨g, 1, none⟩ (.slice (some ⟨b, 0, none⟩) n c) (by kernel_rfl) ((hXV.out.but hF.but (by have := HBL.out; omega)).load (i := 1) rfl (by kernel_rfl)) ?_
    exact ⟨b0, b1, true, true, b4, b5, b6, b7, b8, b9, b10, b11, _, rfl, rfl, hF⟩
   ·obtain rfl : b4 = false := ready_self hr
    refine st_val rfl (by kernel_rfl) (some 15) rfl (.pointer (some ⟨g3, 0, none⟩)) V (by kernel_rfl) ?_
    exact ⟨b0, b1, b2, b3, true, b5, b6, b7, b8, b9, b10, b11, x20, rfl, rfl, hF⟩
   ·obtain rfl : b5 = false := ready_self hr
    obtain rfl : b4 = true := ready_dep hr 4 (by kernel_rfl)
    refine st_load rfl (by kernel_rfl) (some 16) rfl 3 (.tmp 15) rfl ⟨g3, 0, none⟩ (.int .i64 i) (by kernel_rfl) ((hX3V.out.but hF.but HG.out.2.2).load (i := 0) rfl (by kernel_rfl)) ?_
    exact ⟨b0, b1, b2, b3, true, true, b6, b7, b8, b9, b10, b11, _, rfl, rfl, hF⟩
   ·obtain rfl : b6 = false := ready_self hr
    obtain rfl : b3 = true := ready_dep hr 3 (by kernel_rfl)
    obtain rfl : b5 = true := ready_dep hr 5 (by kernel_rfl)
    refine st_val rfl (by kernel_rfl) (some 17) rfl (.pointer (some ⟨b, 0 + i * 44, none⟩)) V (idx_sl b 0 n c i hil2 V _ _ rfl (by kernel_rfl) (by kernel_rfl)) ?_
    exact ⟨b0, b1, b2, true, b4, true, true, b7, b8, b9, b10, b11, x20, rfl, rfl, hF⟩
   ·obtain rfl : b7 = false := ready_self hr
    obtain rfl : b6 = true := ready_dep hr 6 (by kernel_rfl)
    refine st_val rfl (by kernel_rfl) (some 18) rfl (.pointer (some ⟨b, 0 + i * 44, none⟩)) V (by kernel_rfl) ?_
    exact ⟨b0, b1, b2, b3, b4, b5, true, true, b8, b9, b10, b11, x20, rfl, rfl, hF⟩
   ·obtain rfl : b8 = false := ready_self hr
    obtain rfl : b7 = true := ready_dep hr 7 (by kernel_rfl)
    refine st_load rfl (by kernel_rfl) (some 19) rfl 44 (.tmp 18) rfl ⟨b, 0 + i * 44, none⟩ (.agg (enA E d9)) (by kernel_rfl) (load_en (rg_but hrgV.out hF.but (by have := HBL.out; omega))) ?_
    exact ⟨b0, b1, b2, b3, b4, b5, b6, true, true, b9, b10, b11, _, rfl, rfl, hF⟩
   ·obtain rfl : b9 = false := ready_self hr
    obtain rfl : b8 = true := ready_dep hr 8 (by kernel_rfl)
    obtain rfl := hF.nos
    refine st_call rfl (by kernel_rfl) (some 20) rfl 31 #[.agg (enA E d9)] (by kernel_rfl) ((q_apart E d9 V (henV.out.but hF.but fun q => by have := HEL.out g4 q; omega) HEB.out).mono ?_)
    rintro e V2 ⟨d2, rfl, hw2, hb2⟩
    exact ⟨_, rfl, b0, b1, b2, b3, b4, b5, b6, b7, true, true, false, b11, _, rfl, rfl, hF.call rfl hw2 hb2⟩
   ·obtain rfl : b10 = false := ready_self hr
    obtain rfl : b9 = true := ready_dep hr 9 (by kernel_rfl)
    obtain ⟨d2, rfl, hw2⟩ := hF.cl rfl
    obtain ⟨V2, hst, hF2⟩ := hF.store hw2 H4.out
    refine st_storeA rfl (by kernel_rfl) rfl 44 (.tmp 4) (.tmp 20) rfl (.pointer (some ⟨g4, 0, none⟩)) (.agg (enA E d2)) (by kernel_rfl) (by kernel_rfl) V2 hst ?_
    exact ⟨b0, b1, b2, b3, b4, b5, b6, b7, b8, true, true, b11, _, rfl, rfl, hF2⟩
   ·obtain rfl : b11 = false := ready_self hr
    refine st_val rfl (by kernel_rfl) (some 5) rfl (.bool true) V (by kernel_rfl) ?_
    exact ⟨b0, b1, b2, b3, b4, b5, b6, b7, b8, b9, b10, true, x20, rfl, rfl, hF⟩
  ·intro act9 V hJ
   obtain ⟨b0, b1, b2, b3, b4, b5, b6, b7, b8, b9, b10, b11, x20, he, rfl, hF⟩ := hJ
   have he : (#[true, true, true, true, true, true, true, true, true, true, true, true] : Array Bool) = #[b0, b1, b2, b3, b4, b5, b6, b7, b8, b9, b10, b11] := he
   simp only [Array.mk.injEq, List.cons.injEq, and_true] at he
   obtain ⟨rfl, rfl, rfl, rfl, rfl, rfl, rfl, rfl, rfl, rfl, rfl, rfl⟩ := he
   simp only [cond_true]
   obtain ⟨d2, hY, hw2⟩ := hF.fin rfl
   have HE := Lib.hid (HBV.out.trans (hF.but.1.mono HG.out.2.1))
   go_wp2_with fail
   exact bodyPost_ret (results_c rfl (by kernel_rfl) (load_en (bx_range hY)) (by kernel_rfl)) rfl ⟨d2, rfl, ⟨own_base hw2.r HBV.out.size, own_base hw2.p HBV.out.size⟩, HE.out⟩
end Go.Proofs.Ytmpajgaanghpoaa
