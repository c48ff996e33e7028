/-
 The walk of SlabApart.
-/
import Derived.Test.YtmpajgaanghpoaaWA0
namespace Go.Proofs.Ytmpajgaanghpoaa
attribute [local irreducible] wpList wpQuiet
open Go.RowKit
set_option maxRecDepth 100000
set_option linter.unusedSimpArgs false
set_option linter.unusedVariables false

theorem Stt.but {B : Nat} {w V V2 : World} {g0 q : Nat} {S : Nat → Prop} {m : Sm} (h : Stt B w g0 S m V) (hb : But q V V2) (hn : ¬ S q) (hq : w.heap.size ≤ q) : Stt B w g0 S m V2 :=
 ⟨h.rep.same fun k hk => hb.2 k (h.rep.inn k hk) fun e => hn (e ▸ hk), h.so, Nat.le_trans h.bz hb.1.size, h.bel.trans (hb.1.mono hq), h.wB⟩
theorem BxO.but {V V2 : World} {S : Nat → Prop} {q b t : Nat} {cs : Array Value} (h : BxO V S q cs t) (hb : But b V V2) (hn : q ≠ b) : BxO V2 S q cs t := ⟨h.bx.but hb hn, h.ns⟩
/-- The first cell of a row of the call's own. -/
theorem first_u {w : World} {B n c : Nat} {a : Option Addr} {x : Int} {M : List Int} (h : w.ownsRow B 5 1 (.slice a n c) n (bcells (x :: M))) : ∃ b, a = some ⟨b, 0, none⟩ ∧ B ≤ b ∧ w.cell? ⟨b, 0, none⟩ = some (.int .u8 x) ∧ 0 < n := by
 have hl := h.1
 rcases h.2 with ⟨e0, h0⟩ | ⟨g, cap, cur, e0, hb, hg, hn, hm, hc, ht⟩
 ·rw [h0] at hl; simp [bcells] at hl
 ·simp only [Value.slice.injEq] at e0
  obtain ⟨rfl, -, rfl⟩ := e0
  refine ⟨g, rfl, hb, ?_, by simp [bcells] at hl; omega⟩
  have := h.cells (g := g) rfl 0 (.int .u8 x) (by simp [bcells])
  rw [← this, Go.WideShapes.add_plain]
theorem first_j {w : World} {B n c : Nat} {a : Option Addr} {x : Int} {M : List Int} (h : w.ownsRow B 3 1 (.slice a n c) n (icells (x :: M))) : ∃ b, a = some ⟨b, 0, none⟩ ∧ B ≤ b ∧ w.cell? ⟨b, 0, none⟩ = some (.int .i64 x) ∧ 0 < n := by
 have hl := h.1
 rcases h.2 with ⟨e0, h0⟩ | ⟨g, cap, cur, e0, hb, hg, hn, hm, hc, ht⟩
 ·rw [h0] at hl; simp [icells] at hl
 ·simp only [Value.slice.injEq] at e0
  obtain ⟨rfl, -, rfl⟩ := e0
  refine ⟨g, rfl, hb, ?_, by simp [icells] at hl; omega⟩
  have := h.cells (g := g) rfl 0 (.int .i64 x) (by simp [icells])
  rw [← this, Go.WideShapes.add_plain]
theorem st_in {w : World} {B b n c i : Nat} {M : List Int} (h : w.ownsRow B 3 1 (.slice (some ⟨b, 0, none⟩) n c) n (icells M)) (hi : i < n) (v : Int) : ∃ V2, (Instr.storeAt 3 (.pointer (some ⟨b, 0 + i, none⟩)) (.int .i64 v)).run Try.prog w = .ok () V2 ∧ But b w V2 := by
 obtain ⟨cur, hcur, hsz, -, -⟩ := own_row h
 rw [Nat.zero_add]
 exact ⟨_, run_store_cell hcur (by omega) rfl (by kernel_rfl), But.setCell w i _⟩
theorem EnW.buts {w w' : World} {B Bd : Nat} {S : Nat → Prop} {e : En} {d : Ad} (h : EnW w B e d) (hb : ButS Bd S w w') (hn : ∀ k, EB e d k → ¬ S k) (h1 : e.raw ≠ []) (h2 : e.prs ≠ []) : EnW w' B e d :=
 ⟨own_same h.r fun x hx => hb.2 _ (h.r.lt x.block (by rw [hx]; rfl)).2 (hn _ (.inl ⟨h1, x, hx, rfl⟩)), own_same h.p fun x hx => hb.2 _ (h.p.lt x.block (by rw [hx]; rfl)).2 (hn _ (.inr ⟨h2, x, hx, rfl⟩))⟩
def eX (E : En) : En := { E with raw := 1 :: E.raw, prs := 1 :: E.prs }
def aM0 : Sm := newS 5
def aM1 (E : En) : Sm := addS aM0 E
theorem a_1 : addH aM0 = (0, 0) ∧ addO aM0 = true := ⟨by decide, by decide⟩
theorem a_2 (E : En) : valS (aM1 E) (0, 0) = true ∧ getS (aM1 E) (0, 0) = E := ⟨rfl, rfl⟩
theorem a_w (E : En) (h : EnB E) : Wm (aM1 E) 1 := (Wm.new 5 0).add h
set_option maxRecDepth 100000 in
set_option maxHeartbeats 8000000 in
theorem apart_core (a : Option Addr) (c : Nat) (L : List Int) (x : Int) (w : World) (hl : L.length ≤ 9223372036854775807) (hr : Cs w a (icells L)) : Calls Try.prog 5 #[.slice a L.length c, .int .u8 x] w fun e w' => e = .returned (.bool true) ∧ Below w.heap.size w w' := by
 have HR := Lib.hid hr
 have HBW : Hid (Below w.heap.size w w) := Lib.hid (Below.refl _ w)
 clear hr
 go_enter Try.func5, Try.ntmps5
 go_upto_region 1 with fail
 have hbd := one_row a L.length c w
 have hXl : Bx (w.alloc (.cells #[.slice a L.length c] 22)) w.heap.size #[.slice a L.length c] 22 := heap_alloc_last w _
 have hbl : Below w.heap.size w (w.alloc (.cells #[.slice a L.length c] 22)) := (Below.refl _ w).alloc (Nat.le_refl _) _
 have CL := long_one w.heap.size a L.length c _ hXl hl
 generalize w.alloc (.cells #[.slice a L.length c] 22) = W1 at *
 have HB1 := Lib.hid (HBW.out.trans (hbl.mono HBW.out.size))
 have HBL := Lib.hid hbl
 clear hXl hbl
 by_cases hlong : 160 < L.length
 ·skip
  rw [decide_eq_true (by omega)] at CL
  refine wl <| gz1 (.slice a L.length c) ?_
  simp only [pu]
  refine gw_build (by kernel_rfl) (some 15) rfl 63 1 #[(0, .tmp 14)] rfl #[(0, .slice a L.length c)] (by kernel_rfl) (.slice (some ⟨w.heap.size, 0, none⟩) 1 1) _ hbd ?_
  simp only [pu]
  refine gzc (.bool true) (fun w' => W1 = w') (CL) (fun V9 hV9 => ?_)
  subst hV9
  simp only [pu]
  apply wpList_nil
  clear CL hbd
  have CK := known_true W1
  go_upto_region 2 with fail
  refine wl <| gzc (.bool true) (fun w' => Below W1.heap.size W1 w') (CK) (fun V2 hV2 => ?_)
  simp only [pu]
  refine gz1 (.bool true) <| wn ?_
  simp only [pu]
  have HE := HB1.out.trans (hV2.mono HB1.out.size)
  go_wp2_with fail
  go_ret
  exact ⟨rfl, HE⟩
 ·skip
  rw [decide_eq_false (by omega)] at CL
  refine wl <| gz1 (.slice a L.length c) ?_
  simp only [pu]
  refine gw_build (by kernel_rfl) (some 15) rfl 63 1 #[(0, .tmp 14)] rfl #[(0, .slice a L.length c)] (by kernel_rfl) (.slice (some ⟨w.heap.size, 0, none⟩) 1 1) _ hbd ?_
  simp only [pu]
  refine gzc (.bool false) (fun w' => W1 = w') (CL) (fun V9 hV9 => ?_)
  subst hV9
  simp only [pu]
  apply wpList_nil
  clear CL hbd
  have hlong : L.length ≤ 160 := by omega
  have CN := q_new 5 W1
  go_upto_region 3 with fail
  refine wl <| gze (fun v w' => ∃ g S, v = .pointer (some ⟨g, 0, none⟩) ∧ RepS w' g S aM0 ∧ (∀ j, S j → W1.heap.size ≤ j) ∧ Below W1.heap.size W1 w') (CN.mono fun e w' z => by obtain ⟨g, S, z1, z2⟩ := z; exact ⟨_, z1, g, S, rfl, z2⟩) (fun vv V1 hq => ?_)
  obtain ⟨g0, S0, rfl, hr0, hso, hb0⟩ := hq
  simp only [pu]
  refine gz1 (.pointer (some ⟨g0, 0, none⟩)) <| wn ?_
  simp only [pu]
  have HS1 : Hid (Stt W1.heap.size w g0 S0 aM0 V1) := Lib.hid ⟨hr0, hso, hb0.size, HB1.out.trans (hb0.mono HB1.out.size), HB1.out.size⟩
  have HL1 := Lib.hid ((HR.out.below HBL.out).below hb0)
  clear hr0 hso hb0 CN
  go_upto_region 4 with fail
  refine wl <| gz2 (.pointer (some ⟨g0, 0, none⟩)) (.bool false) <| wn ?_
  simp only [pu]
  have CF := mk_from a L.length c V1
  go_upto_region 6 with fail
  refine wl <| gz1 (.slice a L.length c) <| gze (fun v w' => v = .pointer (some ⟨V1.heap.size, 0, none⟩) ∧ w' = V1.alloc (.cells #[.slice a L.length c, .int .i64 0] 58)) (CF.mono fun e w' z => ⟨_, z.1, rfl, z.2⟩) (fun vv V2 hq => ?_)
  obtain ⟨rfl, hV0⟩ := hq
  have hb2 : Below V1.heap.size V1 V2 := by rw [hV0]; exact (Below.refl _ V1).alloc (Nat.le_refl _) _
  have hXn : Bx V2 V1.heap.size #[.slice a L.length c, .int .i64 (0 : Nat)] 58 := by rw [hV0]; exact heap_alloc_last V1 _
  obtain ⟨gn, hgn⟩ : ∃ g, V1.heap.size = g := ⟨_, rfl⟩
  have hSn : ∀ k, S0 k → k < gn := fun k hk => by have := HS1.out.rep.inn k hk; omega
  rw [hgn] at hXn ⊢
  have hnm : Nm V2 gn a c L 0 := ⟨hXn, HL1.out.below hb2, fun hne y hy => by
   obtain ⟨b, off, e2, hb, -⟩ := HL1.out 0 _ (icells_at L 0 (List.length_pos_iff.2 hne))
   rw [hy] at e2; cases e2; show b < gn; omega⟩
  have hs2 := HS1.out.below hb2
  have hwgn : w.heap.size ≤ gn := by have := HS1.out.bel.size; omega
  have CE := mk_entry hnm (by omega) (by omega)
  simp only [pu]
  refine gze (fun v w' => ∃ (E : En) (d : Ad), v = .agg (enA E d) ∧ EnW w' V2.heap.size E d ∧ E.raw.length ≤ 8 ∧ E.prs.length ≤ 2 ∧ But gn V2 w') (CE.mono fun e w' z => by obtain ⟨E, d, N', z1, z2, z3, z4, -, -, -, z5⟩ := z; exact ⟨_, z1, E, d, rfl, z2, z3, z4, z5⟩) (fun vv V3 hq => ?_)
  obtain ⟨E, d, rfl, hew, hel1, hel2, hbt3⟩ := hq
  have hs3 := hs2.but hbt3 (fun hs => by have := hSn _ hs; omega) hwgn
  obtain ⟨V4, hst4, hb4, hX6⟩ := new_bx (c := enA zEn zAd) (c' := enA E d) (ty := 44) V3 rfl (enA_one _ _) (by kernel_rfl)
  have HS4 := Lib.hid (hs3.below hb4)
  have hO6 := BxO.new hs3 hX6
  have hE4 := hew.i.below hb4
  simp only [pu]
  refine run_to rfl (some 6) rfl (.pointer (some ⟨V3.heap.size, 0, none⟩)) (V3.alloc (.cells (enA zEn zAd) 44)) (by kernel_rfl) ?_
  simp only [pu]
  refine gzs rfl (hst4) <| wn ?_
  obtain ⟨g6, hg6⟩ : ∃ g, V3.heap.size = g := ⟨_, rfl⟩
  rw [hg6] at hO6 ⊢
  have HEL : Hid (E.raw.length ≤ 8 ∧ E.prs.length ≤ 2) := Lib.hid ⟨hel1, hel2⟩
  have HE4 := Lib.hid hE4
  have HS6 := Lib.hid hO6.ns
  have hge6 : w.heap.size ≤ g6 := by have := hs3.bel.size; omega
  have h6lt := hO6.bx.lt
  have h0 := KA.start (A0 := [1]) (A1 := 1 :: E.raw) (C0 := [1]) (C1 := 1 :: E.prs) (E := E) (r := .slice d.ra E.raw.length d.rc) (p := .slice d.pa E.prs.length d.pc) (x0 := undef) (x3 := undef) (x4 := undef) (x7 := undef) h6lt hO6.bx
  have H6E : Hid (∀ k, EB E d k → k ≠ g6) := Lib.hid fun k hk => by have := hew.i.lt k hk; omega
  clear hst4 hb4 hX6 hO6 hew hel1 hel2 hbt3 hs3 hs2 hSn hnm hXn hb2 hV0 CE CF hgn hg6 hE4 h6lt hwgn
  go_upto_region 7 with fail
  skip
  refine wp_region_inv (fun listed act9 V => ∃ b0 b1 b2 b3 b4 b5 b6 b7 b8 b9 b10 b11 : Bool, ∃ x24 x27 x28 x31 : Value, listed = #[b0, b1, b2, b3, b4, b5, b6, b7, b8, b9, b10, b11] ∧ act9 = { tmps := #[.slice a L.length c, .int .u8 x, undef, undef, .bool false, .pointer (some ⟨g0, 0, none⟩), .pointer (some ⟨g6, 0, none⟩), undef, undef, undef, undef, undef, undef, undef, .slice a L.length c, .slice (some ⟨w.heap.size, 0, none⟩) 1 1, .bool false, undef, .pointer (some ⟨g0, 0, none⟩), .pointer (some ⟨g0, 0, none⟩), .bool false, .slice a L.length c, .pointer (some ⟨gn, 0, none⟩), .agg (enA E d), x24, (cond b1 (.pointer (some ⟨g6, 32, none⟩)) undef), (cond b2 (.slice d.ra E.raw.length d.rc) undef), x27, x28, (cond b5 (.pointer (some ⟨g6, 40, none⟩)) undef), (cond b6 (.slice d.pa E.prs.length d.pc) undef), x31, (cond b8 (.pointer (some ⟨g6, 32, none⟩)) undef), (cond b10 (.pointer (some ⟨g6, 40, none⟩)) undef), undef, undef, undef, undef, undef, undef, undef, undef, undef, undef, undef, undef, undef, undef, undef, undef, undef, undef, undef, undef, undef, undef, undef, undef, undef, undef, undef, undef, undef, undef, undef, undef, undef, undef, undef, undef, undef, undef, undef, undef, undef, undef, undef, undef, undef, undef, undef, undef, undef, undef, undef, undef, undef, undef, undef, undef, undef, undef, undef, undef, undef, undef, undef, undef, undef, undef, undef, undef, undef, undef, undef, undef, undef, undef, undef, undef, undef, undef], defers := [] } ∧ KA V4 g6 E (.slice d.ra E.raw.length d.rc) (.slice d.pa E.prs.length d.pc) [1] (1 :: E.raw) [1] (1 :: E.prs) b0 b2 b3 b4 b6 b7 b9 b11 x24 x27 x28 x31 V) (by kernel_rfl) (by kernel_rfl) ?_ ?_ ?_
  ·exact ⟨false, false, false, false, false, false, false, false, false, false, false, false, undef, undef, undef, undef, rfl, rfl, h0⟩
  ·intro i9 listed act9 V hi9 hr hJ
   obtain ⟨b0, b1, b2, b3, b4, b5, b6, b7, b8, b9, b10, b11, x24, x27, x28, x31, rfl, rfl, hF⟩ := hJ
   have hi2 : i9 < 12 := hi9
   have hi3 : i9 = 0 ∨ i9 = 1 ∨ i9 = 2 ∨ i9 = 3 ∨ i9 = 4 ∨ i9 = 5 ∨ i9 = 6 ∨ i9 = 7 ∨ i9 = 8 ∨ i9 = 9 ∨ i9 = 10 ∨ i9 = 11 := by omega
   rcases hi3 with rfl | rfl | rfl | rfl | rfl | rfl | rfl | rfl | rfl | rfl | rfl | rfl
   ·obtain rfl : b0 = false := ready_self hr
    obtain ⟨rfl, rfl⟩ := hF.n0
    refine st_build rfl (by kernel_rfl) (some 24) rfl 41 1 #[(0, .const (.int .u8 1))] rfl #[(0, .int .u8 1)] (by kernel_rfl) (.slice (some ⟨V.heap.size, 0, none⟩) 1 1) _ (build_u [] _ rfl V) ?_
    exact ⟨true, b1, b2, false, b4, b5, b6, b7, b8, false, b10, b11, _, _, _, _, rfl, rfl, hF.s0 ((Below.refl _ V).alloc (Nat.le_refl _) _) (own_base (own_block V 5 (bcells [1]) 1 rfl (by decide)) hF.but.1.size)⟩
   ·obtain rfl : b1 = false := ready_self hr
    refine st_val rfl (by kernel_rfl) (some 25) rfl (.pointer (some ⟨g6, 32, none⟩)) V (by kernel_rfl) ?_
    exact ⟨b0, true, b2, b3, b4, b5, b6, b7, b8, b9, b10, b11, x24, x27, x28, x31, rfl, rfl, hF⟩
   ·obtain rfl : b2 = false := ready_self hr
    obtain rfl : b1 = true := ready_dep hr 1 (by kernel_rfl)
    obtain ⟨rfl, rfl⟩ := hF.nl2
    refine st_load rfl (by kernel_rfl) (some 26) rfl 41 (.tmp 25) rfl ⟨g6, 32, none⟩ (.slice d.ra E.raw.length d.rc) (by kernel_rfl) (hF.bx.load (i := 32) rfl (by kernel_rfl)) ?_
    exact ⟨b0, true, true, false, b4, b5, b6, b7, b8, false, b10, b11, _, _, _, _, rfl, rfl, hF.sl2⟩
   ·obtain rfl : b3 = false := ready_self hr
    obtain rfl : b0 = true := ready_dep hr 0 (by kernel_rfl)
    obtain rfl : b2 = true := ready_dep hr 2 (by kernel_rfl)
    obtain rfl := hF.n3
    obtain ⟨v9, V9, hap9, hO9, hb9, hg9, -⟩ := app_u (hF.r0 rfl rfl) hF.but.1.size d.ra (E.raw.length) d.rc _ (sl_cs ((HE4.out.but hF.but fun q => H6E.out g6 q rfl)).r) rfl (by show 1 ≤ 100000; decide) (by have := HEL.out; omega)
    refine st_append rfl (by kernel_rfl) (some 27) rfl 41 rfl (.tmp 24) (.tmp 26) 41 rfl x24 (.slice d.ra E.raw.length d.rc) v9 V9 (by kernel_rfl) (by kernel_rfl) hap9 ?_
    exact ⟨true, b1, true, true, b4, b5, b6, b7, b8, false, b10, b11, _, _, _, _, rfl, rfl, hF.s3 hO9 hb9 hg9⟩
   ·obtain rfl : b4 = false := ready_self hr
    obtain ⟨rfl, rfl⟩ := hF.n4
    refine st_build rfl (by kernel_rfl) (some 28) rfl 22 1 #[(0, .const (.int .i64 1))] rfl #[(0, .int .i64 1)] (by kernel_rfl) (.slice (some ⟨V.heap.size, 0, none⟩) 1 1) _ (one_int 1 V) ?_
    exact ⟨b0, b1, b2, b3, true, b5, b6, false, b8, b9, b10, false, _, _, _, _, rfl, rfl, hF.s4 ((Below.refl _ V).alloc (Nat.le_refl _) _) (own_base (own_block V 3 (icells [1]) 1 rfl (by decide)) hF.but.1.size)⟩
   ·obtain rfl : b5 = false := ready_self hr
    refine st_val rfl (by kernel_rfl) (some 29) rfl (.pointer (some ⟨g6, 40, none⟩)) V (by kernel_rfl) ?_
    exact ⟨b0, b1, b2, b3, b4, true, b6, b7, b8, b9, b10, b11, x24, x27, x28, x31, rfl, rfl, hF⟩
   ·obtain rfl : b6 = false := ready_self hr
    obtain rfl : b5 = true := ready_dep hr 5 (by kernel_rfl)
    obtain ⟨rfl, rfl⟩ := hF.nl6
    refine st_load rfl (by kernel_rfl) (some 30) rfl 22 (.tmp 29) rfl ⟨g6, 40, none⟩ (.slice d.pa E.prs.length d.pc) (by kernel_rfl) (hF.bx.load (i := 40) rfl (by kernel_rfl)) ?_
    exact ⟨b0, b1, b2, b3, b4, true, true, false, b8, b9, b10, false, _, _, _, _, rfl, rfl, hF.sl6⟩
   ·obtain rfl : b7 = false := ready_self hr
    obtain rfl : b4 = true := ready_dep hr 4 (by kernel_rfl)
    obtain rfl : b6 = true := ready_dep hr 6 (by kernel_rfl)
    obtain rfl := hF.n7
    obtain ⟨v9, V9, hap9, hO9, hb9, hg9, -⟩ := app_j (hF.p0 rfl rfl) hF.but.1.size d.pa (E.prs.length) d.pc _ ((HE4.out.but hF.but fun q => H6E.out g6 q rfl)).p rfl (by show 1 ≤ 100000; decide) (by have := HEL.out; omega)
    refine st_append rfl (by kernel_rfl) (some 31) rfl 22 rfl (.tmp 28) (.tmp 30) 22 rfl x28 (.slice d.pa E.prs.length d.pc) v9 V9 (by kernel_rfl) (by kernel_rfl) hap9 ?_
    exact ⟨b0, b1, b2, b3, true, b5, true, true, b8, b9, b10, false, _, _, _, _, rfl, rfl, hF.s7 hO9 hb9 hg9⟩
   ·obtain rfl : b8 = false := ready_self hr
    refine st_val rfl (by kernel_rfl) (some 32) rfl (.pointer (some ⟨g6, 32, none⟩)) V (by kernel_rfl) ?_
    exact ⟨b0, b1, b2, b3, b4, b5, b6, b7, true, b9, b10, b11, x24, x27, x28, x31, rfl, rfl, hF⟩
   ·obtain rfl : b9 = false := ready_self hr
    obtain rfl : b3 = true := ready_dep hr 3 (by kernel_rfl)
    obtain rfl : b8 = true := ready_dep hr 8 (by kernel_rfl)
    obtain ⟨V9, hst9, hF9⟩ := hF.s9
    refine st_storeA rfl (by kernel_rfl) rfl 41 (.tmp 32) (.tmp 27) rfl (.pointer (some ⟨g6, 32, none⟩)) x27 (by kernel_rfl) (by kernel_rfl) V9 hst9 ?_
    exact ⟨b0, b1, b2, true, b4, b5, b6, b7, true, true, b10, b11, _, _, _, _, rfl, rfl, hF9⟩
   ·obtain rfl : b10 = false := ready_self hr
    refine st_val rfl (by kernel_rfl) (some 33) rfl (.pointer (some ⟨g6, 40, none⟩)) V (by kernel_rfl) ?_
    exact ⟨b0, b1, b2, b3, b4, b5, b6, b7, b8, b9, true, b11, x24, x27, x28, x31, rfl, rfl, hF⟩
   ·obtain rfl : b11 = false := ready_self hr
    obtain rfl : b7 = true := ready_dep hr 7 (by kernel_rfl)
    obtain rfl : b10 = true := ready_dep hr 10 (by kernel_rfl)
    obtain ⟨V9, hst9, hF9⟩ := hF.s11
    refine st_storeA rfl (by kernel_rfl) rfl 22 (.tmp 33) (.tmp 31) rfl (.pointer (some ⟨g6, 40, none⟩)) x31 (by kernel_rfl) (by kernel_rfl) V9 hst9 ?_
    exact ⟨b0, b1, b2, b3, b4, b5, b6, true, b8, b9, true, true, _, _, _, _, rfl, rfl, hF9⟩
  ·intro act9 V hJ
   obtain ⟨b0, b1, b2, b3, b4, b5, b6, b7, b8, b9, b10, b11, x24, x27, x28, x31, he, rfl, hF⟩ := hJ
   have he : (#[true, true, true, true, true, true, true, true, true, true, true, true] : Array Bool) = #[b0, b1, b2, b3, b4, b5, b6, b7, b8, b9, b10, b11] := he
   simp only [Array.mk.injEq, List.cons.injEq, and_true] at he
   obtain ⟨rfl, rfl, rfl, rfl, rfl, rfl, rfl, rfl, rfl, rfl, rfl, rfl⟩ := he
   simp only [cond_true]
   obtain ⟨d1, hX6, hw1⟩ := hF.fin (E1 := eX E) rfl
   have hs6 := HS4.out.but hF.but HS6.out (by have := HS4.out.bel.size; have := HS4.out.wB; have := HS4.out.bz; have := hF.gw; exact hge6)
   have HX6 := Lib.hid hX6
   have HW1 := Lib.hid hw1
   have HS01 : Hid (∀ k, EB (eX E) d1 k → ¬ S0 k) := Lib.hid fun k hk hs => by
    have h1 := hw1.ge k hk
    have h2 := HS4.out.rep.inn k hs
    omega
   have HV5 : Hid (g6 < V4.heap.size ∧ V4.heap.size ≤ V.heap.size) := Lib.hid ⟨hF.gw, hF.but.1.size⟩
   clear hF hX6 hw1
   generalize V = V5 at *
   obtain ⟨V6, hst6, hb6, hX7⟩ := new_bx (c := enA zEn zAd) (c' := enA (eX E) d1) (ty := 44) V5 rfl (enA_one _ _) (by kernel_rfl)
   have hO7 := BxO.new hs6 hX7
   have HS7 := Lib.hid (hs6.below hb6)
   go_upto_region 8 with fail
   refine wl <| gzl rfl ⟨g6, 0, none⟩ (.agg (enA (eX E) d1)) (load_en (bx_range HX6.out)) ?_
   simp only [pu]
   refine run_to rfl (some 7) rfl (.pointer (some ⟨V5.heap.size, 0, none⟩)) (V5.alloc (.cells (enA zEn zAd) 44)) (by kernel_rfl) ?_
   simp only [pu]
   refine gzs rfl (hst6) <| wn ?_
   have hX6 := HX6.out.below HX6.out.lt hb6
   have hw1 := HW1.out.below hb6
   obtain ⟨g7, hg7⟩ : ∃ g, V5.heap.size = g := ⟨_, rfl⟩
   rw [hg7] at hO7 ⊢
   have HX6 := Lib.hid hX6
   have HN7 := Lib.hid hO7.ns
   have hge7 : w.heap.size ≤ g7 := by have := HV5.out; omega
   have HE1 := Lib.hid hw1.i
   have h7lt := hO7.bx.lt
   have h0 := KA.start (A0 := []) (A1 := (eX E).raw) (C0 := []) (C1 := (eX E).prs) (E := eX E) (r := .slice d1.ra (eX E).raw.length d1.rc) (p := .slice d1.pa (eX E).prs.length d1.pc) (x0 := undef) (x3 := undef) (x4 := undef) (x7 := undef) h7lt hO7.bx
   have H7 : Hid (g6 ≠ g7 ∧ g6 < V6.heap.size ∧ (∀ k, EB (eX E) d1 k → k < V6.heap.size ∧ k ≠ g7)) := Lib.hid ⟨by have := HV5.out; omega, by have := HV5.out; have := hb6.size; omega, fun k hk => ⟨hw1.i.lt k hk, by have := HW1.out.i.lt k hk; omega⟩⟩
   have HL7 : Hid ((eX E).raw.length ≤ 9 ∧ (eX E).prs.length ≤ 3) := Lib.hid (by have := HEL.out; show E.raw.length + 1 ≤ 9 ∧ E.prs.length + 1 ≤ 3; omega)
   clear hst6 hb6 hX7 hO7 hX6 hw1 hg7 h7lt hs6
   go_upto_region 9 with fail
   skip
   refine wp_region_inv (fun listed act9 V => ∃ b0 b1 b2 b3 b4 b5 b6 b7 b8 b9 b10 b11 : Bool, ∃ x35 x38 x39 x42 : Value, listed = #[b0, b1, b2, b3, b4, b5, b6, b7, b8, b9, b10, b11] ∧ act9 = { tmps := #[.slice a L.length c, .int .u8 x, undef, undef, .bool false, .pointer (some ⟨g0, 0, none⟩), .pointer (some ⟨g6, 0, none⟩), .pointer (some ⟨g7, 0, none⟩), undef, undef, undef, undef, undef, undef, .slice a L.length c, .slice (some ⟨w.heap.size, 0, none⟩) 1 1, .bool false, undef, .pointer (some ⟨g0, 0, none⟩), .pointer (some ⟨g0, 0, none⟩), .bool false, .slice a L.length c, .pointer (some ⟨gn, 0, none⟩), .agg (enA E d), x24, .pointer (some ⟨g6, 32, none⟩), .slice d.ra E.raw.length d.rc, x27, x28, .pointer (some ⟨g6, 40, none⟩), .slice d.pa E.prs.length d.pc, x31, .pointer (some ⟨g6, 32, none⟩), .pointer (some ⟨g6, 40, none⟩), .agg (enA (eX E) d1), x35, (cond b1 (.pointer (some ⟨g6, 32, none⟩)) undef), (cond b2 (.slice d1.ra (eX E).raw.length d1.rc) undef), x38, x39, (cond b5 (.pointer (some ⟨g6, 40, none⟩)) undef), (cond b6 (.slice d1.pa (eX E).prs.length d1.pc) undef), x42, (cond b8 (.pointer (some ⟨g7, 32, none⟩)) undef), (cond b10 (.pointer (some ⟨g7, 40, none⟩)) undef), undef, undef, undef, undef, undef, undef, undef, undef, undef, undef, undef, undef, undef, undef, undef, undef, undef, undef, undef, undef, undef, undef, undef, undef, undef, undef, undef, undef, undef, undef, undef, undef, undef, undef, undef, undef, undef, undef, undef, undef, undef, undef, undef, undef, undef, undef, undef, undef, undef, undef, undef, undef, undef, undef, undef, undef, undef, undef, undef, undef, undef, undef, undef, undef, undef, undef, undef], defers := [] } ∧ KA V6 g7 (eX E) (.slice d1.ra (eX E).raw.length d1.rc) (.slice d1.pa (eX E).prs.length d1.pc) [] (eX E).raw [] (eX E).prs b0 b2 b3 b4 b6 b7 b9 b11 x35 x38 x39 x42 V) (by kernel_rfl) (by kernel_rfl) ?_ ?_ ?_
   ·exact ⟨false, false, false, false, false, false, false, false, false, false, false, false, undef, undef, undef, undef, rfl, rfl, h0⟩
   ·intro i9 listed act9 V hi9 hr hJ
    obtain ⟨b0, b1, b2, b3, b4, b5, b6, b7, b8, b9, b10, b11, x35, x38, x39, x42, rfl, rfl, hF⟩ := hJ
    have hi2 : i9 < 12 := hi9
    have hi3 : i9 = 0 ∨ i9 = 1 ∨ i9 = 2 ∨ i9 = 3 ∨ i9 = 4 ∨ i9 = 5 ∨ i9 = 6 ∨ i9 = 7 ∨ i9 = 8 ∨ i9 = 9 ∨ i9 = 10 ∨ i9 = 11 := by omega
    rcases hi3 with rfl | rfl | rfl | rfl | rfl | rfl | rfl | rfl | rfl | rfl | rfl | rfl
    ·obtain rfl : b0 = false := ready_self hr
     obtain ⟨rfl, rfl⟩ := hF.n0
     refine st_build rfl (by kernel_rfl) (some 35) rfl 41 0 #[] rfl #[] (by kernel_rfl) (.slice (some ⟨V.heap.size, 0, none⟩) 0 0) _ (nil_u V) ?_
     exact ⟨true, b1, b2, false, b4, b5, b6, b7, b8, false, b10, b11, _, _, _, _, rfl, rfl, hF.s0 ((Below.refl _ V).alloc (Nat.le_refl _) _) (own_base (own_nil V 5 1) hF.but.1.size)⟩
    ·obtain rfl : b1 = false := ready_self hr
     refine st_val rfl (by kernel_rfl) (some 36) rfl (.pointer (some ⟨g6, 32, none⟩)) V (by kernel_rfl) ?_
     exact ⟨b0, true, b2, b3, b4, b5, b6, b7, b8, b9, b10, b11, x35, x38, x39, x42, rfl, rfl, hF⟩
    ·obtain rfl : b2 = false := ready_self hr
     obtain rfl : b1 = true := ready_dep hr 1 (by kernel_rfl)
     obtain ⟨rfl, rfl⟩ := hF.nl2
     refine st_load rfl (by kernel_rfl) (some 37) rfl 41 (.tmp 36) rfl ⟨g6, 32, none⟩ (.slice d1.ra (eX E).raw.length d1.rc) (by kernel_rfl) ((HX6.out.but hF.but H7.out.1).load (i := 32) rfl (by kernel_rfl)) ?_
     exact ⟨b0, true, true, false, b4, b5, b6, b7, b8, false, b10, b11, _, _, _, _, rfl, rfl, hF.sl2⟩
    ·obtain rfl : b3 = false := ready_self hr
     obtain rfl : b0 = true := ready_dep hr 0 (by kernel_rfl)
     obtain rfl : b2 = true := ready_dep hr 2 (by kernel_rfl)
     obtain rfl := hF.n3
     obtain ⟨v9, V9, hap9, hO9, hb9, hg9, -⟩ := app_u (hF.r0 rfl rfl) hF.but.1.size d1.ra ((eX E).raw.length) d1.rc _ (sl_cs ((HE1.out.but hF.but fun q => (H7.out.2.2 g7 q).2 rfl)).r) rfl (by show 0 ≤ 100000; decide) (by have := HL7.out; omega)
     refine st_append rfl (by kernel_rfl) (some 38) rfl 41 rfl (.tmp 35) (.tmp 37) 41 rfl x35 (.slice d1.ra (eX E).raw.length d1.rc) v9 V9 (by kernel_rfl) (by kernel_rfl) hap9 ?_
     exact ⟨true, b1, true, true, b4, b5, b6, b7, b8, false, b10, b11, _, _, _, _, rfl, rfl, hF.s3 hO9 hb9 hg9⟩
    ·obtain rfl : b4 = false := ready_self hr
     obtain ⟨rfl, rfl⟩ := hF.n4
     refine st_build rfl (by kernel_rfl) (some 39) rfl 22 0 #[] rfl #[] (by kernel_rfl) (.slice (some ⟨V.heap.size, 0, none⟩) 0 0) _ (nil_int V) ?_
     exact ⟨b0, b1, b2, b3, true, b5, b6, false, b8, b9, b10, false, _, _, _, _, rfl, rfl, hF.s4 ((Below.refl _ V).alloc (Nat.le_refl _) _) (own_base (own_nil V 3 1) hF.but.1.size)⟩
    ·obtain rfl : b5 = false := ready_self hr
     refine st_val rfl (by kernel_rfl) (some 40) rfl (.pointer (some ⟨g6, 40, none⟩)) V (by kernel_rfl) ?_
     exact ⟨b0, b1, b2, b3, b4, true, b6, b7, b8, b9, b10, b11, x35, x38, x39, x42, rfl, rfl, hF⟩
    ·obtain rfl : b6 = false := ready_self hr
     obtain rfl : b5 = true := ready_dep hr 5 (by kernel_rfl)
     obtain ⟨rfl, rfl⟩ := hF.nl6
     refine st_load rfl (by kernel_rfl) (some 41) rfl 22 (.tmp 40) rfl ⟨g6, 40, none⟩ (.slice d1.pa (eX E).prs.length d1.pc) (by kernel_rfl) ((HX6.out.but hF.but H7.out.1).load (i := 40) rfl (by kernel_rfl)) ?_
     exact ⟨b0, b1, b2, b3, b4, true, true, false, b8, b9, b10, false, _, _, _, _, rfl, rfl, hF.sl6⟩
    ·obtain rfl : b7 = false := ready_self hr
     obtain rfl : b4 = true := ready_dep hr 4 (by kernel_rfl)
     obtain rfl : b6 = true := ready_dep hr 6 (by kernel_rfl)
     obtain rfl := hF.n7
     obtain ⟨v9, V9, hap9, hO9, hb9, hg9, -⟩ := app_j (hF.p0 rfl rfl) hF.but.1.size d1.pa ((eX E).prs.length) d1.pc _ ((HE1.out.but hF.but fun q => (H7.out.2.2 g7 q).2 rfl)).p rfl (by show 0 ≤ 100000; decide) (by have := HL7.out; omega)
     refine st_append rfl (by kernel_rfl) (some 42) rfl 22 rfl (.tmp 39) (.tmp 41) 22 rfl x39 (.slice d1.pa (eX E).prs.length d1.pc) v9 V9 (by kernel_rfl) (by kernel_rfl) hap9 ?_
     exact ⟨b0, b1, b2, b3, true, b5, true, true, b8, b9, b10, false, _, _, _, _, rfl, rfl, hF.s7 hO9 hb9 hg9⟩
    ·obtain rfl : b8 = false := ready_self hr
     refine st_val rfl (by kernel_rfl) (some 43) rfl (.pointer (some ⟨g7, 32, none⟩)) V (by kernel_rfl) ?_
     exact ⟨b0, b1, b2, b3, b4, b5, b6, b7, true, b9, b10, b11, x35, x38, x39, x42, rfl, rfl, hF⟩
    ·obtain rfl : b9 = false := ready_self hr
     obtain rfl : b3 = true := ready_dep hr 3 (by kernel_rfl)
     obtain rfl : b8 = true := ready_dep hr 8 (by kernel_rfl)
     obtain ⟨V9, hst9, hF9⟩ := hF.s9
     refine st_storeA rfl (by kernel_rfl) rfl 41 (.tmp 43) (.tmp 38) rfl (.pointer (some ⟨g7, 32, none⟩)) x38 (by kernel_rfl) (by kernel_rfl) V9 hst9 ?_
     exact ⟨b0, b1, b2, true, b4, b5, b6, b7, true, true, b10, b11, _, _, _, _, rfl, rfl, hF9⟩
    ·obtain rfl : b10 = false := ready_self hr
     refine st_val rfl (by kernel_rfl) (some 44) rfl (.pointer (some ⟨g7, 40, none⟩)) V (by kernel_rfl) ?_
     exact ⟨b0, b1, b2, b3, b4, b5, b6, b7, b8, b9, true, b11, x35, x38, x39, x42, rfl, rfl, hF⟩
    ·obtain rfl : b11 = false := ready_self hr
     obtain rfl : b7 = true := ready_dep hr 7 (by kernel_rfl)
     obtain rfl : b10 = true := ready_dep hr 10 (by kernel_rfl)
     obtain ⟨V9, hst9, hF9⟩ := hF.s11
     refine st_storeA rfl (by kernel_rfl) rfl 22 (.tmp 44) (.tmp 42) rfl (.pointer (some ⟨g7, 40, none⟩)) x42 (by kernel_rfl) (by kernel_rfl) V9 hst9 ?_
     exact ⟨b0, b1, b2, b3, b4, b5, b6, true, b8, b9, true, true, _, _, _, _, rfl, rfl, hF9⟩
   ·intro act9 V hJ
    obtain ⟨b0, b1, b2, b3, b4, b5, b6, b7, b8, b9, b10, b11, x35, x38, x39, x42, he, rfl, hF⟩ := hJ
    have he : (#[true, true, true, true, true, true, true, true, true, true, true, true] : Array Bool) = #[b0, b1, b2, b3, b4, b5, b6, b7, b8, b9, b10, b11] := he
    simp only [Array.mk.injEq, List.cons.injEq, and_true] at he
    obtain ⟨rfl, rfl, rfl, rfl, rfl, rfl, rfl, rfl, rfl, rfl, rfl, rfl⟩ := he
    simp only [cond_true]
    obtain ⟨d2, hX7, hw2⟩ := hF.fin (E1 := eX E) rfl
    have hs8 := HS7.out.but hF.but HN7.out (by have := hge6; have := HV5.out; have := hF.gw; exact hge7)
    have HX7 := Lib.hid hX7
    have HW2 := Lib.hid hw2
    have HX6 := Lib.hid (HX6.out.but hF.but H7.out.1)
    have HE1 := Lib.hid (HE1.out.but hF.but fun q => (H7.out.2.2 g7 q).2 rfl)
    have HS8 := Lib.hid hs8
    have HEB : Hid (EnB (eX E)) := Lib.hid ⟨by have := HL7.out; omega, by have := HL7.out; omega⟩
    have HV8 : Hid (g7 < V6.heap.size ∧ V6.heap.size ≤ V.heap.size) := Lib.hid ⟨hF.gw, hF.but.1.size⟩
    clear hF hX7 hw2 hs8
    generalize V = V8 at *
    have hS2 : ∀ k, EB (eX E) d2 k → ¬ S0 k := fun k hk hs => by
     have h1 := HW2.out.ge k hk
     have h2 := HS7.out.rep.inn k hs
     omega
    have CA := q_add (e := eX E) (d := d2) HS8.out.rep (Wm.new 5 0) HW2.out.i HEB.out hS2 HS8.out.so HS8.out.bz
    rw [a_1.1, a_1.2] at CA
    go_upto_region 10 with fail
    refine wl <| gz1 (.pointer (some ⟨g0, 0, none⟩)) <| gzl rfl ⟨g7, 0, none⟩ (.agg (enA (eX E) d2)) (load_en (bx_range HX7.out)) <| gzc (.tuple #[.agg #[.int .i64 0, .int .i64 0], .bool true]) (fun w' => UpdS g0 W1.heap.size S0 (aM1 (eX E)) V8 w') (CA) (fun V9 hu => ?_)
    obtain ⟨S2, hs9, hk9, hbu9⟩ := HS8.out.upd hu
    have hX6 := HX6.out.buts hbu9 HS6.out
    have hX7 := HX7.out.buts hbu9 HN7.out
    have hn6 := hk9 g6 HX6.out.lt HS6.out
    have hn7 := hk9 g7 HX7.out.lt HN7.out
    have hw2 : EnW V9 V6.heap.size (eX E) d2 := HW2.out.buts hbu9 hS2 (by show ¬ (1 :: E.raw) = []; simp) (by show ¬ (1 :: E.prs) = []; simp)
    have hE1 : EnI V9 (eX E) d1 := HE1.out.buts hbu9 HS01.out
    have hS2' : ∀ k, EB (eX E) d2 k → ¬ S2 k := fun k hk => hk9 k (HW2.out.i.lt k hk) (hS2 k hk)
    obtain ⟨V10, hst10, hb10, hX8⟩ := new_bx (c := #[.int .i64 0, .int .i64 0]) (c' := #[.int .i64 0, .int .i64 0]) (ty := 33) V9 rfl (by simp [Value.oneCell']) (by kernel_rfl)
    have HS10 := Lib.hid (hs9.below hb10)
    have hO8 := BxO.new hs9 hX8
    simp only [pu]
    refine gz3 (.tuple #[.agg #[.int .i64 0, .int .i64 0], .bool true]) (.agg #[.int .i64 0, .int .i64 0]) (.bool true) ?_
    simp only [pu]
    refine run_to rfl (some 8) rfl (.pointer (some ⟨V9.heap.size, 0, none⟩)) (V9.alloc (.cells (#[.int .i64 0, .int .i64 0]) 33)) (by kernel_rfl) ?_
    simp only [pu]
    refine gzs rfl (hst10) <| gz1 (.bool true) <| wn ?_
    simp only [pu]
    obtain ⟨g8, hg8⟩ : ∃ g, V9.heap.size = g := ⟨_, rfl⟩
    rw [hg8] at hO8 ⊢
    have hX6 := hX6.below hX6.lt hb10
    have hX7 := hX7.below hX7.lt hb10
    have hw2 := hw2.below hb10
    have hE1 := hE1.below hb10
    have H8 : Hid (g7 < g8 ∧ V6.heap.size ≤ g8) := Lib.hid (by have := HV8.out; have := hbu9.1.size; omega)
    have hd8 : ∀ k, EB (eX E) d2 k → k < g8 := fun k hk => by have := HW2.out.i.lt k hk; have := hbu9.1.size; omega
    clear hst10 hb10 hX8 hg8 CA hs9 hk9 hbu9 HX6 HX7 HW2 HE1
    obtain ⟨b, hab, hbb, hcb, hn0⟩ := first_u (x := 1) (M := E.raw) hw2.r
    obtain ⟨v1, hor⟩ := or_u8 x 1
    obtain ⟨v2, hxor⟩ := xor_u8 1 v1
    obtain ⟨dra, drc, dpa, dpc⟩ := d2
    simp only at hab
    subst hab
    have hX7b := hX7
    obtain ⟨V11, hst11, hr11, hbt11⟩ := st_by (i := 0) hw2.r hn0 v2
    have hSb : ¬ S2 b := hS2' b (.inl ⟨by show ¬ (1 :: E.raw) = []; simp, _, rfl, rfl⟩)
    have hwb : w.heap.size ≤ b := by have := HV8.out; have := hge7; omega
    have hb8 : b < g8 := hd8 b (.inl ⟨by show ¬ (1 :: E.raw) = []; simp, _, rfl, rfl⟩)
    have hs11 := HS10.out.but hbt11 hSb hwb
    have hX6 := hX6.but hbt11 (by have := H7.out; omega)
    have hX7 := hX7.but hbt11 (by have := HV8.out; omega)
    have hO8 := hO8.but hbt11 (by omega)
    have hE1 := hE1.but hbt11 fun q => by have := (H7.out.2.2 b q).1; omega
    have hp11 := own_ne hw2.r hw2.p (by decide)
    have hpr := own_butq hw2.p hbt11 fun y hy => fun e2 => by
     rcases hp11 with h1 | h1
     ·cases h1
     ·exact h1 (by show some b = (Value.slice dpa _ dpc).ownBlock; rw [show dpa = some y from hy]; show some b = some y.block; rw [e2])
    go_upto_region 11 with fail
    refine wl <| gz1 (.pointer (some ⟨g7, 32, none⟩)) <| gzl rfl ⟨g7, 32, none⟩ (.slice (some ⟨b, 0, none⟩) (eX E).raw.length drc) (hX7b.load (i := 32) rfl (by kernel_rfl)) <|
     gzv (.pointer (some ⟨b, 0 + 0, none⟩)) (idx_by b 0 (eX E).raw.length drc 0 hn0 _ _ _ rfl (by kernel_rfl) (by kernel_rfl)) <| gzl rfl ⟨b, 0 + 0, none⟩ (.int .u8 1) (load_cell hcb (by kernel_rfl)) <| gz1 (.int .u8 x) <| gzv (.int .u8 v1) (hor _ _ _ _ rfl (by kernel_rfl) (by kernel_rfl) _) <|
     gzv (.int .u8 v2) (hxor _ _ _ _ rfl (by kernel_rfl) (by kernel_rfl) _) <| gzv (.pointer (some ⟨b, 0 + 0, none⟩)) (idx_by b 0 (eX E).raw.length drc 0 hn0 _ _ _ rfl (by kernel_rfl) (by kernel_rfl)) <| gzs rfl (hst11) <| wn ?_
    simp only [pu]
    clear hst11 hX7b hcb hr11 hn0
    obtain ⟨bp, hap2, hbp, hcp, hn1⟩ := first_j (x := 1) (M := E.prs) hpr
    subst hap2
    obtain ⟨V12, hst12, hbt12⟩ := st_in (i := 0) hpr hn1 2
    have hSp : ¬ S2 bp := hS2' bp (.inr ⟨by show ¬ (1 :: E.prs) = []; simp, _, rfl, rfl⟩)
    have hwp : w.heap.size ≤ bp := by have := HV8.out; have := hge7; omega
    have hp8 : bp < g8 := hd8 bp (.inr ⟨by show ¬ (1 :: E.prs) = []; simp, _, rfl, rfl⟩)
    have HS12 := Lib.hid (hs11.but hbt12 hSp hwp)
    have hX7c := hX7
    have hX6 := hX6.but hbt12 (by have := H7.out; omega)
    have hO8 := hO8.but hbt12 (by omega)
    have hE1 := hE1.but hbt12 fun q => by have := (H7.out.2.2 bp q).1; omega
    go_upto_region 12 with fail
    refine wl <| gz1 (.pointer (some ⟨g7, 40, none⟩)) <| gzl rfl ⟨g7, 40, none⟩ (.slice (some ⟨bp, 0, none⟩) (eX E).prs.length dpc) (hX7c.load (i := 40) rfl (by kernel_rfl)) <|
     gzv (.pointer (some ⟨bp, 0 + 0, none⟩)) (idx_int bp 0 (eX E).prs.length dpc 0 hn1 _ _ _ rfl (by kernel_rfl) (by kernel_rfl)) <| gzl rfl ⟨bp, 0 + 0, none⟩ (.int .i64 1) (load_cell hcp (by kernel_rfl)) <| gzw (.int .i64 2) (add_i rfl 1 1 (by omega)) <|
     gzv (.pointer (some ⟨bp, 0 + 0, none⟩)) (idx_int bp 0 (eX E).prs.length dpc 0 hn1 _ _ _ rfl (by kernel_rfl) (by kernel_rfl)) <| gzs rfl (hst12) <| wn ?_
    simp only [pu]
    clear hst12 hX7c hX7 hcp hn1 hs11 hbt11 hbt12 hSb hSp hpr hp11 hw2 hS2 hS2' hd8
    have CG := q_get (0, 0) HS12.out.rep (a_w (eX E) HEB.out)
    rw [(a_2 (eX E)).1, (a_2 (eX E)).2] at CG
    have HX6 := Lib.hid hX6
    have HO8 := Lib.hid hO8
    have H8lt : Hid (g8 < V12.heap.size) := Lib.hid hO8.bx.lt
    have HE1 := Lib.hid hE1
    clear hX6 hO8 hE1
    go_upto_region 13 with fail
    refine wl <| gz1 (.pointer (some ⟨g0, 0, none⟩)) <| gzl rfl ⟨g8, 0, none⟩ (.agg #[.int .i64 0, .int .i64 0]) (load_hn (x := (0, 0)) (bx_range (cs := hnl (0, 0)) HO8.out.bx)) <|
     gze (fun v w' => ∃ d, v = .tuple #[.agg (enA (eX E) d), .bool true] ∧ EnW w' V12.heap.size (eX E) d ∧ Below V12.heap.size V12 w') (CG.mono fun r w' z => by obtain ⟨d, z1, z2, z3⟩ := z; exact ⟨_, z1, d, rfl, z2, z3⟩) (fun vv V13 hq => ?_)
    obtain ⟨d3, rfl, hwd3, hbq⟩ := hq
    obtain ⟨V14, hstd3, hbd3, hXd3⟩ := new_bx (c := enA zEn zAd) (c' := enA (eX E) d3) (ty := 44) V13 rfl (enA_one _ _) (by kernel_rfl)
    simp only [pu]
    refine gz3 (.tuple #[.agg (enA (eX E) d3), .bool true]) (.agg (enA (eX E) d3)) (.bool true) ?_
    simp only [pu]
    refine run_to rfl (some 10) rfl (.pointer (some ⟨V13.heap.size, 0, none⟩)) (V13.alloc (.cells (enA zEn zAd) 44)) (by kernel_rfl) ?_
    simp only [pu]
    refine gzs rfl (hstd3) <| gz1 (.bool true) <| wn ?_
    simp only [pu]
    have hb1214 := hbq.trans (hbd3.mono hbq.size)
    have HS14 := Lib.hid (HS12.out.below hb1214)
    have HX6 := Lib.hid (HX6.out.below HX6.out.lt hb1214)
    have HO8 := Lib.hid (HO8.out.below hb1214)
    have HW3 := Lib.hid (hwd3.below hbd3)
    have hE1 := HE1.out.below hb1214
    have hS3 : ∀ k, V12.heap.size ≤ k → ¬ S2 k := fun k hk hs => by have := HS12.out.rep.inn k hs; omega
    have h8lt := H8lt.out
    have H14 : Hid (g6 < V12.heap.size ∧ g8 < V12.heap.size ∧ (∀ k, EB (eX E) d1 k → k < V12.heap.size) ∧ w.heap.size ≤ V12.heap.size) := Lib.hid ⟨by have := H7.out; have := H8.out; have := hb1214; omega, h8lt, fun k hk => HE1.out.lt k hk, HS12.out.bel.size⟩
    have HS3 := Lib.hid hS3
    obtain ⟨g10, hg10⟩ : ∃ g, V13.heap.size = g := ⟨_, rfl⟩
    have HG10 : Hid (∀ k, EB (eX E) d3 k → k < g10) := Lib.hid fun k hk => by have := hwd3.i.lt k hk; omega
    rw [hg10] at hXd3 ⊢
    have HX10 := Lib.hid hXd3
    have HE1 := Lib.hid hE1
    clear hstd3 hbd3 hXd3 hwd3 hbq hb1214 hg10 CG hE1 hS3
    have CS := r_same HW3.out.i HE1.out HEB.out
    go_upto_region 14 with fail
    refine wl <| gz6 (.bool true) (.bool false) (.bool false) (.bool true) (.bool false) (.bool false) <| gz1 (.bool false) <| gzl rfl ⟨g10, 0, none⟩ (.agg (enA (eX E) d3)) (load_en (bx_range HX10.out)) <| gzl rfl ⟨g6, 0, none⟩ (.agg (enA (eX E) d1)) (load_en (bx_range HX6.out)) <|
     gzc (.bool true) (fun w' => Below V14.heap.size V14 w') (CS) (fun V15 hb15 => ?_)
    simp only [pu]
    refine gz2 (.bool false) (.bool false) <| wn ?_
    simp only [pu]
    have hs15 := HS14.out.below hb15
    have hX6 := HX6.out.below HX6.out.lt hb15
    have hO8 := HO8.out.below hb15
    have hw3 := HW3.out.below hb15
    have hE1 := HE1.out.below hb15
    have hX10 := HX10.out.below HX10.out.lt hb15
    clear hb15 HX6 HO8 HW3 HE1 HX10 CS HS14
    obtain ⟨b3, hab3, hbb3, hcb3, hn3⟩ := first_u (x := 1) (M := E.raw) hw3.r
    obtain ⟨dra3, drc3, dpa3, dpc3⟩ := d3
    simp only at hab3
    subst hab3
    obtain ⟨V16, hst16, hr16, hbt16⟩ := st_by (i := 0) hw3.r hn3 v2
    have hb10 : b3 < g10 := HG10.out b3 (.inl ⟨by show ¬ (1 :: E.raw) = []; simp, _, rfl, rfl⟩)
    have hX10b := hX10
    have hs16 := hs15.but hbt16 (HS3.out b3 hbb3) (by have := H14.out; omega)
    have hX6 := hX6.but hbt16 (by have := H14.out; omega)
    have hO8 := hO8.but hbt16 (by have := H14.out; omega)
    have hX10 := hX10.but hbt16 (by omega)
    have hE1 := hE1.but hbt16 fun q => by have := H14.out.2.2.1 b3 q; omega
    have hp16 := own_ne hw3.r hw3.p (by decide)
    have hpr := own_butq hw3.p hbt16 fun y hy => fun e2 => by
     rcases hp16 with h1 | h1
     ·cases h1
     ·exact h1 (by show some b3 = (Value.slice dpa3 _ dpc3).ownBlock; rw [show dpa3 = some y from hy]; show some b3 = some y.block; rw [e2])
    go_upto_region 16 with fail
    refine wl <| gz1 (.pointer (some ⟨g10, 32, none⟩)) <| gzl rfl ⟨g10, 32, none⟩ (.slice (some ⟨b3, 0, none⟩) (eX E).raw.length drc3) (hX10b.load (i := 32) rfl (by kernel_rfl)) <|
     gzv (.pointer (some ⟨b3, 0 + 0, none⟩)) (idx_by b3 0 (eX E).raw.length drc3 0 hn3 _ _ _ rfl (by kernel_rfl) (by kernel_rfl)) <| gzl rfl ⟨b3, 0 + 0, none⟩ (.int .u8 1) (load_cell hcb3 (by kernel_rfl)) <| gz1 (.int .u8 x) <|
     gzv (.int .u8 v1) (hor _ _ _ _ rfl (by kernel_rfl) (by kernel_rfl) _) <| gzv (.int .u8 v2) (hxor _ _ _ _ rfl (by kernel_rfl) (by kernel_rfl) _) <| gzv (.pointer (some ⟨b3, 0 + 0, none⟩)) (idx_by b3 0 (eX E).raw.length drc3 0 hn3 _ _ _ rfl (by kernel_rfl) (by kernel_rfl)) <| gzs rfl (hst16) <|
     wpList_nil ?_
    simp only [pu]
    clear hst16 hX10b hcb3 hr16 hn3
    obtain ⟨bp3, hap3, hbp3, hcp3, hn4⟩ := first_j (x := 1) (M := E.prs) hpr
    subst hap3
    obtain ⟨V17, hst17, hbt17⟩ := st_in (i := 0) hpr hn4 2
    have HS17 := Lib.hid (hs16.but hbt17 (HS3.out bp3 hbp3) (by have := H14.out; omega))
    have HX6 := Lib.hid (hX6.but hbt17 (by have := H14.out; omega))
    have HO8 := Lib.hid (hO8.but hbt17 (by have := H14.out; omega))
    have HE1 := Lib.hid (hE1.but hbt17 fun q => by have := H14.out.2.2.1 bp3 q; omega)
    go_upto_region 17 with fail
    refine wl <| gz1 (.pointer (some ⟨g10, 40, none⟩)) <| gzl rfl ⟨g10, 40, none⟩ (.slice (some ⟨bp3, 0, none⟩) (eX E).prs.length dpc3) (hX10.load (i := 40) rfl (by kernel_rfl)) <|
     gzv (.pointer (some ⟨bp3, 0 + 0, none⟩)) (idx_int bp3 0 (eX E).prs.length dpc3 0 hn4 _ _ _ rfl (by kernel_rfl) (by kernel_rfl)) <| gzl rfl ⟨bp3, 0 + 0, none⟩ (.int .i64 1) (load_cell hcp3 (by kernel_rfl)) <| gzw (.int .i64 2) (add_i rfl 1 1 (by omega)) <|
     gzv (.pointer (some ⟨bp3, 0 + 0, none⟩)) (idx_int bp3 0 (eX E).prs.length dpc3 0 hn4 _ _ _ rfl (by kernel_rfl) (by kernel_rfl)) <| gzs rfl (hst17) <| wn ?_
    simp only [pu]
    clear hst17 hX10 hX6 hO8 hE1 hcp3 hn4 hs16 hs15 hbt16 hbt17 hpr hp16 hw3
    have CG := q_get (0, 0) HS17.out.rep (a_w (eX E) HEB.out)
    rw [(a_2 (eX E)).1, (a_2 (eX E)).2] at CG
    go_upto_region 18 with fail
    refine wl <| gz1 (.pointer (some ⟨g0, 0, none⟩)) <| gzl rfl ⟨g8, 0, none⟩ (.agg #[.int .i64 0, .int .i64 0]) (load_hn (x := (0, 0)) (bx_range (cs := hnl (0, 0)) HO8.out.bx)) <|
     gze (fun v w' => ∃ d, v = .tuple #[.agg (enA (eX E) d), .bool true] ∧ EnW w' V17.heap.size (eX E) d ∧ Below V17.heap.size V17 w') (CG.mono fun r w' z => by obtain ⟨d, z1, z2, z3⟩ := z; exact ⟨_, z1, d, rfl, z2, z3⟩) (fun vv V18 hq => ?_)
    obtain ⟨d4, rfl, hwd4, hbq⟩ := hq
    obtain ⟨V19, hstd4, hbd4, hXd4⟩ := new_bx (c := enA zEn zAd) (c' := enA (eX E) d4) (ty := 44) V18 rfl (enA_one _ _) (by kernel_rfl)
    simp only [pu]
    refine gz3 (.tuple #[.agg (enA (eX E) d4), .bool true]) (.agg (enA (eX E) d4)) (.bool true) ?_
    simp only [pu]
    refine run_to rfl (some 12) rfl (.pointer (some ⟨V18.heap.size, 0, none⟩)) (V18.alloc (.cells (enA zEn zAd) 44)) (by kernel_rfl) ?_
    simp only [pu]
    refine gzs rfl (hstd4) <| gz1 (.bool true) <| wn ?_
    simp only [pu]
    have hb1719 := hbq.trans (hbd4.mono hbq.size)
    have HS19 := Lib.hid (HS17.out.below hb1719)
    have HX6 := Lib.hid (HX6.out.below HX6.out.lt hb1719)
    have hw4 := hwd4.below hbd4
    have hE1 := HE1.out.below hb1719
    obtain ⟨g12, hg12⟩ : ∃ g, V18.heap.size = g := ⟨_, rfl⟩
    rw [hg12] at hXd4 ⊢
    have HX12 := Lib.hid hXd4
    have CS := r_same hw4.i hE1 HEB.out
    clear hstd4 hbd4 hXd4 hwd4 hbq hb1719 hg12 CG hE1 hw4
    go_upto_region 19 with fail
    refine wl <| gz2 (.bool true) (.bool true) <| gzl rfl ⟨g12, 0, none⟩ (.agg (enA (eX E) d4)) (load_en (bx_range HX12.out)) <| gzl rfl ⟨g6, 0, none⟩ (.agg (enA (eX E) d1)) (load_en (bx_range HX6.out)) <| gzc (.bool true) (fun w' => Below V19.heap.size V19 w') (CS) (fun V20 hb20 => ?_)
    have CK := known_true V20
    simp only [pu]
    refine gz2 (.bool true) (.bool true) <| gzc (.bool true) (fun w' => Below V20.heap.size V20 w') (CK) (fun V21 hb21 => ?_)
    simp only [pu]
    refine gz2 (.bool true) (.bool true) <| wn ?_
    simp only [pu]
    have h1 := hb20.trans (hb21.mono hb20.size)
    have HE := Lib.hid (HS19.out.bel.trans (h1.mono HS19.out.bel.size))
    go_wp2_with fail
    go_ret
    exact ⟨rfl, HE.out⟩
end Go.Proofs.Ytmpajgaanghpoaa
