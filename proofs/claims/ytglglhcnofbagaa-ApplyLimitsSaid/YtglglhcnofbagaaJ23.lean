/-
  The program's carryOut: contract. The fixed example: its data. The fixed example: it is true.
-/
import Derived.Test.YtglglhcnofbagaaJ22
import Derived.Test.YtglglhcnofbagaaJ19
import Derived.Test.YtglglhcnofbagaaJ13
import Derived.Test.YtglglhcnofbagaaJ8
import Derived.Test.YtglglhcnofbagaaJ21
import Derived.Test.YtglglhcnofbagaaJ18
import Derived.Test.YtglglhcnofbagaaJ20
namespace Go.Proofs.Ytglglhcnofbagaa.Lg
attribute [local irreducible] wpList wpQuiet
set_option maxRecDepth 100000
open Mo (usedV prioV mulB mulV)
open Go.RowKit
set_option linter.unusedSimpArgs false
set_option linter.unusedVariables false

theorem giv_c {A : List Ac} {c : Int} {t : Txd} (h : (givX A c t).2.2 = 0) : (givX A c t).2.1 = c := by
 by_cases h1 : 256 < (doneL A t).length
 ·rw [givX_no h1] at h; exact absurd h (by decide)
 ·rw [givX_yes h1]
theorem LedO.to {w V : World} {R : List Ac × Int × Int} {Q : List Ac} {d e : Int} {ad : Option Addr} {kk : Nat} (h : R = (Q, d, e)) (hr : RowA V w.heap.size (.slice ad Q.length kk) Q) (hb : Below w.heap.size w V) : LedO w R (.returned (.tuple #[.agg (lgA ad Q.length kk d), .int .i64 e])) V := by
 subst h; exact ⟨ad, kk, rfl, hr, hb⟩
set_option maxRecDepth 100000 in
set_option maxHeartbeats 8000000 in
theorem q_carry (A : List Ac) (c price size : Int) (t : Txd) (la ta : Option Addr) (lk tk : Nat) (w : World) (hL : Cs w la (acc A)) (hlk : A.length ≤ lk) (hT : Cs w ta (tfc t.tr)) (hQ : FaQ A c price t) (hnm : ∀ x, x ∈ t.tr → isName (nums x.1) = true) :
  Calls Try.prog 15 #[.agg (lgA la A.length lk c), .int .u64 price, .agg (txA t ta tk), .int .i64 size] w (LedO w (carX A c price t size)) := by
 obtain ⟨hb0, hX4, hX6, hX8⟩ := three_boxes w (lgA la A.length lk c) (txA t ta tk) (lgA none 0 0 0) 27 32 27
 have HA := Lib.hid (hL.below hb0)
 have HTT := Lib.hid (hT.below hb0)
 have hTW := Lib.hid hT
 have CS0 := fun V h => q_sender A c t la ta lk tk V h (by have := (valE_ok hQ.v).1; omega)
 have CFE := fun V => q_fee t price size ta tk V hQ.gas hQ.p
 obtain ⟨S, hS⟩ : ∃ S, senX A t = S := ⟨_, rfl⟩
 obtain ⟨fe, hfe⟩ : ∃ fe, feeX t price size = fe := ⟨_, rfl⟩
 obtain ⟨X, hX⟩ : ∃ X, takX A c t = X := ⟨_, rfl⟩
 obtain ⟨G, hG⟩ : ∃ G, givX A c t = G := ⟨_, rfl⟩
 obtain ⟨R, hR⟩ : ∃ R, carX A c price t size = R := ⟨_, rfl⟩
 have HK := Lib.hid (fun (h : S.2 = 0) => (show TkQ A c price t ∧ S.1 = (getX A t.snd).1 from by subst hS; obtain ⟨h1, h2, h3, h4⟩ := sen_ok h; exact ⟨⟨hQ, h1, h2, h3⟩, h4⟩))
 have HR1 : Hid (S.2 ≠ 0 → R = ([], 0, S.2)) := Lib.hid fun h => by subst hS; rw [← hR]; exact sen_err h
 have HR2 : Hid (S.2 = 0 → fe ≠ 0 → R = ([], 0, fe)) := Lib.hid fun h h1 => by subst hS; subst hfe; rw [← hR]; exact fee_err h h1
 have HR3 : Hid (S.2 = 0 → fe = 0 → X.2.2 ≠ 0 → R = ([], 0, X.2.2)) := Lib.hid fun h h1 h2 => by subst hS; subst hfe; subst hX; rw [← hR]; exact tak_err h h1 h2
 have HR4 : Hid (S.2 = 0 → fe = 0 → X.2.2 = 0 → R = if G.2.2 = 0 then (G.1, c + t.fee, 0) else ([], 0, G.2.2)) := Lib.hid fun h h1 h2 => by subst hS; subst hfe; subst hX; subst hG; rw [← hR]; exact giv_car h h1 h2
 have HX0 : Hid (S.2 = 0 → X.2.2 = 0 → DnQ A c t ∧ X.1 = subA A t ∧ X.2.1 = c) := Lib.hid fun h h2 => by
  subst hX
  obtain ⟨c1, c2, c3⟩ := tak_ok h2
  exact ⟨(HK.out h).1.dn c1 c2, by rw [c3], by rw [c3]⟩
 have HG0 : Hid (G.2.2 = 0 → G.2.1 = c) := Lib.hid fun h => by subst hG; exact giv_c h
 have HV := Lib.hid hQ.v
 have HNM := Lib.hid hnm
 rw [hR]
 rw [hS] at CS0
 rw [hfe] at CFE
 clear hL hT hQ hnm hR hS hfe
 go_enter Try.func15, Try.ntmps15
 go_upto_region 1 with fail
 change Code.wp _ _ _ _ (((w.alloc (.cells (lgA la A.length lk c) 27)).alloc (.cells (txA t ta tk) 32)).alloc (.cells (lgA none 0 0 0) 27))
 generalize ((w.alloc (.cells (lgA la A.length lk c) 27)).alloc (.cells (txA t ta tk) 32)).alloc (.cells (lgA none 0 0 0) 27) = W at *
 obtain ⟨g4, hg4⟩ : ∃ g4, w.heap.size = g4 := ⟨_, rfl⟩
 obtain ⟨g6, hg6⟩ : ∃ g6, g4 + 1 = g6 := ⟨_, rfl⟩
 obtain ⟨g8, hg8⟩ : ∃ g8, g6 + 1 = g8 := ⟨_, rfl⟩
 have HB0 := Lib.hid hb0
 rw [show w.heap.size + 2 = g8 by omega] at hX8
 rw [show w.heap.size + 1 = g6 by omega] at hX6
 have HG : Hid (w.heap.size ≤ g8 ∧ w.heap.size ≤ g4 ∧ g6 ≠ g4 ∧ g8 ≠ g4 ∧ g8 < W.heap.size) := Lib.hid ⟨by omega, by omega, by omega, by omega, hX8.lt⟩
 rw [hg4] at hX4
 simp only [hg4]
 simp only [hg6]
 simp only [hg8]
 have HG4L := Lib.hid hX4.lt
 have HX4 := Lib.hid hX4
 have HX6 := Lib.hid hX6
 have HX8 := Lib.hid hX8
 have CS := CS0 W HA.out
 clear hb0 hX4 hX6 hX8 hg4 hg6 hg8 CS0
 refine wl <| gzl rfl ⟨g4, 0, none⟩ (.agg (lgA la A.length lk c)) (load_lg HX4.out) <| gzl rfl ⟨g6, 0, none⟩ (.agg (txA t ta tk)) (load_txb HX6.out) <| gzc (.tuple #[.agg (acA S.1), .int .i64 S.2]) (fun w' => Below W.heap.size W w') CS (fun W1 hW1 => ?_)
 obtain ⟨V2, hst2, hb2, hbx2⟩ := new_ac W1 S.1
 simp only [pu]
 refine gz3 (.tuple #[.agg (acA S.1), .int .i64 S.2]) (.agg (acA S.1)) (.int .i64 S.2) ?_
 simp only [pu]
 refine run_to rfl (some 10) rfl (.pointer (some ⟨W1.heap.size, 0, none⟩)) (W1.alloc (.cells (acA zAc) 24)) (by kernel_rfl) ?_
 simp only [pu]
 refine gzs rfl (hst2) <| gz1 (.int .i64 S.2) <| wn ?_
 simp only [pu]
 have hb3 := hW1.trans (hb2.mono hW1.size)
 obtain ⟨g10, hg10⟩ : ∃ g10, W1.heap.size = g10 := ⟨_, rfl⟩
 rw [hg10] at hbx2 ⊢
 have HG10 : Hid (g10 ≠ g4) := Lib.hid (by have := HG4L.out; have := hW1.size; omega)
 have HX10 := Lib.hid hbx2
 have HB2 := Lib.hid (HB0.out.trans (hb3.mono HB0.out.size))
 have HS2 : Hid (W.heap.size ≤ V2.heap.size) := Lib.hid hb3.size
 have HX42 := Lib.hid (HX4.out.below HX4.out.lt hb3)
 have HX62 := Lib.hid (HX6.out.below HX6.out.lt hb3)
 have HX82 := Lib.hid (HX8.out.below HX8.out.lt hb3)
 have HA2 := Lib.hid (HA.out.below hb3)
 have HT2 := Lib.hid (HTT.out.below hb3)
 clear CS hW1 hst2 hb2 hg10 hbx2 hb3 HX4 HX6 HX8 HA HTT
 by_cases hs0 : S.2 = 0
 ·skip
  go_upto_region 2 with fail
  refine wl <| gz1 (.int .i64 S.2) <| gzb (neq_e rfl S.2 0 (decide_eq_true hs0)) <| wn ?_
  simp only [pu]
  obtain ⟨hkq, hs1⟩ := HK.out hs0
  have CF := CFE V2
  go_upto_region 4 with fail
  refine wl <| gzl rfl ⟨g6, 0, none⟩ (.agg (txA t ta tk)) (load_txb HX62.out) <| gz2 (.int .u64 price) (.int .i64 size) <| gzc (.int .i64 fe) (fun w' => Below V2.heap.size V2 w') (CF) (fun V3 hV3 => ?_)
  simp only [pu]
  refine gz1 (.int .i64 fe) <| wn ?_
  simp only [pu]
  have HB3 := Lib.hid (HB2.out.trans (hV3.mono HB2.out.size))
  have HS3 : Hid (W.heap.size ≤ V3.heap.size) := Lib.hid (Nat.le_trans HS2.out hV3.size)
  have HX43 := Lib.hid (HX42.out.below HX42.out.lt hV3)
  have HX63 := Lib.hid (HX62.out.below HX62.out.lt hV3)
  have HX83 := Lib.hid (HX82.out.below HX82.out.lt hV3)
  have HX103 := Lib.hid (HX10.out.below HX10.out.lt hV3)
  have HA3 := Lib.hid (HA2.out.below hV3)
  have HT3 := Lib.hid (HT2.out.below hV3)
  clear CF CFE hV3 HX42 HX62 HX82 HX10 HA2 HT2
  by_cases hf0 : fe = 0
  ·skip
   go_upto_region 5 with fail
   refine wl <| gz1 (.int .i64 fe) <| gzb (neq_e rfl fe 0 (decide_eq_true hf0)) <| wn ?_
   simp only [pu]
   have CT := q_take A c price t la ta lk tk V3 HA3.out hlk HT3.out hkq
   rw [← hs1, hX] at CT
   clear hX
   go_upto_region 7 with fail
   refine wl <| gzl rfl ⟨g4, 0, none⟩ (.agg (lgA la A.length lk c)) (load_lg HX43.out) <| gzl rfl ⟨g10, 0, none⟩ (.agg (acA S.1)) (load_acb HX103.out) <| gzl rfl ⟨g6, 0, none⟩ (.agg (txA t ta tk)) (load_txb HX63.out) <|
    gze (fun v w' => ∃ ad kk, v = .tuple #[.agg (lgA ad X.1.length kk X.2.1), .int .i64 X.2.2] ∧ RowA w' V3.heap.size (.slice ad X.1.length kk) X.1 ∧ Below V3.heap.size V3 w') (CT.mono fun e w' q => by obtain ⟨ad, kk, h1, h2, h3⟩ := q; exact ⟨_, h1, ad, kk, rfl, h2, h3⟩) (fun vv V4 hq => ?_)
   obtain ⟨ad, kk, rfl, hr4, hb4⟩ := hq
   obtain ⟨hst5, hX45⟩ := store_lg (a' := ad) (n' := X.1.length) (k' := kk) (c' := X.2.1) (HX43.out.below HX43.out.lt hb4)
   have hbt5 : But g4 V4 (V4.setRow g4 (lgA ad X.1.length kk X.2.1)) := But.setRow _ _
   have hB5 := Lib.hid (belowRow (HB3.out.trans (hb4.mono HB3.out.size)) HG.out.2.1 (lgA ad X.1.length kk X.2.1))
   have hr5 := own_but hr4 hbt5 HX43.out.lt
   have hX65 := (HX63.out.below HX63.out.lt hb4).but hbt5 HG.out.2.2.1
   have hX85 := (HX83.out.below HX83.out.lt hb4).but hbt5 HG.out.2.2.2.1
   have HS5 : Hid (V3.heap.size ≤ (V4.setRow g4 (lgA ad X.1.length kk X.2.1)).heap.size) := Lib.hid (by rw [size_setRow]; exact hb4.size)
   generalize V4.setRow g4 (lgA ad X.1.length kk X.2.1) = V5 at *
   clear hr4 hb4 hbt5 CT
   simp only [pu]
   refine gz3 (.tuple #[.agg (lgA ad X.1.length kk X.2.1), .int .i64 X.2.2]) (.agg (lgA ad X.1.length kk X.2.1)) (.int .i64 X.2.2) <| gzs rfl (hst5) <| gz1 (.int .i64 X.2.2) <| wn ?_
   simp only [pu]
   clear hst5 HX43 HX63 HX83 HX103
   have HT5 : Hid (Cs V5 ta (tfc t.tr)) := Lib.hid (hTW.out.below hB5.out)
   by_cases hx0 : X.2.2 = 0
   ·skip
    go_upto_region 8 with fail
    refine wl <| gz1 (.int .i64 X.2.2) <| gzb (neq_e rfl X.2.2 0 (decide_eq_true hx0)) <| wn ?_
    simp only [pu]
    obtain ⟨hdn, hx1, hx2⟩ := HX0.out hs0 hx0
    have CG : Calls Try.prog 34 #[.agg (lgA ad X.1.length kk X.2.1), .slice ta t.tr.length tk] V5 (LedB V3.heap.size V5 G) := by
     rw [hx1] at hr5 ⊢
     rw [hx2, ← hG]
     exact q_give A c t ad ta kk tk V3.heap.size V5 hr5 HS5.out HT5.out hdn HV.out HNM.out
    have HCF := Lib.hid hdn.cf
    clear hG hr5 hdn
    go_upto_region 10 with fail
    refine wl <| gzl rfl ⟨g4, 0, none⟩ (.agg (lgA ad X.1.length kk X.2.1)) (load_lg hX45) <| gz1 (.pointer (some ⟨g6, 5, none⟩)) <| gzl rfl ⟨g6, 5, none⟩ (.slice ta t.tr.length tk) (hX65.load (i := 5) rfl (by kernel_rfl)) <|
     gze (fun v w' => ∃ ad kk, v = .tuple #[.agg (lgA ad G.1.length kk G.2.1), .int .i64 G.2.2] ∧ RowA w' V3.heap.size (.slice ad G.1.length kk) G.1 ∧ Below V5.heap.size V5 w') (CG.mono fun e w' q => by obtain ⟨ad, kk, h1, h2, h3⟩ := q; exact ⟨_, h1, ad, kk, rfl, h2, h3⟩) (fun vv V6 hq => ?_)
    obtain ⟨a6, k6, rfl, hr6, hb6⟩ := hq
    obtain ⟨hst7, hX47⟩ := store_lg (a' := a6) (n' := G.1.length) (k' := k6) (c' := G.2.1) (hX45.below hX45.lt hb6)
    have hbt7 : But g4 V6 (V6.setRow g4 (lgA a6 G.1.length k6 G.2.1)) := But.setRow _ _
    have HGV : Hid (g4 < V3.heap.size ∧ g8 < V3.heap.size) := Lib.hid (by have := HG.out; have := HS3.out; have := HG4L.out; omega)
    have hB7 := Lib.hid (belowRow (hB5.out.trans (hb6.mono hB5.out.size)) HG.out.2.1 (lgA a6 G.1.length k6 G.2.1))
    have hr7 := own_but hr6 hbt7 HGV.out.1
    have hX67 := (hX65.below hX65.lt hb6).but hbt7 HG.out.2.2.1
    have hX87 := (hX85.below hX85.lt hb6).but hbt7 HG.out.2.2.2.1
    generalize V6.setRow g4 (lgA a6 G.1.length k6 G.2.1) = V7 at *
    clear hr6 hb6 hbt7 CG hX45 hX65 hX85
    simp only [pu]
    refine gz3 (.tuple #[.agg (lgA a6 G.1.length k6 G.2.1), .int .i64 G.2.2]) (.agg (lgA a6 G.1.length k6 G.2.1)) (.int .i64 G.2.2) <| gzs rfl (hst7) <| gz1 (.int .i64 G.2.2) <| wn ?_
    simp only [pu]
    clear hst7
    by_cases hg0 : G.2.2 = 0
    ·skip
     have hgc := HG0.out hg0
     have hW : W64 (G.2.1 + t.fee) := by rw [hgc]; exact HCF.out
     obtain ⟨V8, hst8, hX48, hb8, hbt8⟩ := st_cell (i := 1) (ty := 22) (v := .int .u64 (G.2.1 + t.fee)) (cs' := lgA a6 G.1.length k6 (G.2.1 + t.fee)) hX47 hB7.out HG.out.2.1 (by show 1 < 2; decide) rfl (by kernel_rfl) rfl
     have hr8 := own_but hr7 hbt8 HGV.out.1
     obtain ⟨hst9, hX9⟩ := store_lg (a' := a6) (n' := G.1.length) (k' := k6) (c' := G.2.1 + t.fee) (hX87.but hbt8 HG.out.2.2.2.1)
     have hr9 := own_but hr8 (But.setRow (g := g8) V8 (lgA a6 G.1.length k6 (G.2.1 + t.fee))) HGV.out.2
     have hB9 := belowRow hb8 HG.out.1 (lgA a6 G.1.length k6 (G.2.1 + t.fee))
     have heq := HR4.out hs0 hf0 hx0
     rw [if_pos hg0, ← hgc] at heq
     have HE : Hid (LedO w R (.returned (.tuple #[.agg (lgA a6 G.1.length k6 (G.2.1 + t.fee)), .int .i64 0])) (V8.setRow g8 (lgA a6 G.1.length k6 (G.2.1 + t.fee)))) := Lib.hid (LedO.to heq (own_base hr9 HB3.out.size) hB9)
     generalize V8.setRow g8 (lgA a6 G.1.length k6 (G.2.1 + t.fee)) = V9 at *
     clear hbt8 hr7 hr8 hr9 hB9 heq hX87 hgc
     go_upto_region 11 with fail
     refine wl <| gz1 (.int .i64 G.2.2) <| gzb (neq_e rfl G.2.2 0 (decide_eq_true hg0)) <| wn ?_
     simp only [pu]
     go_upto_region 13 with fail
     refine wl <| gz1 (.pointer (some ⟨g4, 1, none⟩)) <| gzl rfl ⟨g4, 1, none⟩ (.int .u64 G.2.1) (hX47.load (i := 1) rfl (by kernel_rfl)) <| gz1 (.pointer (some ⟨g6, 3, none⟩)) <| gzl rfl ⟨g6, 3, none⟩ (.int .u64 t.fee) (hX67.load (i := 3) rfl (by kernel_rfl)) <|
      gzw (.int .u64 (G.2.1 + t.fee)) (add_ub rfl G.2.1 t.fee hW) <| gz1 (.pointer (some ⟨g4, 1, none⟩)) <| gzs rfl (hst8) <| wn ?_
     simp only [pu]
     go_upto_region 14 with fail
     refine wl <| gzl rfl ⟨g4, 0, none⟩ (.agg (lgA a6 G.1.length k6 (G.2.1 + t.fee))) (load_lg hX48) <| gzs rfl (hst9) <| gz1 (.int .i64 0) <| wn ?_
     simp only [pu]
     go_wp2_with fail
     exact bodyPost_ret (results_c (p := 8) (q := 9) rfl (by kernel_rfl) (load_lg hX9) rfl) rfl HE.out
    ·skip
     go_upto_region 11 with fail
     refine wl <| gz1 (.int .i64 G.2.2) <| gzb (neq_e rfl G.2.2 0 (decide_eq_false hg0)) <| wn ?_
     simp only [pu]
     have heq := by have h := HR4.out hs0 hf0 hx0; rw [if_neg hg0] at h; exact h
     obtain ⟨hst, hX9⟩ := store_lg (a' := none) (n' := 0) (k' := 0) (c' := 0) hX87
     have hB9 := belowRow hB7.out HG.out.1 (lgA none 0 0 0)
     have HE : Hid (LedO w R (.returned (.tuple #[.agg (lgA none 0 0 0), .int .i64 G.2.2])) (V7.setRow g8 (lgA none 0 0 0))) := Lib.hid (by rw [heq]; exact LedO.err hB9)
     generalize V7.setRow g8 (lgA none 0 0 0) = V9 at *
     clear hB9 heq
     go_upto_region 12 with fail
     refine wl <| gz2 (.agg (lgA none 0 0 0)) (.int .i64 G.2.2) <| gzs rfl (hst) <| gz1 (.int .i64 G.2.2) <| wn ?_
     simp only [pu]
     go_wp2_with fail
     exact bodyPost_ret (results_c (p := 8) (q := 9) rfl (by kernel_rfl) (load_lg hX9) rfl) rfl HE.out
   ·skip
    go_upto_region 8 with fail
    refine wl <| gz1 (.int .i64 X.2.2) <| gzb (neq_e rfl X.2.2 0 (decide_eq_false hx0)) <| wn ?_
    simp only [pu]
    have heq := HR3.out hs0 hf0 hx0
    obtain ⟨hst, hX9⟩ := store_lg (a' := none) (n' := 0) (k' := 0) (c' := 0) hX85
    have hB9 := belowRow hB5.out HG.out.1 (lgA none 0 0 0)
    have HE : Hid (LedO w R (.returned (.tuple #[.agg (lgA none 0 0 0), .int .i64 X.2.2])) (V5.setRow g8 (lgA none 0 0 0))) := Lib.hid (by rw [heq]; exact LedO.err hB9)
    generalize V5.setRow g8 (lgA none 0 0 0) = V9 at *
    clear hB9 heq
    go_upto_region 9 with fail
    refine wl <| gz2 (.agg (lgA none 0 0 0)) (.int .i64 X.2.2) <| gzs rfl (hst) <| gz1 (.int .i64 X.2.2) <| wn ?_
    simp only [pu]
    go_wp2_with fail
    exact bodyPost_ret (results_c (p := 8) (q := 9) rfl (by kernel_rfl) (load_lg hX9) rfl) rfl HE.out
  ·skip
   go_upto_region 5 with fail
   refine wl <| gz1 (.int .i64 fe) <| gzb (neq_e rfl fe 0 (decide_eq_false hf0)) <| wn ?_
   simp only [pu]
   have heq := HR2.out hs0 hf0
   obtain ⟨hst, hX9⟩ := store_lg (a' := none) (n' := 0) (k' := 0) (c' := 0) HX83.out
   have hB9 := belowRow HB3.out HG.out.1 (lgA none 0 0 0)
   have HE : Hid (LedO w R (.returned (.tuple #[.agg (lgA none 0 0 0), .int .i64 fe])) (V3.setRow g8 (lgA none 0 0 0))) := Lib.hid (by rw [heq]; exact LedO.err hB9)
   generalize V3.setRow g8 (lgA none 0 0 0) = V9 at *
   clear hB9 heq
   go_upto_region 6 with fail
   refine wl <| gz2 (.agg (lgA none 0 0 0)) (.int .i64 fe) <| gzs rfl (hst) <| gz1 (.int .i64 fe) <| wn ?_
   simp only [pu]
   go_wp2_with fail
   exact bodyPost_ret (results_c (p := 8) (q := 9) rfl (by kernel_rfl) (load_lg hX9) rfl) rfl HE.out
 ·skip
  go_upto_region 2 with fail
  refine wl <| gz1 (.int .i64 S.2) <| gzb (neq_e rfl S.2 0 (decide_eq_false hs0)) <| wn ?_
  simp only [pu]
  have heq := HR1.out hs0
  obtain ⟨hst, hX9⟩ := store_lg (a' := none) (n' := 0) (k' := 0) (c' := 0) HX82.out
  have hB9 := belowRow HB2.out HG.out.1 (lgA none 0 0 0)
  have HE : Hid (LedO w R (.returned (.tuple #[.agg (lgA none 0 0 0), .int .i64 S.2])) (V2.setRow g8 (lgA none 0 0 0))) := Lib.hid (by rw [heq]; exact LedO.err hB9)
  generalize V2.setRow g8 (lgA none 0 0 0) = V9 at *
  clear hB9 heq
  go_upto_region 3 with fail
  refine wl <| gz2 (.agg (lgA none 0 0 0)) (.int .i64 S.2) <| gzs rfl (hst) <| gz1 (.int .i64 S.2) <| wn ?_
  simp only [pu]
  go_wp2_with fail
  exact bodyPost_ret (results_c (p := 8) (q := 9) rfl (by kernel_rfl) (load_lg hX9) rfl) rfl HE.out
end Go.Proofs.Ytglglhcnofbagaa.Lg
namespace Go.Proofs.Ytglglhcnofbagaa.Lg
set_option maxRecDepth 100000
open Mo (usedV prioV mulB mulV)
open Go.RowKit
set_option linter.unusedSimpArgs false
set_option linter.unusedVariables false

def kU : Txd := ⟨annS, 0, 300, 600, mtS, [(bobS, 5)]⟩
def kA : List Ac := [(annS, 1000, 0)]
def kB : List Ac := [(annS, 395, 1), (bobS, 5, 0)]
theorem u_val : valX kU = 0 := by
 unfold valX kU
 simp only [k_ann, k_mt, valT, k_bob]
 decide
theorem u_w5 : W64 5 := k_w 5 (by decide)
theorem u_ok : OkX kU := (val_ok u_val (k_w 0 (by decide)) (k_w 300 (by decide)) (k_w 600 (by decide)) (fun x hx => by
 have e : x = (bobS, 5) := by simpa [kU] using hx
 rw [e]; exact u_w5)).1
theorem u_len : (form kU).length = 20 := by decide +kernel
theorem u_enc : encX kU = (form kU, 0) := by unfold encX; rw [if_neg (by rw [u_val]; decide), if_neg (by rw [u_len]; decide)]
theorem u_dec : decX (form kU) = (kU, 0) := dec_enc u_ok u_val (by rw [u_len]; decide) (by decide)
theorem u_v1 : valE kA 0 = 0 := by decide +kernel
theorem u_v2 : valE kB 600 = 0 := by decide +kernel
theorem u_f1 : faultX kA 2 kU 20 = 0 := by decide +kernel
theorem u_f2 : faultX kB 2 kU 20 = 14 := by decide +kernel
theorem u_do : doneL kA kU = kB := by decide +kernel
theorem u_pr : prioV kU.fee kU.gas = 2000 := by decide +kernel
theorem u_tx1 : txX kA 0 2 (form kU) = ((kB, 600), ⟨0, annS, 0, 300, 2000⟩) := by
 unfold txX
 rw [u_dec, u_len]
 simp only [u_pr]
 rw [if_neg (by rw [u_v1]; decide), if_neg (by decide), if_neg (by rw [show ((20 : Nat) : Int) = 20 from rfl, u_f1]; decide), u_do]
 rfl
theorem u_tx2 : txX kB 600 2 (form kU) = ((kB, 600), ⟨14, annS, 0, 300, 2000⟩) := by
 unfold txX
 rw [u_dec, u_len]
 simp only [u_pr]
 rw [if_neg (by rw [u_v2]; decide), if_neg (by decide), if_pos (by rw [show ((20 : Nat) : Int) = 20 from rfl, u_f2]; decide), show ((20 : Nat) : Int) = 20 from rfl, u_f2]
 rfl
end Go.Proofs.Ytglglhcnofbagaa.Lg
namespace Go.Proofs.Ytglglhcnofbagaa.Lg
attribute [local irreducible] wpList wpQuiet
set_option maxRecDepth 100000
open Mo (usedV prioV mulB mulV)
open Go.RowKit
set_option linter.unusedSimpArgs false
set_option linter.unusedVariables false

/-- What the program's Tx is held to. -/
def QTx : Prop := ∀ (A : List Ac) (c price : Int) (L : List Int) (la ra : Option Addr) (lk rc : Nat) (w : World), Cs w la (acc A) → A.length ≤ lk → A.length ≤ 4398046511104 → W64 c → AcW A → (∀ x, x ∈ A → x.1.size ≤ 140737488355328) → W64 price → Sl w ra rc L → L.length ≤ rc → (∀ y, y ∈ L → W8 y) →
  Calls Try.prog 6 #[.agg (lgA la A.length lk c), .int .u64 price, .slice ra L.length rc] w (TxO w la A (txX A c price L))
theorem new_lr (V : World) (a : Option Addr) (n k : Nat) (c : Int) (r : Res) : ∃ Va V2 V3, V.alloc (.cells (lgA none 0 0 0) 27) = Va ∧ V.heap.size < Va.heap.size ∧
  (Instr.storeAt 27 (.pointer (some ⟨V.heap.size, 0, none⟩)) (.agg (lgA a n k c))).run Try.prog (Va.alloc (.cells (resA (zRes 0)) 40)) = .ok () V2 ∧
  (Instr.storeAt 40 (.pointer (some ⟨Va.heap.size, 0, none⟩)) (.agg (resA r))).run Try.prog V2 = .ok () V3 ∧
  Below V.heap.size V V3 ∧ Bx V3 V.heap.size (lgA a n k c) 27 ∧ Bx V3 Va.heap.size (resA r) 40 := by
 have hX1 : Bx (V.alloc (.cells (lgA none 0 0 0) 27)) V.heap.size (lgA none 0 0 0) 27 := heap_alloc_last V _
 have hb1 : Below V.heap.size V (V.alloc (.cells (lgA none 0 0 0) 27)) := (Below.refl _ V).alloc (Nat.le_refl _) _
 obtain ⟨Va, hVa⟩ : ∃ Va, V.alloc (.cells (lgA none 0 0 0) 27) = Va := ⟨_, rfl⟩
 rw [hVa] at hX1 hb1
 have hX2 : Bx (Va.alloc (.cells (resA (zRes 0)) 40)) Va.heap.size (resA (zRes 0)) 40 := heap_alloc_last Va _
 have hb2 : Below Va.heap.size Va (Va.alloc (.cells (resA (zRes 0)) 40)) := (Below.refl _ Va).alloc (Nat.le_refl _) _
 have hlt := hX1.lt
 obtain ⟨hs1, hY1⟩ := store_lg (a' := a) (n' := n) (k' := k) (c' := c) (hX1.below hX1.lt hb2)
 have hn : Va.heap.size ≠ V.heap.size := by omega
 obtain ⟨hs2, hY2⟩ := store_res (q := r) (hX2.but (But.setRow _ (lgA a n k c)) hn)
 exact ⟨Va, _, _, hVa, hlt, hs1, hs2, (hb1.trans (hb2.mono hb1.size)).trans (((But.setRow _ _).1).trans ((But.setRow _ _).1.mono (Nat.le_of_lt hlt))), hY1.but (But.setRow _ _) hn.symm, hY2⟩
theorem build_ac2 (x y : Ac) (V : World) : (Instr.buildSlice 25 2 #[(0, .agg (acA x)), (1, .agg (acA y))]).run Try.prog V = .ok (.slice (some ⟨V.heap.size, 0, none⟩) 2 2) (V.alloc (.cells (acA x ++ acA y) 24)) := by
 obtain ⟨i0, hi, hz0, hz1, hz2⟩ := info_parts infoAc
 refine run_buildSlice V 25 24 2 _ (acA x ++ acA y) i0 _ Try.underlying25 hi hz0 (by rw [hz1]; omega) (by rw [hz1]; omega) ?_
 rw [hz1]
 kernel_rfl
def r1 : Res := ⟨0, annS, 0, 300, 2000⟩
def r2 : Res := ⟨14, annS, 0, 300, 2000⟩
theorem kA_w : AcW kA := acw_of fun x hx => by
 have e : x = (annS, 1000, 0) := by simpa [kA] using hx
 rw [e]; exact ⟨k_w 1000 (by decide), k_w 0 (by decide)⟩
theorem kB_w : AcW kB := acw_of fun x hx => by
 have e : x = (annS, 395, 1) ∨ x = (bobS, 5, 0) := by simpa [kB] using hx
 rcases e with e | e
 ·rw [e]; exact ⟨k_w 395 (by decide), k_w 1 (by decide)⟩
 ·rw [e]; exact ⟨k_w 5 (by decide), k_w 0 (by decide)⟩
theorem kA_z : ∀ x, x ∈ kA → x.1.size ≤ 140737488355328 := fun x hx => by
 have e : x = (annS, 1000, 0) := by simpa [kA] using hx
 rw [e]; exact Nat.le_trans (show annS.size ≤ 3 by decide) (by decide)
theorem kB_z : ∀ x, x ∈ kB → x.1.size ≤ 140737488355328 := fun x hx => by
 have e : x = (annS, 395, 1) ∨ x = (bobS, 5, 0) := by simpa [kB] using hx
 rcases e with e | e
 ·rw [e]; exact Nat.le_trans (show annS.size ≤ 3 by decide) (by decide)
 ·rw [e]; exact Nat.le_trans (show bobS.size ≤ 3 by decide) (by decide)
def RO (w : World) (r : Res) (v : Value) (w' : World) : Prop := ∃ ad k, v = .tuple #[.agg (lgA ad 2 k 600), .agg (resA r)] ∧ Cs w' ad (acc kB) ∧ 2 ≤ k ∧ Below w.heap.size w w'
theorem k_run1 (hT : QTx) (L : List Int) (hL : L = form kU) (la ra : Option Addr) (rc : Nat) (w : World) (h1 : Cs w la (acc kA)) (h2 : Sl w ra rc L) (h3 : L.length ≤ rc) : Calls Try.prog 6 #[.agg (lgA la 1 1 0), .int .u64 2, .slice ra L.length rc] w fun e w' => ∃ v, e = .returned v ∧ RO w r1 v w' :=
 (hT kA 0 2 L la ra 1 rc w h1 (by decide) (by decide) w64_0 kA_w kA_z (k_w 2 (by decide)) h2 h3 (by rw [hL]; exact msg_bytes u_ok.vf)).mono fun e w' ⟨ad, k, q1, q2, q3, _, q5⟩ => by
  rw [hL, u_tx1] at q1 q2 q3
  exact ⟨_, q1, ad, k, rfl, q2, q3, q5⟩
theorem k_run2 (hT : QTx) (L : List Int) (hL : L = form kU) (la ra : Option Addr) (lk rc : Nat) (w : World) (h1 : Cs w la (acc kB)) (hk : 2 ≤ lk) (h2 : Sl w ra rc L) (h3 : L.length ≤ rc) : Calls Try.prog 6 #[.agg (lgA la 2 lk 600), .int .u64 2, .slice ra L.length rc] w fun e w' => ∃ v, e = .returned v ∧ RO w r2 v w' :=
 (hT kB 600 2 L la ra lk rc w h1 hk (by decide) (k_w 600 (by decide)) kB_w kB_z (k_w 2 (by decide)) h2 h3 (by rw [hL]; exact msg_bytes u_ok.vf)).mono fun e w' ⟨ad, k, q1, q2, q3, _, q5⟩ => by
  rw [hL, u_tx2] at q1 q2 q3
  exact ⟨_, q1, ad, k, rfl, q2, q3, q5⟩
theorem k_encode (a : Option Addr) (w : World) (h : Cs w a (tfc kU.tr)) : Calls Try.prog 5 #[.agg (txA kU a 1)] w fun e w' => ∃ v, e = .returned v ∧ ∃ u, v = .tuple #[u, .int .i64 0] ∧ Own w' w.heap.size u (form kU) ∧ Below w.heap.size w w' :=
 (ref_encode kU a 1 w h u_ok.b).mono fun e w' ⟨u, q1, q2, q3⟩ => by
  rw [u_enc] at q1 q2
  exact ⟨_, q1, u, rfl, q2, q3⟩
set_option maxRecDepth 100000 in
set_option maxHeartbeats 8000000 in
theorem known_true (hT : QTx) (w : World) : Calls Try.prog 9 #[] w fun e w' => e = .returned (.bool true) ∧ Below w.heap.size w w' := by
 go_enter Try.func9, Try.ntmps9
 go_upto_region 1 with fail
 have hb1 : Below w.heap.size w (w.alloc (.cells (acA (annS, 1000, 0)) 24)) := (Below.refl _ w).alloc (Nat.le_refl _) _
 have hc1 : Cs (w.alloc (.cells (acA (annS, 1000, 0)) 24)) (some ⟨w.heap.size, 0, none⟩) (acc kA) := Cs.block (t := 24) (fr := (0, 0)) (heap_alloc_last w _)
 have hbt := build_ac (annS, 1000, 0) w
 obtain ⟨W1, hW1⟩ : ∃ W1, w.alloc (.cells (acA (annS, 1000, 0)) 24) = W1 := ⟨_, rfl⟩
 rw [hW1] at hb1 hc1 hbt
 obtain ⟨V2, hst, hb2, hbx⟩ := new_lg W1 (some ⟨w.heap.size, 0, none⟩) 1 1 0
 refine wl <| gz1 (.agg (acA (annS, 1000, 0))) ?_
 simp only [pu]
 refine gw_build (by kernel_rfl) (some 9) rfl 25 1 #[(0, .tmp 8)] rfl #[(0, .agg (acA (annS, 1000, 0)))] (by kernel_rfl) (.slice (some ⟨w.heap.size, 0, none⟩) 1 1) _ hbt ?_
 simp only [pu]
 refine gz1 (.agg (lgA (some ⟨w.heap.size, 0, none⟩) 1 1 0)) ?_
 simp only [pu]
 refine run_to rfl (some 1) rfl (.pointer (some ⟨W1.heap.size, 0, none⟩)) (W1.alloc (.cells (lgA none 0 0 0) 27)) (by kernel_rfl) ?_
 simp only [pu]
 refine gzs rfl (hst) <| wn ?_
 obtain ⟨g0, hg0⟩ : ∃ g0, w.heap.size = g0 := ⟨_, rfl⟩
 obtain ⟨g1, hg1⟩ : ∃ g1, W1.heap.size = g1 := ⟨_, rfl⟩
 have HB2 := Lib.hid (hb1.trans (hb2.mono hb1.size))
 have HC2 := Lib.hid (hc1.below hb2)
 have HX1 := Lib.hid hbx
 rw [hg1] at HX1 ⊢
 rw [hg0] at HC2 HX1 ⊢
 clear hst hb2 hbx hb1 hc1 hbt hW1 hg0 hg1
 have hb3 : Below V2.heap.size V2 (V2.alloc (.cells (tfA (bobS, 5)) 35)) := (Below.refl _ V2).alloc (Nat.le_refl _) _
 have hc3 : Cs (V2.alloc (.cells (tfA (bobS, 5)) 35)) (some ⟨V2.heap.size, 0, none⟩) (tfc kU.tr) := Cs.block (t := 35) (fr := (0, 0)) (heap_alloc_last V2 _)
 have hbt := build_tf (bobS, 5) V2
 obtain ⟨V3, hV3⟩ : ∃ V3, V2.alloc (.cells (tfA (bobS, 5)) 35) = V3 := ⟨_, rfl⟩
 rw [hV3] at hb3 hc3 hbt
 have CE := k_encode _ V3 hc3
 go_upto_region 2 with fail
 refine wl <| gz1 (.agg (tfA (bobS, 5))) ?_
 simp only [pu]
 refine gw_build (by kernel_rfl) (some 13) rfl 30 1 #[(0, .tmp 12)] rfl #[(0, .agg (tfA (bobS, 5)))] (by kernel_rfl) (.slice (some ⟨V2.heap.size, 0, none⟩) 1 1) _ hbt ?_
 simp only [pu]
 refine gz1 (.agg (txA kU (some ⟨V2.heap.size, 0, none⟩) 1)) <| gze (fun v w' => ∃ u, v = .tuple #[u, .int .i64 0] ∧ Own w' V3.heap.size u (form kU) ∧ Below V3.heap.size V3 w') CE (fun v4 V4 hq => ?_)
 obtain ⟨u3, rfl, hO3, hb4⟩ := hq
 obtain ⟨b3, d3, rfl, hs3, hd3⟩ := hO3.sl
 obtain ⟨L, hLL⟩ : ∃ L, L = form kU := ⟨_, rfl⟩
 rw [← hLL] at hs3 hd3 ⊢
 simp only [pu]
 refine gz5 (.tuple #[.slice b3 L.length d3, .int .i64 0]) (.slice b3 L.length d3) (.int .i64 0) (.slice b3 L.length d3) (.int .i64 0) <| wn ?_
 simp only [pu]
 have hb34 := hb3.trans (hb4.mono hb3.size)
 have HB4 := Lib.hid (HB2.out.trans (hb34.mono HB2.out.size))
 have CT := k_run1 hT L hLL _ b3 d3 V4 (HC2.out.below hb34) hs3 hd3
 have HX14 := Lib.hid (HX1.out.below HX1.out.lt hb34)
 have HS4 := Lib.hid hs3
 have HD3 := Lib.hid hd3
 have HLL := Lib.hid hLL
 clear HB2 HC2 HX1 hb34 hb3 hb4 hc3 hbt hV3 CE hO3 hs3 hd3 hLL
 go_upto_region 3 with fail
 refine wl <| gzl rfl ⟨g1, 0, none⟩ (.agg (lgA (some ⟨g0, 0, none⟩) 1 1 0)) (load_lg HX14.out) <| gz1 (.slice b3 L.length d3) <| gze (RO V4 r1) CT (fun v9 V5 hq => ?_)
 obtain ⟨ad1, k1, rfl, hcc, hkk, hbb⟩ := hq
 obtain ⟨Va, V6, V7, hVa, hlt, hs6, hs7, hb7, hx4, hx5⟩ := new_lr V5 ad1 2 k1 600 r1
 simp only [pu]
 refine gz3 (.tuple #[.agg (lgA ad1 2 k1 600), .agg (resA r1)]) (.agg (lgA ad1 2 k1 600)) (.agg (resA r1)) ?_
 simp only [pu]
 refine run_to rfl (some 4) rfl (.pointer (some ⟨V5.heap.size, 0, none⟩)) (V5.alloc (.cells (lgA none 0 0 0) 27)) (by kernel_rfl) ?_
 simp only [pu]
 rw [hVa]
 refine run_to rfl (some 5) rfl (.pointer (some ⟨Va.heap.size, 0, none⟩)) (Va.alloc (.cells (resA (zRes 0)) 40)) (by kernel_rfl) ?_
 simp only [pu]
 refine gzs rfl (hs6) <| gzs rfl (hs7) <| wn ?_
 have hb9 := hbb.trans (hb7.mono hbb.size)
 obtain ⟨g4, hg4⟩ : ∃ g4, V5.heap.size = g4 := ⟨_, rfl⟩
 obtain ⟨g5, hg5⟩ : ∃ g5, Va.heap.size = g5 := ⟨_, rfl⟩
 have HB7 := Lib.hid (HB4.out.trans (hb9.mono HB4.out.size))
 have HS7 := Lib.hid (sl_below HS4.out hb9)
 have HC7 := Lib.hid (hcc.below hb7)
 have HK1 := Lib.hid hkk
 have HX4 := Lib.hid hx4
 have HX5 := Lib.hid hx5
 rw [hg4] at HX4 ⊢
 rw [hg5] at HX5 ⊢
 clear hb9 hbb hb7 hcc hkk hx4 hx5 hs6 hs7 hlt hVa hg4 hg5 HX14 HB4 HS4 CT
 have CT := k_run2 hT L HLL.out ad1 b3 k1 d3 V7 HC7.out HK1.out HS7.out HD3.out
 go_upto_region 4 with fail
 refine wl <| gzl rfl ⟨g4, 0, none⟩ (.agg (lgA ad1 2 k1 600)) (load_lg HX4.out) <| gz1 (.slice b3 L.length d3) <| gze (RO V7 r2) CT (fun v9 V8 hq => ?_)
 obtain ⟨ad2, k2, rfl, hcc, hkk, hbb⟩ := hq
 obtain ⟨Vb, V9, Vc, hVa, hlt, hs6, hs7, hb7, hx4, hx5⟩ := new_lr V8 ad2 2 k2 600 r2
 simp only [pu]
 refine gz3 (.tuple #[.agg (lgA ad2 2 k2 600), .agg (resA r2)]) (.agg (lgA ad2 2 k2 600)) (.agg (resA r2)) ?_
 simp only [pu]
 refine run_to rfl (some 6) rfl (.pointer (some ⟨V8.heap.size, 0, none⟩)) (V8.alloc (.cells (lgA none 0 0 0) 27)) (by kernel_rfl) ?_
 simp only [pu]
 rw [hVa]
 refine run_to rfl (some 7) rfl (.pointer (some ⟨Vb.heap.size, 0, none⟩)) (Vb.alloc (.cells (resA (zRes 0)) 40)) (by kernel_rfl) ?_
 simp only [pu]
 refine gzs rfl (hs6) <| gzs rfl (hs7) <| wn ?_
 have hb9 := hbb.trans (hb7.mono hbb.size)
 obtain ⟨g6, hg6⟩ : ∃ g6, V8.heap.size = g6 := ⟨_, rfl⟩
 obtain ⟨g7, hg7⟩ : ∃ g7, Vb.heap.size = g7 := ⟨_, rfl⟩
 have HBc := Lib.hid (HB7.out.trans (hb9.mono HB7.out.size))
 have HCc := HC7.out.below hb9
 have HX4c := Lib.hid (HX4.out.below HX4.out.lt hb9)
 have HX5c := Lib.hid (HX5.out.below HX5.out.lt hb9)
 have HX7 := Lib.hid hx5
 rw [hg6]
 rw [hg7] at HX7 ⊢
 clear hb9 hbb hb7 hcc hkk hx4 hx5 hs6 hs7 hlt hVa hg6 hg7 HB7 HS7 CT HC7 HX4 HX5
 have hbd : Below Vc.heap.size Vc (Vc.alloc (.cells (acA (annS, 395, 1) ++ acA (bobS, 5, 0)) 24)) := (Below.refl _ Vc).alloc (Nat.le_refl _) _
 have hcd : Cs (Vc.alloc (.cells (acA (annS, 395, 1) ++ acA (bobS, 5, 0)) 24)) (some ⟨Vc.heap.size, 0, none⟩) (acc kB) := Cs.block (t := 24) (fr := (0, 0)) (heap_alloc_last Vc _)
 have hbt := build_ac2 (annS, 395, 1) (bobS, 5, 0) Vc
 obtain ⟨Vd, hVd⟩ : ∃ Vd, Vc.alloc (.cells (acA (annS, 395, 1) ++ acA (bobS, 5, 0)) 24) = Vd := ⟨_, rfl⟩
 rw [hVd] at hbd hcd hbt
 have CS := ref_sameled kB 600 ad1 (some ⟨Vc.heap.size, 0, none⟩) k1 2 Vd (HCc.below hbd) hcd (by decide)
 go_upto_region 5 with fail
 refine wl <| gz1 (.int .i64 0) <| gzb (eql_e rfl (0) (0) (decide_eq_true (rfl))) <| gz2 (.bool true) (.pointer (some ⟨g5, 0, none⟩)) <| gzl rfl ⟨g5, 0, none⟩ (.int .i64 0) (HX5c.out.load (i := 0) rfl (by kernel_rfl)) <|
  gzb (eql_e rfl (0) (0) (decide_eq_true (rfl))) <| gz3 (.bool true) (.bool true) (.pointer (some ⟨g5, 4, none⟩)) <| gzl rfl ⟨g5, 4, none⟩ (.int .u64 2000) (HX5c.out.load (i := 4) rfl (by kernel_rfl)) <|
  gzb (eql_u6 rfl (2000) (2000) (decide_eq_true (rfl))) <| gz3 (.bool true) (.bool true) (.pointer (some ⟨g7, 0, none⟩)) <| gzl rfl ⟨g7, 0, none⟩ (.int .i64 14) (HX7.out.load (i := 0) rfl (by kernel_rfl)) <|
  gzb (eql_e rfl (14) (14) (decide_eq_true (rfl))) <| gz3 (.bool true) (.bool true) (.pointer (some ⟨g7, 1, none⟩)) <| gzl rfl ⟨g7, 1, none⟩ (.string annS) (HX7.out.load (i := 1) rfl (by kernel_rfl)) <| gz3 (.bool true) (.bool true) (.bool true) <|
  gzl rfl ⟨g4, 0, none⟩ (.agg (lgA ad1 2 k1 600)) (load_lg HX4c.out) <| gz2 (.agg (acA (annS, 395, 1))) (.agg (acA (bobS, 5, 0))) ?_
 simp only [pu]
 refine gw_build (by kernel_rfl) (some 56) rfl 25 2 #[(0, .tmp 54), (1, .tmp 55)] rfl #[(0, .agg (acA (annS, 395, 1))), (1, .agg (acA (bobS, 5, 0)))] (by kernel_rfl) (.slice (some ⟨Vc.heap.size, 0, none⟩) 2 2) _ hbt ?_
 simp only [pu]
 refine gz1 (.agg (lgA (some ⟨Vc.heap.size, 0, none⟩) 2 2 600)) <| gzc (.bool true) (fun w' => Below Vd.heap.size Vd w') CS (fun Ve hVe => ?_)
 simp only [pu]
 refine gz2 (.bool true) (.bool true) <| wn ?_
 simp only [pu]
 have hbe := hbd.trans (hVe.mono hbd.size)
 have HE := Lib.hid (HBc.out.trans (hbe.mono HBc.out.size))
 clear hbe hVe hbd hcd hbt hVd HCc CS
 go_wp2_with fail
 go_ret
 exact ⟨rfl, HE.out⟩
end Go.Proofs.Ytglglhcnofbagaa.Lg
